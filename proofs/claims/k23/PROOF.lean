import PyProof.Rows.All
import Wide.All
import OpenK.AllK
import Wide.FinOn
import Lean
import PyProof.EqAt
import PyProof.EqKinds
import PyProof.TupleCall
import PySem.Challenge.RW_bandwright_k23_whole_rings_are_filled
set_option Elab.async false
set_option linter.all false
set_option maxRecDepth 100000
abbrev bt:=@decide_eq_false
abbrev Ay:=@List.getElem?_eq_none_iff
abbrev ae:=@if_pos
abbrev aa:=@if_neg
abbrev aU:=@PySem.Heap.lt_size
abbrev dD:=@Nat.lt_of_lt_of_le
abbrev eG:=@Nat.lt_irrefl
abbrev bX:=@Nat.ne_of_lt
abbrev wN:=@PySem.W.hideAll_get
abbrev d6:=@List.mem_filter
abbrev bY:=@List.mem_range
abbrev cj:=@Nat.le_trans
abbrev kZ:=@Nat.le_of_lt
abbrev wO:=@List.filterMap_cons
abbrev cE:=@List.mem_cons_self
abbrev bP:=@List.mem_cons_of_mem
abbrev bb:=@List.mem_cons
abbrev dI:=@List.mem_append
abbrev l_:=@List.mem_append_left
abbrev cp:=@List.getElem?_eq_some_iff
abbrev nN:=@List.getElem_inj
abbrev bZ:=@PySem.wpAny_mono
abbrev ma:=@PySem.wpAny_truthy_bool
abbrev fF:=@Array.length_toList
abbrev cR:=@congrArg
abbrev wQ:=@PySem.wpAny_execs_nil
abbrev a8:=@PySem.wpAny_bind
abbrev qq:=@PySem.wpAny_holding
abbrev ug:=@PySem.wpAny_standAt
abbrev nO:=@PySem.wpAny_passesOwn
abbrev da:=@Bool.false_ne_true
abbrev cS:=@PySem.wpAny_pure
abbrev uh:=@Bool.false_and
abbrev ck:=@PySem.Heap.get?_push_of_some
abbrev eI:=@PySem.Heap.get?_push_size
abbrev ax:=@Nat.le_refl
abbrev qr:=@PyProof.Rows.callWith_type1
abbrev wR:=@List.mem_filterMap
abbrev d_:=@List.mem_append_right
abbrev b7:=@Nat.zero_le
abbrev qt:=@Bool.eq_iff_iff
abbrev md:=@PySem.sizeLine_eq
abbrev wU:=@List.any_eq_false
abbrev hU:=@PySem.W.kia_one
abbrev k4:=@List.append_nil
abbrev wV:=@PySem.wpAny_Call_Name_kw
abbrev fk:=@List.nodup_cons
abbrev qu:=@List.length_take
abbrev k6:=@PySem.mem_of_lookup
abbrev gK:=@List.getElem?_append_right
abbrev gM:=@List.getElem?_append_left
abbrev bD:=@List.getElem?_map
abbrev uj:=@List.mem_of_getElem?
abbrev dP:=@List.length_append
abbrev aG:=@List.length_map
abbrev dh:=@Int.toNat_natCast
abbrev cT:=@List.map_cons
abbrev wW:=@List.length_drop
abbrev b8:=@List.size_toArray
abbrev Az:=@PySem.Heap.get?_update_other
abbrev f9:=@Bool.and_eq_true
abbrev um:=@List.any_cons
abbrev me:=@List.replicate_succ
abbrev qv:=@List.flatten_cons
abbrev qw:=@Nat.le_succ
abbrev fm:=@List.append_assoc
abbrev uo:=@List.length_singleton
abbrev wX:=@Array.getElem?_toList
abbrev a7:=@decide_eq_true
abbrev mf:=@Nat.not_lt_zero
abbrev AA:=@Option.map_eq_some_iff
abbrev cH:=@PySem.W.mg_of
abbrev j6:=@Nat.lt_of_le_of_lt
abbrev AB:=@PySem.F.typeOf_object_class
abbrev ur:=@PySem.wpAny_loadPart_at
abbrev uu:=@Bool.eq_false_iff
abbrev nQ:=@List.all_eq_true
abbrev AD:=@PySem.wpAny_comprehension_free
abbrev wY:=@PySem.wpAny_newFunctionEnv
abbrev dE:=@List.length_cons
abbrev mh:=@PySem.lookup_relabel_local
abbrev AE:=@PySem.codeAny_compStart_list
abbrev cO:=@Int.le_of_lt
abbrev b9:=@List.getD_eq_getElem?_getD
abbrev dt:=@List.mem_singleton
abbrev eW:=@List.length_range
abbrev mj:=@List.getElem?_range
abbrev bJ:=@List.getElem_mem
abbrev uv:=@Nat.sub_self
abbrev iS:=@List.not_mem_nil
abbrev iT:=@or_false
abbrev uy:=@Nat.le_add_right
abbrev wZ:=@List.sum_append
abbrev hW:=@List.take_length
abbrev uz:=@Nat.lt_succ_of_lt
abbrev uA:=@List.ext_getElem?
abbrev w5:=@List.getElem?_eq_none
abbrev qx:=@List.range_succ
abbrev fG:=@List.map_append
abbrev h_:=@List.map_congr_left
abbrev fH:=@List.ext_getElem
abbrev aq:=@PyProof.Rows.wpS_bind
abbrev ic:=@PyProof.Rows.wpS_get
abbrev ao:=@PyProof.Rows.wpS_pure
abbrev eX:=@PyProof.Rows.wpS_forRange
abbrev fq:=@PyProof.Rows.wpS_mono
abbrev qy:=@List.perm_append_comm
abbrev mq:=@List.take_append_drop
abbrev AF:=@List.Perm.append_left
abbrev AG:=@List.drop_eq_getElem_cons
abbrev w6:=@List.take_of_length_le
abbrev nS:=@List.getElem_of_mem
abbrev k8:=@Int.le_refl
abbrev uB:=@List.pairwise_iff_getElem
abbrev jr:=@PyProof.Rows.wpS_modify
abbrev eY:=@of_decide_eq_true
abbrev cY:=@Int.le_trans
abbrev mr:=@Array.toList_push
abbrev j7:=@Array.toList_append
abbrev nU:=@PySem.wpAny_rule
abbrev w_:=@List.Pairwise.imp
abbrev xb:=@Array.toList_reverse
abbrev j8:=@List.mem_reverse
abbrev k_:=@List.reverse_perm
abbrev dQ:=@Nat.zero_add
abbrev uC:=@Nat.add_zero
abbrev nV:=@Array.perm_iff_toList_perm
abbrev bU:=@List.getElem?_eq_getElem
abbrev qz:=@decide_eq_decide
abbrev dF:=@List.map_map
abbrev qA:=@PySem.Heap.get?_push_ne
abbrev xc:=@PySem.Heap.get?_update_ne
abbrev nW:=@List.nodup_range
abbrev eJ:=@List.getElem_map
abbrev lh:=@List.getElem_range
abbrev qB:=@List.nodup_nil
abbrev b_:=@List.mem_map
abbrev ft:=@Int.eq_ofNat_of_zero_le
abbrev mw:=@List.take_succ
abbrev nX:=@List.pairwise_cons
abbrev jt:=@List.nodup_append
abbrev xf:=@Nat.add_sub_cancel
abbrev qC:=@List.filter_append
abbrev xg:=@List.length_filter_le
abbrev uD:=@List.pairwise_map
abbrev AH:=@List.pairwise_lt_range
abbrev nY:=@List.find?_cons
abbrev uE:=@Option.isSome_map
abbrev xh:=@PySem.tupleKind_room_in1
abbrev xi:=@List.any_eq_true
abbrev ie:=@decide_eq_true_iff
abbrev xj:=@List.length_erase_of_mem
abbrev mx:=@List.idxOf_lt_length_of_mem
abbrev qD:=@Option.some.injEq
abbrev nZ:=@List.map_id
abbrev xl:=@List.Pairwise.imp_of_mem
abbrev eK:=@List.sum_cons
abbrev uF:=@PySem.Around.in1_units
abbrev uG:=@Nat.mod_eq_of_lt
abbrev uH:=@Nat.mod_self
abbrev uI:=@List.idxOf_cons_self
abbrev qE:=@List.filter_cons
abbrev lp:=@List.idxOf_append
abbrev xm:=@List.perm_ext_iff_of_nodup
abbrev f_:=@Classical.byContradiction
abbrev qF:=@PySem.wpAny_ite_split
abbrev AI:=@List.getElem_cons_zero
abbrev qG:=@List.getElem_cons_succ
abbrev xq:=@Int.min_eq_left
abbrev xr:=@Int.max_eq_right
abbrev xt:=@Int.min_eq_right
abbrev xu:=@Int.max_eq_left
abbrev qH:=@Nat.add_le_add_left
abbrev d7:=@PySem.PassesOwn.never
abbrev uJ:=@PyProof.Rows.boot_sorted
abbrev ig:=@PySem.boot_len
abbrev ju:=@PySem.F.plainAttrs_list
abbrev n4:=@PySem.F.slot_list_append
abbrev n5:=@PySem.F.type_list_append
abbrev lq:=@Int.emod_nonneg
abbrev n6:=@Int.emod_lt_of_pos
abbrev xw:=@Int.ediv_nonneg
abbrev uK:=@Nat.mul_le_mul
abbrev eZ:=@PySem.W.mg_none_of
abbrev Xe:=List (List (Int×Int))
abbrev av:=List (Int×Int)
abbrev Xf:=Nat→Nat→Int
abbrev cy:=PySem.Str→Option PySem.Value
abbrev aM:=PySem.Value→PySem.Shared→Prop
abbrev aB:=PySem.W.Frag
abbrev aI:=List (PySem.Addr×PySem.Obj)
namespace L2
open PySem PySem.Spec PyProof.Rows
abbrev Key:=Sum Int Str
def n8:Key→Value→Bool
 | .inl k,v=>Value.isInt k v
 | .inr x,v=>Value.isStrOf x v
def Kk(w:World):Key→Int
 | .inl k=>hashInt k
 | .inr x=>hashStr w x
theorem j9:∀{k:Key} {v:Value},n8 k v=true→(∃i t,k=Sum.inl i∧v=Value.int i t)∨(∃x t,k=Sum.inr x∧v=Value.str x t)
 | .inl i,v,h=>by obtain ⟨t,e⟩:=Value.isInt_shape (k:=i) (v:=v) h;exact .inl ⟨i,t,rfl,e⟩
 | .inr x,v,h=>by obtain ⟨t,e⟩:=Value.isStrOf_shape (x:=x) (v:=v) h;exact .inr ⟨x,t,rfl,e⟩
theorem Kl(i:Int)(t:Tok):n8 (.inl i) (.int i t)=true:=by simp [n8,Value.isInt]
theorem Km(x:Str)(t:Tok):n8 (.inr x) (.str x t)=true:=by simp [n8,Value.isStrOf]
theorem Kn(a b:Int):decide ((Sum.inl a:Key)=Sum.inl b)=(a == b):=by
 by_cases e:a=b;·subst e;simp
 ·have h:¬(Sum.inl a:Key)=Sum.inl b:=fun q=>e (Sum.inl.inj q)
  rw [bt h];exact (beq_eq_false_iff_ne.mpr e).symm
theorem Ko(a b:Str):decide ((Sum.inr a:Key)=Sum.inr b)=decide (a=b):=by
 by_cases e:a=b;·subst e;simp
 ·have h:¬(Sum.inr a:Key)=Sum.inr b:=fun q=>e (Sum.inr.inj q)
  rw [bt h,bt e]
theorem Kp(a:Int)(b:Str):decide ((Sum.inl a:Key)=Sum.inr b)=false:=bt (fun q=>nomatch q)
theorem Kq(a:Str)(b:Int):decide ((Sum.inr a:Key)=Sum.inl b)=false:=bt (fun q=>nomatch q)
def fI(prog:Program)(w:World):PySem.KeyKind prog w Key where
 is:=n8
 hash:=Kk w
 inj:=fun v a b ha hb=>by
  rcases j9 ha with ⟨i,t,rfl,rfl⟩ | ⟨x,t,rfl,rfl⟩
  ·rcases j9 hb with ⟨j,u,rfl,e⟩ | ⟨y,u,rfl,e⟩
   ·injection e with e1 _;rw [e1]
   ·exact nomatch e
  ·rcases j9 hb with ⟨j,u,rfl,e⟩ | ⟨y,u,rfl,e⟩
   ·exact nomatch e
   ·injection e with e1 _;rw [e1]
 byValue:=fun k v h=>by
  rcases j9 h with ⟨i,t,rfl,rfl⟩ | ⟨x,t,rfl,rfl⟩ <;> rfl
 pyHash:=fun hv h=>by
  rcases j9 hv with ⟨i,t,rfl,rfl⟩ | ⟨x,t,rfl,rfl⟩
  ·exact wpAny_pyHash_int h
  ·exact wpAny_pyHash_str h
 eqBool:=fun hu hv h=>by
  rcases j9 hu with ⟨i,t,rfl,rfl⟩ | ⟨x,t,rfl,rfl⟩
  ·rcases j9 hv with ⟨j,u,rfl,rfl⟩ | ⟨y,u,rfl,rfl⟩
   ·rw [Kn] at h;exact wpAny_eqBool_int h
   ·rw [Kp] at h;exact SeqAt.EqAt.int_str i t y u _ _ _ _ h
  ·rcases j9 hv with ⟨j,u,rfl,rfl⟩ | ⟨y,u,rfl,rfl⟩
   ·rw [Kq] at h;exact SeqAt.EqAt.str_int x t j u _ _ _ _ h
   ·rw [Ko] at h;exact wpAny_eqBool_str h
 «strs»:=fun k x t v h=>by
  rcases j9 h with ⟨i,u,rfl,e⟩ | ⟨y,u,rfl,e⟩
  ·exact nomatch e
  ·injection e with e1 _
   subst e1
   cases v <;> rfl
theorem Kr(prog:Program)(w:World)(i:Int)(t:Tok):(fI prog w).is (.inl i) (.int i t)=true:=Kl i t
theorem Ks(prog:Program)(w:World)(x:Str)(t:Tok):(fI prog w).is (.inr x) (.str x t)=true:=Km x t
inductive V where
 | aJ | bl (b:Bool) | int (i:Int) | str (x:Str) | jv (b:Array UInt8) | qI (b:UInt64) | ref (a:Addr) | ty (n:String)
 deriving DecidableEq
def RelV:V→Value→Prop
 | .aJ,u=>u=Value.none
 | .bl b,u=>u=Value.bool b
 | .int i,u=>∃t,u=Value.int i t
 | .str x,u=>∃t,u=Value.str x t
 | .jv b,u=>∃t,u=Value.bytes b t
 | .qI b,u=>∃t,u=Value.float b t
 | .ref a,u=>u=Value.ref a
 | .ty n,u=>u=Value.type n
abbrev Vals:List V→List Value→Prop:=Paired RelV
variable {xs:List V} {us:List Value}
theorem Vals.length(r:Vals xs us):xs.length=us.length:=Paired.length r
theorem Vals.get:∀{xs:List V} {us:List Value} {i:Nat} {x:V},Vals xs us→xs[i]?=some x→∃u,us[i]?=some u∧RelV x u
 | _,_,_,_,.nil,e=>by simp at e
 | _,_,0,_,.cons r _,e=>by simp at e;subst e;exact ⟨_,rfl,r⟩
 | _,_,i+1,x,.cons _ t,e=>by
  obtain ⟨u,h1,h2⟩:=Vals.get (i:=i) (x:=x) t (by simpa using e)
  exact ⟨u,by simpa using h1,h2⟩
theorem Vals.set{x:V}{u:Value}(r:RelV x u):∀{xs:List V} {us:List Value} (i:Nat),Vals xs us→Vals (xs.set i x) (us.set i u)
 | _,_,_,.nil=>.nil
 | _,_,0,.cons _ t=>.cons r t
 | _,_,i+1,.cons q t=>.cons q (Vals.set r i t)
theorem Vals.append:∀{xs ys:List V} {us ws:List Value},Vals xs us→Vals ys ws→Vals (xs++ys) (us++ws)
 | _,_,_,_,.nil,s=>s
 | _,_,_,_,.cons r t,s=>.cons r (Vals.append t s)
theorem Vals.take:∀{xs:List V} {us:List Value} (n:Nat),Vals xs us→Vals (xs.take n) (us.take n)
 | _,_,0,_=>.nil
 | _,_,_+1,.nil=>.nil
 | _,_,n+1,.cons r t=>.cons r (Vals.take n t)
theorem Vals.drop:∀{xs:List V} {us:List Value} (n:Nat),Vals xs us→Vals (xs.drop n) (us.drop n)
 | _,_,0,r=>r
 | _,_,_+1,.nil=>.nil
 | _,_,n+1,.cons _ t=>Vals.drop n t
theorem Vals.none_of:∀{xs:List V} {us:List Value} {i:Nat},Vals xs us→xs[i]?=none→us[i]?=none:=fun{xs us i} r e=>by have h1:=r.length;have h2:xs.length≤i:=Ay.mp e;exact Ay.mpr (by omega)
def jw:Option V→Option Value→Prop
 | some v,some u=>RelV v u
 | none,none=>True
 | _,_=>False
def KV{κ:Type}:List (κ×V)→List (κ×Value)→Prop:=Paired fun(p:κ×V) (q:κ×Value)=>p.1=q.1∧RelV p.2 q.2
def kV:Key→V
 | .inl i=>.int i
 | .inr x=>.str x
inductive HO where
 | lst (xs:List V)
 | tup (xs:List V)
 | dK (kvs:List (Key×V)) | dT (kvs:List (List Key×V))
 | set (S:Int→Bool) (n:Nat)
 | ins (C dx:Addr) (fs:List (Str×V))
 | own (x:Addr)
 | xd (fs:List (Str×V))
 | met (f x:Addr)
 | fJ (lo hi:Int)
 | a9 (o:Obj) (u:HO)
 | cK (ps:Array Value)
 | ext (φ:Heap→Prop)
abbrev Hp:=Addr→Option HO
def upd(H:Hp)(a:Addr)(o:HO):Hp:=fun b=>if b=a then some o else H b
variable {H:Hp} {a:Addr} {o:HO}
theorem ay:upd H a o a=some o:=by unfold upd;rw [ae rfl]
variable {b:Addr}
theorem aH(h:b≠a):upd H a o b=H b:=by unfold upd;rw [aa h]
theorem Kt{u:HO}(h:H a=some o)(h':H b=some u)(d:o≠u):a≠b:=by intro e;subst e;rw [h] at h';exact d (Option.some.inj h')
theorem fu(h:H a=some o)(h':H b=none):a≠b:=by intro e;subst e;rw [h] at h';cases h'
section
variable (P:Program) (w:World)
def cf(H:Hp)(h:Heap)(a:Addr):HO→Prop
 | .lst xs=>xs.length≤sizeLine∧∃(its:List Value) (n:Nat),Vals xs its∧h.get? a=some {cls:=.type "list",data:=.seq its.toArray n}
 | .tup xs=>xs.length≤sizeLine∧∃its:List Value,Vals xs its∧IsTup h a its.toArray
 | .dK kvs=>kvs.length≤sizeLine∧(a == sysModules)=false∧∃vs,KV kvs vs∧h.DictOf (fI P w) a vs
 | .dT kvs=>kvs.length≤sizeLine∧(a == sysModules)=false∧∃xs:List (List Key×Addr×Value),
   Paired (fun(p:List Key×V) (q:List Key×Addr×Value)=>p.1=q.1∧H q.2.1=some (.tup (p.1.map kV))∧RelV p.2 q.2.2) kvs xs ∧
   ∃o es ep,h.get? a=some o∧o.ExactDict∧o.data=.dict es ep∧es.toList=xs.map (entryOfKey (tupleKind (fI P w)))∧(xs.map (·.1)).Nodup
 | .set S n=>h.SetOf (intKind P w) a S n
 | .ins C dx fs=>H dx=some (.own a)∧fs.length≤1000∧dx≠a∧h.get? a=some (PySem.W.instObj C dx) ∧
   ∃mA,h.Ns1 dx mA∧(∀f,jw (fs.lookup f) (mA f))∧PySem.Within mA (fs.map (·.1))
 | .own _=>∃o,h.get? a=some o
 | .xd fs=>∃mA,h.Ns1 a mA∧∀f,jw (fs.lookup f) (mA f)
 | .fJ lo hi=>∃t u v,h.get? a=some {cls:=.type "range",data:=.fields #[.int lo t,.int hi u,.int 1 v]}
 | .a9 o u=>h.get? a=some o∧cf H h a u
 | .cK ps=>h.get? a=some {cls:=.none,data:=.fields ps}
 | .met f x=>h.get? a=some (PySem.W.methodObj (.ref f) (.ref x))
 | .ext φ=>φ h∧(∃o,h.get? a=some o)∧∀h1 h2:Heap,φ h1→(∀o,h1.get? a=some o→h2.get? a=some o)→φ h2
def bV(H:Hp)(h:Heap):Prop:=∀a o,H a=some o→cf P w H h a o
end
section
variable {P:Program} {w:World} {H H':Hp} {h h':Heap} {a:Addr} {o:HO}
theorem cf.lt(x:cf P w H h a o):a<h.objs.size:=by
 cases o with
 | lst xs=>obtain ⟨_,_,_,_,e⟩:=x;exact aU e
 | tup xs=>obtain ⟨_,_,_,p⟩:=x;exact p.lt
 | dK kvs=>obtain ⟨_,_,_,_,o,_,_,e,_⟩:=x;exact aU e
 | dT kvs=>obtain ⟨_,_,_,_,o,_,_,e,_⟩:=x;exact aU e
 | set S n=>obtain ⟨o,_,_,_,e,_⟩:=x;exact aU e
 | ins C dx fs=>obtain ⟨_,_,_,e,_⟩:=x;exact aU e
 | own y=>obtain ⟨_,e⟩:=x;exact aU e
 | xd fs=>obtain ⟨_,⟨_,_,_,e,_⟩,_⟩:=x;exact aU e
 | fJ lo hi=>obtain ⟨_,_,_,e⟩:=x;exact aU e
 | a9 ob u=>obtain ⟨e,_⟩:=x;exact aU e
 | cK ps=>exact aU (show h.get? a=some _ from x)
 | met f y=>exact aU (show h.get? a=some _ from x)
 | ext φ=>obtain ⟨_,⟨_,e⟩,_⟩:=x;exact aU e
theorem Paired.AJ{α β:Type}{F G:α→β→Prop}:∀{l₁:List α} {l₂:List β},Paired F l₁ l₂→(∀a b,F a b→G a b)→Paired G l₁ l₂
 | _,_,.nil,_=>.nil
 | _,_,.cons r t,f=>.cons (f _ _ r) (Paired.AJ t f)
theorem cf.gb(x:cf P w H h a o)(k:∀b u,(b=a∨H b=some (.own a))→h.get? b=some u→h'.get? b=some u)
  (ho:∀b,H b=some (.own a)→H' b=some (.own a)) (ht:∀b xs,H b=some (.tup xs)→H' b=some (.tup xs)):cf P w H' h' a o:=by
 induction o with
 | lst xs=>obtain ⟨z,its,n,r,e⟩:=x;exact ⟨z,its,n,r,k _ _ (.inl rfl) e⟩
 | tup xs=>obtain ⟨z,its,r,ob,e,c⟩:=x;exact ⟨z,its,r,ob,k _ _ (.inl rfl) e,c⟩
 | dK kvs=>obtain ⟨z,y,vs,r,ob,es,ep,e,c⟩:=x;exact ⟨z,y,vs,r,ob,es,ep,k _ _ (.inl rfl) e,c⟩
 | dT kvs=>obtain ⟨z,y,xs,r,ob,es,ep,e,c⟩:=x;exact ⟨z,y,xs,Paired.AJ r fun p q z=>⟨z.1,ht _ _ z.2.1,z.2.2⟩,ob,es,ep,k _ _ (.inl rfl) e,c⟩
 | set S n=>obtain ⟨ob,es,ep,t,e,c⟩:=x;exact ⟨ob,es,ep,t,k _ _ (.inl rfl) e,c⟩
 | ins C dx fs=>obtain ⟨d,z,ne,e,mA,⟨od,es,ep,e2,c⟩,r⟩:=x;exact ⟨ho _ d,z,ne,k _ _ (.inl rfl) e,mA,⟨od,es,ep,k _ _ (.inr d) e2,c⟩,r⟩
 | own y=>obtain ⟨ob,e⟩:=x;exact ⟨ob,k _ _ (.inl rfl) e⟩
 | xd fs=>obtain ⟨mA,⟨od,es,ep,e,c⟩,r⟩:=x;exact ⟨mA,⟨od,es,ep,k _ _ (.inl rfl) e,c⟩,r⟩
 | fJ lo hi=>obtain ⟨t,u,v,e⟩:=x;exact ⟨t,u,v,k _ _ (.inl rfl) e⟩
 | a9 ob u ih=>obtain ⟨e,q⟩:=x;exact ⟨k _ _ (.inl rfl) e,ih q⟩
 | cK ps=>have e:h.get? a=some {cls:=.none,data:=.fields ps}:=x;show h'.get? a=some {cls:=.none,data:=.fields ps};exact k a _ (.inl rfl) e
 | met f y=>have e:h.get? a=some (PySem.W.methodObj (.ref f) (.ref y)):=x;show h'.get? a=some (PySem.W.methodObj (.ref f) (.ref y));exact k a _ (.inl rfl) e
 | ext φ=>obtain ⟨p,⟨o,e⟩,st⟩:=x;exact ⟨st _ _ p fun o q=>k _ _ (.inl rfl) q,⟨o,k _ _ (.inl rfl) e⟩,st⟩
theorem bV.lt(x:bV P w H h)(e:H a=some o):a<h.objs.size:=(x a o e).lt
theorem bV.fresh(x:bV P w H h)(e:h.objs.size≤a):H a=none:=by
 cases q:H a with
 | none=>rfl
 | some u=>exact absurd (dD (x.lt q) e) (eG _)
theorem bV.kept(x:bV P w H h)(k:∀b u,h.get? b=some u→h'.get? b=some u):bV P w H h':=fun a o e=>(x a o e).gb (fun b u _ q=>k b u q) (fun _ q=>q) fun _ _ q=>q
theorem bV.laid(x:bV P w H h)(k:∀b u,h.get? b=some u→h'.get? b=some u)(hp:h.objs.size≤a)(new:cf P w (upd H a o) h' a o):bV P w (upd H a o) h':=fun b u e=>by
 have hn:=x.fresh hp;by_cases hb:b=a;·subst hb;rw [ay] at e;cases e;exact new
 ·rw [aH hb] at e
  exact (x b u e).gb (fun c v _ q=>k c v q) (fun c q=>by rw [aH (fu q hn)];exact q) fun c xs q=>by rw [aH (fu q hn)];exact q
end
def Rd(H:Hp)(a:Addr)(u:HO):Prop:=H a=some u∨∃o,H a=some (.a9 o u)
variable {P:Program} {w:World} {h:Heap}
theorem Rd.ok{u:HO}(r:Rd H a u)(x:bV P w H h):cf P w H h a u:=by
 rcases r with r | ⟨o,r⟩;·exact x a u r
 ·obtain ⟨_,q⟩:=x a _ r
  exact q
def uL:Option HO→Prop
 | some (.lst _)=>True
 | some (.dK _)=>True
 | some (.dT _)=>True
 | some (.set _ _)=>True
 | some (.ins _ _ _)=>True
 | some (.ext _)=>True
 | _=>False
section
variable {P:Program} {w:World} {H:Hp} {h h':Heap} {x e:Addr} {o':HO}
theorem bV.write(ok:bV P w H h)(mu:uL (H x))(he:e=x∨H e=some (.own x))(k:∀b u,b≠e→h.get? b=some u→h'.get? b=some u)(qJ:∃u,h'.get? e=some u)
  (new:cf P w (upd H x o') h' x o'):bV P w (upd H x o') h':=fun b u q=>by
 have Ec:∀c y,H c=some (.own y)→c≠x:=fun c y r z=>by subst z;rw [r] at mu;exact mu
 have Ku:∀c xs,H c=some (.tup xs)→c≠x:=fun c xs r z=>by subst z;rw [r] at mu;exact mu
 by_cases hb:b=x;·subst hb;rw [ay] at q;cases q;exact new
 ·rw [aH hb] at q
  by_cases n_:b=e
  ·have q':H b=some (.own x):=by
    rcases he with z | z;·exact absurd (n_.trans z) hb
    ·rw [n_];exact z
   rw [q] at q';cases q';obtain ⟨v,hv⟩:=qJ;exact ⟨v,by rw [n_];exact hv⟩
  ·refine (ok b u q).gb (fun c v hc r=>k c v ?_ r) (fun c r=>by rw [aH (Ec c b r)];exact r) fun c xs r=>by rw [aH (Ku c xs r)];exact r
   rcases hc with rfl | hc;·exact n_
   ·rintro rfl
    rcases he with z | z;·exact Ec c b hc z
    ·rw [hc] at z;cases z;exact hb rfl
end
structure Un (fs ex:List Addr) (H H':Hp) (h h':Heap):Prop where
 keep:∀b o,h.get? b=some o→H b=none→b∉fs→b∉ex→h'.get? b=some o
 slot:∀b o,h.get? b=some o→H b=none→b∈fs→b∉ex→∃sl,h'.get? b=some {o with slots:=sl}
 free:∀b o,h.get? b=some o→H b=none→b∉ex→H' b=none
 there:∀b o,h.get? b=some o→b∉ex→∃o',h'.get? b=some o'
 gc:∀b xs,H b=some (.tup xs)→H' b=some (.tup xs)
 fK:∀b o u,H b=some (.a9 o u)→H' b=some (.a9 o u)
 fN:∀b ps,H b=some (.cK ps)→∃more,H' b=some (.cK (ps++more))
section
variable {fs AK ex oh:List Addr} {H H1 H2:Hp} {h h1 h2 h':Heap} {a x e:Addr} {o:HO}
theorem Un.any(u:Un fs ex H H1 h h1){ob:Obj}(q:h.get? b=some ob)(n:H b=none)(hx:b∉ex):∃sl,h1.get? b=some {ob with slots:=sl}:=by
 by_cases hb:b∈fs;·exact u.slot b ob q n hb hx
 ·exact ⟨ob.slots,u.keep b ob q n hb hx⟩
theorem Un.kept(k:∀b u,h.get? b=some u→h'.get? b=some u):Un fs ex H H h h':=
 ⟨fun b ob q _ _ _=>k b ob q,fun b ob q _ _ _=>⟨ob.slots,k b ob q⟩,fun _ _ _ n _=>n,fun b ob q _=>⟨ob,k b ob q⟩,fun _ _ q=>q,fun _ _ _ q=>q,fun _ ps q=>⟨#[],by rw [q];simp⟩⟩
theorem Un.refl:Un fs ex H H h h:=Un.kept fun _ _ q=>q
theorem Un.laid(k:∀b u,h.get? b=some u→h'.get? b=some u)(hp:h.objs.size≤a)(hn:H a=none):Un fs ex H (upd H a o) h h' where
 keep:=fun b u q _ _ _=>k b u q
 slot:=fun b u q _ _ _=>⟨u.slots,k b u q⟩
 free:=fun b u q n _=>by rw [aH (bX (dD (aU q) hp))];exact n
 there:=fun b u q _=>⟨u,k b u q⟩
 gc:=fun b xs q=>by rw [aH (fu q hn)];exact q
 fK:=fun b u xs q=>by rw [aH (fu q hn)];exact q
 fN:=fun b ps q=>⟨#[],by rw [aH (fu q hn),q];simp⟩
theorem Un.write(mu:uL (H x))(he:e=x∨H e=some (.own x))(k:∀b u,b≠e→h.get? b=some u→h'.get? b=some u)(qJ:∃u,h'.get? e=some u):Un fs ex H (upd H x o) h h':=by
 have hx:∀b,H b=none→b≠x:=fun b n z=>by subst z;rw [n] at mu;exact mu
 have hb:∀b,H b=none→b≠e:=fun b n z=>by
  subst z;rcases he with r | r;·exact hx b n r
  ·rw [n] at r;cases r
 have hm:∀b u,H b=some u→¬uL (some u)→b≠x:=fun b u q nm z=>by subst z;rw [q] at mu;exact nm mu
 refine ⟨fun b u q n _ _=>k b u (hb b n) q,fun b u q n _ _=>⟨u.slots,k b u (hb b n) q⟩,fun b u q n _=>by rw [aH (hx b n)];exact n,fun b u q _=>?_,
  fun b xs q=>by rw [aH (hm b _ q fun z=>z)];exact q,fun b u xs q=>by rw [aH (hm b _ q fun z=>z)];exact q,fun b ps q=>⟨#[],by rw [aH (hm b _ q fun z=>z),q];simp⟩⟩
 by_cases n_:b=e;·subst n_;exact qJ
 ·exact ⟨u,k b u n_ q⟩
end
def xx(h:Heap)(H:Hp):List Addr:=(List.range h.objs.size).filter fun a=>(H a).isSome
def j_(h:Heap)(H:Hp):Heap:=PySem.W.hideAll h (xx h H)
theorem Kv(h:Heap)(H:Hp):(j_ h H).objs.size=h.objs.size:=PySem.W.hideAll_size _ _
theorem Kw{o:Obj}(e:h.get? b=some o)(n:H b=none):(j_ h H).get? b=some o:=
 wN _ e fun hm=>by have q:(H b).isSome=true:=(d6.mp hm).2;rw [n] at q;simp at q
theorem Kx{o:Obj}(e:(j_ h H).get? b=some o):h.get? b=some o∧H b=none:=by
 have e':h.get? b=some o:=PySem.W.of_hideAll (xx h H) e;refine ⟨e',?_⟩;cases q:H b with
 | none=>rfl
 | some x=>
  have hm:b∈xx h H:=d6.mpr ⟨bY.mpr (aU e'),by simp [q]⟩
  have z:(j_ h H).get? b=none:=PySem.W.hideAll_none (xx h H) hm;rw [z] at e;cases e
structure Mod (K:aB) (mg:cy) (base:Heap):Prop where
 cU:K.In base
 glob:base.Ns mainGlobals mg
 blt:∃mb,base.Ns builtinsNs mb∧∀x:Str,x ≠ "__name__"→mb x=bootBuiltins x
 nolimit:base.NoLimit
structure Cx where
 prog:Program
 w:World
 K:PySem.W.Frag
 mg:Str→Option Value
 base:Heap
 A:Around
 N:List Str
 s₀:Shared
 H₀:Hp
 env:Env
 outer:List Env
 stack:List Env
 ex:List Addr
 fn:Str→Bool
 calm:Bool
 pn:List (Addr×Obj)
 xe:Value→Shared→Prop
def cz(l:List Env):List Addr:=l.filterMap (·.frame)
abbrev Cx.fs (X:Cx):List Addr:=cz X.outer
def my(sc:Scope)(x:Str):Prop:=sc.names.lookup x=some .local∨sc.names.lookup x=some .cell∨sc.names.lookup x=some .free
def Loc(sc:Scope)(x:Str):Prop:=sc.names.lookup x=some .local∨sc.names.lookup x=some .cell
def Look(env:Env)(h:Heap)(m:cy)(x:Str)(u:Value):Prop:=
 (env.kindOf x=some .local∧m x=some u)∨((env.kindOf x=some .cell∨env.kindOf x=some .free)∧∃c,env.cells.lookup x=some c∧h.IsCell c (some u))
structure Cx.Ok (X:Cx):Prop where
 mod:Mod X.K X.mg X.base
 kind:X.env.scope.kind=.function
 glob:X.env.globals=mainGlobals
 blt:X.env.builtins=builtinsNs
 above:X.s₀.heap.objs.size≤X.env.locals
 inj:∀x y c,X.env.cells.lookup x=some c→X.env.cells.lookup y=some c→x=y
 has:∀x,(X.env.kindOf x=some .cell∨X.env.kindOf x=some .free)→∃c,X.env.cells.lookup x=some c
 uM:∀x c,X.fn x=true→X.env.cells.lookup x=some c→X.s₀.heap.objs.size≤c
 hd:X.calm=true→X.A.handled=none
 frames:X.A.frames=some X.stack
 iq:X.stack=X.outer∨(X.stack=X.env::X.outer∧X.env.frame=some X.env.locals)
 Ed:∀b∈X.ex,b≠X.env.locals∧∀x c,X.env.cells.lookup x=some c→c≠b
 bs:∀b o,X.base.get? b=some o→X.s₀.heap.get? b=some o∧X.H₀ b=none
 iu:X.base.objs.size≤X.s₀.heap.objs.size
 oi:∀b o,X.base.get? b=some o→b∉X.ex
 oj:∀b∈X.ex,b∉X.fs
 jx:X.s₀.heap.FunFrames X.base X.outer
 mB:∀b∈X.fs,X.H₀ b=none
structure Inv (X:Cx) (pins:aI) (σ:List (Option V)) (H:Hp) (s:Shared):Prop where
 ok:X.Ok
 os:s.os=X.s₀.os
 bare:AllBare s.gens
 base:Un X.fs X.ex X.H₀ H X.s₀.heap s.heap
 loc:∃m,s.heap.Ns X.env.locals m∧∀(i:Nat) (x:Str) (v:V),X.N[i]?=some x→σ[i]?=some (some v)→my X.env.scope x→∃u,RelV v u∧Look X.env s.heap m x u
 cell:∀x c,X.env.cells.lookup x=some c→∃v,s.heap.IsCell c v
 free:H X.env.locals=none
 iU:∀x c,X.env.cells.lookup x=some c→H c=none
 pin:∀p∈X.pn++pins,s.heap.get? p.1=some p.2∧H p.1=none∧p.1≠X.env.locals∧p.1∉X.fs∧∀v,p.2.data≠.cell v
 aw:bV X.prog X.w H s.heap
 len:σ.length=X.N.length
section
variable {X:Cx} {pins:aI} {σ:List (Option V)} {H H':Hp} {s:Shared} {h':Heap}
theorem Cx.Ok.Ky(ok:X.Ok){o:Obj}(e:X.base.get? b=some o):b∉X.fs:=fun hb=>by have:=(ok.jx.mem hb).1;rw [e] at this;cases this
theorem Inv.bs(I:Inv X pins σ H s):∀b o,X.base.get? b=some o→s.heap.get? b=some o∧H b=none:=fun b o e=>⟨I.base.keep b o (I.ok.bs b o e).1 (I.ok.bs b o e).2 (I.ok.Ky e) (I.ok.oi b o e),I.base.free b o (I.ok.bs b o e).1 (I.ok.bs b o e).2 (I.ok.oi b o e)⟩
theorem Inv.bk(I:Inv X pins σ H s):∀b o,X.base.get? b=some o→s.heap.get? b=some o:=fun b o e=>(I.bs b o e).1
theorem Inv.mod(I:Inv X pins σ H s):Mod X.K X.mg X.base:=I.ok.mod
theorem Inv.ee(I:Inv X pins σ H s):X.K.In s.heap:=I.ok.mod.cU.keeps I.bk
theorem Inv.lt(I:Inv X pins σ H s):X.env.locals<s.heap.objs.size:=let ⟨_,hn,_⟩:=I.loc;hn.lt
theorem Inv.sz(I:Inv X pins σ H s):X.s₀.heap.objs.size≤s.heap.objs.size:=cj I.ok.above (kZ I.lt)
theorem Inv.Kz(I:Inv X pins σ H s)(h:s.heap.objs.size≤a):a∉X.fs:=fun hb=>by obtain ⟨_,o,ho,_⟩:=I.ok.jx.mem hb;exact absurd (dD (aU ho) (cj I.sz h)) (eG _)
theorem Inv.om(I:Inv X pins σ H s):∀x c,X.env.cells.lookup x=some c→c≠X.env.locals:=fun x c e z=>by obtain ⟨v,o,ho,hd⟩:=I.cell x c e;obtain ⟨m,⟨o',es,ep,iV,AL,_⟩,_⟩:=I.loc;rw [z,iV] at ho;cases ho;rw [AL] at hd;cases hd
theorem Inv.jx(I:Inv X pins σ H s):s.heap.FunFrames X.base X.outer:=by
 have all:∀(l:List Env),(∀b∈cz l,b∈X.fs)→X.s₀.heap.FunFrames X.base l→s.heap.FunFrames X.base l:=by
  intro l
  induction l with
  | nil=>intro _ _;trivial
  | cons env r ih=>
   intro hs hl;obtain ⟨hk,⟨L,o,hf,hn,ho,hd⟩,hr⟩:=hl;have hL:L∈X.fs:=hs L (by unfold cz;rw [wO,hf];exact cE)
   obtain ⟨sl,e⟩:=I.base.slot L o ho (I.ok.mB L hL) hL fun z=>I.ok.oj L z hL;exact ⟨hk,⟨L,_,hf,hn,e,hd⟩,ih (fun b hb=>hs b (by unfold cz;rw [wO,hf];exact bP _ hb)) hr⟩
 exact all X.outer (fun _ hb=>hb) I.ok.jx
theorem Inv.stack(I:Inv X pins σ H s):s.heap.FunFrames X.base X.stack:=by
 rcases I.ok.iq with e | ⟨e,hf⟩;·rw [e];exact I.jx
 ·rw [e]
  obtain ⟨m,hn,_⟩:=I.loc;refine .cons (by rw [I.ok.kind];decide) hf hn ?_ I.jx
  exact Heap.get?_none_of_le (cj I.ok.iu I.ok.above)
theorem Inv.uN(I:Inv X pins σ H s):∀b∈cz X.stack,b∈X.env.locals::X.fs:=fun b hb=>by
 rcases I.ok.iq with e | ⟨e,hf⟩;·rw [e] at hb;exact bP _ hb
 ·rw [e] at hb
  unfold cz at hb;rw [wO,hf] at hb;exact hb
theorem Inv.uO(I:Inv X pins σ H s):∀b∈cz X.stack,H b=none:=fun b hb=>by
 rcases bb.mp (I.uN b hb) with e | hb;·rw [e];exact I.free
 ·obtain ⟨_,o,ho,_⟩:=I.ok.jx.mem hb
  exact I.base.free b o ho (I.ok.mB b hb) fun z=>I.ok.oj b z hb
theorem Inv.step{g':Array GenState}{t':Nat}{d':Drawn}{ch:List Addr}(I:Inv X pins σ H s)
  (kd:∀b∈ch,(b∈X.ex∨X.s₀.heap.objs.size≤b)∧b≠X.env.locals∧(∀x c,X.env.cells.lookup x=some c→c≠b)∧∀p∈X.pn++pins,p.1≠b)
  (keep:∀b o,b≠X.env.locals→b∉X.fs→b∉ch→s.heap.get? b=some o→H b=none→h'.get? b=some o)
  (slot:∀b o,b≠X.env.locals→b∈X.fs→b∉ch→s.heap.get? b=some o→H b=none→∃sl,h'.get? b=some {o with slots:=sl}) (free:∀b o,b∉ch→s.heap.get? b=some o→H b=none→H' b=none)
  (there:∀b o,b∉ch→s.heap.get? b=some o→∃o',h'.get? b=some o')
  (gc:∀b xs,H b=some (.tup xs)→H' b=some (.tup xs)) (fK:∀b o u,H b=some (.a9 o u)→H' b=some (.a9 o u)) (fN:∀b ps,H b=some (.cK ps)→∃more,H' b=some (.cK (ps++more)))
  (ns:∀m,s.heap.Ns X.env.locals m→h'.Ns X.env.locals m) (aw:bV X.prog X.w H' h') (hg:AllBare g') :
  Inv X pins σ H' {s with heap:=h',gens:=g',drawn:=d',toks:=t'}:=by
 have ke:∀b o,X.s₀.heap.get? b=some o→b≠X.env.locals:=fun b o e=>bX (dD (aU e) I.ok.above);have xA:∀b o,X.s₀.heap.get? b=some o→b∉X.ex→b∉ch:=fun b o e hx hb=>by
  rcases (kd b hb).1 with z | z;·exact hx z
  ·exact absurd (dD (aU e) z) (eG _)
 have cellK:∀x c,X.env.cells.lookup x=some c→∀v,s.heap.IsCell c v→h'.IsCell c v:=fun x c e v ⟨o,ho,hd⟩=>by
  have uP:c∉ch:=fun z=>(kd c z).2.2.1 x c e rfl;by_cases hc:c∈X.fs
  ·obtain ⟨sl,q⟩:=slot c o (I.om x c e) hc uP ho (I.iU x c e)
   exact ⟨_,q,hd⟩
  ·exact ⟨o,keep c o (I.om x c e) hc uP ho (I.iU x c e),hd⟩
 refine ⟨I.ok,I.os,hg,⟨fun b o e n hb hx=>?_,fun b o e n hb hx=>?_,fun b o e n hx=>?_,fun b o e hx=>?_,fun b xs e=>gc b xs (I.base.gc b xs e),fun b o xs e=>fK b o xs (I.base.fK b o xs e),fun b ps e=>?_⟩,?_,fun x c e=>?_,?_,fun x c e=>?_,fun p hp=>?_,aw,I.len⟩;·exact keep b o (ke b o e) hb (xA b o e hx) (I.base.keep b o e n hb hx) (I.base.free b o e n hx)
 ·obtain ⟨sl,e1⟩:=I.base.slot b o e n hb hx
  obtain ⟨KA,e2⟩:=slot b _ (ke b o e) hb (xA b o e hx) e1 (I.base.free b o e n hx);exact ⟨KA,e2⟩
 ·obtain ⟨o',e1⟩:=I.base.there b o e hx
  exact free b o' (xA b o e hx) e1 (I.base.free b o e n hx)
 ·obtain ⟨o',e1⟩:=I.base.there b o e hx
  exact there b o' (xA b o e hx) e1
 ·obtain ⟨m1,e1⟩:=I.base.fN b ps e
  obtain ⟨m2,e2⟩:=fN b _ e1;exact ⟨m1++m2,by rw [e2,Array.append_assoc]⟩
 ·obtain ⟨m,hn,hl⟩:=I.loc
  refine ⟨m,ns m hn,fun i x v e1 e2 e3=>?_⟩;obtain ⟨u,r,l⟩:=hl i x v e1 e2 e3;refine ⟨u,r,?_⟩;rcases l with l | ⟨k,c,e,z⟩;·exact .inl l
  ·exact .inr ⟨k,c,e,cellK x c e _ z⟩
 ·obtain ⟨v,z⟩:=I.cell x c e
  exact ⟨v,cellK x c e v z⟩
 ·obtain ⟨m,⟨o,_,_,ho,_⟩,_⟩:=I.loc
  exact free _ o (fun z=>(kd _ z).2.1 rfl) ho I.free
 ·obtain ⟨v,o,ho,hd⟩:=I.cell x c e
  exact free c o (fun z=>(kd c z).2.2.1 x c e rfl) ho (I.iU x c e)
 ·obtain ⟨e,n,ne,nf,d⟩:=I.pin p hp
  have uP:p.1∉ch:=fun z=>(kd p.1 z).2.2.2 p hp rfl;exact ⟨keep p.1 p.2 ne nf uP e n,free p.1 p.2 uP e n,ne,nf,d⟩
variable {t':Nat}
theorem Inv.un(I:Inv X pins σ H s)(u:Un X.fs [] H H' s.heap h')(aw:bV X.prog X.w H' h'):Inv X pins σ H' {s with heap:=h',toks:=t'}:=by
 obtain ⟨m,⟨o,es,ep,ho,r⟩,_⟩:=id I.loc;obtain ⟨sl,hL⟩:=u.any ho I.free (by simp)
 exact I.step (g':=s.gens) (d':=s.drawn) (ch:=[]) (fun _ z=>nomatch z) (fun b o _ hb _ e n=>u.keep b o e n hb (by simp)) (fun b o _ hb _ e n=>u.slot b o e n hb (by simp)) (fun b o _ e n=>u.free b o e n (by simp)) (fun b o _ e=>u.there b o e (by simp)) u.gc u.fK u.fN (fun m' hm=>by obtain ⟨o',AM,kf,iV,r'⟩:=hm;rw [ho] at iV;cases iV;exact ⟨_,AM,kf,hL,r'⟩) aw I.bare
variable {ch:List Addr}
theorem Inv.call{g':Array GenState}{d':Drawn}(I:Inv X pins σ H s)(u:Un (cz X.stack) ch H H' s.heap h')(aw:bV X.prog X.w H' h')(hg:AllBare g')
  (kd:∀b∈ch,(b∈X.ex∨X.s₀.heap.objs.size≤b)∧b≠X.env.locals∧(∀x c,X.env.cells.lookup x=some c→c≠b)∧∀p∈X.pn++pins,p.1≠b) :
  Inv X pins σ H' {s with heap:=h',gens:=g',drawn:=d',toks:=t'}:=by
 obtain ⟨m,⟨o,es,ep,ho,r⟩,_⟩:=id I.loc;obtain ⟨sl,hL⟩:=u.any ho I.free fun z=>(kd _ z).2.1 rfl;exact I.step (ch:=ch) kd (fun b o hL hb hc e n=>u.keep b o e n (fun z=>(bb.mp (I.uN b z)).elim hL hb) hc) (fun b o _ _ hc e n=>u.any e n hc) (fun b o hc e n=>u.free b o e n hc) (fun b o hc e=>u.there b o e hc) u.gc u.fK u.fN (fun m' hm=>by obtain ⟨o',AM,kf,iV,r'⟩:=hm;rw [ho] at iV;cases iV;exact ⟨_,AM,kf,hL,r'⟩) aw hg
theorem Inv.turned{it:Addr}(I:Inv X pins σ H s)(k:∀b o,b≠it→s.heap.get? b=some o→h'.get? b=some o)(hn:H it=none)(hL:it≠X.env.locals)
  (h1:it∈X.ex∨X.s₀.heap.objs.size≤it) (h2:∀x c,X.env.cells.lookup x=some c→c≠it) (h3:∀p∈X.pn++pins,p.1≠it):Inv X pins σ H {s with heap:=h',toks:=t'}:=by
 have Ee:∀b u,H b=some u→b≠it:=fun b u e z=>by rw [z,hn] at e;cases e
 refine I.step (g':=s.gens) (d':=s.drawn) (ch:=[it]) (fun b hb=>?_) (fun b o _ _ hc e _=>k b o (fun z=>hc (by simp [z])) e) (fun b o _ _ hc e _=>⟨o.slots,k b o (fun z=>hc (by simp [z])) e⟩) (fun _ _ _ _ n=>n)
  (fun b o hc e=>⟨o,k b o (fun z=>hc (by simp [z])) e⟩) (fun _ _ e=>e) (fun _ _ _ e=>e) (fun b ps e=>⟨#[],by rw [e];simp⟩) (fun m hm=>?_) (fun b u e=>?_) I.bare
 ·have e:b=it:=by simpa using hb
  subst e;exact ⟨h1,hL,h2,h3⟩
 ·obtain ⟨o,es,ep,ho,r⟩:=hm
  exact ⟨o,es,ep,k _ o (Ne.symm hL) ho,r⟩
 ·refine (I.aw b u e).gb (fun c v hc q=>k c v ?_ q) (fun _ q=>q) fun _ _ q=>q
  rcases hc with z | z;·rw [z];exact Ee b u e
  ·exact Ee c _ z
theorem Inv.tok(I:Inv X pins σ H s)(t:Nat):Inv X pins σ H {s with toks:=t}:=I.un (h':=s.heap) (t':=t) Un.refl I.aw
theorem Inv.kept(I:Inv X pins σ H s)(k:∀b u,s.heap.get? b=some u→h'.get? b=some u):Inv X pins σ H {s with heap:=h',toks:=t'}:=I.un (Un.kept k) (I.aw.kept k)
theorem Inv.laid(I:Inv X pins σ H s)(k:∀b u,s.heap.get? b=some u→h'.get? b=some u)(hp:s.heap.objs.size≤a)(new:cf X.prog X.w (upd H a o) h' a o) :
  Inv X pins σ (upd H a o) {s with heap:=h',toks:=t'}:=I.un (Un.laid k hp (I.aw.fresh hp)) (I.aw.laid k hp new)
theorem Inv.write{x e:Addr}(I:Inv X pins σ H s)(mu:uL (H x))(he:e=x∨H e=some (.own x))(k:∀b u,b≠e→s.heap.get? b=some u→h'.get? b=some u)(qJ:∃u,h'.get? e=some u)
  (new:cf X.prog X.w (upd H x o) h' x o):Inv X pins σ (upd H x o) {s with heap:=h',toks:=t'}:=I.un (Un.write mu he k qJ) (I.aw.write mu he k qJ new)
theorem Inv.Ef{Eg:aI}(I:Inv X pins σ H s)(h:∀p∈Eg,s.heap.get? p.1=some p.2∧H p.1=none∧p.1≠X.env.locals∧p.1∉X.fs∧∀v,p.2.data≠.cell v):Inv X Eg σ H s:=
 ⟨I.ok,I.os,I.bare,I.base,I.loc,I.cell,I.free,I.iU,fun p hp=>(dI.mp hp).elim (fun z=>I.pin p (l_ _ z)) (h p),I.aw,I.len⟩
variable {i:Nat} {x:Str}
theorem Eh{N:List Str}(hN:N.Nodup){j:Nat}(a:N[i]?=some x)(b:N[j]?=some x):i=j:=by obtain ⟨h1,e1⟩:=cp.mp a;obtain ⟨h2,e2⟩:=cp.mp b;exact (nN hN).mp (e1.trans e2.symm)
variable {M:Model} {A:Around} {E:aM} {u:Value} {Q:Unit→Shared→Prop}
theorem Ei{v:V}(I:Inv X pins σ H s)(hN:X.N.Nodup)(hi:X.N[i]?=some x)(hx:Loc X.env.scope x)(r:RelV v u)
  (h:∀s',Inv X pins (σ.set i (some v)) H s'→(∃a,Heap.SameBut a s.heap s'.heap∧(a=X.env.locals∨X.env.cells.lookup x=some a))→Q () s') (hf:X.fn x=true∨X.env.scope.names.lookup x=some .local:=by first | exact .inl rfl | exact .inr rfl | assumption):wpAny M A (storeName X.env x u) Q E s:=by
 obtain ⟨m,hn,hl⟩:=id I.loc;have KC:(X.env.scope.kind == .class || (X.env.scope.kind == .module && X.env.locals != X.env.globals))=false:=by rw [I.ok.kind];rfl
 have Ej:i<σ.length:=by rw [I.len];exact (cp.mp hi).1
 have om:=I.om;have tracked:∀{a:Addr} {h':Heap},(∃o,s.heap.get? a=some o∧H a=none)→Heap.SameBut a s.heap h'→bV X.prog X.w H h':=fun{a h'} ha hs b ob e=>by
  obtain ⟨_,_,Ek⟩:=ha;refine (I.aw b ob e).gb (fun c w' hc q=>(hs.2 c ?_).trans q) (fun _ q=>q) fun _ _ q=>q;rintro rfl;rcases hc with rfl | hc;·rw [Ek] at e;cases e
  ·rw [Ek] at hc;cases hc
 rcases hx with hk | hk
 ·refine wpAny_storeName_local hk hn (fun h' KD hs=>?_) KC
  obtain ⟨oL,_,_,KG,_⟩:=id hn;refine h _ ⟨I.ok,I.os,I.bare,⟨fun b o e n hb hx=>?_,fun b o e n hb hx=>?_,I.base.free,fun b o e hx=>?_,I.base.gc,I.base.fK,I.base.fN⟩,⟨_,KD,fun j y v' e1 e2 e3=>?_⟩,fun y c e=>?_,I.free,I.iU,fun p hp=>?_,tracked ⟨oL,KG,I.free⟩ hs,by simpa using I.len⟩ ⟨_,hs,.inl rfl⟩
  ·exact (hs.2 b (bX (dD (aU e) I.ok.above))).trans (I.base.keep b o e n hb hx)
  ·obtain ⟨sl,e1⟩:=I.base.slot b o e n hb hx
   exact ⟨sl,(hs.2 b (bX (dD (aU e) I.ok.above))).trans e1⟩
  ·obtain ⟨o',e1⟩:=I.base.there b o e hx
   exact ⟨o',(hs.2 b (bX (dD (aU e) I.ok.above))).trans e1⟩
  ·by_cases hj:j=i
   ·subst hj
    rw [hi] at e1;cases e1;rw [List.getElem?_set_self Ej] at e2;cases e2;exact ⟨u,r,.inl ⟨hk,by simp⟩⟩
   ·rw [List.getElem?_set_ne (Ne.symm hj)] at e2
    obtain ⟨u',r',q⟩:=hl j y v' e1 e2 e3;refine ⟨u',r',?_⟩;rcases q with ⟨k,e⟩ | ⟨k,c,e,z⟩
    ·refine .inl ⟨k,?_⟩
     have:y≠x:=fun e=>hj (Eh hN e1 (e▸hi));simp [this,e]
    ·exact .inr ⟨k,c,e,z.sameBut hs (om y c e)⟩
  ·obtain ⟨w',z⟩:=I.cell y c e
   exact ⟨w',z.sameBut hs (om y c e)⟩
  ·obtain ⟨e,n,ne,nf,d⟩:=I.pin p hp
   exact ⟨(hs.2 p.1 ne).trans e,n,ne,nf,d⟩
 ·have AN:X.fn x=true:=by
   rcases hf with z | z;·exact z
   ·rw [z] at hk;cases hk
  obtain ⟨c,hc⟩:=I.ok.has x (.inl hk);obtain ⟨w',z⟩:=I.cell x c hc;refine wpAny_storeName_cell I.ok.kind hk hc z (fun h' du hs=>?_);obtain ⟨oc,El,KH⟩:=id z;refine h {s with heap:=h'} ⟨I.ok,I.os,I.bare,⟨fun b o e n hb hx=>?_,fun b o e n hb hx=>?_,I.base.free,fun b o e hx=>?_,I.base.gc,I.base.fK,I.base.fN⟩,⟨m,hn.sameBut hs (Ne.symm (om x c hc)),fun j y v' e1 e2 e3=>?_⟩,fun y c' e=>?_,I.free,I.iU,fun p hp=>?_,tracked ⟨oc,El,I.iU x c hc⟩ hs,by simpa using I.len⟩ ⟨c,hs,.inr hc⟩
  ·exact (hs.2 b (bX (dD (aU e) (I.ok.uM x c AN hc)))).trans (I.base.keep b o e n hb hx)
  ·obtain ⟨sl,e1⟩:=I.base.slot b o e n hb hx
   exact ⟨sl,(hs.2 b (bX (dD (aU e) (I.ok.uM x c AN hc)))).trans e1⟩
  ·obtain ⟨o',e1⟩:=I.base.there b o e hx
   exact ⟨o',(hs.2 b (bX (dD (aU e) (I.ok.uM x c AN hc)))).trans e1⟩
  ·by_cases hj:j=i
   ·subst hj
    rw [hi] at e1;cases e1;rw [List.getElem?_set_self Ej] at e2;cases e2;exact ⟨u,r,.inr ⟨.inl hk,c,hc,du⟩⟩
   ·rw [List.getElem?_set_ne (Ne.symm hj)] at e2
    obtain ⟨u',r',q⟩:=hl j y v' e1 e2 e3;refine ⟨u',r',?_⟩;rcases q with q | ⟨k,c',e,z'⟩;·exact .inl q
    ·refine .inr ⟨k,c',e,z'.sameBut hs ?_⟩
     rintro rfl;exact hj (Eh hN e1 (I.ok.inj _ _ _ e hc▸hi))
  ·by_cases uQ:c'=c
   ·subst uQ;exact ⟨_,du⟩
   ·obtain ⟨w2,z2⟩:=I.cell y c' e
    exact ⟨w2,z2.sameBut hs uQ⟩
  ·obtain ⟨e,n,ne,nf,d⟩:=I.pin p hp
   refine ⟨(hs.2 p.1 ?_).trans e,n,ne,nf,d⟩;intro q;rw [q,El] at e;have q':oc=p.2:=Option.some.inj e;exact d w' (by rw [←q'];exact KH)
theorem AO{v:V}(I:Inv X pins σ H s)(hN:X.N.Nodup)(hi:X.N[i]?=some x)(hx:Loc X.env.scope x)(r:RelV v u)
  (h:∀s',Inv X pins (σ.set i (some v)) H s'→Q () s') (hf:X.fn x=true∨X.env.scope.names.lookup x=some .local:=by first | exact .inl rfl | exact .inr rfl | assumption):wpAny M A (storeName X.env x u) Q E s:=
 Ei I hN hi hx r (fun s' I' _=>h s' I') hf
theorem Inv.mC{s':Shared}(I:Inv X pins σ H s)(ho:s'.os=s.os)(u:Un (cz X.stack) ch H H' s.heap s'.heap)(aw:bV X.prog X.w H' s'.heap)(hg:AllBare s'.gens)
  (kd:∀b∈ch,(b∈X.ex∨X.s₀.heap.objs.size≤b)∧b≠X.env.locals∧(∀x c,X.env.cells.lookup x=some c→c≠b)∧∀p∈X.pn++pins,p.1≠b):Inv X pins σ H' s':=by
 obtain ⟨h',g',d',t',o'⟩:=s';have e:o'=s.os:=ho;subst e;exact I.call (g':=g') (t':=t') (d':=d') u aw hg kd
end
abbrev XK:=Value→Option Addr→Hp→Prop
abbrev St:=List (Option V)
abbrev VK:=V→Hp→Prop
abbrev TE:=St→Hp→VK→Prop
abbrev TT:=St→Hp→(Bool→Hp→Prop)→Prop
abbrev TA:=St→Hp→(List V→Hp→Prop)→Prop
structure Ends where
 nx:St→Hp→Prop
 rt:VK
 bk:St→Hp→Prop:=fun _ _=>False
 ct:St→Hp→Prop:=fun _ _=>False
abbrev TS:=Ends→St→Hp→Prop
def EP(X:Cx)(pins:aI)(σ:St)(Q:VK)(u:Value)(s':Shared):Prop:=∃v H',Inv X pins σ H' s'∧RelV v u∧Q v H'
def TP(X:Cx)(pins:aI)(σ:St)(Q:Bool→Hp→Prop)(b:Bool)(s':Shared):Prop:=∃H',Inv X pins σ H' s'∧Q b H'
def AP(X:Cx)(pins:aI)(σ:St)(Q:List V→Hp→Prop)(us:List Value)(s':Shared):Prop:=∃vs H',Inv X pins σ H' s'∧Vals vs us∧Q vs H'
def SP(X:Cx)(pins:aI)(D:Ends)(f:Flow)(s':Shared):Prop:=
 match f with
 | .next=>∃σ' H',Inv X pins σ' H' s'∧D.nx σ' H'
 | .brk=>∃σ' H',Inv X pins σ' H' s'∧D.bk σ' H'
 | .cont=>∃σ' H',Inv X pins σ' H' s'∧D.ct σ' H'
 | .ret u=>∃v σ' H',Inv X pins σ' H' s'∧RelV v u∧D.rt v H'
def PE(X:Cx)(e:Expr)(t:TE):Prop:=
 ∀(pins:aI) (s:Shared) (σ:St) (H:Hp) (Q:VK),Inv X pins σ H s→t σ H Q→wpAny (model X.prog X.w) X.A (eval e X.env) (EP X pins σ Q) X.xe s
def PT(X:Cx)(e:Expr)(t:TT):Prop:=
 ∀(pins:aI) (s:Shared) (σ:St) (H:Hp) (Q:Bool→Hp→Prop),Inv X pins σ H s→t σ H Q→wpAny (model X.prog X.w) X.A (isTrue e X.env (eval e X.env)) (TP X pins σ Q) X.xe s
def PW(X:Cx)(e:Expr)(t:TT):Prop:=
 ∀(whole:Sem Value) (pins:aI) (s:Shared) (σ:St) (H:Hp) (Q:Bool→Hp→Prop),Inv X pins σ H s→t σ H Q→wpAny (model X.prog X.w) X.A (isTrue e X.env whole) (TP X pins σ Q) X.xe s
variable {X:Cx}
theorem PW.pt{e:Expr}{t:TT}(h:PW X e t):PT X e t:=h _
def PA(X:Cx)(es:List Expr)(t:TA):Prop:=
 ∀(pos:Pos) (pins:aI) (s:Shared) (σ:St) (H:Hp) (Q:List V→Hp→Prop),Inv X pins σ H s→t σ H Q→wpAny (model X.prog X.w) X.A (spliced (backTo pos (starEach es X.env))) (AP X pins σ Q) X.xe s
def PS(X:Cx)(st:Stmt)(t:TS):Prop:=
 ∀(pins:aI) (s:Shared) (σ:St) (H:Hp) (D:Ends),Inv X pins σ H s→t D σ H→wpAny (model X.prog X.w) X.A (exec st X.env) (SP X pins D) X.xe s
def eL(X:Cx)(st:List Stmt)(t:TS):Prop:=
 ∀(pins:aI) (s:Shared) (σ:St) (H:Hp) (D:Ends),Inv X pins σ H s→t D σ H→wpAny (model X.prog X.w) X.A (execs st X.env) (SP X pins D) X.xe s
variable {M:Model} {A:Around} {E:aM} {s:Shared}
theorem aD{α:Type}{t:Sem α}{Q Q':α→Shared→Prop}(h:wpAny M A t Q E s)(hQ:∀a s,Q a s→Q' a s):wpAny M A t Q' E s:=bZ h hQ fun _ _ x=>x
section
variable {X:Cx}
variable {pins:aI} {σ:St}
theorem bin{a b:Expr}{ta tb:TE}(ha:PE X a ta)(hb:PE X b tb){R:V→V→Hp→Prop}(I:Inv X pins σ H s)(h:ta σ H fun x H1=>tb σ H1 fun y H2=>R x y H2)
  {α:Type} {Q:α→Shared→Prop} {f:Value→Value→Sem α}
  (hf:∀v u s2 x y H2,Inv X pins σ H2 s2→RelV x v→RelV y u→R x y H2→wpAny (model X.prog X.w) X.A (f v u) Q X.xe s2) :
  wpAny (model X.prog X.w) X.A (eval a X.env) (fun v s₁=>wpAny (model X.prog X.w) X.A (eval b X.env) (fun u s₂=>wpAny (model X.prog X.w) X.A (f v u) Q X.xe s₂) X.xe s₁) X.xe s:=by
 refine aD (ha pins s σ H _ I h) fun v s1 ⟨x,H1,I1,r1,q1⟩=>?_;refine aD (hb pins s1 σ H1 _ I1 q1) fun u s2 ⟨y,H2,I2,r2,q2⟩=>?_;exact hf v u s2 x y H2 I2 r1 r2 q2
def Em(i:Nat):TE:=fun σ H Q=>∃v,σ[i]?=some (some v)∧Q v H
def tC(v:V):TE:=fun _ H Q=>Q v H
variable {x:Str} {pos:Pos}
theorem KI{i:Nat}(hN:X.N[i]?=some x)(hv:my X.env.scope x)(hd:(x == ("__debug__":Str))=false:=by decide)(dR:(x == ("__classdict__":Str))=false:=by decide):PE X (.Name x pos) (Em i):=by
 intro pins s σ H Q I h;obtain ⟨v,e,h⟩:=h;obtain ⟨m,hn,hl⟩:=I.loc;obtain ⟨u,r,l⟩:=hl i x v hN e hv;have fin:EP X pins σ Q u s:=⟨v,H,I,r,h⟩;rcases l with ⟨hk,hm⟩ | ⟨hk,c,hc,jy⟩;·exact wpAny_Name (wpAny_loadName_local I.ok.kind hk hn hm fin) hd
 ·rcases hk with hk | hk
  ·exact wpAny_Name (wpAny_loadName_cell I.ok.kind hk hc jy fin) hd
  ·exact wpAny_Name (wpAny_loadName_free I.ok.kind hk hc jy fin dR) hd
theorem aC{i j pos}:PE X (.Constant (.int i) j pos) (tC (.int i)):=fun _ _ _ H _ I h=>wpAny_Constant_int ⟨.int i,H,I.tok _,⟨_,rfl⟩,h⟩
theorem iw{b j pos}:PE X (.Constant (.bool b) j pos) (tC (.bl b)):=fun _ _ _ H _ I h=>Constant_bool ⟨.bl b,H,I,rfl,h⟩
theorem qK{j pos}:PE X (.Constant .none j pos) (tC .aJ):=fun _ _ _ H _ I h=>Constant_none ⟨.aJ,H,I,rfl,h⟩
theorem qL{x j pos}:PE X (.Constant (.str x) j pos) (tC (.str x)):=fun _ _ _ H _ I h=>Calls.Constant_str ⟨.str x,H,I.tok _,⟨_,rfl⟩,h⟩
def Gl(X:Cx)(x:Str):Prop:=X.env.kindOf x=some .globalImplicit
variable {u:Value} {Q:aM}
theorem En(I:Inv X pins σ H s)(hg:Gl X x)(hm:X.mg x=some u)(h:Q u s)
  (hd:(x == ("__debug__":Str))=false:=by decide):wpAny (model X.prog X.w) X.A (eval (.Name x pos) X.env) Q E s:=
 Calls.Name_function_global I.ok.kind hg (Calls.loadGlobal_global (by rw [I.ok.glob];exact I.mod.glob.keeps I.bk) hm h) hd
theorem kg(I:Inv X pins σ H s)(hg:Gl X x)(hm:X.mg x=none)(hv:bootBuiltins x=some u)(h:Q u s)
  (hn:x ≠ "__name__":=by decide) (hd:(x == ("__debug__":Str))=false:=by decide):wpAny (model X.prog X.w) X.A (eval (.Name x pos) X.env) Q E s:=by
 obtain ⟨mb,h1,h2⟩:=I.mod.blt;exact Calls.Name_function_global I.ok.kind hg (Calls.loadGlobal_builtin (by rw [I.ok.glob];exact I.mod.glob.keeps I.bk) hm (by rw [I.ok.blt];exact h1.keeps I.bk) ((h2 x hn).trans hv) h) hd
theorem AQ{v:V}(hg:Gl X x)(hm:X.mg x=none)(hv:bootBuiltins x=some u)(r:RelV v u)(hn:x ≠ "__name__":=by decide)(hd:(x == ("__debug__":Str))=false:=by decide):PE X (.Name x pos) (tC v):=
 fun _ _ _ H _ I h=>kg I hg hm hv ⟨v,H,I,r,h⟩ hn hd
variable {a b:Expr} {ta tb:TE} {pos:Pos}
def PC(X:Cx)(op:CmpOp)(a b:Expr)(t:TE):Prop:=
 ∀(pins:aI) (s:Shared) (σ:St) (H:Hp) (Q:VK),Inv X pins σ H s→t σ H Q→
  wpAny (model X.prog X.w) X.A (eval a X.env) (fun v s₁=>wpAny (model X.prog X.w) X.A (eval b X.env) (fun u s₂=>wpAny (model X.prog X.w) X.A (compareOp op v u) (EP X pins σ Q) X.xe s₂) X.xe s₁) X.xe s
def tB(t:TE):TT:=fun σ H Q=>t σ H fun x H1=>∃c,x=.bl c∧Q c H1
variable {t:TE}
theorem xB{op:CmpOp}(h:PC X op a b t)(h1:behindInMarks op b=false:=by first | exact Xg _ (by decide) (by decide) | rfl):PT X (.Compare a [op] [b] pos) (tB t):=by intro pins s σ H Q I hw;refine wpAny_isTrue_Compare1 (aD (h pins s σ H _ I hw) fun v s1 h1=>aD h1 fun u s2 h2=>aD h2 fun c s3 ⟨x,H1,I1,r1,q1⟩=>?_) h1;obtain ⟨d,rfl,q⟩:=q1;cases r1;exact ma ⟨H1,I1,q⟩
theorem mD{e:Expr}(h:PE X e t)(he:∀whole,isTrue e X.env whole=(do let v ←whole;standAt e.pos;holding [v] (truthy v)):=by intro _;rfl):PT X e (tB t):=by
 intro pins s σ H Q I hw
 refine isTrue_plain (aD (h pins s σ H _ I hw) fun v s1 ⟨x,H1,I1,r1,q1⟩=>?_) (he _)
 obtain ⟨d,rfl,q⟩:=q1
 cases r1
 exact ma ⟨H1,I1,q⟩
variable {tA uR:TT} {rest:List Expr}
def KJ(t u:TT):TT:=fun σ H Q=>t σ H fun c H1=>if c=true then u σ H1 Q else Q false H1
def KN(t u:TT):TT:=fun σ H Q=>t σ H fun c H1=>if c=true then Q true H1 else u σ H1 Q
def AR(t:TT):TT:=fun σ H Q=>t σ H fun c H1=>Q (!c) H1
theorem pw_and1(ha:PT X a tA):PW X (.BoolOp .And [a] pos) tA:=by
 intro wh pins s σ H Q I h;refine isTrue_and (aD (ha pins s σ H Q I h) fun c s1 e=>?_);cases c with
 | true=>exact isTrue_and_nil e
 | false=>exact e
theorem pw_or1(ha:PT X a tA):PW X (.BoolOp .Or [a] pos) tA:=by
 intro wh pins s σ H Q I h;refine isTrue_or (aD (ha pins s σ H Q I h) fun c s1 e=>?_);cases c with
 | false=>exact isTrue_or_nil e
 | true=>exact e
theorem pw_and(ha:PT X a tA)(hb:PW X (.BoolOp .And (b::rest) pos) uR):PW X (.BoolOp .And (a::b::rest) pos) (KJ tA uR):=by
 intro wh pins s σ H Q I h;refine isTrue_and (aD (ha pins s σ H _ I h) fun c s1 ⟨H1,I1,q1⟩=>?_);cases c with
 | true=>exact hb wh pins s1 σ H1 Q I1 q1
 | false=>exact ⟨H1,I1,q1⟩
theorem pw_or(ha:PT X a tA)(hb:PW X (.BoolOp .Or (b::rest) pos) uR):PW X (.BoolOp .Or (a::b::rest) pos) (KN tA uR):=by
 intro wh pins s σ H Q I h;refine isTrue_or (aD (ha pins s σ H _ I h) fun c s1 ⟨H1,I1,q1⟩=>?_);cases c with
 | true=>exact ⟨H1,I1,q1⟩
 | false=>exact hb wh pins s1 σ H1 Q I1 q1
theorem qM(ha:PT X a tA):PT X (.UnaryOp .Not a pos) (AR tA):=by intro pins s σ H Q I h;exact isTrue_not (ha pins s σ H (fun c H1=>Q (!c) H1) I h)
def KO(ta tb:TE):TE:=fun σ H Q=>ta σ H fun x H1=>∃c,x=.bl c∧if c=true then tb σ H1 Q else Q (.bl false) H1
def KP(ta tb:TE):TE:=fun σ H Q=>ta σ H fun x H1=>∃c,x=.bl c∧if c=true then Q (.bl true) H1 else tb σ H1 Q
def KQ(ta:TE):TE:=fun σ H Q=>ta σ H fun x H1=>∃c,x=.bl c∧Q (.bl (!c)) H1
theorem uS{op}(h:PE X a t):PE X (.BoolOp op [a] pos) t:=fun pins s σ H Q I hw=>BoolOp_one (h pins s σ H Q I hw)
theorem uT(ha:PE X a ta)(hb:PE X (.BoolOp .And (b::rest) pos) tb):PE X (.BoolOp .And (a::b::rest) pos) (KO ta tb):=by
 intro pins s σ H Q I h;refine BoolOp_and (aD (ha pins s σ H _ I h) fun v s1 ⟨x,H1,I1,r1,q1⟩=>?_);obtain ⟨c,rfl,q1⟩:=q1;cases r1;refine ma ?_;cases c with
 | true=>exact hb pins s1 σ H1 Q I1 q1
 | false=>exact ⟨.bl false,H1,I1,rfl,q1⟩
theorem KR(ha:PE X a ta)(hb:PE X (.BoolOp .Or (b::rest) pos) tb):PE X (.BoolOp .Or (a::b::rest) pos) (KP ta tb):=by
 intro pins s σ H Q I h;refine BoolOp_or (aD (ha pins s σ H _ I h) fun v s1 ⟨x,H1,I1,r1,q1⟩=>?_);obtain ⟨c,rfl,q1⟩:=q1;cases r1;refine ma ?_;cases c with
 | false=>exact hb pins s1 σ H1 Q I1 q1
 | true=>exact ⟨.bl true,H1,I1,rfl,q1⟩
theorem KS(ha:PE X a ta):PE X (.UnaryOp .Not a pos) (KQ ta):=by intro pins s σ H Q I h;refine UnaryOp_ (aD (ha pins s σ H _ I h) fun v s1 ⟨x,H1,I1,r1,q1⟩=>?_);obtain ⟨c,rfl,q1⟩:=q1;cases r1;exact not_of (ma ⟨.bl (!c),H1,I1,rfl,q1⟩)
end
def aO(K:aB)(H:Hp)(a:Addr)(xs:List V):Prop:=
 Rd H a (.lst xs) ∨
  ∃(o:Obj) (its:Array Value) (n:Nat),K.lookup a=some o∧o.cls=.type "list"∧o.dict=none∧o.data=.seq its n∧its.size≤sizeLine∧Vals xs its.toList
def e8(K:aB)(H:Hp)(a:Addr)(xs:List V):Prop:=
 Rd H a (.tup xs) ∨
  ∃(o:Obj) (its:Array Value) (n:Nat),K.lookup a=some o∧o.cls=.type "tuple"∧o.data=.seq its n∧its.size≤sizeLine∧Vals xs its.toList
def KU:Value→Option V
 | .none=>some .aJ
 | .bool b=>some (.bl b)
 | .int i _=>some (.int i)
 | .str x _=>some (.str x)
 | .bytes b _=>some (.jv b)
 | .float b _=>some (.qI b)
 | .ref a=>some (.ref a)
 | .type n=>some (.ty n)
 | _=>none
variable {x:V} {u:Value}
theorem RelV.abs(r:RelV x u):KU u=some x:=by
 cases x with
 | aJ=>cases r;rfl
 | bl _=>cases r;rfl
 | int _=>obtain ⟨t,rfl⟩:=r;rfl
 | str _=>obtain ⟨t,rfl⟩:=r;rfl
 | jv _=>obtain ⟨t,rfl⟩:=r;rfl
 | qI _=>obtain ⟨t,rfl⟩:=r;rfl
 | ref _=>cases r;rfl
 | ty _=>cases r;rfl
theorem RelV.inj{y:V}(r:RelV x u)(q:RelV y u):x=y:=Option.some.inj (r.abs.symm.trans q.abs)
theorem Vals.inj:∀{xs ys:List V} {us:List Value},Vals xs us→Vals ys us→xs=ys
 | _,_,_,.nil,.nil=>rfl
 | _,_,_,.cons r t,.cons r' t'=>by rw [r.inj r',Vals.inj t t']
section
variable {X:Cx} {pins:aI} {σ:St} {H:Hp} {s:Shared} {a:Addr} {xs ys:List V}
variable {K:aB}
theorem aO.of(h:H a=some (.lst xs)):aO K H a xs:=.inl (.inl h)
theorem e8.of(h:H a=some (.tup xs)):e8 K H a xs:=.inl (.inl h)
theorem Inv.list(I:Inv X pins σ H s)(h:aO X.K H a xs):∃its:List Value,Vals xs its∧PlainL s.heap a its.toArray∧xs.length≤sizeLine:=by
 rcases h with h | ⟨o,its,n,hk,hc,hd,hs,hz,r⟩
 ·obtain ⟨z,its,n,r,e⟩:=h.ok I.aw
  exact ⟨its,r,⟨_,n,e,rfl,rfl,rfl⟩,z⟩
 ·refine ⟨its.toList,r,⟨o,n,I.ee a o hk,hc,hd,by simpa using hs⟩,?_⟩
  have e:=r.length;simp only [fF] at e;omega
theorem Inv.tuple(I:Inv X pins σ H s)(h:e8 X.K H a xs):∃its:List Value,Vals xs its∧IsTup s.heap a its.toArray∧xs.length≤sizeLine:=by
 rcases h with h | ⟨o,its,n,hk,hc,hs,hz,r⟩
 ·obtain ⟨z,its,r,p⟩:=h.ok I.aw
  exact ⟨its,r,p,z⟩
 ·refine ⟨its.toList,r,⟨o,I.ee a o hk,hc,n,by simpa using hs⟩,?_⟩
  have e:=r.length;simp only [fF] at e;omega
theorem Inv.xC(I:Inv X pins σ H s)(h:aO X.K H a xs)(h':aO X.K H a ys):xs=ys:=by
 obtain ⟨its,r,⟨o,n,e,_,_,d⟩,_⟩:=I.list h;obtain ⟨its',r',⟨o',n',e',_,_,d'⟩,_⟩:=I.list h';rw [e] at e';cases e';rw [d] at d';injection d' with d1 _;have:its=its':=by simpa using cR Array.toList d1
 subst this;exact r.inj r'
theorem Inv.KW(I:Inv X pins σ H s)(h:e8 X.K H a xs)(h':e8 X.K H a ys):xs=ys:=by
 obtain ⟨its,r,⟨o,e,_,n,d⟩,_⟩:=I.tuple h;obtain ⟨its',r',⟨o',e',_,n',d'⟩,_⟩:=I.tuple h';rw [e] at e';cases e';rw [d] at d';injection d' with d1 _;have:its=its':=by simpa using cR Array.toList d1
 subst this;exact r.inj r'
end
abbrev Cx.kh (X:Cx) (E:aM):Cx:={X with xe:=E}
abbrev Cx.lA (X:Cx):Cx:=X.kh fun _ _=>False
theorem Cx.Ok.kh(ok:X.Ok)(E:aM):(X.kh E).Ok:=
 ⟨ok.mod,ok.kind,ok.glob,ok.blt,ok.above,ok.inj,ok.has,ok.uM,ok.hd,ok.frames,ok.iq,ok.Ed,ok.bs,ok.iu,ok.oi,ok.oj,ok.jx,ok.mB⟩
theorem Cx.Ok.mE(ok:(X.kh E).Ok):X.Ok:=
 ⟨ok.mod,ok.kind,ok.glob,ok.blt,ok.above,ok.inj,ok.has,ok.uM,ok.hd,ok.frames,ok.iq,ok.Ed,ok.bs,ok.iu,ok.oi,ok.oj,ok.jx,ok.mB⟩
section
variable {X:Cx} {pins:aI} {σ:St} {H:Hp} {s:Shared} {E:aM}
theorem Inv.kh(I:Inv X pins σ H s)(E:aM):Inv (X.kh E) pins σ H s:=⟨I.ok.kh E,I.os,I.bare,I.base,I.loc,I.cell,I.free,I.iU,I.pin,I.aw,I.len⟩
theorem Inv.mE(I:Inv (X.kh E) pins σ H s):Inv X pins σ H s:=⟨I.ok.mE,I.os,I.bare,I.base,I.loc,I.cell,I.free,I.iU,I.pin,I.aw,I.len⟩
theorem SP.mE{D:Ends}{f:Flow}{s':Shared}(h:SP (X.kh E) pins D f s'):SP X pins D f s':=by
 cases f with
 | next=>obtain ⟨σ',H',I,q⟩:=h;exact ⟨σ',H',I.mE,q⟩
 | brk=>obtain ⟨σ',H',I,q⟩:=h;exact ⟨σ',H',I.mE,q⟩
 | cont=>obtain ⟨σ',H',I,q⟩:=h;exact ⟨σ',H',I.mE,q⟩
 | ret u=>obtain ⟨v,σ',H',I,r,q⟩:=h;exact ⟨v,σ',H',I.mE,r,q⟩
theorem eL.lA{st:List Stmt}{t:TS}(h:eL X.lA st t):eL X st t:=fun pins s σ H D I hw=>bZ (h pins s σ H D (I.kh _) hw) (fun _ _ q=>q.mE) fun _ _ z=>False.elim z
end
section
variable {X:Cx} {st:Stmt} {rest:List Stmt} {t u:TS} {e:Expr} {te:TE} {pos:Pos}
def jz:TS:=fun D σ H=>D.nx σ H
def AS(t u:TS):TS:=fun D σ H=>t {D with nx:=u D} σ H
theorem dG:eL X [] jz:=fun _ _ σ H _ I h=>wQ ⟨σ,H,I,h⟩
theorem aF(h1:PS X st t)(h2:eL X rest u):eL X (st::rest) (AS t u):=by
 intro pins s σ H D I h;refine wpAny_execs_cons (aD (h1 pins s σ H {D with nx:=u D} I h) fun f s1 q=>?_);cases f with
 | next=>obtain ⟨σ',H',I',q⟩:=q;exact h2 pins s1 σ' H' D I' q
 | ret v=>exact q
 | brk=>exact q
 | cont=>exact q
theorem aK(h1:PS X st t):eL X [st] t:=by
 intro pins s σ H D I h;refine wpAny_execs_cons (aD (h1 pins s σ H D I h) fun f s1 q=>?_);cases f with
 | next=>exact wQ q
 | ret v=>exact q
 | brk=>exact q
 | cont=>exact q
theorem Inv.quiet{pins:aI}{σ:St}(I:Inv X pins σ H s):interactive X.env=false:=by simp [interactive,I.ok.kind]
def KY(te:TE):TS:=fun D σ H=>te σ H fun _ H1=>D.nx σ H1
theorem iW(he:PE X e te)(hs:swapsWith e none pos.line X.env=pure false:=by rfl):PS X (.Expr e pos) (KY te):=by intro pins s σ H D I h;exact wpAny_Expr_any (aD (he pins s σ H _ I h) fun v s1 ⟨x,H1,I1,r1,q1⟩=>⟨σ,H1,I1,q1⟩) I.quiet hs
def Eo(te:TE):TS:=fun D σ H=>te σ H D.rt
theorem bF(he:PE X e te):PS X (.Return (some e) pos) (Eo te):=by intro pins s σ H D I h;exact wpAny_Return_some (aD (he pins s σ H _ I h) fun v s1 ⟨x,H1,I1,r1,q1⟩=>⟨x,σ,H1,I1,r1,q1⟩)
def AU(c:TT)(t u:TS):TS:=fun D σ H=>c σ H fun b H1=>if b=true then t D σ H1 else u D σ H1
theorem dv{c:Expr}{a b:List Stmt}{tc:TT}(hc:PT X c tc)(ha:eL X a t)(hb:eL X b u):PS X (.If c a b pos) (AU tc t u):=by
 intro pins s σ H D I h;refine wpAny_If (aD (hc pins s σ H _ I h) fun d s1 ⟨H1,I1,q1⟩=>?_);cases d with
 | true=>exact ha pins s1 σ H1 D I1 q1
 | false=>exact hb pins s1 σ H1 D I1 q1
end
abbrev TG:=V→St→Hp→(St→Hp→Prop)→Prop
abbrev oo:=List V→St→Hp→(St→Hp→Prop)→Prop
def PG(X:Cx)(target:Expr)(t:TG):Prop:=
 ∀(pins:aI) (s:Shared) (σ:St) (H:Hp) (v:V) (u:Value) (Q:St→Hp→Prop),Inv X pins σ H s→RelV v u→t v σ H Q→
  wpAny (model X.prog X.w) X.A (assign target X.env u) (fun _ s'=>∃σ' H',Inv X pins σ' H' s'∧Q σ' H') X.xe s
def xD(X:Cx)(ts:List Expr)(t:oo):Prop:=
 ∀(pins:aI) (s:Shared) (σ:St) (H:Hp) (vs:List V) (us:List Value) (Q:St→Hp→Prop),Inv X pins σ H s→Vals vs us→t vs σ H Q→
  wpAny (model X.prog X.w) X.A (assignInOrder ((assignEach ts X.env).map (·.2)) us) (fun _ s'=>∃σ' H',Inv X pins σ' H' s'∧Q σ' H') X.xe s
abbrev uU:=V→V→V→Hp→(Hp→Prop)→Prop
def AV(X:Cx)(t:uU):Prop:=
 ∀(pins:aI) (s:Shared) (σ:St) (H:Hp) (o i v:V) (ov iv u:Value) (Q:Hp→Prop),Inv X pins σ H s→RelV o ov→RelV i iv→RelV v u→t o i v H Q→
  wpAny (model X.prog X.w) X.A (setItem ov iv u) (fun _ s'=>∃H',Inv X pins σ H' s'∧Q H') X.xe s
abbrev qN:=V→V→Hp→VK→Prop
def AW(X:Cx)(op:Operator)(t:qN):Prop:=
 ∀(pins:aI) (s:Shared) (σ:St) (H:Hp) (x y:V) (v u:Value) (Q:VK),Inv X pins σ H s→RelV x v→RelV y u→t x y H Q→
  wpAny (model X.prog X.w) X.A (inplaceOp op v u) (EP X pins σ Q) X.xe s
section
variable {X:Cx} {pos:Pos}
def aX(i:Nat):TG:=fun v σ H Q=>Q (σ.set i (some v)) H
variable {i:Nat}
theorem dc{x:Str}(hN:X.N.Nodup)(hi:X.N[i]?=some x)(hx:Loc X.env.scope x)(hf:X.fn x=true∨X.env.scope.names.lookup x=some .local:=by first | exact .inl rfl | exact .inr rfl | assumption):PG X (.Name x pos) (aX i):=by intro pins s σ H v u Q I r h;exact wpAny_assign_Name (AO I hN hi hx r (fun s' I'=>⟨_,H,I',h⟩) hf)
def Ep:oo:=fun vs σ H Q=>vs=[]∧Q σ H
def AX(t:TG)(u:oo):oo:=fun vs σ H Q=>∃v r,vs=v::r∧t v σ H fun σ' H'=>u r σ' H' Q
theorem qO:xD X [] Ep:=by intro pins s σ H vs us Q I r h;obtain ⟨e,h⟩:=h;subst e;cases r;exact assignInOrder_nil ⟨σ,H,I,h⟩
variable {e:Expr} {es:List Expr}
theorem iX{t:TG}{u:oo}(h1:PG X e t)(h2:xD X es u)
  (hs:(assignEach (e::es) X.env).map (·.2)=assign e X.env::(assignEach es X.env).map (·.2):=by rfl):xD X (e::es) (AX t u):=by
 intro pins s σ H vs us Q I r h;obtain ⟨v,vr,e1,h⟩:=h;subst e1;cases r with
 | cons r rr=>rw [hs];refine assignInOrder_cons (aD (h1 pins s σ H _ _ _ I r h) fun _ s1 ⟨σ1,H1,I1,q1⟩=>?_);exact h2 pins s1 σ1 H1 _ _ Q I1 rr q1
def Er(K:aB)(n:Nat)(t:oo):TG:=fun v σ H Q=>∃a xs,v=.ref a∧e8 K H a xs∧xs.length=n∧t xs σ H Q
theorem qP{k:Nat}{t:oo}{n:Nat}(hc:X.calm=true)(h:xD X es t)
  (hn:(assignEach es X.env).length=n:=by rfl) (KZ:(assignEach es X.env).findIdx? (·.1)=none:=by rfl):PG X (.Tuple es k pos) (Er X.K n t):=by
 intro pins s σ H v u Q I r hw;obtain ⟨a,xs,e1,hq,hl,hw⟩:=hw;subst e1;cases r;obtain ⟨its,rv,ht,hz⟩:=I.tuple hq;refine assign_Tuple_tuple (I.ok.hd hc) ht (by simp [hn,←hl,rv.length]) KZ fun h' hx=>?_
 have I1:Inv X pins σ H {s with heap:=h'}:=I.kept (t':=s.toks) fun b o e=>hx b o (bX (aU e)) e;exact h pins _ σ H xs _ Q I1 (by simpa using rv) hw
def K8(to ti:TE)(t:uU):TG:=fun v σ H Q=>to σ H fun o H1=>ti σ H1 fun i H2=>t o i v H2 fun H3=>Q σ H3
theorem uV{o i:Expr}{to ti:TE}{t:uU}(ho:PE X o to)(hi:PE X i ti)(hs:AV X t)
  (ha:∀v,assign (.Subscript o i pos) X.env v=(do
   let ov ←holding [v] (eval o X.env)
   let iv ←holding [v,ov] (eval i X.env)
   standAt pos
   holding [v,ov,iv] (setItem ov iv v)
   release [v,ov,iv] []):=by intro _;rfl):PG X (.Subscript o i pos) (K8 to ti t):=by
 intro pins s σ H v u Q I r h
 rw [ha]
 refine a8 (qq (aD (ho pins s σ H _ I h) fun ov s1 ⟨x,H1,I1,r1,q1⟩=>?_))
 refine a8 (qq (aD (hi pins s1 σ H1 _ I1 q1) fun iv s2 ⟨y,H2,I2,r2,q2⟩=>?_))
 refine a8 (ug (a8 (qq (aD (hs pins s2 σ H2 x y v ov iv u _ I2 r1 r2 r q2) fun _ s3 ⟨H3,I3,q3⟩=>?_))))
 exact wpAny_release ⟨σ,H3,I3,q3⟩
def oq(te:TE)(g:TG):TS:=fun D σ H=>te σ H fun x H1=>g x σ H1 D.nx
theorem uW{tg e:Expr}{te:TE}{g:TG}(he:PE X e te)(hg:PG X tg g)(hs:swapsWithSole [tg] e pos.line X.env=pure false:=by rfl)(hw:swappedStores [tg] e X.env=pure none:=by rfl)
  (h1:(assignEach [tg] X.env).map (·.2)=[assign tg X.env]:=by rfl):PS X (.Assign [tg] e pos) (oq te g):=by
 intro pins s σ H D I h;refine wpAny_Assign_stores (aD (he pins s σ H _ I h) fun v s1 ⟨x,H1,I1,r1,q1⟩=>?_) hs hw;rw [h1];exact aD (hg pins s1 σ H1 x v _ I1 r1 q1) fun _ s2 q=>q
variable {te:TE} {pos':Pos}
theorem K9{x:Str}(hN:X.N.Nodup)(hi:X.N[i]?=some x)(hx:Loc X.env.scope x)(he:PE X e te)(hs:swapsWith e (some (.Name x pos')) pos.line X.env=pure false:=by rfl)(hf:X.fn x=true∨X.env.scope.names.lookup x=some .local:=by first | exact .inl rfl | exact .inr rfl | assumption) :
  PS X (.Assign [.Name x pos'] e pos) (oq te (aX i)):=by
 intro pins s σ H D I h;refine wpAny_Assign_Name (aD (he pins s σ H _ I h) fun v s1 ⟨y,H1,I1,r1,q1⟩=>?_) hs;exact AO I1 hN hi hx r1 (fun s2 I2=>⟨_,H1,I2,q1⟩) hf
def K_(i:Nat)(te:TE)(ti:qN):TS:=fun D σ H=>∃x,σ[i]?=some (some x)∧te σ H fun y H1=>ti x y H1 fun z H2=>D.nx (σ.set i (some z)) H2
theorem La{x:Str}{op:Operator}{ti:qN}(hN:X.N.Nodup)(hi:X.N[i]?=some x)(hx:Loc X.env.scope x)(he:PE X e te)(ho:AW X op ti)(hf:X.fn x=true∨X.env.scope.names.lookup x=some .local:=by first | exact .inl rfl | exact .inr rfl | assumption) :
  PS X (.AugAssign (.Name x pos') op e pos) (K_ i te ti):=by
 intro pins s σ H D I h;obtain ⟨v,e1,h⟩:=h;obtain ⟨m,hn,hl⟩:=I.loc;have Lb:my X.env.scope x:=by rcases hx with k | k;exact .inl k;exact .inr (.inl k)
 obtain ⟨u,r,l⟩:=hl i x v hi e1 Lb;refine wpAny_AugAssign_Name ?_;have go:wpAny (model X.prog X.w) X.A (eval e X.env) (fun w s₂=>wpAny (model X.prog X.w) X.A (inplaceOp op u w) (fun r s₃=>wpAny (model X.prog X.w) X.A (storeName X.env x r) (fun _=>SP X pins D .next) X.xe s₃) X.xe s₂) X.xe s:=by refine aD (he pins s σ H _ I h) fun w s1 ⟨y,H1,I1,r1,q1⟩=>?_;refine aD (ho pins s1 σ H1 v y u w _ I1 r r1 q1) fun z s2 ⟨zv,H2,I2,r2,q2⟩=>?_;exact AO I2 hN hi hx r2 (fun s3 I3=>⟨_,H2,I3,q2⟩) hf
 rcases l with ⟨hk,hm⟩ | ⟨hk,c,hc,jy⟩;·exact wpAny_loadName_local I.ok.kind hk hn hm go
 ·rcases hk with hk | hk
  ·exact wpAny_loadName_cell I.ok.kind hk hc jy go
  ·rcases hx with k | k
   ·have:X.env.scope.names.lookup x=some .free:=hk
    rw [k] at this;cases this
   ·have:X.env.scope.names.lookup x=some .free:=hk
    rw [k] at this;cases this
def Lc(to ti te:TE)(xE:V→V→Hp→VK→Prop)(xF:qN)(xG:uU):TS:=fun D σ H=>to σ H fun o H1=>ti σ H1 fun i H2=>xE o i H2 fun x H3=>te σ H3 fun y H4=>xF x y H4 fun z H5=>xG o i z H5 fun H6=>D.nx σ H6
def Es(X:Cx)(t:V→V→Hp→VK→Prop):Prop:=
 ∀(pins:aI) (s:Shared) (σ:St) (H:Hp) (o i:V) (ov iv:Value) (Q:VK),Inv X pins σ H s→RelV o ov→RelV i iv→t o i H Q→
  wpAny (model X.prog X.w) X.A (getItem ov iv) (EP X pins σ Q) X.xe s
theorem Ld{o i e:Expr}{to ti te:TE}{xE:V→V→Hp→VK→Prop}{xF:qN}{xG:uU}{op:Operator}{mF:Pos}(ho:PE X o to)(hi:PE X i ti)(hg:Es X xE)(he:PE X e te)(hp:AW X op xF)(hs:AV X xG)
  (ha:∀ov iv new,augStore i ov iv new=(do holding [new,ov,iv] (setItem ov iv new);release [new,ov,iv] [];pure .next):=by intros;rfl):PS X (.AugAssign (.Subscript o i mF) op e pos) (Lc to ti te xE xF xG):=by
 intro pins s σ H D I h
 refine wpAny_AugAssign_SubscriptAny (aD (ho pins s σ H _ I h) fun ov s1 ⟨x1,H1,I1,r1,q1⟩=>?_) ha
 refine aD (hi pins s1 σ H1 _ I1 q1) fun iv s2 ⟨x2,H2,I2,r2,q2⟩=>?_
 refine aD (hg pins s2 σ H2 x1 x2 ov iv _ I2 r1 r2 q2) fun old s3 ⟨x3,H3,I3,r3,q3⟩=>?_
 refine aD (he pins s3 σ H3 _ I3 q3) fun v s4 ⟨x4,H4,I4,r4,q4⟩=>?_
 refine aD (hp pins s4 σ H4 x3 x4 old v _ I4 r3 r4 q4) fun new s5 ⟨x5,H5,I5,r5,q5⟩=>?_
 exact aD (hs pins s5 σ H5 x1 x2 x5 ov iv new _ I5 r1 r2 r5 q5) fun _ s6 ⟨H6,I6,q6⟩=>⟨σ,H6,I6,q6⟩
def Le(f:Int→Int→Int):qN:=fun x y H Q=>∃i j,x=.int i∧y=.int j∧Q (.int (f i j)) H
theorem Et:AW X .Add (Le fun i j=>i+j):=by intro pins s σ H x y v u Q I r1 r2 h;obtain ⟨i,j,e1,e2,q⟩:=h;subst e1;subst e2;obtain ⟨t,rfl⟩:=r1;obtain ⟨t',rfl⟩:=r2;exact iadd_int ⟨.int _,H,I.tok _,⟨_,rfl⟩,q⟩
end
section
variable {X:Cx} {pos:Pos}
def Lf(c:TT)(tb:TS):TS:=fun D σ H=>∃W:Nat→St→Hp→Prop,(∃m,W m σ H)∧∀m σ H,W m σ H→
 c σ H fun b H1=>if b=true then ∃N:St→Hp→Prop,(∀σ' H',N σ' H'→∃m',m'<m∧W m' σ' H')∧tb {D with nx:=N,ct:=N,bk:=D.nx} σ H1 else D.nx σ H1
theorem xH{c:Expr}{body:List Stmt}{tc:TT}{tb:TS}(hp:PassesOwn (model X.prog X.w) X.A X.env X.xe)(hc:PT X c tc)(hb:eL X body tb):PS X (.While c body [] pos) (Lf tc tb):=by
 intro pins s σ H D I h;obtain ⟨W,⟨m0,w0⟩,turn⟩:=h;refine wpAny_While (codeAny_whileLoop (fun n s'=>∃σ' H',Inv X pins σ' H' s'∧W n σ' H') ?_ m0 ⟨σ,H,I,w0⟩);rintro n s1 ⟨σ1,H1,I1,w1⟩;refine nO hp (aD (hc pins s1 σ1 H1 _ I1 (turn n σ1 H1 w1)) fun b s2 ⟨H2,I2,q2⟩=>?_);cases b with
 | true=>
  obtain ⟨N,hN,q2⟩:=q2;rw [ae rfl];refine nO hp (aD (hb pins s2 σ1 H2 _ I2 q2) fun f s3 q3=>?_);cases f with
  | next=>obtain ⟨σ3,H3,I3,n3⟩:=q3;obtain ⟨m',hm,w3⟩:=hN σ3 H3 n3;exact ⟨m',hm,σ3,H3,I3,w3⟩
  | cont=>obtain ⟨σ3,H3,I3,n3⟩:=q3;obtain ⟨m',hm,w3⟩:=hN σ3 H3 n3;exact ⟨m',hm,σ3,H3,I3,w3⟩
  | brk=>exact q3
  | ret v=>exact q3
 | false=>rw [aa da];exact wQ ⟨σ1,H2,I2,q2⟩
end
structure It where
 go:Nat→Hp→Prop
 dw:Nat→Hp→V→Hp→Prop
 stop:Nat→Hp→Prop
def lB(X:Cx)(pins:aI)(H:Hp)(b:Addr):Prop:=
 H b=none∧b≠X.env.locals∧b∉X.fs∧(b∈X.ex∨X.s₀.heap.objs.size≤b)∧(∀x c,X.env.cells.lookup x=some c→c≠b)∧∀p∈X.pn++pins,p.1≠b
variable {σ:St}
theorem Inv.qQ{pins:aI}{H':Hp}(I:Inv X pins σ H s)(hb:s.heap.objs.size≤b)(hn:H' b=none):lB X pins H' b:=by
 refine ⟨hn,Nat.ne_of_gt (dD I.lt hb),I.Kz hb,.inr (cj I.sz hb),fun x c e z=>?_,fun p hp z=>?_⟩
 ·obtain ⟨v,q⟩:=I.cell x c e
  exact absurd (dD q.lt (by rw [z];exact hb)) (eG _)
 ·exact absurd (dD (aU (I.pin p hp).1) (by rw [z];exact hb)) (eG _)
structure Turn (P:Program) (w:World) (K:aB) (tg:Expr) (J:It) (fp:List Addr) (it:Addr) (tn:Nat→Heap→Prop):Prop where
 mem:it∈fp
 obj:∀i h,tn i h→∀b∈fp,∃o,h.get? b=some o∧∀v,o.data≠.cell v
 keep:∀i h h',tn i h→(∀b∈fp,∀o,h.get? b=some o→h'.get? b=some o)→tn i h'
 item:∀(X:Cx),X.prog=P→X.w=w→X.K=K→X.calm=true→∀(i:Nat) (pins:aI) (s:Shared) (σ:St) (H:Hp) (E:aM),Inv X pins σ H s→(∀b∈fp,lB X pins H b)→tn i s.heap→J.go i H→
  wpAny (model P w) X.A (pyNext (.ref it)) (fun r s1=>∃u,r=some u ∧
   wpAny (model P w) X.A (letOwnedTupleGo tg (.ref it) u) (fun _ s2=>∃x H',Inv X pins σ H' s2∧RelV x u∧J.dw i H x H'∧tn (i+1) s2.heap∧∀b∈fp,H' b=none) E s1) E s
 done:∀(X:Cx),X.prog=P→X.w=w→X.K=K→X.calm=true→∀(i:Nat) (pins:aI) (s:Shared) (σ:St) (H:Hp) (E:aM),Inv X pins σ H s→(∀b∈fp,lB X pins H b)→tn i s.heap→J.stop i H→
  wpAny (model P w) X.A (pyNext (.ref it)) (fun r s1=>r=none∧Inv X pins σ H s1) E s
 self:∀(A:Around) (i:Nat) (s:Shared) (Q:aM) (E:aM),tn i s.heap→Q (.ref it) s→wpAny (model P w) A (pyIter (.ref it)) Q E s
abbrev TI:=St→Hp→(It→Hp→Prop)→Prop
def AY(X:Cx)(pins:aI)(σ:St)(tg:Expr)(R:It→Hp→Prop)(uX:Value)(s2:Shared):Prop:=
 ∃(it:Addr) (fp:List Addr) (tn:Nat→Heap→Prop) (J:It) (H':Hp),uX=.ref it∧Inv X pins σ H' s2∧Turn X.prog X.w X.K tg J fp it tn∧tn 0 s2.heap∧(∀b∈fp,lB X pins H' b)∧R J H'
def PI(X:Cx)(tg iter:Expr)(wi:TI):Prop:=
 ∀(pins:aI) (s:Shared) (σ:St) (H:Hp) (R:It→Hp→Prop),Inv X pins σ H s→wi σ H R→
  wpAny (model X.prog X.w) X.A (eval iter X.env) (fun v s1=>wpAny (model X.prog X.w) X.A (pyIter v) (AY X pins σ tg R) X.xe s1) X.xe s
variable {tg:Expr}
theorem xI{it:Addr}{o:Obj}{n:String}{vs:Array Value}{Q:Unit→Shared→Prop}(ho:s.heap.get? it=some o)(hc:o.cls=.type n)(hd:o.data=.fields vs)
    (hn:["enumerate","zip","dict_itemiterator","dict_reverseitemiterator","odict_iterator","itertools.zip_longest","itertools.pairwise"].contains n=false) (hQ:Q () s):wpAny M A (letOwnedTupleGo tg (.ref it) u) Q E s:=by
  unfold letOwnedTupleGo
  cases tg <;> first
    | exact cS hQ
    | (cases u <;> first
        | exact cS hQ
        | (refine a8 (wpAny_load ho ?_)
           rw [hc,hd];show wpAny M A (if (["enumerate","zip","dict_itemiterator","dict_reverseitemiterator","odict_iterator","itertools.zip_longest","itertools.pairwise"].contains n && vs[0]? == some (rawInt _))=true then _ else _) Q E s
           rw [aa (by intro h;rw [hn,uh] at h;cases h)]
           exact cS hQ))
def lC(K:aB)(a:Addr):It:=
 ⟨fun i H=>∃xs x,aO K H a xs∧xs[i]?=some x,fun i H x H'=>H'=H∧∀xs,aO K H a xs→xs[i]?=some x,fun i H=>∃xs,aO K H a xs∧xs.length≤i⟩
def qR(K:aB)(a:Addr):It:=
 ⟨fun i H=>∃xs x,e8 K H a xs∧xs[i]?=some x,fun i H x H'=>H'=H∧∀xs,e8 K H a xs→xs[i]?=some x,fun i H=>∃xs,e8 K H a xs∧xs.length≤i⟩
def mG(lo:Int)(n:Nat):It:=⟨fun i _=>i<n,fun i H x H'=>H'=H∧x=.int (lo+i),fun i _=>n≤i⟩
variable {K:aB}
theorem Lg(a it:Addr):Turn P w K tg (lC K a) [it] it (fun i h=>h.IsListIter it a i) where
 mem:=by simp
 obj:=fun i h st b hb=>by
  have e:b=it:=by simpa using hb
  subst e;obtain ⟨o,e,c,d⟩:=st;exact ⟨o,e,fun v z=>by rw [d] at z;cases z⟩
 keep:=fun i h h' st k=>st.at fun o e=>k it (by simp) o e
 item:=by
  intro X hP hw hK hc i pins s σ H E I hf st hg;subst hP hw hK;obtain ⟨xs,x,hq,hx⟩:=hg;obtain ⟨its,rv,p,hz⟩:=I.list hq;obtain ⟨u,hu,ru⟩:=rv.get hx;obtain ⟨f0,f1,f2,f3,f4,f5⟩:=hf it (by simp)
  refine wpAny_pyNext_list_item st p.isList (x:=u) (by simpa using hu) fun h' au sb=>?_
  have I1:Inv X pins σ H {s with heap:=h'}:=I.turned (t':=s.toks) (fun b o hb e=>(sb.2 b hb).trans e) f0 f1 f3 f4 f5;obtain ⟨o,e,c,d⟩:=id au;exact ⟨u,rfl,xI (s:={s with heap:=h'}) e c d (by decide) ⟨x,H,I1,ru,⟨rfl,fun ys hy=>by rw [I.xC hy hq];exact hx⟩,au,fun b hb=>(hf b hb).1⟩⟩
 done:=by
  intro X hP hw hK hc i pins s σ H E I hf st hg;subst hP hw hK;obtain ⟨xs,hq,hx⟩:=hg;obtain ⟨its,rv,p,hz⟩:=I.list hq;obtain ⟨f0,f1,f2,f3,f4,f5⟩:=hf it (by simp)
  have hl:=rv.length;exact wpAny_pyNext_list_end (I.ok.hd hc) st p.isList (by simp;omega) fun h' eb=>⟨rfl,I.turned (t':=s.toks) (fun b o hb e=>eb b o hb e) f0 f1 f3 f4 f5⟩
 self:=fun _ _ _ _ _ st h=>wpAny_pyIter_listiter st h
theorem Lh(a it:Addr):Turn P w K tg (qR K a) [it] it (fun i h=>h.IsTupleIter it a i) where
 mem:=by simp
 obj:=fun i h st b hb=>by
  have e:b=it:=by simpa using hb
  subst e;obtain ⟨o,e,c,d⟩:=st;exact ⟨o,e,fun v z=>by rw [d] at z;cases z⟩
 keep:=fun i h h' st k=>st.at fun o e=>k it (by simp) o e
 item:=by
  intro X hP hw hK hc i pins s σ H E I hf st hg;subst hP hw hK;obtain ⟨xs,x,hq,hx⟩:=hg;obtain ⟨its,rv,p,hz⟩:=I.tuple hq;obtain ⟨u,hu,ru⟩:=rv.get hx;obtain ⟨f0,f1,f2,f3,f4,f5⟩:=hf it (by simp)
  refine wpAny_pyNext_tuple_item st (show s.heap.IsTuple a its.toArray from p) (x:=u) (by simpa using hu) fun h' au sb=>?_
  have I1:Inv X pins σ H {s with heap:=h'}:=I.turned (t':=s.toks) (fun b o hb e=>(sb.2 b hb).trans e) f0 f1 f3 f4 f5;obtain ⟨o,e,c,d⟩:=id au;exact ⟨u,rfl,xI (s:={s with heap:=h'}) e c d (by decide) ⟨x,H,I1,ru,⟨rfl,fun ys hy=>by rw [I.KW hy hq];exact hx⟩,au,fun b hb=>(hf b hb).1⟩⟩
 done:=by
  intro X hP hw hK hc i pins s σ H E I hf st hg;subst hP hw hK;obtain ⟨xs,hq,hx⟩:=hg;obtain ⟨its,rv,p,hz⟩:=I.tuple hq;obtain ⟨f0,f1,f2,f3,f4,f5⟩:=hf it (by simp)
  have hl:=rv.length;exact wpAny_pyNext_tuple_end (I.ok.hd hc) st (show s.heap.IsTuple a its.toArray from p) (by simp;omega) fun h' eb=>⟨rfl,I.turned (t':=s.toks) (fun b o hb e=>eb b o hb e) f0 f1 f3 f4 f5⟩
 self:=fun _ _ _ _ _ st h=>wpAny_pyIter_tupleiter st h
theorem Li(it:Addr)(lo:Int)(n:Nat):Turn P w K tg (mG lo n) [it] it (fun i h=>IsRangeIter h it (lo+(i:Nat)*1) ((n:Int)-(i:Nat)) 1) where
 mem:=by simp
 obj:=fun i h st b hb=>by
  have e:b=it:=by simpa using hb
  subst e;exact ⟨_,st,fun v z=>by have z':Data.fields _=Data.cell v:=z;cases z'⟩
 keep:=fun i h h' st k=>k it (by simp) _ st
 item:=by
  intro X hP hw hK hc i pins s σ H E I hf st hg;subst hP hw hK;obtain ⟨f0,f1,f2,f3,f4,f5⟩:=hf it (by simp)
  have W:=Walks.range (prog:=X.prog) (w:=X.w) (I.ok.hd hc) it lo 1 n;refine W.item i s _ _ hg st fun v h' tk hv au kk=>?_;obtain ⟨t,rfl⟩:=hv;have I1:Inv X pins σ H {s with heap:=h',toks:=tk}:=I.turned (fun b o hb e=>kk b o (by simpa using hb) e) f0 f1 f3 f4 f5
  refine ⟨_,rfl,xI (s:={s with heap:=h',toks:=tk}) (n:="range_iterator") au rfl rfl (by decide) ⟨.int (lo+i),H,I1,⟨t,?_⟩,⟨rfl,rfl⟩,au,fun b hb=>(hf b hb).1⟩⟩
  rw [Int.mul_one]
 done:=by
  intro X hP hw hK hc i pins s σ H E I hf st hg;subst hP hw hK;obtain ⟨f0,f1,f2,f3,f4,f5⟩:=hf it (by simp)
  exact wpAny_pyNext_range_end (I.ok.hd hc) st (by have:n≤i:=hg;omega) fun h' eb=>⟨rfl,I.turned (t':=s.toks) (fun b o hb e=>eb b o hb e) f0 f1 f3 f4 f5⟩
 self:=fun _ _ _ _ _ st h=>wpAny_pyIter_rangeiter st h
section
variable {X:Cx} {tg:Expr}
def Lj(K:aB)(tl:TE):TI:=fun σ H R=>tl σ H fun x H1=>∃a,x=.ref a∧(∃xs,aO K H1 a xs)∧R (lC K a) H1
def Ll(K:aB)(tl:TE):TI:=fun σ H R=>tl σ H fun x H1=>∃a,x=.ref a∧(∃xs,e8 K H1 a xs)∧R (qR K a) H1
variable {l:Expr} {tl:TE}
theorem gN(hl:PE X l tl):PI X tg l (Lj X.K tl):=by
 intro pins s σ H R I h;refine aD (hl pins s σ H _ I h) fun v s1 ⟨x,H1,I1,r1,q1⟩=>?_;obtain ⟨a,e,⟨xs,hq⟩,q⟩:=q1;subst e;cases r1;obtain ⟨its,rv,p,hz⟩:=I1.list hq;refine wpAny_pyIter_list p.isList ?_;refine ⟨s1.heap.objs.size,[s1.heap.objs.size],_,_,H1,rfl,I1.kept (t':=s1.toks) fun b o e=>ck _ e,Lg a _,⟨_,eI _ rfl,rfl,rfl⟩,fun b hb=>?_,q⟩;have e:b=s1.heap.objs.size:=by simpa using hb
 subst e;exact I1.qQ (ax _) (I1.aw.fresh (ax _))
theorem xJ(hl:PE X l tl):PI X tg l (Ll X.K tl):=by
 intro pins s σ H R I h;refine aD (hl pins s σ H _ I h) fun v s1 ⟨x,H1,I1,r1,q1⟩=>?_;obtain ⟨a,e,⟨xs,hq⟩,q⟩:=q1;subst e;cases r1;obtain ⟨its,rv,p,hz⟩:=I1.tuple hq;refine wpAny_pyIter_tuple (show s1.heap.IsTuple a its.toArray from p) ?_;refine ⟨s1.heap.objs.size,[s1.heap.objs.size],_,_,H1,rfl,I1.kept (t':=s1.toks) fun b o e=>ck _ e,Lh a _,⟨_,eI _ rfl,rfl,rfl⟩,fun b hb=>?_,q⟩;have e:b=s1.heap.objs.size:=by simpa using hb
 subst e;exact I1.qQ (ax _) (I1.aw.fresh (ax _))
variable {pins:aI}
theorem Eu{R:It→Hp→Prop}{lo hi:Int}{t u v:Tok}{tk:Nat}(I:Inv X pins σ H s)(h1:-(2 ^ 62)≤lo)(h2:lo<2 ^ 62)(h3:-(2 ^ 62)≤hi)(h4:hi<2 ^ 62)
  (q:R (mG lo (hi-lo).toNat) H):wpAny (model X.prog X.w) X.A (pyIter (.ref s.heap.objs.size)) (AY X pins σ tg R) E {s with heap:=s.heap.push {cls:=.type "range",data:=.fields #[.int lo t,.int hi u,.int 1 v]},toks:=tk}:=by
 refine wpAny_pyIter_range (IsRange.new ..) (small_one h1 h2 h3 h4) ?_;have I1:Inv X pins σ H {s with heap:=s.heap.push {cls:=.type "range",data:=.fields #[.int lo t,.int hi u,.int 1 v]},toks:=tk}:=I.kept fun b o e=>ck _ e
 refine ⟨(s.heap.push {cls:=.type "range",data:=.fields #[.int lo t,.int hi u,.int 1 v]}).objs.size,[(s.heap.push {cls:=.type "range",data:=.fields #[.int lo t,.int hi u,.int 1 v]}).objs.size],_,_,H,rfl,
  I1.kept (t':=tk) fun b o e=>ck _ e,Li _ lo (hi-lo).toNat,?_,fun b hb=>?_,q⟩
 ·have e1:lo+((0:Nat):Int)*1=lo:=by simp
  have e2:(((hi-lo).toNat:Nat):Int)-((0:Nat):Int)=Builtin.Range.rangeSize lo hi 1:=by rw [rangeSize_one];split <;> omega
  show IsRangeIter _ _ (lo+((0:Nat):Int)*1) ((((hi-lo).toNat:Nat):Int)-((0:Nat):Int)) 1;rw [e1,e2];exact eI _ rfl
 ·have e:b=(s.heap.push {cls:=.type "range",data:=.fields #[.int lo t,.int hi u,.int 1 v]}).objs.size:=by simpa using hb
  subst e;exact I1.qQ (ax _) (I1.aw.fresh (ax _))
def Lm(ta:TA):TI:=fun σ H R=>ta σ H fun vs H1=>∃j:Int,vs=[.int j]∧-(2 ^ 62)≤j∧j<2 ^ 62∧R (mG 0 j.toNat) H1
def Ln(ta:TA):TI:=fun σ H R=>ta σ H fun vs H1=>∃i j:Int,vs=[.int i,.int j]∧(-(2 ^ 62)≤i∧i<2 ^ 62∧-(2 ^ 62)≤j∧j<2 ^ 62)∧R (mG i (j-i).toNat) H1
variable {ta:TA} {p pos:Pos}
theorem qS{a:Expr}(hg:Gl X "range")(hm:X.mg "range"=none)(ha:PA X [a] ta)(hs:starEach [a] X.env=[(false,eval a X.env)]:=by rfl):PI X tg (.Call (.Name "range" p) [a] [] pos) (Lm ta):=by
 intro pins s σ H R I h;refine Call_ (kg I hg hm boot_range (qr (aD (ha pos pins s σ H _ I h) fun us s1 ⟨vs,H1,I1,r1,q1⟩=>?_) hs rfl));obtain ⟨j,e,q1,q2,q⟩:=q1;subst e;cases r1 with
 | cons r rr=>cases rr;obtain ⟨t,rfl⟩:=r;exact call_range_1 (Eu I1 (by omega) (by omega) q1 q2 (by simpa using q))
theorem Lo{a b:Expr}(hg:Gl X "range")(hm:X.mg "range"=none)(ha:PA X [a,b] ta)(hs:starEach [a,b] X.env=[(false,eval a X.env),(false,eval b X.env)]:=by rfl)(ki:starEach [b] X.env=[(false,eval b X.env)]:=by rfl) :
  PI X tg (.Call (.Name "range" p) [a,b] [] pos) (Ln ta):=by
 intro pins s σ H R I h;refine Call_ (kg I hg hm boot_range (qr (aD (ha pos pins s σ H _ I h) fun us s1 ⟨vs,H1,I1,r1,q1⟩=>?_) (by rw [hs,ki]) (by rw [ki];rfl)))
 obtain ⟨i,j,e,⟨q1,q2,q3,q4⟩,q⟩:=q1;subst e;cases r1 with
 | cons r rr=>
  cases rr with
  | cons r' rr=>cases rr;obtain ⟨t,rfl⟩:=r;obtain ⟨t',rfl⟩:=r';exact call_range_2 (Eu I1 q1 q2 q3 q4 q)
def Lp(wi:TI)(g:TG)(tb:TS):TS:=fun D σ H=>wi σ H fun J H1=>∃W:Nat→Nat→St→Hp→Prop,(∃m,W 0 m σ H1)∧∀i m σ H,W i m σ H→
 (J.stop i H∧D.nx σ H)∨(J.go i H∧∃N:St→Hp→Prop,(∀σ' H',N σ' H'→∃m',m'<m∧W (i+1) m' σ' H')∧∀x H',J.dw i H x H'→g x σ H' fun σ2 H2=>tb {D with nx:=N,ct:=N,bk:=D.nx} σ2 H2)
def kj(fp:List Addr)(h:Heap):List (Addr×Obj):=fp.filterMap fun b=>(h.get? b).map fun o=>(b,o)
variable {fp:List Addr}
theorem mH{o:Obj}(hb:b∈fp)(e:h.get? b=some o):(b,o)∈kj fp h:=wR.mpr ⟨b,hb,by rw [e];rfl⟩
theorem Lq{p:Addr×Obj}(hp:p∈kj fp h):p.1∈fp∧h.get? p.1=some p.2:=by
 obtain ⟨b,hb,e⟩:=wR.mp hp;cases q:h.get? b with
 | none=>rw [q] at e;cases e
 | some o=>rw [q] at e;have e':(b,o)=p:=Option.some.inj e;subst e';exact ⟨hb,q⟩
theorem Inv.pinned(I:Inv X pins σ H s)(hf:∀b∈fp,lB X pins H b)(ho:∀b∈fp,∃o,s.heap.get? b=some o∧∀v,o.data≠.cell v):Inv X (pins++kj fp s.heap) σ H s:=
 I.Ef fun p hp=>(dI.mp hp).elim (fun z=>I.pin p (d_ _ z)) fun z=>by obtain ⟨hb,e⟩:=Lq z;obtain ⟨f0,f1,f2,_⟩:=hf p.1 hb;obtain ⟨o,e',d⟩:=ho p.1 hb;rw [e] at e';cases e';exact ⟨e,f0,f1,f2,d⟩
theorem Inv.qT{pl:aI}(I:Inv X (pins++pl) σ H s):Inv X pins σ H s:=I.Ef fun p hp=>I.pin p (d_ _ (l_ _ hp))
theorem e9{iter:Expr}{body:List Stmt}{wi:TI}{g:TG}{tb:TS}(hp:PassesOwn (model X.prog X.w) X.A X.env X.xe)(hc:X.calm=true)(hi:PI X tg iter wi)(hg:PG X tg g)(hb:eL X body tb)
  (hs:∀x,foldedSetIterable iter X.env x=pure x:=by intro _;rfl):PS X (.For tg iter body [] pos) (Lp wi g tb):=by
 intro pins s σ H D I h;refine wpAny_For (aD (hi pins s σ H _ I h) fun v s1 h1=>aD h1 fun uX s2 h2=>?_) hs;obtain ⟨it,fp,tn,J,H2,e,I2,T,iy,f2,W,⟨m0,w0⟩,turn⟩:=h2;subst e;have gf:∀{H':Hp},(∀b∈fp,H' b=none)→∀b∈fp,lB X pins H' b:=fun hn b hb=>⟨hn b hb,(f2 b hb).2⟩;refine codeAny_forLoop_any (fun n s'=>∃i σ' H',Inv X pins σ' H' s'∧tn i s'.heap∧(∀b∈fp,H' b=none)∧W i n σ' H') ?_ m0 ⟨0,σ,H2,I2,iy,fun b hb=>(f2 b hb).1,w0⟩;rintro n s3 ⟨i,σ3,H3,I3,Ew,Ex,w3⟩;rcases turn i n σ3 H3 w3 with ⟨stop,qn⟩ | ⟨go,N,hN,step⟩
 ·refine nO hp (aD (T.done X rfl rfl rfl hc i pins s3 σ3 H3 X.xe I3 (gf Ex) Ew stop) fun r s4 ⟨hr,I4⟩=>?_)
  subst hr;exact wQ ⟨σ3,H3,I4,qn⟩
 ·refine nO hp (aD (T.item X rfl rfl rfl hc i pins s3 σ3 H3 X.xe I3 (gf Ex) Ew go) fun r s4 ⟨u,hr,h4⟩=>?_)
  subst hr;refine nO hp (aD h4 fun _ s5 ⟨x,H5,I5,r5,y5,gg,ot⟩=>?_);have ou:=I5.pinned (gf ot) (T.obj _ _ gg);refine nO hp (aD (hg _ s5 σ3 H5 x u _ ou r5 (step x H5 y5)) fun _ s6 ⟨σ6,H6,I6,q6⟩=>?_);refine nO hp (aD (hb _ s6 σ6 H6 _ I6 q6) fun f s7 q7=>?_);have again:∀{σ7:St} {H7:Hp},Inv X (pins++kj fp s5.heap) σ7 H7 s7→N σ7 H7→∃m,m<n∧∃i σ' H',Inv X pins σ' H' s7∧tn i s7.heap∧(∀b∈fp,H' b=none)∧W i m σ' H':=fun{σ7 H7} I7 n7=>by obtain ⟨m',hm,w7⟩:=hN σ7 H7 n7;refine ⟨m',hm,i+1,σ7,H7,I7.qT,T.keep _ _ _ gg fun b hb o e=>(I7.pin (b,o) (d_ _ (d_ _ (mH hb e)))).1,fun b hb=>?_,w7⟩;obtain ⟨o,e,d⟩:=T.obj _ _ gg b hb;exact (I7.pin (b,o) (d_ _ (d_ _ (mH hb e)))).2.1
  cases f with
  | next=>obtain ⟨σ7,H7,I7,n7⟩:=q7;exact again I7 n7
  | cont=>obtain ⟨σ7,H7,I7,n7⟩:=q7;exact again I7 n7
  | brk=>obtain ⟨σ7,H7,I7,q7⟩:=q7;exact ⟨σ7,H7,I7.qT,q7⟩
  | ret v=>obtain ⟨x7,σ7,H7,I7,r7,q7⟩:=q7;exact ⟨x7,σ7,H7,I7.qT,r7,q7⟩
end
variable {g:TG} {tb:TS} {D:Ends}
theorem qU(Pv:Nat→St→Hp→Prop)(h0:Pv 0 σ H)(hl:∀i σ H,i≤xs.length→Pv i σ H→aO K H a xs)
  (hs:∀i x σ H,xs[i]?=some x→Pv i σ H→g x σ H fun σ2 H2=>tb {D with nx:=Pv (i+1),ct:=Pv (i+1),bk:=D.nx} σ2 H2) (hd:∀σ H,Pv xs.length σ H→D.nx σ H) :
  ∃W:Nat→Nat→St→Hp→Prop,(∃m,W 0 m σ H)∧∀i m σ H,W i m σ H→
   ((lC K a).stop i H∧D.nx σ H)∨((lC K a).go i H∧∃N:St→Hp→Prop,(∀σ' H',N σ' H'→∃m',m'<m∧W (i+1) m' σ' H')∧∀x H',(lC K a).dw i H x H'→g x σ H' fun σ2 H2=>tb {D with nx:=N,ct:=N,bk:=D.nx} σ2 H2):=by
 refine ⟨fun i m σ H=>m=xs.length-i∧i≤xs.length∧Pv i σ H,⟨xs.length,by simp,b7 _,h0⟩,?_⟩
 rintro i m σ H ⟨rfl,hi,p⟩;have q:=hl i σ H hi p;by_cases a_:i<xs.length
 ·refine .inr ⟨⟨xs,xs[i],q,by simp [a_]⟩,Pv (i+1),fun σ' H' p'=>⟨xs.length-(i+1),by omega,rfl,a_,p'⟩,fun x H' y=>?_⟩
  obtain ⟨e,y⟩:=y;subst e;exact hs i x σ _ (y xs q) p
 ·have e:i=xs.length:=by omega
  subst e;exact .inl ⟨⟨xs,q,ax _⟩,hd σ H p⟩
theorem Ey(Pv:Nat→St→Hp→Prop)(h0:Pv 0 σ H)(hl:∀i σ H,i≤xs.length→Pv i σ H→e8 K H a xs)
  (hs:∀i x σ H,xs[i]?=some x→Pv i σ H→g x σ H fun σ2 H2=>tb {D with nx:=Pv (i+1),ct:=Pv (i+1),bk:=D.nx} σ2 H2) (hd:∀σ H,Pv xs.length σ H→D.nx σ H) :
  ∃W:Nat→Nat→St→Hp→Prop,(∃m,W 0 m σ H)∧∀i m σ H,W i m σ H→
   ((qR K a).stop i H∧D.nx σ H)∨((qR K a).go i H∧∃N:St→Hp→Prop,(∀σ' H',N σ' H'→∃m',m'<m∧W (i+1) m' σ' H')∧∀x H',(qR K a).dw i H x H'→g x σ H' fun σ2 H2=>tb {D with nx:=N,ct:=N,bk:=D.nx} σ2 H2):=by
 refine ⟨fun i m σ H=>m=xs.length-i∧i≤xs.length∧Pv i σ H,⟨xs.length,by simp,b7 _,h0⟩,?_⟩
 rintro i m σ H ⟨rfl,hi,p⟩;have q:=hl i σ H hi p;by_cases a_:i<xs.length
 ·refine .inr ⟨⟨xs,xs[i],q,by simp [a_]⟩,Pv (i+1),fun σ' H' p'=>⟨xs.length-(i+1),by omega,rfl,a_,p'⟩,fun x H' y=>?_⟩
  obtain ⟨e,y⟩:=y;subst e;exact hs i x σ _ (y xs q) p
 ·have e:i=xs.length:=by omega
  subst e;exact .inl ⟨⟨xs,q,ax _⟩,hd σ H p⟩
variable {n:Nat}
theorem qV{lo:Int}(Pv:Nat→St→Hp→Prop)(h0:Pv 0 σ H)
  (hs:∀i σ H,i<n→Pv i σ H→g (.int (lo+i)) σ H fun σ2 H2=>tb {D with nx:=Pv (i+1),ct:=Pv (i+1),bk:=D.nx} σ2 H2) (hd:∀σ H,Pv n σ H→D.nx σ H) :
  ∃W:Nat→Nat→St→Hp→Prop,(∃m,W 0 m σ H)∧∀i m σ H,W i m σ H→
   ((mG lo n).stop i H∧D.nx σ H)∨((mG lo n).go i H∧∃N:St→Hp→Prop,(∀σ' H',N σ' H'→∃m',m'<m∧W (i+1) m' σ' H')∧∀x H',(mG lo n).dw i H x H'→g x σ H' fun σ2 H2=>tb {D with nx:=N,ct:=N,bk:=D.nx} σ2 H2):=by
 refine ⟨fun i m σ H=>m=n-i∧i≤n∧Pv i σ H,⟨n,by simp,b7 _,h0⟩,?_⟩
 rintro i m σ H ⟨rfl,hi,p⟩;by_cases a_:i<n
 ·refine .inr ⟨a_,Pv (i+1),fun σ' H' p'=>⟨n-(i+1),by omega,rfl,a_,p'⟩,fun x H' y=>?_⟩
  obtain ⟨e,y⟩:=y;subst e y;exact hs i σ _ a_ p
 ·have e:i=n:=by omega
  subst e;exact .inl ⟨ax _,hd σ H p⟩
abbrev R2:=V→V→Hp→VK→Prop
def cq(X:Cx)(f:Value→Value→Sem Value)(r:R2):Prop:=
 ∀(pins:aI) (s:Shared) (σ:St) (H:Hp) (x y:V) (v u:Value) (Q:VK),Inv X pins σ H s→RelV x v→RelV y u→r x y H Q→
  wpAny (model X.prog X.w) X.A (f v u) (EP X pins σ Q) X.xe s
def fv(X:Cx)(f:Value)(r:List V→Hp→VK→Prop):Prop:=
 ∀(pins:aI) (s:Shared) (σ:St) (H:Hp) (xs:List V) (us:List Value) (Q:VK),Inv X pins σ H s→Vals xs us→r xs H Q→
  wpAny (model X.prog X.w) X.A (call f us) (EP X pins σ Q) X.xe s
def mI(r:R2)(ta tb:TE):TE:=fun σ H Q=>ta σ H fun x H1=>tb σ H1 fun y H2=>r x y H2 Q
def rI(C:Int→Int→Prop)(g:Int→Int→V):R2:=fun x y H Q=>∃i j,x=.int i∧y=.int j∧C i j∧Q (g i j) H
def mJ(g:Int→Int→V):R2:=fun x y H Q=>∃i j,x=.int i∧y=.int j∧Q (g i j) H
section
variable {X:Cx} {a b c:Expr} {ta tb tc:TE} {pos:Pos}
variable {f:Value→Value→Sem Value}
theorem AZ(ha:PE X a ta)(hb:PE X b tb){pins:aI}{R:V→V→Hp→Prop}(I:Inv X pins σ H s)
  (h:ta σ H fun x H1=>tb σ H1 fun y H2=>R x y H2) {Q:aM}
  (hf:∀v u s2 x y H2,Inv X pins σ H2 s2→RelV x v→RelV y u→R x y H2→wpAny (model X.prog X.w) X.A (f v u) Q X.xe s2) :
  wpAny (model X.prog X.w) X.A (eval a X.env) (fun v s₁=>wpAny (model X.prog X.w) X.A (eval b X.env) (fun u s₂=>wpAny (model X.prog X.w) X.A (f v u) Q X.xe s₂) X.xe s₁) X.xe s:=by
 refine aD (ha pins s σ H _ I h) fun v s1 ⟨x,H1,I1,r1,q1⟩=>?_;refine aD (hb pins s1 σ H1 _ I1 q1) fun u s2 ⟨y,H2,I2,r2,q2⟩=>?_;exact hf v u s2 x y H2 I2 r1 r2 q2
theorem bG{op:Operator}{r:R2}(ho:cq X (binaryOp op) r)(ha:PE X a ta)(hb:PE X b tb):PE X (.BinOp a op b pos) (mI r ta tb):=by intro pins s σ H Q I h;exact wpAny_BinOp (AZ ha hb I h fun v u s2 x y H2 I2 rx ry q=>ho pins s2 σ H2 x y v u Q I2 rx ry q)
theorem xK{C:Int→Int→Prop}{g:Int→Int→Int}
  (rule:∀(i j:Int) (t u:Tok) (s:Shared) (Q:aM) (E:aM),C i j→Q (.int (g i j) s.toks) {s with toks:=s.toks+1}→wpAny (model X.prog X.w) X.A (f (.int i t) (.int j u)) Q E s) :
  cq X f (rI C fun i j=>.int (g i j)):=by
 intro pins s σ H x y v u Q I rx ry h;obtain ⟨i,j,rfl,rfl,hc,q⟩:=h;obtain ⟨t,rfl⟩:=rx;obtain ⟨t',rfl⟩:=ry;exact rule i j t t' s _ _ hc ⟨.int (g i j),H,I.tok _,⟨_,rfl⟩,q⟩
theorem Ez{g:Int→Int→Int}
  (rule:∀(i j:Int) (t u:Tok) (s:Shared) (Q:aM) (E:aM),Q (.int (g i j) s.toks) {s with toks:=s.toks+1}→wpAny (model X.prog X.w) X.A (f (.int i t) (.int j u)) Q E s) :
  cq X f (mJ fun i j=>.int (g i j)):=by
 intro pins s σ H x y v u Q I rx ry h;obtain ⟨i,j,rfl,rfl,q⟩:=h;obtain ⟨t,rfl⟩:=rx;obtain ⟨t',rfl⟩:=ry;exact rule i j t t' s _ _ ⟨.int (g i j),H,I.tok _,⟨_,rfl⟩,q⟩
theorem xM{g:Int→Int→Bool}
  (rule:∀(i j:Int) (t u:Tok) (s:Shared) (Q:aM) (E:aM),Q (.bool (g i j)) s→wpAny (model X.prog X.w) X.A (f (.int i t) (.int j u)) Q E s) :
  cq X f (mJ fun i j=>.bl (g i j)):=by
 intro pins s σ H x y v u Q I rx ry h;obtain ⟨i,j,rfl,rfl,q⟩:=h;obtain ⟨t,rfl⟩:=rx;obtain ⟨t',rfl⟩:=ry;exact rule i j t t' s _ _ ⟨.bl (g i j),H,I,rfl,q⟩
def Lr(i j:Int):Prop:=0≤j∧j≤1000000∧i.natAbs<2 ^ 64
def A0(i j:Int):Prop:=(-(2 ^ 64)<i∧i<2 ^ 64)∨(-(2 ^ 64)<j∧j<2 ^ 64)
theorem A0.ok{i j:Int}(h:A0 i j):IntMulOk i j:=by
 rcases h with ⟨h1,h2⟩ | ⟨h1,h2⟩;·exact .of_left (intBits_le_64 h1 h2)
 ·exact .of_right (intBits_le_64 h1 h2)
theorem iz:cq X (binaryOp .Add) (mJ fun i j=>.int (i+j)):=Ez fun _ _ _ _ _ _ _ q=>add_int q
theorem xN:cq X (binaryOp .Sub) (mJ fun i j=>.int (i-j)):=Ez fun _ _ _ _ _ _ _ q=>sub_int q
theorem iC:cq X (binaryOp .Mult) (rI A0 fun i j=>.int (i*j)):=xK fun _ _ _ _ _ _ _ hc q=>mul_int q hc.ok
theorem oz:cq X (binaryOp .Mod) (rI (fun _ j=>0<j) fun i j=>.int (i % j)):=xK fun i j _ _ _ _ _ hc q=>by have h1:(0:Int)<j:=hc;exact mod_int' (by omega) (by rw [Int.fmod_eq_emod_of_nonneg i (by omega)];exact q)
theorem Ls:cq X (binaryOp .Pow) (rI Lr fun i j=>.int (i ^ j.toNat)):=xK fun _ _ _ _ _ _ _ hc q=>pow_int_small hc.1 hc.2.1 hc.2.2 q
end
def EA:V→V→Bool
 | .aJ,.aJ=>true | .aJ,.int _=>true | .int _,.aJ=>true | .aJ,.bl _=>true | .bl _,.aJ=>true | .aJ,.str _=>true | .str _,.aJ=>true
 | .int _,.int _=>true | .bl _,.bl _=>true | .str _,.str _=>true | .jv _,.jv _=>true
 | .int _,.str _=>true | .str _,.int _=>true | .bl _,.str _=>true | .str _,.bl _=>true
 | _,_=>false
def Lu:R2:=fun x y H Q=>EA x y=true∧Q (.bl (decide (x=y))) H
def Lv:R2:=fun x y H Q=>EA x y=true∧Q (.bl (!decide (x=y))) H
theorem EB{i j:Int}:decide (V.int i=V.int j)=(i == j):=by rw [qt];simp
theorem EC{i j:Bool}:decide (V.bl i=V.bl j)=(i == j):=by rw [qt];simp
theorem ED{i j:Str}:decide (V.str i=V.str j)=(i == j):=by rw [qt];simp
theorem EE{i j:Array UInt8}:decide (V.jv i=V.jv j)=(i.toList == j.toList):=by rw [qt];cases i;cases j;simp
section
variable {X:Cx} {a b c:Expr} {ta tb tc:TE} {pos:Pos}
theorem cF{pins:aI}{Q:VK}{k k':Bool}(I:Inv X pins σ H s)(q:Q (.bl k) H)(e:k=k'):EP X pins σ Q (.bool k') s:=by subst e;exact ⟨.bl k,H,I,rfl,q⟩
theorem gh:cq X (compareOp .Eq) Lu:=by
 intro pins s σ H x y v u Q I rx ry h;obtain ⟨hs,q⟩:=h;cases x with
 | aJ=>
  cases rx;cases y with
  | aJ=>cases ry;exact PySem.EqNone.eq_none_none (cF I q (by simp))
  | bl j=>cases ry;exact PySem.EqNone.eq_none_bool (cF I q (by simp))
  | int j=>obtain ⟨t',rfl⟩:=ry;exact PySem.EqNone.eq_none_int (cF I q (by simp))
  | str j=>obtain ⟨t',rfl⟩:=ry;exact PySem.EqNone.eq_none_str (cF I q (by simp))
  | _=>exact absurd (show false=true from hs) da
 | bl i=>
  cases rx;cases y with
  | aJ=>cases ry;exact PySem.EqNone.eq_bool_none (cF I q (by simp))
  | bl j=>cases ry;exact eq_bool (cF I q EC)
  | str j=>obtain ⟨t',rfl⟩:=ry;exact PySem.EqMixed.eq_bool_str (cF I q (by simp))
  | _=>exact absurd (show false=true from hs) da
 | int i=>
  obtain ⟨t,rfl⟩:=rx;cases y with
  | aJ=>cases ry;exact PySem.EqNone.eq_int_none (cF I q (by simp))
  | int j=>obtain ⟨t',rfl⟩:=ry;exact eq_int (cF I q EB)
  | str j=>obtain ⟨t',rfl⟩:=ry;exact PySem.EqMixed.eq_int_str (cF I q (by simp))
  | _=>exact absurd (show false=true from hs) da
 | str i=>
  obtain ⟨t,rfl⟩:=rx;cases y with
  | aJ=>cases ry;exact PySem.EqNone.eq_str_none (cF I q (by simp))
  | bl j=>cases ry;exact PySem.EqMixed.eq_str_bool (cF I q (by simp))
  | int j=>obtain ⟨t',rfl⟩:=ry;exact PySem.EqMixed.eq_str_int (cF I q (by simp))
  | str j=>obtain ⟨t',rfl⟩:=ry;exact eq_str (cF I q ED)
  | _=>exact absurd (show false=true from hs) da
 | jv i=>
  obtain ⟨t,rfl⟩:=rx;cases y with
  | jv j=>obtain ⟨t',rfl⟩:=ry;exact PySem.W.eq_bytes (cF I q EE)
  | _=>exact absurd (show false=true from hs) da
 | _=>cases y <;> exact absurd (show false=true from hs) da
theorem EF:cq X (compareOp .NotEq) Lv:=by
 intro pins s σ H x y v u Q I rx ry h;obtain ⟨hs,q⟩:=h;cases x with
 | aJ=>
  cases rx;cases y with
  | aJ=>cases ry;exact PySem.EqNone.ne_none_none (cF I q (by simp))
  | bl j=>cases ry;exact PySem.EqNone.ne_none_bool (cF I q (by simp))
  | int j=>obtain ⟨t',rfl⟩:=ry;exact PySem.EqNone.ne_none_int (cF I q (by simp))
  | str j=>obtain ⟨t',rfl⟩:=ry;exact PySem.EqNone.ne_none_str (cF I q (by simp))
  | _=>exact absurd (show false=true from hs) da
 | bl i=>
  cases rx;cases y with
  | aJ=>cases ry;exact PySem.EqNone.ne_bool_none (cF I q (by simp))
  | bl j=>cases ry;exact ne_bool (cF I q (cR not EC))
  | str j=>obtain ⟨t',rfl⟩:=ry;exact PySem.EqMixed.ne_bool_str (cF I q (by simp))
  | _=>exact absurd (show false=true from hs) da
 | int i=>
  obtain ⟨t,rfl⟩:=rx;cases y with
  | aJ=>cases ry;exact PySem.EqNone.ne_int_none (cF I q (by simp))
  | int j=>obtain ⟨t',rfl⟩:=ry;exact ne_int (cF I q (cR not EB))
  | str j=>obtain ⟨t',rfl⟩:=ry;exact PySem.EqMixed.ne_int_str (cF I q (by simp))
  | _=>exact absurd (show false=true from hs) da
 | str i=>
  obtain ⟨t,rfl⟩:=rx;cases y with
  | aJ=>cases ry;exact PySem.EqNone.ne_str_none (cF I q (by simp))
  | bl j=>cases ry;exact PySem.EqMixed.ne_str_bool (cF I q (by simp))
  | int j=>obtain ⟨t',rfl⟩:=ry;exact PySem.EqMixed.ne_str_int (cF I q (by simp))
  | str j=>obtain ⟨t',rfl⟩:=ry;exact ne_str (cF I q (cR not ED))
  | _=>exact absurd (show false=true from hs) da
 | jv i=>
  obtain ⟨t,rfl⟩:=rx;cases y with
  | jv j=>obtain ⟨t',rfl⟩:=ry;exact PySem.W.ne_bytes (cF I q (cR not EE))
  | _=>exact absurd (show false=true from hs) da
 | _=>cases y <;> exact absurd (show false=true from hs) da
theorem xO:cq X (compareOp .Lt) (mJ fun i j=>.bl (decide (i<j))):=xM fun _ _ _ _ _ _ _ q=>lt_int q
theorem EG:cq X (compareOp .LtE) (mJ fun i j=>.bl (decide (i≤j))):=xM fun _ _ _ _ _ _ _ q=>le_int q
theorem mK:cq X (compareOp .Gt) (mJ fun i j=>.bl (decide (j<i))):=xM fun _ _ _ _ _ _ _ q=>gt_int q
theorem EH:cq X (compareOp .GtE) (mJ fun i j=>.bl (decide (j≤i))):=xM fun _ _ _ _ _ _ _ q=>ge_int q
theorem EI:cq X (compareOp .IsNot) (fun x y H Q=>y=.aJ∧Q (.bl (!decide (x=.aJ))) H):=by
 intro pins s σ H x y v u Q I rx ry h;obtain ⟨rfl,q⟩:=h;cases ry;refine isnot_none_gen (cF I q ?_)
 cases x <;> first
  | (cases rx;rfl)
  | (obtain ⟨t,rfl⟩:=rx;rfl)
variable {op:CmpOp}
theorem EJ(b:Expr)(h:op≠.In:=by decide)(h2:op≠.NotIn:=by decide):behindInMarks op b=false:=by
 have e1:(op == CmpOp.In)=false:=by cases op <;> first | rfl | exact absurd rfl h
 have e2:(op == CmpOp.NotIn)=false:=by cases op <;> first | rfl | exact absurd rfl h2
 cases b <;> simp [behindInMarks,e1,e2]
variable {r:R2}
theorem Lw(ho:cq X (compareOp op) r)(ha:PE X a ta)(hb:PE X b tb)(hm:behindInMarks op b=false):PE X (.Compare a [op] [b] pos) (mI r ta tb):=by intro pins s σ H Q I h;exact wpAny_Compare1 (AZ ha hb I h fun v u s2 x y H2 I2 rx ry q=>ho pins s2 σ H2 x y v u Q I2 rx ry q) hm
theorem gm(ho:cq X (compareOp op) r)(ha:PE X a ta)(hb:PE X b tb)(hm:behindInMarks op b=false:=by exact EJ _):PE X (.Compare a [op] [b] pos) (mI r ta tb):=Lw ho ha hb hm
def EK(t:TE):TT:=fun σ H Q=>t σ H fun x H'=>∃k,x=.bl k∧Q k H'
theorem qW(ho:cq X (compareOp op) r)(ha:PE X a ta)(hb:PE X b tb)(hm:behindInMarks op b=false):PT X (.Compare a [op] [b] pos) (EK (mI r ta tb)):=by intro pins s σ H Q I h;refine wpAny_isTrue_Compare1 (aD (ha pins s σ H _ I h) fun v s1 ⟨x,H1,I1,r1,q1⟩=>aD (hb pins s1 σ H1 _ I1 q1) fun u s2 ⟨y,H2,I2,r2,q2⟩=>aD (ho pins s2 σ H2 x y v u _ I2 r1 r2 q2) fun c s3 ⟨z,H3,I3,r3,k,e,q3⟩=>?_) hm;subst e;cases r3;exact ma ⟨H3,I3,q3⟩
theorem di(ho:cq X (compareOp op) r)(ha:PE X a ta)(hb:PE X b tb)(hm:behindInMarks op b=false:=by exact EJ _):PT X (.Compare a [op] [b] pos) (EK (mI r ta tb)):=qW ho ha hb hm
def Lx(r r':R2)(ta tb tc:TE):TE:=fun σ H Q=>ta σ H fun x H1=>tb σ H1 fun y H2=>r x y H2 fun z H3=>∃k,z=.bl k ∧
 (if k=true then tc σ H3 fun w' H4=>r' y w' H4 Q else Q (.bl false) H3)
theorem Ly{A1:CmpOp}{r':R2}(ho:cq X (compareOp op) r)(iV:cq X (compareOp A1) r')(ha:PE X a ta)(hb:PE X b tb)(hc:PE X c tc)
  (hm:lastMarks [op,A1] [b,c]=false:=by with_unfolding_all rfl):PE X (.Compare a [op,A1] [b,c] pos) (Lx r r' ta tb tc):=by
 intro pins s σ H Q I h;refine Compare_chain (aD (ha pins s σ H _ I h) fun v s1 ⟨x,H1,I1,r1,q1⟩=>chain_link (aD (hb pins s1 σ H1 _ I1 q1) fun u s2 ⟨y,H2,I2,r2,q2⟩=>aD (ho pins s2 σ H2 x y v u _ I2 r1 r2 q2) fun d s3 ⟨z,H3,I3,r3,k,e,q3⟩=>?_)) hm;subst e;cases r3;refine ma ?_;cases k with
 | false=>exact ite_ff ⟨.bl false,H3,I3,rfl,q3⟩
 | true=>exact ite_tt (chain_last (aD (hc pins s3 σ H3 _ I3 q3) fun w' s4 ⟨z',H4,I4,r4,q4⟩=>iV pins s4 σ H4 y z' u w' Q I4 r2 r4 q4))
theorem qX:(sizeLine:Nat)<2 ^ 63:=by rw [md];decide
theorem vals1(r:Vals [x] us):∃u,us=[u]∧RelV x u:=by
 cases r with
 | cons r1 r2=>cases r2;exact ⟨_,rfl,r1⟩
theorem vals2{y:V}(r:Vals [x,y] us):∃u w',us=[u,w']∧RelV x u∧RelV y w':=by
 cases r with
 | cons r1 r2=>
  cases r2 with
  | cons r3 r4=>cases r4;exact ⟨_,_,rfl,r1,r3⟩
theorem A2(hc:X.calm=true):fv X (.builtin "max") (fun xs H Q=>∃i j,xs=[.int i,.int j]∧Q (.int (if j>i then j else i)) H):=by
 intro pins s σ H xs us Q I r h;obtain ⟨i,j,rfl,q⟩:=h;obtain ⟨u,w',rfl,⟨t,rfl⟩,⟨t',rfl⟩⟩:=vals2 r;refine max_two_ints (I.ok.hd hc) fun h' tk k=>⟨_,H,I.kept k,?_,q⟩;by_cases hj:j>i;·rw [ae hj,ae hj];exact ⟨_,rfl⟩
 ·rw [aa hj,aa hj];exact ⟨_,rfl⟩
theorem A3(hc:X.calm=true):fv X (.builtin "min") (fun xs H Q=>∃i j,xs=[.int i,.int j]∧Q (.int (if j<i then j else i)) H):=by
 intro pins s σ H xs us Q I r h;obtain ⟨i,j,rfl,q⟩:=h;obtain ⟨u,w',rfl,⟨t,rfl⟩,⟨t',rfl⟩⟩:=vals2 r;refine min_two_ints (I.ok.hd hc) fun h' tk k=>⟨_,H,I.kept k,?_,q⟩;by_cases hj:j<i;·rw [ae hj,ae hj];exact ⟨_,rfl⟩
 ·rw [aa hj,aa hj];exact ⟨_,rfl⟩
end
structure A4 (h:Heap) (x dx C:Addr) (mA:cy):Prop where
 obj:h.get? x=some (PySem.W.instObj C dx)
 ns:h.Ns1 dx mA
 ne:dx≠x
variable {dx:Addr} {mA:cy}
theorem Lz(n:h.Ns1 dx mA):∃od,h.get? dx=some od∧∀name,PySem.W.lookIn name od=some (mA name):=by
 obtain ⟨o,es,ep,ho,hd,hk,_,hm⟩:=n;refine ⟨o,ho,fun name=>?_⟩;have e:=hm name;unfold nsFind findBy at e;rw [←Array.find?_toList] at e;unfold PySem.W.lookIn;rw [hd];dsimp only
 split
 ·rename_i y q
  rw [q] at e;exact cR some e
 ·rename_i q
  rw [q] at e;have a:es.toList.any (·.refKey)=false:=by rw [wU];intro y hy;obtain ⟨z,t,LA⟩:=hk y (Array.mem_toList_iff.mp hy);simp [DictEntry.refKey,LA]
  have a':¬es.toList.any (·.refKey)=true:=by rw [a];exact da
  rw [aa a'];exact cR some e
theorem A4.look{x C:Addr}(I:A4 h x dx C mA):∃od,PySem.W.InstAt h x (PySem.W.instObj C dx) C (some od)∧∀name,PySem.W.lookIn name od=some (mA name):=
 let ⟨od,ho,hl⟩:=Lz I.ns
 ⟨od,⟨I.obj,rfl,rfl,ho⟩,hl⟩
section
variable {prog:Program} {w:World} {A:Around} {E:aM} {s:Shared} {K:aB} {x dx C f:Addr} {mA:cy} {name:Str} {v:Value}
end
theorem jw.some_of{v:V}{o:Option Value}(r:jw (some v) o):∃u,o=some u∧RelV v u:=by
 cases o with
 | none=>exact (show False from r).elim
 | some u=>exact ⟨u,rfl,r⟩
section
variable {P:Program} {w:World} {H H':Hp} {h h':Heap} {a C dx:Addr} {fs AK:List (Str×V)}
theorem LB(aw:bV P w H h)(e:H a=some (.ins C dx fs)):∃mA,A4 h a dx C mA∧(∀f,jw (fs.lookup f) (mA f))∧PySem.Within mA (fs.map (·.1))∧fs.length≤1000∧H dx=some (.own a):=by obtain ⟨d,z,ne,ob,mA,n,r,q⟩:=(show cf P w H h a (.ins C dx fs) from aw a _ e);exact ⟨mA,⟨ob,n,ne⟩,r,q,z,d⟩
end
structure A5 (K:aB) (C:Addr):Prop where
 pg:PySem.W.plainGet K C Str.empty=true
 hd:PySem.W.hasDictIn K C=true
 po:PySem.W.plainOver K C=true
 sa:PySem.W.findIn K (.ref C) "__setattr__"=some (some (.builtin "object.__setattr__"))
theorem A5.get{K:aB}{C:Addr}(c:A5 K C)(f:Str):PySem.W.plainGet K C f=true:=c.pg
section
variable {X:Cx} {pins:aI} {σ:St} {H:Hp} {s:Shared} {a C dx:Addr} {fs:List (Str×V)} {f:Str} {v:V} {A:Around} {E:aM}
end
section
variable {X:Cx} {o e value:Expr} {f:Str} {pos pos' mF:Pos} {ta tv:TE}
end
section
variable {X:Cx} {pins:aI} {σ:St} {H:Hp} {s:Shared} {A:Around} {E:aM} {Q:aM} {c:Value} {b:Bool}
inductive iD (K:aB) (H:Hp):V→Value→Prop where
 | aJ:iD K H .aJ (.type "NoneType")
 | bl (x:Bool):iD K H (.bl x) (.type "bool")
 | int (i:Int):iD K H (.int i) (.type "int")
 | str (x:Str):iD K H (.str x) (.type "str")
 | qI (x:UInt64):iD K H (.qI x) (.type "float")
 | lst {a:Addr} {xs:List V} (e:H a=some (.lst xs)):iD K H (.ref a) (.type "list")
 | a9 {a:Addr} {o:Obj} {xs:List V} (e:H a=some (.a9 o (.lst xs))):iD K H (.ref a) (.type "list")
 | tup {a:Addr} {xs:List V} (e:H a=some (.tup xs)):iD K H (.ref a) (.type "tuple")
 | dK {a:Addr} {kvs:List (Key×V)} (e:H a=some (.dK kvs)):iD K H (.ref a) (.type "dict")
 | dT {a:Addr} {kvs:List (List Key×V)} (e:H a=some (.dT kvs)):iD K H (.ref a) (.type "dict")
 | ins {a C dx:Addr} {fs:List (Str×V)} (e:H a=some (.ins C dx fs)) (cl:A5 K C) (ha:PySem.W.findIn K (.ref C) "__class__"=some (some (.builtin "object.__class__")))
   (hn:PySem.W.specialIn K (.builtin "object.__class__") "__get__"=some (some (.builtin "getset_descriptor.__get__"))) (EL:PySem.W.takesIn K (.builtin "object.__class__")=some true)
   (hm:PySem.W.mroIn K C (.type "object")=some true):iD K H (.ref a) (.ref C)
theorem LC{t:Value}(I:Inv X pins σ H s)(rx:RelV x u)(ty:iD X.K H x t)(e:PySem.W.kitOne X.K t c=some b)(h:∀tk,Q (.bool b) {s with toks:=tk}) :
  wpAny (model X.prog X.w) A (call (.builtin "isinstance") [u,c]) Q E s:=by
 cases ty with
 | aJ=>cases (show u=Value.none from rx);exact hU PySem.W.kitx_none I.ee True.intro e (fun z=>nomatch z) h
 | bl y=>cases (show u=Value.bool y from rx);exact hU PySem.W.kitx_bool I.ee True.intro e (fun z=>nomatch z) h
 | int i=>obtain ⟨t,q⟩:=(show ∃t,u=Value.int i t from rx);cases q;exact hU PySem.W.kitx_int I.ee True.intro e (fun z=>nomatch z) h
 | str y=>obtain ⟨t,q⟩:=(show ∃t,u=Value.str y t from rx);cases q;exact hU PySem.W.kitx_str I.ee True.intro e (fun z=>nomatch z) h
 | qI y=>obtain ⟨t,q⟩:=(show ∃t,u=Value.float y t from rx);cases q;exact hU PySem.W.kitx_float I.ee True.intro e (fun z=>nomatch z) h
 | @lst a xs ea=>cases (show u=Value.ref a from rx);obtain ⟨_,_,n,_,h1⟩:=(show cf X.prog X.w H s.heap a (.lst xs) from I.aw a _ ea);exact hU PySem.W.kitx_list I.ee ⟨_,h1,rfl⟩ e (fun z=>nomatch z) h
 | @a9 a ob xs ea=>cases (show u=Value.ref a from rx);obtain ⟨_,_,_,n,_,h1⟩:=(show cf X.prog X.w H s.heap a (.a9 ob (.lst xs)) from I.aw a _ ea);exact hU PySem.W.kitx_list I.ee ⟨_,h1,rfl⟩ e (fun z=>nomatch z) h
 | @tup a xs ea=>cases (show u=Value.ref a from rx);obtain ⟨_,_,_,p⟩:=(show cf X.prog X.w H s.heap a (.tup xs) from I.aw a _ ea);obtain ⟨o,h1,h2,_⟩:=p;exact hU PySem.W.kitx_tuple I.ee ⟨o,h1,h2⟩ e (fun z=>nomatch z) h
 | @dK a kvs ea=>cases (show u=Value.ref a from rx);obtain ⟨_,_,vs,_,p⟩:=(show cf X.prog X.w H s.heap a (.dK kvs) from I.aw a _ ea);obtain ⟨o,es,ep,h1,h2,_⟩:=p;exact hU PySem.W.kitx_dict I.ee ⟨o,h1,h2.1⟩ e (fun z=>nomatch z) h
 | @dT a kvs ea=>cases (show u=Value.ref a from rx);obtain ⟨_,_,xs,_,o,es,ep,h1,h2,_⟩:=(show cf X.prog X.w H s.heap a (.dT kvs) from I.aw a _ ea);exact hU PySem.W.kitx_dict I.ee ⟨o,h1,h2.1⟩ e (fun z=>nomatch z) h
 | @ins a C dx fs ea cl ha hn EL hm=>cases (show u=Value.ref a from rx);obtain ⟨mA,O,_⟩:=LB I.aw ea;obtain ⟨od,J,_⟩:=O.look;exact hU (PySem.W.kitx_own (cl.get _) cl.hd ha hn EL hm) I.ee J e (fun z=>nomatch z) h
end
structure dm (k:Nat) (A:Around):Prop where
 hd:A.handled=none
 dp:A.depth+3*k+5<recursionLimit
 un:A.units+16*k+200<cLine
variable {k:Nat}
theorem dm.mono{j:Nat}(r:dm k A)(h:j≤k):dm j A:=⟨r.hd,by have:=r.dp;omega,by have:=r.un;omega⟩
theorem dm.deeper(r:dm (k+1) A)(env:Env):dm k (A.deeper env):=
 ⟨r.hd,by have:=r.dp;show A.depth+1+3*k+5<_;omega,by have:=r.un;show A.units+3+16*k+200<_;omega⟩
theorem dm.depth(r:dm k A):A.depth<recursionLimit:=by have:=r.dp;omega
theorem dm.units(r:dm k A):A.units+64<cLine:=by have:=r.un;omega
theorem dm.EM(r:dm k A):A.units<cLine:=by have:=r.un;omega
def xP:TA:=fun _ H Q=>Q [] H
def xQ(ta:TE)(tr:TA):TA:=fun σ H Q=>ta σ H fun x H1=>tr σ H1 fun xs H2=>Q (x::xs) H2
section
variable {X:Cx} {e:Expr} {es:List Expr} {te:TE} {t:TA} {pos:Pos}
theorem ar:PA X [] xP:=fun _ _ _ _ H Q I h=>Calls.spliced_nil ⟨[],H,I,.nil,h⟩
theorem LD(ha:PE X e te)(hr:PA X es t)(hs:starEach (e::es) X.env=(false,eval e X.env)::starEach es X.env:=by rfl):PA X (e::es) (xQ te t):=by intro pos pins s σ H Q I h;rw [hs];show wpAny _ _ (spliced ((false,eval e X.env)::backTo pos (starEach es X.env))) _ _ s;refine Calls.spliced_cons (aD (ha pins s σ H _ I h) fun u s1 ⟨x,H1,I1,r1,q1⟩=>?_);exact aD (hr pos pins s1 σ H1 _ I1 q1) fun us s2 ⟨xs,H2,I2,r2,q2⟩=>⟨x::xs,H2,I2,.cons r1 r2,q2⟩
def LF(t:TA):TE:=fun σ H Q=>t σ H fun xs H1=>xs.length≤sizeLine∧∀p,H1 p=none→Q (.ref p) (upd H1 p (.tup xs))
def LG(t:TA):TE:=fun σ H Q=>t σ H fun xs H1=>xs.length≤sizeLine∧∀p,H1 p=none→Q (.ref p) (upd H1 p (.lst xs))
theorem ko{x1}(h:PA X es t):PE X (.Tuple es x1 pos) (LF t):=by
 intro pins s σ H Q I hq;refine wpAny_Tuple_spliced (aD (h pos pins s σ H _ I hq) fun us s1 ⟨xs,H1,I1,r,z,q⟩=>⟨by rw [←r.length];exact z,?_⟩)
 have hf:H1 s1.heap.objs.size=none:=I1.aw.fresh (ax _);refine ⟨.ref s1.heap.objs.size,upd H1 s1.heap.objs.size (.tup xs),I1.laid (t':=s1.toks) (fun b u e=>ck _ e) (ax _) ?_,rfl,q _ hf⟩;exact ⟨z,us,r,⟨_,eI _ rfl,rfl,_,rfl⟩⟩
theorem eh(h:PA X es t):PE X (.List es pos) (LG t):=by
 intro pins s σ H Q I hq;refine wpAny_List_spliced (aD (h pos pins s σ H _ I hq) fun us s1 ⟨xs,H1,I1,r,z,q⟩=>⟨by rw [←r.length];exact z,?_⟩)
 have hf:H1 s1.heap.objs.size=none:=I1.aw.fresh (ax _);refine ⟨.ref s1.heap.objs.size,upd H1 s1.heap.objs.size (.lst xs),I1.laid (t':=s1.toks) (fun b u e=>ck _ e) (ax _) ?_,rfl,q _ hf⟩;exact ⟨z,us,0,r,eI _ rfl⟩
end
abbrev Sp:=List V→Hp→VK→XK→Prop
abbrev gO:=List Env→Hp→Shared→XK→Value→Shared→Prop
structure xR (P:Program) (w:World) (K:aB) (mg:cy) (base:Heap) (A:Around) (outer:List Env) (s:Shared) (H:Hp):Prop where
 frames:A.frames=some outer
 mod:Mod K mg base
 bs:∀b o,base.get? b=some o→s.heap.get? b=some o∧H b=none
 iu:base.objs.size≤s.heap.objs.size
 jx:s.heap.FunFrames base outer
 mB:∀b∈cz outer,H b=none
 aw:bV P w H s.heap
 bare:AllBare s.gens
def CE(outer:List Env)(P:Program)(w:World)(H:Hp)(s:Shared)(Q:VK)(u:Value)(s':Shared):Prop:=
 ∃v H',s'.os=s.os∧AllBare s'.gens∧Un (cz outer) [] H H' s.heap s'.heap∧bV P w H' s'.heap∧RelV v u∧Q v H'
def CR(CX:gO)(outer:List Env)(P:Program)(w:World)(H:Hp)(s:Shared)(Q:VK)(E:XK)(r:Result)(s':Shared):Prop:=
 match r with
 | .ok (.ret u)=>CE outer P w H s Q u s'
 | .ok _=>False
 | .error e=>CX outer H s E e s'
structure bH (P:Program) (w:World) (K:aB) (mg:cy) (base:Heap) (CX:gO) (k:Nat) (f:Addr) (fd:FuncData) (ps:List Str) (sp:Sp):Prop where
 len:∀vs H Q E,sp vs H Q E→vs.length=ps.length
 run:∀(A:Around) (outer:List Env) (s:Shared) (H:Hp) (args:Args) (us:List Value) (vs:List V) (Q:VK) (E:XK),dm k A→xR P w K mg base A outer s H→BindsTo s fd args (ps.zip us)→Vals vs us→sp vs H Q E→
  codeAny (model P w) A (.call (.ref f) args) (CR CX outer P w H s Q E) s
section
variable {X:Cx} {pins:aI} {σ:St} {H:Hp} {s s':Shared}
theorem Inv.LH(I:Inv X pins σ H s):xR X.prog X.w X.K X.mg X.base X.A X.stack s H:=
 ⟨I.ok.frames,I.ok.mod,I.bs,cj I.ok.iu I.sz,I.stack,I.uO,I.aw,I.bare⟩
theorem Inv.after{Q:VK}(I:Inv X pins σ H s)(h:CE X.stack X.prog X.w H s Q u s'):EP X pins σ Q u s':=by obtain ⟨v,H',os,bare,un,aw,r,q⟩:=h;obtain ⟨hh,g,d,t,LI⟩:=s';obtain rfl:LI=s.os:=os;exact ⟨v,H',I.call (h':=hh) (g':=g) (d':=d) (t':=t) (ch:=[]) un aw bare (fun b z=>absurd z (by simp)),r,q⟩
end
def EN(sp:Sp)(kq:List V)(E:XK)(t:TA):TE:=fun σ H Q=>t σ H fun vs H1=>sp (vs++kq) H1 Q E
def Binds(K:aB)(fd:FuncData)(ps:List Str)(ds:List Value):Prop:=
 ∀(s:Shared) (us:List Value),K.In s.heap→(us++ds).length=ps.length→BindsTo s fd ⟨us,[]⟩ (ps.zip (us++ds))
variable {ps:List Str}
theorem Binds.all{fd:FuncData}(h:∀us:List Value,us.length=ps.length→bindArgs fd ⟨us,[]⟩=pure (ps.zip us)):Binds K fd ps []:=fun s us _ hl=>by rw [k4] at hl ⊢;exact .of_eq (h us hl)
def Passes(CX:gO)(X:Cx)(E:XK):Prop:=∀(pins:aI) (σ:St) (H:Hp) (s:Shared) (e:Value) (s':Shared),Inv X pins σ H s→CX X.stack H s E e s'→X.xe e s'
section
variable {X:Cx} {CX:gO} {k:Nat} {f C:Addr} {fd:FuncData} {ps:List Str} {sp:Sp} {kq:List V} {ds:List Value} {E:XK} {x m:Str} {p pos apos:Pos} {e o:Expr} {es:List Expr} {ta:TE} {t:TA}
theorem LJ{pins:aI}{Q:VK}{vs:List V}(F:bH X.prog X.w X.K X.mg X.base CX k f fd ps sp)(hr:dm k X.A)(hb:Binds X.K fd ps ds)(hd:Vals kq ds)(hx:Passes CX X E)
  (I:Inv X pins σ H s) (r:Vals vs us) (h:sp (vs++kq) H Q E):wpAny (model X.prog X.w) X.A (call (.ref f) us) (EP X pins σ Q) X.xe s:=by
 have r2:Vals (vs++kq) (us++ds):=r.append hd;have hl:(us++ds).length=ps.length:=by rw [←r2.length];exact F.len _ _ _ _ h
 refine wpAny_call (codeAny_mono (F.run X.A X.stack s H ⟨us,[]⟩ (us++ds) (vs++kq) Q E hr I.LH (hb s us I.ee hl) r2 h) fun r s' hq=>?_);cases r with
 | error e=>exact hx pins σ H s e s' I hq
 | ok fl=>
  cases fl with
  | ret u=>exact I.after hq
  | next=>exact False.elim hq
  | brk=>exact False.elim hq
  | cont=>exact False.elim hq
theorem LK(F:bH X.prog X.w X.K X.mg X.base CX k f fd ps sp)(hr:dm k X.A)(hg:Gl X x)(hm:X.mg x=some (.ref f))(hk:PySem.W.keepIn X.K (.ref f)=true)(hb:Binds X.K fd ps ds)(hd:Vals kq ds)(hx:Passes CX X E)
  (ha:PA X (e::es) t) (oA:(x == ("__debug__":Str))=false:=by decide) (he:starEach (e::es) X.env=(false,eval e X.env)::starEach es X.env:=by rfl) (kr:(backTo pos (starEach es X.env)).any (·.1)=false:=by rfl) :
  PE X (.Call (.Name x p) (e::es) [] pos) (EN sp kq E t):=by
 intro pins s σ H Q I h;refine wV (En I hg hm ?_ oA);refine PySem.W.callWith_K (h₀:=X.base) I.ok.mod.cU hk (aD (ha pos pins s σ H _ I h) fun us s1 ⟨vs,H1,I1,r,q⟩=>⟨I1.ee,?_⟩) he kr;exact LJ F hr hb hd hx I1 r q
theorem bw{j:Nat}(F:bH X.prog X.w X.K X.mg X.base CX k f fd ps sp)(hr:dm j X.A)(hm:X.mg x=some (.ref f))(hk:PySem.W.keepIn X.K (.ref f)=true)(hb:Binds X.K fd ps [])(hx:Passes CX X E)
  (ha:PA X (e::es) t) (hj:k≤j:=by decide) (hg:Gl X x:=by exact rfl) (oA:(x == ("__debug__":Str))=false:=by decide) (he:starEach (e::es) X.env=(false,eval e X.env)::starEach es X.env:=by rfl) (kr:(backTo pos (starEach es X.env)).any (·.1)=false:=by rfl) :
  PE X (.Call (.Name x p) (e::es) [] pos) (EN sp [] E t):=LK F (hr.mono hj) hg hm hk hb .nil hx ha oA he kr
end
section
variable {X:Cx} {CX:gO} {k:Nat} {f C:Addr} {fd:FuncData} {ps ks:List Str} {sp:Sp} {E:XK} {x m:Str} {p pos apos EO:Pos} {e o:Expr} {es:List Expr} {LL:List Keyword} {te ta:TE} {t tk:TA} {nm:Option Str}
variable {g:List Value→List Value→List Value} {gV:List V→List V→List V}
end
structure bQ (N P:List Str) (sc:Scope):Prop where
 kind:sc.kind=.function
 co:sc.isCoroutine=false
 gen:sc.isGenerator=false
 nd:N.Nodup
 pre:N.take P.length=P
 par:∀x∈P,sc.names.lookup x=some .local∨sc.names.lookup x=some .cell
 LM:∀y∈sc.names,y.2≠.free
variable {N:List Str} {sc:Scope}
theorem cL{P:List Str}(h1:sc.kind=.function:=by rfl)(h2:sc.isCoroutine=false:=by rfl)(h3:sc.isGenerator=false:=by rfl)(h4:N.Nodup:=by decide +kernel)(h5:N.take P.length=P:=by rfl)(h6:∀x∈P,sc.names.lookup x=some .local∨sc.names.lookup x=some .cell:=by decide +kernel)(h7:∀y∈sc.names,y.2≠.free:=by decide +kernel):bQ N P sc:=⟨h1,h2,h3,h4,h5,h6,h7⟩
theorem ER{kindOf:Str→Option NameKind}{x:Str}:∀{binds:List (Str×Value)} {m:cy},(∀v,(x,v)∉binds)→bindL kindOf binds m x=m x
 | [],_,_=>rfl
 | (n,v)::r,m,h=>by
  unfold bindL;rw [ER fun w hw=>h w (bP _ hw)]
  split
  ·have:x≠n:=by rintro rfl;exact h v cE
   simp [this]
  ·rfl
theorem ES{kindOf:Str→Option NameKind}{x:Str}:∀{binds:List (Str×Value)} {m:cy},(∀v,(x,v)∉binds)→bindC kindOf binds m x=m x
 | [],_,_=>rfl
 | (n,v)::r,m,h=>by
  unfold bindC;rw [ES fun w hw=>h w (bP _ hw)]
  split
  ·rfl
  ·have:x≠n:=by rintro rfl;exact h v cE
   simp [this]
theorem ET{kindOf:Str→Option NameKind}{x:Str}{v:Value}:∀{P:List Str} {vs:List Value} {i:Nat} {m:cy},P.Nodup→P[i]?=some x→vs[i]?=some v→kindOf x=some .local→
  bindL kindOf (P.zip vs) m x=some v
 | [],_,_,_,_,h,_,_=>by simp at h
 | _::_,[],_,_,_,_,h,_=>by simp at h
 | p::P,w::vs,0,m,nd,h1,h2,hk=>by simp at h1 h2;subst h1;subst h2;show bindL kindOf ((p,w)::P.zip vs) m p=_;unfold bindL;rw [ER fun v hv=>(fk.mp nd).1 (List.of_mem_zip hv).1,ae hk];simp
 | p::P,w::vs,i+1,m,nd,h1,h2,hk=>by show bindL kindOf ((p,w)::P.zip vs) m x=_;unfold bindL;exact ET (i:=i) (fk.mp nd).2 (by simpa using h1) (by simpa using h2) hk
theorem EU{kindOf:Str→Option NameKind}{x:Str}{v:Value}:∀{P:List Str} {vs:List Value} {i:Nat} {m:cy},P.Nodup→P[i]?=some x→vs[i]?=some v→kindOf x≠some .local→
  bindC kindOf (P.zip vs) m x=some v
 | [],_,_,_,_,h,_,_=>by simp at h
 | _::_,[],_,_,_,_,h,_=>by simp at h
 | p::P,w::vs,0,m,nd,h1,h2,hk=>by simp at h1 h2;subst h1;subst h2;show bindC kindOf ((p,w)::P.zip vs) m p=_;unfold bindC;rw [ES fun v hv=>(fk.mp nd).1 (List.of_mem_zip hv).1,aa hk];simp
 | p::P,w::vs,i+1,m,nd,h1,h2,hk=>by show bindC kindOf ((p,w)::P.zip vs) m x=_;unfold bindC;exact EU (i:=i) (fk.mp nd).2 (by simpa using h1) (by simpa using h2) hk
def start(N:List Str)(vs:List V):St:=vs.map some++List.replicate (N.length-vs.length) none
def iY(CX:gO)(P:Program)(w:World)(K:aB)(mg:cy)(base:Heap)(N:List Str)(qual:Str)(scope:Scope)(f:Addr)(cd:Value)(A:Around)(outer:List Env)(s:Shared)(H:Hp)(E:XK):Cx where
 prog:=P
 w:=w
 K:=K
 mg:=mg
 base:=base
 A:=A.deeper (envOfC qual scope s.heap.objs.size f cd)
 N:=N
 s₀:=s
 H₀:=H
 env:=envOfC qual scope s.heap.objs.size f cd
 outer:=outer
 stack:=envOfC qual scope s.heap.objs.size f cd::outer
 ex:=[]
 calm:=true
 fn:=fun _=>true
 pn:=[]
 xe:=fun e s'=>wpAny (model P w) (A.deeper (envOfC qual scope s.heap.objs.size f cd)) (leaving (envOfC qual scope s.heap.objs.size f cd) e) (fun _ ku=>CX outer H s E e ku) (fun e' ku=>CX outer H s E e' ku) s'
theorem EV{x:Str}(h:sc.names.lookup x=some .cell):∃c,(cellsFrom n sc.names []).lookup x=some c:=by have q:=PySem.W.cellsFrom_some sc.names n [] (.inl h);exact Option.isSome_iff_exists.mp q
variable {CX:gO} {mg:cy} {base:Heap} {qual:Str} {scope:Scope} {f:Addr}
theorem LN{cd:Value}{outer:List Env}{s1:Shared}{E:XK}{vs:List V}
  (S:bQ N ps scope) (hd:A.handled=none) (e0:xR P w K mg base A outer s H) (hl:vs.length=ps.length) (r:Vals vs us)
  (x:InCallC s s.heap.objs.size (bindL (envOfC qual scope s.heap.objs.size f cd).kindOf (ps.zip us) fun _=>none) (cellsFrom (s.heap.objs.size+1) scope.names []) (bindC (envOfC qual scope s.heap.objs.size f cd).kindOf (ps.zip us) fun _=>none) s1) :
  Inv (iY CX P w K mg base N qual scope f cd A outer s H E) [] (start N vs) H s1:=by
 have kr:ps.length≤N.length:=by have:=cR List.length S.pre;rw [qu] at this;omega
 obtain ⟨h1,tk,rfl,hk⟩:=x.done;have uY:∀b:Addr,b∉(iY CX P w K mg base N qual scope f cd A outer s H E).ex:=fun b z=>absurd (show b∈([]:List Addr) from z) (by simp)
 refine ⟨⟨e0.mod,S.kind,rfl,rfl,ax _,fun y z c h1 h2=>?_,fun y hy=>?_,fun y c _ h=>?_,fun _=>hd,Around.frames_deeper e0.frames,.inr ⟨rfl,rfl⟩,fun b z=>absurd z (uY b),e0.bs,e0.iu,fun b _ _=>uY b,fun b z=>absurd z (uY b),e0.jx,e0.mB⟩,
  rfl,e0.bare,Un.kept hk,⟨_,x.toInCall.ns,fun i y v h1 h2 h3=>?_⟩,fun y c h=>⟨_,x.cell y c h⟩,e0.aw.fresh (ax _),fun y c h=>?_,fun p hp=>absurd (show p∈([]:aI) from hp) (by simp),e0.aw.kept hk,?_⟩
 ·exact name_of_addr x.apart (k6 h1) (k6 h2)
 ·have hy:scope.names.lookup y=some .cell∨scope.names.lookup y=some .free:=hy
  rcases hy with hy | hy;·exact EV hy
  ·exact absurd rfl (S.LM _ (k6 hy))
 ·exact kZ (x.above y c (k6 h))
 ·have hi:i<vs.length:=by
   unfold start at h2;by_cases hi:i<vs.length;·exact hi
   ·rw [gK (by simpa using hi)] at h2
    rw [List.getElem?_replicate] at h2
    split at h2 <;> cases h2
  have ha:vs[i]?=some v:=by
   unfold start at h2;rw [gM (by simpa using hi),bD] at h2
   cases e:vs[i]? with
   | none=>rw [e] at h2;cases h2
   | some a=>rw [e] at h2;cases h2;rfl
  obtain ⟨u,hu,rv⟩:=r.get ha;have hp:ps[i]?=some y:=by rw [←S.pre,List.getElem?_take_of_lt (by omega)];exact h1
  have EW:ps.Nodup:=by rw [←S.pre];exact S.nd.sublist (List.take_sublist _ _)
  refine ⟨u,rv,?_⟩;rcases S.par y (uj hp) with k | k;·exact .inl ⟨k,ET EW hp hu k⟩
  ·obtain ⟨c,e⟩:=EV (n:=s.heap.objs.size+1) k
   refine .inr ⟨.inl k,c,e,?_⟩;have q:=x.cell y c e;rw [EU EW hp hu (by show scope.names.lookup y≠_;rw [k];decide)] at q
   exact q
 ·exact e0.aw.fresh (kZ (x.above y c (k6 h)))
 ·unfold start
  show _=N.length;rw [dP,aG,List.length_replicate];omega
theorem A6{name:Str}{params:Arguments}{body:List Stmt}{dV kV doc pm bK ct oc:Value}{an od:Option Addr}
  {jA:Array (Option Value)} {sp:Sp} (lk:K.lookup f=some ⟨oc,od,.func (PySem.W.fnOf name qual params body scope dV kV doc pm an bK ct),jA⟩) (dR:PySem.W.codeIn K bK qual=true) (S:bQ N ps scope)
  (len:∀vs H Q E,sp vs H Q E→vs.length=ps.length)
  (jB:∀(A:Around) (outer:List Env) (s:Shared) (H:Hp) (vs:List V) (Q:VK) (E:XK),dm k (A.deeper (envOfC qual scope s.heap.objs.size f bK))→sp vs H Q E→
   ∃t,eL (iY CX P w K mg base N qual scope f bK A outer s H E) body t∧t {nx:=fun _ H'=>Q .aJ H',rt:=Q} (start N vs) H) :
  bH P w K mg base CX (k+1) f (PySem.W.fnOf name qual params body scope dV kV doc pm an bK ct) ps sp:=by
 refine ⟨len,fun A outer s H args us vs Q E hr e0 hb r ky=>?_⟩;have hl:=len _ _ _ _ ky;have KX:K.In s.heap:=e0.mod.cU.keeps fun b o e=>(e0.bs b o e).1;have lim:s.heap.NoLimit:=e0.mod.nolimit.keeps fun b o e=>(e0.bs b o e).1;have LO:∀y∈ps.zip us,scope.names.lookup y.1=some .local∨(scope.names.lookup y.1=some .cell∧((cellsFrom (s.heap.objs.size+1) scope.names []).lookup y.1).isSome=true):=fun⟨n,v⟩ hy=>by
  rcases S.par n (List.of_mem_zip hy).1 with q | q;·exact .inl q
  ·exact .inr ⟨q,PySem.W.cellsFrom_some _ _ _ (.inl q)⟩
 refine codeAny_call_function hr.depth (KX _ _ lk) rfl S.co S.gen rfl (PySem.W.codeRec_of KX dR) (hb _ _ _ _ ?_);refine wpAny_newFunctionEnv_cells S.kind LO fun env he s1 x=>?_;subst he;refine ⟨lim.keeps x.toInCall.keep,codeAny_func ?_⟩;obtain ⟨t,ht,hq⟩:=jB A outer s H vs Q E (hr.deeper _) ky;have I:Inv (iY CX P w K mg base N qual scope f bK A outer s H E) [] (start N vs) H s1:=LN S hr.hd e0 hl r x;refine bZ (ht [] s1 (start N vs) H _ I hq) (fun fl s' hs=>?_) fun e s' hs=>hs;have fin:∀{σ':St} {H':Hp} {v:V} {u:Value},Inv (iY CX P w K mg base N qual scope f bK A outer s H E) [] σ' H' s'→RelV v u→Q v H'→CE outer P w H s Q u s':=
  fun{σ' H' v u} J rv q=>⟨v,H',J.os,J.bare,J.base,J.aw,rv,q⟩
 cases fl with
 | ret u=>obtain ⟨v,σ',H',J,rv,q⟩:=hs;exact fin J rv q
 | next=>obtain ⟨σ',H',J,q⟩:=hs;exact fin (v:=V.aJ) (u:=Value.none) J rfl q
 | brk=>obtain ⟨_,_,_,q⟩:=hs;exact False.elim q
 | cont=>obtain ⟨_,_,_,q⟩:=hs;exact False.elim q
section
variable {X:Cx} {x:Str} {p pos:Pos} {e:Expr} {es:List Expr} {t:TA} {id T:String} {r:List V→Hp→VK→Prop}
def A7(r:List V→Hp→VK→Prop)(t:TA):TE:=fun σ H Q=>t σ H fun vs H1=>r vs H1 Q
theorem cQ(hc:fv X (.builtin id) r)(hg:Gl X x)(hm:X.mg x=none)(hv:bootBuiltins x=some (.builtin id))(ha:PA X (e::es) t)(hn:x ≠ "__name__":=by decide)(oA:(x == ("__debug__":Str))=false:=by decide)
  (he:starEach (e::es) X.env=(false,eval e X.env)::starEach es X.env:=by rfl) (kr:(backTo pos (starEach es X.env)).any (·.1)=false:=by rfl):PE X (.Call (.Name x p) (e::es) [] pos) (A7 r t):=by
 intro pins s σ H Q I h;refine wV (kg I hg hm hv ?_ hn oA);exact PyProof.Rows.callWith_builtin1 (aD (ha pos pins s σ H _ I h) fun us s1 ⟨vs,H1,I1,r1,q1⟩=>hc pins s1 σ H1 vs us Q I1 r1 q1) he kr
theorem iZ(hc:fv X (.type T) r)(hg:Gl X x)(hm:X.mg x=none)(hv:bootBuiltins x=some (.type T))(ha:PA X (e::es) t)(hn:x ≠ "__name__":=by decide)(oA:(x == ("__debug__":Str))=false:=by decide)
  (he:starEach (e::es) X.env=(false,eval e X.env)::starEach es X.env:=by rfl) (kr:(backTo pos (starEach es X.env)).any (·.1)=false:=by rfl):PE X (.Call (.Name x p) (e::es) [] pos) (A7 r t):=by
 intro pins s σ H Q I h;refine wV (kg I hg hm hv ?_ hn oA);exact qr (aD (ha pos pins s σ H _ I h) fun us s1 ⟨vs,H1,I1,r1,q1⟩=>hc pins s1 σ H1 vs us Q I1 r1 q1) he kr
end
end L2
namespace HT
open PySem PyProof.Rows
section
open PySem.SeqAt
open PySem.AutoSeq1 (wpAny_loadPart')
open PySem.MeetsSeq PySem.MeetsSeq2 PySem.MeetsSeq3
end
section
variable {prog:Program} {w:World} {A:Around} {E:aM} {s:Shared}
def eN(n d:Nat):Option Int→Nat
 | none=>d
 | some v=>if v<0 then (v+(n:Int)).toNat else min v.toNat n
theorem LP(n d:Nat):eN n d none=d:=rfl
theorem LQ(n d k:Nat):eN n d (some (k:Int))=min k n:=by
 show (if (k:Int)<0 then ((k:Int)+(n:Int)).toNat else min (k:Int).toNat n)=min k n
 rw [aa (by omega),dh]
end
end HT
namespace L2
open PySem PySem.Spec PyProof.Rows
abbrev TO:=St→Hp→(Option Int→Hp→Prop)→Prop
def PO(X:Cx)(e:Option Expr)(t:TO):Prop:=
 ∀(pins:aI) (s:Shared) (σ:St) (H:Hp) (Q:Option Int→Hp→Prop),Inv X pins σ H s→t σ H Q→
  wpAny (model X.prog X.w) X.A (evalPart e X.env) (fun u s'=>∃o H',Inv X pins σ H' s'∧IsPart u o∧Q o H') X.xe s
def LR:TO:=fun _ H Q=>Q none H
def LS(t:TE):TO:=fun σ H Q=>t σ H fun x H1=>∃i,x=.int i∧Q (some i) H1
theorem intsAre_of{ns:List Int}:∀{us:List Value},Vals (ns.map V.int) us→IntsAre us ns:=by
 induction ns with
 | nil=>intro us r;rw [List.map_nil] at r;cases r;exact .nil
 | cons n ns ih=>
  intro us r;rw [cT] at r;cases r with
  | cons r1 r2=>obtain ⟨t,e⟩:=r1;subst e;exact .cons n t (ih r2)
section
variable {X:Cx} {e:Expr} {te:TE} {lo hi:Option Expr} {tl th:TO} {pos p2:Pos}
theorem EX:PO X none LR:=by intro pins s σ H Q I h;rw [evalPart_none];exact cS ⟨none,H,I,.none,h⟩
theorem EY(h:PE X e te):PO X (some e) (LS te):=by intro pins s σ H Q I hw;rw [evalPart_some];refine aD (h pins s σ H _ I hw) fun u s1 ⟨x,H1,I1,r1,q1⟩=>?_;obtain ⟨i,rfl,q⟩:=q1;obtain ⟨t,rfl⟩:=r1;exact ⟨some i,H1,I1,.int i t,q⟩
def EZ(X:Cx)(r:V→Option Int→Option Int→Hp→VK→Prop):Prop:=
 ∀(pins:aI) (s:Shared) (σ:St) (H:Hp) (x:V) (v vl vu:Value) (lo hi:Option Int) (sl:Addr) (Q:VK),Inv X pins σ H s→RelV x v→s.heap.IsSliceOf sl vl vu .none→IsPart vl lo→IsPart vu hi→r x lo hi H Q→
  ∃T id,typeLookup (.type T) "__getitem__"=pure (some (.builtin id))∧s.TypeIs v T∧wpAny (model X.prog X.w) X.A (getItem v (.ref sl)) (EP X pins σ Q) X.xe s
def LU(r:V→Option Int→Option Int→Hp→VK→Prop)(te:TE)(tl th:TO):TE:=fun σ H Q=>te σ H fun x H1=>tl σ H1 fun l H2=>th σ H2 fun u H3=>r x l u H3 Q
theorem E1{r:V→Option Int→Option Int→Hp→VK→Prop}(hr:EZ X r)(he:PE X e te)(hl:PO X lo tl)(hu:PO X hi th):PE X (.Subscript e (.Slice lo hi none p2) pos) (LU r te tl th):=by intro pins s σ H Q I h;refine Subscript_ (aD (he pins s σ H _ I h) fun v s1 ⟨x,H1,I1,r1,q1⟩=>?_);refine wpAny_Slice (aD (hl pins s1 σ H1 _ I1 q1) fun vl s2 ⟨l,H2,I2,pl,q2⟩=>aD (hu pins s2 σ H2 _ I2 q2) fun vu s3 ⟨u,H3,I3,pu,q3⟩=>?_);rw [evalPart_none];refine cS ?_;have I4:Inv X pins σ H3 {s3 with heap:=s3.heap.push {cls:=.type "slice",data:=.fields #[vl,vu,.none]}}:=I3.kept (t':=s3.toks) fun b ob q=>ck _ q;obtain ⟨T,id,hT,ht,hg⟩:=hr pins {s3 with heap:=s3.heap.push {cls:=.type "slice",data:=.fields #[vl,vu,.none]}} σ H3 x v vl vu l u s3.heap.objs.size Q I4 r1 (Heap.IsSliceOf.new ..) pl pu q3;show wpAny (model X.prog X.w) X.A (subscriptTail e (.Slice lo hi none p2) v (.ref s3.heap.objs.size)) (EP X pins σ Q) X.xe {s3 with heap:=s3.heap.push {cls:=.type "slice",data:=.fields #[vl,vu,.none]}};exact tail_any (ops:=[.ref s3.heap.objs.size,v]) ht hT hg (by with_unfolding_all rfl)
def i3(xs:List V)(lo hi:Option Int):List V:=(xs.drop (HT.eN xs.length 0 lo)).take (HT.eN xs.length xs.length hi-HT.eN xs.length 0 lo)
theorem LV(xs:List V)(lo hi:Option Int):(i3 xs lo hi).length≤xs.length:=by unfold i3;rw [qu,wW];omega
end
def kA(n:Nat)(i:Int):Option Nat:=if 0≤i then (if i<n then some i.toNat else none) else if -(n:Int)≤i then some (i+n).toNat else none
def i4{α:Type}(xs:List α)(i:Int):Option α:=(kA xs.length i).bind fun j=>xs[j]?
variable {i:Int} {j:Nat}
theorem E2{n:Nat}(h:kA n i=some j):seqIndex? i n=some j∧j<n∧-(n:Int)≤i∧i<n:=by
 unfold kA at h;by_cases h0:0≤i
 ·rw [ae h0] at h
  by_cases h1:i<n
  ·rw [ae h1] at h
   have e:i.toNat=j:=Option.some.inj h;exact ⟨by rw [seqIndex_of h0 h1,e],by omega,by omega,h1⟩
  ·rw [aa h1] at h;cases h
 ·rw [aa h0] at h
  by_cases h1:-(n:Int)≤i
  ·rw [ae h1] at h
   have e:(i+n).toNat=j:=Option.some.inj h;exact ⟨by rw [seqIndex_neg (by omega) h1,e],by omega,h1,by omega⟩
  ·rw [aa h1] at h;cases h
theorem A8{α:Type}{xs:List α}{v:α}(h:i4 xs i=some v):∃j,seqIndex? i xs.length=some j∧xs[j]?=some v∧j<xs.length∧-(xs.length:Int)≤i∧i<xs.length:=by
 unfold i4 at h;cases e:kA xs.length i with
 | none=>rw [e] at h;cases h
 | some j=>rw [e] at h;obtain ⟨h1,h2,h3,h4⟩:=E2 e;exact ⟨j,h1,h,h2,h3,h4⟩
theorem oB{α:Type}{xs:List α}{v:α}(h:xs[j]?=some v):i4 xs (j:Int)=some v:=by
 have hj:j<xs.length:=(cp.mp h).1;have e:kA xs.length (j:Int)=some j:=by unfold kA;rw [ae (by omega),ae (by omega)];simp
 unfold i4;rw [e];exact h
def E3(b:Expr):Prop:=∀o i,subscripted b false o i=operate [o,i] (getItem o i)
def qY(X:Cx)(r:R2):Prop:=
 ∀(value slice:Expr) (pins:aI) (s:Shared) (σ:St) (H:Hp) (x y:V) (v u:Value) (Q:VK),Inv X pins σ H s→RelV x v→RelV y u→r x y H Q→
  subscripted slice false v u=operate [v,u] (getItem v u)→wpAny (model X.prog X.w) X.A (subscriptTail value slice v u) (EP X pins σ Q) X.xe s
def LW(X:Cx)(id:String)(r:V→List V→Hp→VK→Prop):Prop:=
 ∀(pins:aI) (s:Shared) (σ:St) (H:Hp) (x:V) (xs:List V) (v:Value) (us:List Value) (Q:VK),Inv X pins σ H s→RelV x v→Vals xs us→r x xs H Q→
  wpAny (model X.prog X.w) X.A (call (.builtin id) (v::us)) (EP X pins σ Q) X.xe s
section
variable {X:Cx} {a b:Expr} {ta tb:TE} {pos:Pos}
variable {r:R2}
theorem LX(hr:qY X r)(ha:PE X a ta)(hb:PE X b tb)(hs:E3 b):PE X (.Subscript a b pos) (mI r ta tb):=by intro pins s σ H Q I h;exact Subscript_ (AZ ha hb I h fun v u s2 x y H2 I2 rx ry q=>hr a b pins s2 σ H2 x y v u Q I2 rx ry q (hs _ _))
theorem ba(hr:qY X r)(ha:PE X a ta)(hb:PE X b tb)(hs:E3 b:=by exact fun _ _=>rfl):PE X (.Subscript a b pos) (mI r ta tb):=LX hr ha hb hs
def E4(K:aB):R2:=fun x y H Q=>∃p xs i v,x=.ref p∧y=.int i∧aO K H p xs∧i4 xs i=some v∧Q v H
def E5(K:aB):R2:=fun x y H Q=>∃p xs i v,x=.ref p∧y=.int i∧e8 K H p xs∧i4 xs i=some v∧Q v H
theorem cZ:qY X (E4 X.K):=by
 intro value slice pins s σ H x y v u Q I rx ry h hs;obtain ⟨p,xs,i,z,rfl,rfl,hq,he,q⟩:=h;cases rx;obtain ⟨t,rfl⟩:=ry;obtain ⟨its,r,pl,hz⟩:=I.list hq;obtain ⟨j,h1,h2,h3,h4,h5⟩:=A8 he;obtain ⟨w,ew,ei⟩:=r.get h2;have hl:=r.length;have hn:=qX;have fin:EP X pins σ Q w s:=⟨z,H,I,ei,q⟩;by_cases h0:0≤i
 ·have hj:i.toNat=j:=by rw [seqIndex_of h0 h5] at h1;exact Option.some.inj h1
  exact item_listR pl.isList h0 (by omega) (by rw [hj];simpa using ew) fin hs
 ·have hj:(i+(its.toArray.size:Int)).toNat=j:=by
   rw [seqIndex_neg (by omega) h4] at h1
   rw [b8,←hl];exact Option.some.inj h1
  exact subscriptTail_builtinR (x:=w) pl.isList.typeIs slot_list_getitem.lookup
   (wpAny_getItem_list_neg (Q:=fun r s'=>r=w∧EP X pins σ Q r s') pl.isList (by omega) (by rw [b8] <;> omega) (by omega) (by rw [hj];simpa using ew) ⟨rfl,fin⟩) hs
theorem en:qY X (E5 X.K):=by
 intro value slice pins s σ H x y v u Q I rx ry h hs;obtain ⟨p,xs,i,z,rfl,rfl,hq,he,q⟩:=h;cases rx;obtain ⟨t,rfl⟩:=ry;obtain ⟨its,r,pl,hz⟩:=I.tuple hq;obtain ⟨j,h1,h2,h3,h4,h5⟩:=A8 he;obtain ⟨w,ew,ei⟩:=r.get h2;have hl:=r.length;have hn:=qX;have fin:EP X pins σ Q w s:=⟨z,H,I,ei,q⟩
 exact subscriptTail_builtinR (x:=w) pl.typeIs slot_tuple_getitem.lookup
  (getItem_tuple (j:=j) (Q:=fun r s'=>r=w∧EP X pins σ Q r s') pl (by omega) (by omega) (by rw [b8,←hl];exact h1) (by simpa using ew) ⟨rfl,fin⟩) hs
theorem LY(its:List Value)(n j:Nat)(u:Value):Obj.mapSeq (·.setIfInBounds j u) {cls:=.type "list",data:=.seq its.toArray n}={cls:=.type "list",data:=.seq (its.set j u).toArray n}:=by simp [Obj.mapSeq]
theorem Inv.lst{pins:aI}{σ:St}{H:Hp}{s:Shared}{p:Addr}{xs:List V}(I:Inv X pins σ H s)(h:H p=some (.lst xs)) :
  ∃(its:List Value) (n:Nat),Vals xs its∧s.heap.get? p=some {cls:=.type "list",data:=.seq its.toArray n}∧xs.length≤sizeLine:=by
 obtain ⟨z,its,n,r,e⟩:=I.aw p _ h;exact ⟨its,n,r,e,z⟩
variable {pins:aI} {σ:St} {H:Hp} {s:Shared}
theorem Inv.LZ{p:Addr}{xs ys:List V}{its its':List Value}{n n':Nat}{f:Obj→Obj}(I:Inv X pins σ H s)(h:H p=some (.lst xs))
  (ho:s.heap.get? p=some {cls:=.type "list",data:=.seq its.toArray n}) (hf:f {cls:=.type "list",data:=.seq its.toArray n}={cls:=.type "list",data:=.seq its'.toArray n'}) (r:Vals ys its') (hz:ys.length≤sizeLine) (t:Nat) :
  Inv X pins σ (upd H p (.lst ys)) {s with heap:=s.heap.update p f,toks:=t}:=by
 have e:(s.heap.update p f).get? p=some {cls:=.type "list",data:=.seq its'.toArray n'}:=by rw [Heap.get?_update_self f ho (by rw [hf] <;> rfl),hf]
 refine I.write (x:=p) (e:=p) (by rw [h];trivial) (.inl rfl) (fun b u hb q=>(Az _ _ (Ne.symm hb)).trans q) ⟨_,e⟩ ?_
 exact ⟨hz,its',n',r,e⟩
def L0:V→V→V→Hp→(Hp→Prop)→Prop:=fun o i v H Q=>∃p xs k j,o=.ref p∧i=.int k∧H p=some (.lst xs)∧kA xs.length k=some j∧Q (upd H p (.lst (xs.set j v)))
theorem set_list:AV X L0:=by
 intro pins s σ H o i v ov iv u Q I ro ri rv h;obtain ⟨p,xs,k,j,rfl,rfl,hp,hj,q⟩:=h;cases ro;obtain ⟨t,rfl⟩:=ri;obtain ⟨its,n,r,ho,hz⟩:=I.lst hp;obtain ⟨h1,h2,h3,h4⟩:=E2 hj;have hl:=r.length;have hn:=qX;have I':Inv X pins σ (upd H p (.lst (xs.set j v))) {s with heap:=s.heap.update p (Obj.mapSeq (·.setIfInBounds j u))}:=
  I.LZ hp ho (LY its n j u) (r.set rv j) (by rw [List.length_set];exact hz) s.toks
 by_cases h0:0≤k
 ·have hk:k.toNat=j:=by rw [seqIndex_of h0 h4] at h1;exact Option.some.inj h1
  exact PySem.W.ki_setAt ho h0 (by omega) (by rw [b8,←hl];exact h4) (by rw [hk];exact ⟨_,I',q⟩)
 ·have hk:(k+(its.toArray.size:Int)).toNat=j:=by
   rw [seqIndex_neg (by omega) h3] at h1
   rw [b8,←hl];exact Option.some.inj h1
  exact PySem.W.ki_setBack ho (by omega) (by rw [b8,←hl];exact h3) (by omega) (by rw [hk];exact ⟨_,I',q⟩)
theorem L3(lo hi:Option Int)(n:Nat):(sliceBounds lo hi none n).1=((HT.eN n 0 lo:Nat):Int)∧(sliceBounds lo hi none n).2.1=((HT.eN n n hi:Nat):Int)∧(sliceBounds lo hi none n).2.2=1:=by
 refine ⟨?_,?_,rfl⟩
 ·cases lo with
  | none=>simp [sliceBounds,HT.eN]
  | some i=>
   simp only [sliceBounds,HT.eN,Option.getD_none,show (1:Int)>0 by decide,if_true]
   by_cases h:i<0;·simp only [h,if_true] <;> omega
   ·simp only [h,if_false] <;> omega
 ·cases hi with
  | none=>simp [sliceBounds,HT.eN]
  | some i=>
   simp only [sliceBounds,HT.eN,Option.getD_none,show (1:Int)>0 by decide,if_true]
   by_cases h:i<0;·simp only [h,if_true] <;> omega
   ·simp only [h,if_false] <;> omega
theorem L4(its:List Value)(lo hi:Option Int):slicePick its.toArray lo hi none=((its.drop (HT.eN its.length 0 lo)).take (HT.eN its.length its.length hi-HT.eN its.length 0 lo)).toArray:=by obtain ⟨h1,h2,h3⟩:=L3 lo hi its.toArray.size;unfold slicePick;rw [h1,h2,h3];simp only [sliceRange_one,pick_run,b8] <;> rfl
def L5(K:aB):V→Option Int→Option Int→Hp→VK→Prop:=fun x lo hi H Q=>∃a xs,x=.ref a∧aO K H a xs∧∀p,H p=none→Q (.ref p) (upd H p (.lst (i3 xs lo hi)))
theorem E6:EZ X (L5 X.K):=by
 intro pins s σ H x v vl vu lo hi sl Q I rx hs pl pu h;obtain ⟨a,xs,rfl,hx,q⟩:=h;cases rx;obtain ⟨its,r,ht,hz⟩:=I.list hx;have hlen:=r.length;refine ⟨"list",_,slot_list_getitem.lookup,ht.isList.typeIs,?_⟩;refine wpAny_getItem_list_slice ht.isList hs pl pu .none (by simp) ?_ (by rw [b8] <;> omega)
 rw [L4,←hlen];refine ⟨.ref s.heap.objs.size,_,I.laid (t':=s.toks) (o:=.lst (i3 xs lo hi)) (fun b ob q=>ck _ q) (ax _) ?_,rfl,q _ (I.aw.fresh (ax _))⟩;exact ⟨cj (LV xs lo hi) hz,_,0,(r.drop (HT.eN xs.length 0 lo)).take (HT.eN xs.length xs.length hi-HT.eN xs.length 0 lo),eI _ rfl⟩
def kB:V→Bool
 | .aJ=>true
 | .bl _=>true
 | .int _=>true
 | .str _=>true
 | _=>false
def dS:V→V→Bool
 | .aJ,.aJ=>true
 | .bl a,.bl b=>a == b
 | .bl a,.int b=>(if a then 1 else 0) == b
 | .int a,.bl b=>a == (if b then 1 else 0)
 | .int a,.int b=>a == b
 | .str a,.str b=>a == b
 | _,_=>false
variable {y x:V} {u:Value}
theorem uZ{A:Around}{v:Value}(ry:RelV y u)(rx:RelV x v)(fy:kB y=true)(fx:kB x=true):SeqAt.EqAt A s u v (dS y x):=by
 cases y with
 | aJ=>
  cases ry;cases x with
  | aJ=>cases rx;exact SeqAt.EqAt.same _
  | bl b=>cases rx;exact SeqAt.EqAt.none_bool b
  | int b=>obtain ⟨t,rfl⟩:=rx;exact SeqAt.EqAt.none_int b t
  | str b=>obtain ⟨t,rfl⟩:=rx;exact SeqAt.EqAt.none_str b t
  | _=>exact absurd (show false=true from fx) da
 | bl a=>
  cases ry;cases x with
  | aJ=>cases rx;exact SeqAt.EqAt.bool_none a
  | bl b=>cases rx;exact SeqAt.EqAt.bool_bool a b
  | int b=>obtain ⟨t,rfl⟩:=rx;exact SeqAt.EqAt.bool_int a b t
  | str b=>obtain ⟨t,rfl⟩:=rx;exact SeqAt.EqAt.bool_str a b t
  | _=>exact absurd (show false=true from fx) da
 | int a=>
  obtain ⟨t',rfl⟩:=ry;cases x with
  | aJ=>cases rx;exact SeqAt.EqAt.int_none a t'
  | bl b=>cases rx;exact SeqAt.EqAt.int_bool a t' b
  | int b=>obtain ⟨t,rfl⟩:=rx;exact SeqAt.EqAt.int_int a t' b t
  | str b=>obtain ⟨t,rfl⟩:=rx;exact SeqAt.EqAt.int_str a t' b t
  | _=>exact absurd (show false=true from fx) da
 | str a=>
  obtain ⟨t',rfl⟩:=ry;cases x with
  | aJ=>cases rx;exact SeqAt.EqAt.str_none a t'
  | bl b=>cases rx;exact SeqAt.EqAt.str_bool a t' b
  | int b=>obtain ⟨t,rfl⟩:=rx;exact SeqAt.EqAt.str_int a t' b t
  | str b=>obtain ⟨t,rfl⟩:=rx;exact SeqAt.EqAt.str_str a t' b t
  | _=>exact absurd (show false=true from fx) da
 | _=>exact absurd (show false=true from fy) da
def lE(x:V)(u:Value):Bool:=match u with
 | .none=>dS .aJ x
 | .bool b=>dS (.bl b) x
 | .int i _=>dS (.int i) x
 | .str z _=>dS (.str z) x
 | _=>false
theorem E7(r:RelV y u)(f:kB y=true):lE x u=dS y x:=by
 cases y with
 | aJ=>cases r;rfl
 | bl b=>cases r;rfl
 | int i=>obtain ⟨t,rfl⟩:=r;rfl
 | str z=>obtain ⟨t,rfl⟩:=r;rfl
 | _=>exact absurd (show false=true from f) da
theorem A9{x:V}:∀{xs:List V} {us:List Value},Vals xs us→xs.all kB=true→us.any (lE x)=xs.any fun y=>dS y x
 | _,_,.nil,_=>rfl
 | y::xs,u::us,.cons r t,f=>by rw [List.all_cons,f9] at f;rw [um,um,E7 r f.1,A9 t f.2]
theorem A_{A:Around}{s:Shared}{x:V}{v:Value}(rx:RelV x v)(fx:kB x=true):∀{xs:List V} {us:List Value},Vals xs us→xs.all kB=true→∀u∈us,SeqAt.EqAt A s u v (lE x u)
 | _,_,.nil,_=>fun u hu=>by cases hu
 | y::xs,u::us,.cons r t,f=>fun u' hu=>by
  rw [List.all_cons,f9] at f;rcases bb.mp hu with rfl | hu;·rw [E7 r f.1];exact uZ r rx f.1 fx
  ·exact A_ rx fx t f.2 u' hu
def xS(x:V)(xs:List V):Bool:=xs.any fun y=>dS y x
def E8(K:aB)(neg:Bool):R2:=fun x y H Q=>∃p xs,y=.ref p∧(aO K H p xs∨e8 K H p xs)∧kB x=true∧xs.all kB=true∧Q (.bl (if neg then !xS x xs else xS x xs)) H
theorem L6:cq X (compareOp .In) (E8 X.K false):=by
 intro pins s σ H x y v u Q I rx ry h;obtain ⟨p,xs,rfl,hq,fx,fs,q⟩:=h;cases ry;rcases hq with hq | hq
 ·obtain ⟨its,r,pl,hz⟩:=I.list hq
  refine SeqAt.in_listAt (lE x) pl.isList (fun w hw=>A_ rx fx r fs w (by simpa using hw)) ⟨.bl _,H,I,rfl,?_⟩
  rw [show its.toArray.any (lE x)=its.any (lE x) by simp,A9 r fs]
  exact q
 ·obtain ⟨its,r,pl,hz⟩:=I.tuple hq
  refine SeqAt.in_tupleAt (lE x) pl (fun w hw=>A_ rx fx r fs w (by simpa using hw)) ⟨.bl _,H,I,rfl,?_⟩
  rw [show its.toArray.any (lE x)=its.any (lE x) by simp,A9 r fs]
  exact q
theorem i5:fv X (.builtin "len") (fun xs H Q=>∃p ys,xs=[.ref p]∧(aO X.K H p ys∨e8 X.K H p ys)∧Q (.int ys.length) H):=by
 intro pins s σ H xs us Q I r h;obtain ⟨p,ys,rfl,hq,q⟩:=h;obtain ⟨u,rfl,rx⟩:=vals1 r;cases rx;have hn:=qX;rcases hq with hq | hq
 ·obtain ⟨its,r',pl,hz⟩:=I.list hq
  have hlen:=r'.length;exact Calls.call_len_list pl.isList (by simp only [b8] <;> omega) ⟨.int ys.length,H,I.tok _,⟨s.toks+1,by rw [b8,hlen]⟩,q⟩
 ·obtain ⟨its,r',pl,hz⟩:=I.tuple hq
  have hlen:=r'.length;exact len_tuple pl (by simp only [b8] <;> omega) ⟨.int ys.length,H,I.tok _,⟨s.toks+1,by rw [b8,hlen]⟩,q⟩
theorem L7:fv X (.type "list") (fun xs H Q=>∃p ys,xs=[.ref p]∧(aO X.K H p ys∨e8 X.K H p ys)∧∀l,H l=none→Q (.ref l) (upd H l (.lst ys))):=by
 intro pins s σ H xs us Q I r h;obtain ⟨p,ys,rfl,hq,q⟩:=h;obtain ⟨u,rfl,rx⟩:=vals1 r;cases rx
 have fin:∀(its:List Value),Vals ys its→ys.length≤sizeLine→∀(h':Heap) (c':Nat),(∀b o',s.heap.get? b=some o'→h'.get? b=some o')→
   h'.get? s.heap.objs.size=some {cls:=.type "list",dict:=none,data:=.seq its.toArray c',slots:=#[]}→EP X pins σ Q (.ref s.heap.objs.size) {s with heap:=h'}:=fun its r' hz h' c' kp e=>
  ⟨.ref s.heap.objs.size,_,I.laid (t':=s.toks) kp (ax _) (show cf X.prog X.w _ h' _ (.lst ys) from ⟨hz,its,c',r',e⟩),rfl,q _ (I.aw.fresh (ax _))⟩
 rcases hq with hq | hq
 ·obtain ⟨its,r',pl,hz⟩:=I.list hq
  have hlen:=r'.length;obtain ⟨o,ho,hc,n,hd⟩:=pl.isList;exact call_list_seq p (.inl rfl) ho hc hd (fun h' c' kp e=>fin its r' hz h' c' kp e) (by simp only [b8] <;> omega)
 ·obtain ⟨its,r',pl,hz⟩:=I.tuple hq
  have hlen:=r'.length;obtain ⟨o,ho,hc,n,hd⟩:=pl;exact call_list_seq p (.inr rfl) ho hc hd (fun h' c' kp e=>fin its r' hz h' c' kp e) (by simp only [b8] <;> omega)
theorem E9:fv X (.type "tuple") (fun xs H Q=>∃p ys,xs=[.ref p]∧((aO X.K H p ys∧∀l,H l=none→Q (.ref l) (upd H l (.tup ys)))∨(e8 X.K H p ys∧Q (.ref p) H))):=by
 intro pins s σ H xs us Q I r h;obtain ⟨p,ys,rfl,h⟩:=h;obtain ⟨u,rfl,rx⟩:=vals1 r;cases rx;rcases h with ⟨hq,q⟩ | ⟨hq,q⟩
 ·obtain ⟨its,r',pl,hz⟩:=I.list hq
  have hlen:=r'.length;refine call_tuple_list pl.isList (fun h' kp=>?_) (by simp only [b8] <;> omega)
  have I1:Inv X pins σ H {s with heap:=h'}:=I.kept (t':=s.toks) kp;have I2:Inv X pins σ (upd H h'.objs.size (.tup ys)) {s with heap:=h'.push {cls:=.type "tuple",data:=.seq its.toArray}}:=
   I1.laid (t':=s.toks) (fun b o e=>ck _ e) (ax _) (show cf X.prog X.w _ _ _ (.tup ys) from ⟨hz,its,r',IsTup.new _ _⟩)
  exact ⟨.ref h'.objs.size,_,I2,rfl,q _ (I1.aw.fresh (ax _))⟩
 ·obtain ⟨its,r',pl,hz⟩:=I.tuple hq
  exact call_tuple_same pl ⟨.ref p,H,I,rfl,q⟩
def E_(K:aB)(T:String)(x:V)(H:Hp):Prop:=match x with
 | .str _=>T="str"
 | .int _=>T="int"
 | .ref p=>(T="list"∧∃xs,aO K H p xs)∨(T="tuple"∧∃o,K.lookup p=some o∧o.cls=.type "tuple"∧o.dict=none) ∨
   (T="dict"∧((∃kvs,H p=some (.dK kvs))∨∃kvs,H p=some (.dT kvs)))∨(T="set"∧∃S n,H p=some (.set S n))
 | _=>False
theorem L8{T:String}{v:Value}(I:Inv X pins σ H s)(r:RelV x v)(ty:E_ X.K T x H) :
  s.TypeIs v T∧∀a,v=.ref a→∃ob,s.heap.get? a=some ob∧ob.dict=none:=by
 cases x with
 | str z=>obtain ⟨t,rfl⟩:=r;cases (show T="str" from ty);exact ⟨typeIs_str s z t,fun _ e=>nomatch e⟩
 | int i=>obtain ⟨t,rfl⟩:=r;cases (show T="int" from ty);exact ⟨typeIs_int s i t,fun _ e=>nomatch e⟩
 | ref p=>
  cases r;rcases ty with ⟨rfl,xs,hq⟩ | ⟨rfl,o,hk,hc,hd⟩ | ⟨rfl,hk⟩ | ⟨rfl,S,n,hk⟩
  ·obtain ⟨its,_,pl,_⟩:=I.list hq
   refine ⟨pl.isList.typeIs,fun a e=>?_⟩;cases e;obtain ⟨o,n,e,c,hd,_⟩:=pl;exact ⟨o,e,hd⟩
  ·refine ⟨⟨o,I.ee p o hk,hc⟩,fun a e=>?_⟩
   cases e;exact ⟨o,I.ee _ o hk,hd⟩
  ·have z:∃o,s.heap.get? p=some o∧o.ExactDict:=by
    rcases hk with ⟨kvs,hk⟩ | ⟨kvs,hk⟩
    ·obtain ⟨_,_,_,_,o,_,_,e,ex,_⟩:=I.aw p _ hk
     exact ⟨o,e,ex⟩
    ·obtain ⟨_,_,_,_,o,_,_,e,ex,_⟩:=I.aw p _ hk
     exact ⟨o,e,ex⟩
   obtain ⟨o,e,ex⟩:=z;refine ⟨⟨o,e,ex.1⟩,fun a e2=>?_⟩;cases e2;exact ⟨o,e,ex.2.1⟩
  ·obtain ⟨o,_,_,_,e,ex,_⟩:=I.aw p _ hk
   refine ⟨⟨o,e,ex.1⟩,fun a e2=>?_⟩;cases e2;exact ⟨o,e,ex.2.1⟩
 | _=>exact False.elim ty
def L9(K:aB)(T:String)(r:V→List V→Hp→VK→Prop)(to:TE)(t:TA):TE:=fun σ H Q=>to σ H fun x H1=>E_ K T x H1∧t σ H1 fun xs H2=>r x xs H2 Q
variable {o e:Expr} {es:List Expr} {to:TE} {t:TA} {name:Str} {apos iE:Pos} {T id:String} {r:V→List V→Hp→VK→Prop}
theorem jC(pa:PlainAttrs T)(slot:Slot T name id)(L_:typeOf (.builtin id)=pure (.type "method_descriptor"))(hm:LW X id r)(ho:PE X o to)(ha:PA X (e::es) t)
  (Ma:attributeBase o name X.env (eval o X.env)=eval o X.env:=by rfl)
  (Mb:((backTo iE (starEach (e::es) X.env)).all (fun x=>!x.1) && (backToKw iE (keywordEach [] X.env)).all (fun x=>x.1.isSome)
   && decide ((e::es).length+([]:List Keyword).length+(if ([]:List Keyword).isEmpty then 0 else 1)<30))=true:=by rfl)
  (Mc:(apos.endLine == iE.line)=true:=by rfl) (hs:starEach (e::es) X.env=(false,eval e X.env)::starEach es X.env:=by rfl) (Md:(backTo iE (starEach es X.env)).any (·.1)=false:=by rfl) :
  PE X (.Call (.Attribute o name apos) (e::es) [] iE) (L9 X.K T r to t):=by
 intro pins s σ H Q I h;refine wpAny_Call_method_late Ma Mb Mc rfl (aD (ho pins s σ H _ I h) fun v s1 ⟨x,H1,I1,r1,ty,q1⟩=>?_);obtain ⟨h1,h2⟩:=L8 I1 r1 ty;refine ⟨T,id,pa,slot,L_,h1,h2,?_⟩;have hA:=ha iE pins s1 σ H1 _ I1 q1;rw [hs] at hA ⊢;refine Calls.callWith_builtin (by show (false || (backTo iE (starEach es X.env)).any (·.1))=false;rw [Md] <;> rfl) (Calls.evalArgs_plain ?_)
 exact aD hA fun us s2 ⟨vs,H2,I2,r2,q2⟩=>hm pins s2 σ H2 x vs v us Q I2 r1 r2 q2
end
def xT(X:Cx)(id:String)(r:V→List V→Hp→VK→Prop):Prop:=
 ∀(pins:aI) (s:Shared) (σ:St) (H:Hp) (x:V) (xs:List V) (v:Value) (us:List Value) (Q:VK),Inv X pins σ H s→RelV x v→Vals xs us→r x xs H Q→
  wpAny (model X.prog X.w) X.A (call (.builtin id) (v::us)) (EP X pins σ Q) X.xe s
theorem Vals.one:∀{x:V} {us:List Value},Vals [x] us→∃u,us=[u]∧RelV x u
 | _,_,.cons r .nil=>⟨_,rfl,r⟩
theorem Vals.eraseIdx:∀{xs:List V} {us:List Value} (i:Nat),Vals xs us→Vals (xs.eraseIdx i) (us.eraseIdx i)
 | _,_,_,.nil=>.nil
 | _,_,0,.cons _ t=>t
 | _,_,i+1,.cons r t=>.cons r (Vals.eraseIdx i t)
theorem Vals.reverse{xs:List V}{us:List Value}(h:Vals xs us):Vals xs.reverse us.reverse:=by
 induction h with
 | nil=>exact .nil
 | cons r t ih=>rw [List.reverse_cons,List.reverse_cons];exact Vals.append ih (.cons r .nil)
theorem Vals.rep{xs:List V}{us:List Value}(h:Vals xs us):∀k:Nat,Vals (List.replicate k xs).flatten (List.replicate k us).flatten
 | 0=>.nil
 | k+1=>by rw [me,me,qv,qv];exact Vals.append h (Vals.rep h k)
theorem Ba{α:Type}:∀(l:List α) (i:Nat),(l.eraseIdx i).length≤l.length
 | [],_=>ax _
 | _::_,0=>qw _
 | _::r,i+1=>Nat.succ_le_succ (Ba r i)
theorem foldl_rep(its:List Value):∀(k:Nat) (acc:List Value),
  List.foldl (fun x1 x2=>x1++x2) acc.toArray (List.replicate k its.toArray)=(acc++(List.replicate k its).flatten).toArray
 | 0,acc=>by simp
 | k+1,acc=>by
  have e:acc.toArray++its.toArray=(acc++its).toArray:=by simp
  have e2:(acc++its)++(List.replicate k its).flatten=acc++(List.replicate (k+1) its).flatten:=by rw [me,qv,fm]
  rw [←e2,←foldl_rep its k (acc++its),←e,me,List.foldl_cons]
section
variable {X:Cx} {pins:aI} {σ:St} {H:Hp} {s:Shared} {l b:Addr} {xs ys zs:List V}
variable {its:List Value} {n t':Nat}
theorem Inv.xU{its':List Value}{f:Array Value→Array Value}(I:Inv X pins σ H s)(hH:H l=some (.lst xs))
  (e:s.heap.get? l=some {cls:=.type "list",data:=.seq its.toArray n}) (hf:f its.toArray=its'.toArray) (hv:Vals ys its') (hz:ys.length≤sizeLine) :
  Inv X pins σ (upd H l (.lst ys)) {s with heap:=s.heap.update l (Obj.mapSeq f),toks:=t'}:=by
 have q:=PySem.IsL.update e f;rw [hf] at q;refine I.write (x:=l) (e:=l) (by rw [hH];exact trivial) (.inl rfl) (fun b' u hb hu=>(Az s.heap (Obj.mapSeq f) (Ne.symm hb)).trans hu) ⟨_,q⟩ ?_
 exact ⟨hz,its',_,hv,q⟩
theorem Inv.Fb(I:Inv X pins σ H s)(hv:Vals ys its)(hz:ys.length≤sizeLine) :
  Inv X pins σ (upd H s.heap.objs.size (.lst ys)) {s with heap:=s.heap.push {cls:=.type "list",data:=.seq its.toArray},toks:=t'}:=
 I.laid (fun _ _ q=>ck _ q) (ax _) ⟨hz,its,0,hv,eI _ rfl⟩
theorem Inv.fresh(I:Inv X pins σ H s):H s.heap.objs.size=none:=I.aw.fresh (ax _)
theorem Inv.mL(I:Inv X pins σ H s)(hH:H l=some (.lst xs)):xs.length≤sizeLine∧∃(its:List Value) (n:Nat),Vals xs its∧xs.length=its.length∧s.heap.get? l=some {cls:=.type "list",data:=.seq its.toArray n}:=by obtain ⟨z,its,n,r,e⟩:=I.aw l _ hH;exact ⟨z,its,n,r,r.length,e⟩
theorem Fc(h:n≤sizeLine):Builtin.List.listTooLong n=false:=by unfold Builtin.List.listTooLong;exact bt (by omega)
end
section
variable {X:Cx}
def Me:V→List V→Hp→VK→Prop:=fun x vs H Q=>∃l xs y,x=.ref l∧vs=[y]∧H l=some (.lst xs)∧xs.length<sizeLine∧Q .aJ (upd H l (.lst (xs++[y])))
theorem kC:xT X "list.append" Me:=by
 intro pins s σ H x vs v us Q I rx rv h;obtain ⟨l,xs,y,rfl,rfl,hH,hz,q⟩:=h;cases rx;obtain ⟨u,rfl,ru⟩:=rv.one;obtain ⟨z,its,n,r,hl,e⟩:=I.mL hH;refine call_meets F.slot_list_append ⟨_,e,rfl⟩ F.entry_list_append (F.args_list_append_2 _ _) (PySem.list_append l its.toArray n u (by rw [b8];omega)) ⟨e,?_⟩
 refine ⟨.aJ,_,I.xU (its':=its++[u]) hH e (by simp) (r.append (.cons ru .nil)) ?_,rfl,q⟩
 rw [dP,uo];omega
def Mf:V→List V→Hp→VK→Prop:=fun x vs H Q=>∃l b xs zs,x=.ref l∧vs=[.ref b]∧H l=some (.lst xs)∧H b=some (.lst zs)∧xs.length+zs.length≤sizeLine∧Q .aJ (upd H l (.lst (xs++zs)))
theorem Fd:xT X "list.extend" Mf:=by
 intro pins s σ H x vs v us Q I rx rv h;obtain ⟨l,b,xs,zs,rfl,rfl,hH,hB,hz,q⟩:=h;cases rx;obtain ⟨u,rfl,ru⟩:=rv.one;cases ru;obtain ⟨z,its,n,r,hl,e⟩:=I.mL hH;obtain ⟨z2,mM,n2,r2,Mg,e2⟩:=I.mL hB;have hsz:its.toArray.size+mM.toArray.size≤sizeLine:=by rw [b8,b8];omega
 have Bb:¬(!its.toArray.isEmpty && Builtin.List.listTooLong (its.toArray.size+mM.toArray.size))=true:=by rw [Fc hsz,Bool.and_false];exact da
 refine call_meets F.slot_list_extend ⟨_,e,rfl⟩ F.entry_list_extend (F.args_list_extend_2 _ _)
  (AutoSeq1.list_extend_list_list_0 l its.toArray n b mM.toArray n2 Bb (by rw [b8];omega) (by omega)) ⟨e,e2,?_⟩
 refine ⟨.aJ,_,I.xU (its':=its++mM) hH e (by simp) (r.append r2) ?_,rfl,q⟩
 rw [dP];omega
def Mh:V→List V→Hp→VK→Prop:=fun x vs H Q=>∃l xs i k y,x=.ref l∧vs=[.int i]∧H l=some (.lst xs)∧-(2 ^ 63)≤i∧i<2 ^ 63∧seqIndex? i xs.length=some k∧xs[k]?=some y∧Q y (upd H l (.lst (xs.eraseIdx k)))
theorem Mi:xT X "list.pop" Mh:=by
 intro pins s σ H x vs v us Q I rx rv h;obtain ⟨l,xs,i,k,y,rfl,rfl,hH,h1,h2,hk,hy,q⟩:=h;cases rx;obtain ⟨u,rfl,ru⟩:=rv.one;obtain ⟨t,rfl⟩:=ru;obtain ⟨z,its,n,r,hl,e⟩:=I.mL hH;obtain ⟨w,hw,ei⟩:=r.get hy
 refine call_meets F.slot_list_pop ⟨_,e,rfl⟩ F.entry_list_pop (F.args_list_pop_2 _ _)
  (MeetsSeq.list_pop_at l its.toArray n i t k w (fitsIndex_both h1 h2) (by rw [b8,←hl];exact hk) (by rw [←wX];exact hw) (by rw [b8];omega)) ⟨e,?_⟩
 refine ⟨y,_,I.xU (its':=its.eraseIdx k) hH e ?_ (r.eraseIdx k) ?_,ei,q⟩
 ·show its.toArray.eraseIdxIfInBounds k=(its.eraseIdx k).toArray
  rw [List.eraseIdxIfInBounds_toArray]
 ·have:=Ba xs k
  omega
def Mj:R2:=fun x y H Q=>∃l b xs zs,x=.ref l∧y=.ref b∧H l=some (.lst xs)∧H b=some (.lst zs)∧xs.length+zs.length≤sizeLine∧∀p,H p=none→Q (.ref p) (upd H p (.lst (xs++zs)))
theorem Bc:cq X (binaryOp .Add) Mj:=by
 intro pins s σ H x y v u Q I rx ry h;obtain ⟨l,b,xs,zs,rfl,rfl,hH,hB,hz,q⟩:=h;cases rx;cases ry;obtain ⟨z,its,n,r,hl,e⟩:=I.mL hH;obtain ⟨z2,mM,n2,r2,Mg,e2⟩:=I.mL hB;refine PySem.P.add_list e e2 ?_ (by rw [b8,b8];omega)
 have ea:its.toArray++mM.toArray=(its++mM).toArray:=by simp
 rw [ea];exact ⟨.ref _,_,I.Fb (t':=s.toks) (r.append r2) (by rw [dP];omega),rfl,q _ I.fresh⟩
def Mk:R2:=fun x y H Q=>∃l k xs,x=.ref l∧y=.int k∧H l=some (.lst xs)∧-(2 ^ 63)≤k∧k<2 ^ 63∧xs.length*k.toNat≤sizeLine ∧
 ∀p,H p=none→Q (.ref p) (upd H p (.lst (List.replicate k.toNat xs).flatten))
theorem len_rep{α:Type}(xs:List α)(k:Nat):(List.replicate k xs).flatten.length=k*xs.length:=by
 induction k with
 | zero=>simp
 | succ k ih=>rw [me,qv,dP,ih,Nat.succ_mul,Nat.add_comm]
theorem Fe:cq X (binaryOp .Mult) Mk:=by
 intro pins s σ H x y v u Q I rx ry h;obtain ⟨l,k,xs,rfl,rfl,hH,h1,h2,hz,q⟩:=h;cases rx;obtain ⟨t,rfl⟩:=ry;obtain ⟨z,its,n,r,hl,e⟩:=I.mL hH;have hlen:its.toArray.size*k.toNat≤sizeLine:=by rw [b8,←hl];exact hz
 have Ml:¬its.toArray.size*k.toNat>(2 ^ 63-1) / 8:=by
  have:(sizeLine:Nat)≤(2 ^ 63-1) / 8:=by decide
  omega
 have Bd:¬(!Builtin.List.listFitsIndex k)=true:=by rw [fitsIndex_both h1 h2];exact da
 have Bb:¬Builtin.List.listTooLong (its.toArray.size*k.toNat)=true:=by rw [Fc hlen];exact da
 have Mm:List.foldl (fun x1 x2=>x1++x2) #[] (List.replicate (if its.toArray.isEmpty=true then 0 else k.toNat) its.toArray)=(List.replicate k.toNat its).flatten.toArray:=by
  have f0:∀m:Nat,List.foldl (fun x1 x2=>x1++x2) #[] (List.replicate m its.toArray)=(List.replicate m its).flatten.toArray:=fun m=>by have:=foldl_rep its m [];rw [List.nil_append] at this;exact this
  rw [f0];cases its with
  | nil=>simp
  | cons a r'=>rw [aa (by simp)]
 refine wpAny_binaryOp_repeat_ref (T:="list") (U:="int") (by decide) ⟨_,e,rfl⟩ (fun s'=>typeIs_int s' k t) noFill_list_mul F.fills_int_mul F.slot_int_rmul repeat_list F.slot_int_index.lookup
  (call_meets F.slot_int_rmul (typeIs_int s k t) F.entry_int_rmul (F.args_int_rmul_2 _ _) (int___rmul___int_list k t l its.toArray n)
   ⟨e,rfl,⟨_,e,rfl⟩,call_meets F.slot_list_mul ⟨_,e,rfl⟩ F.entry_list_mul (F.args_list_mul_2 _ _) (AutoListH.list___mul___list_int_3 l its.toArray n k t Bd Ml Bb) ⟨e,?_⟩⟩)
 rw [Mm];exact ⟨.ref _,_,I.Fb (t':=s.toks) (r.rep k.toNat) (by rw [len_rep,Nat.mul_comm];exact hz),rfl,q _ I.fresh⟩
end
section
variable {prog:Program} {w:World} {A:Around} {E:aM} {s:Shared}
end
section
variable {X:Cx}
end
end L2
namespace Att
open PySem PySem.W PySem.Calls PyProof.Rows
variable {P:Params} {h:Heap}
theorem Mn:∀(ns:List Int) (vs:List Value),WellAll P h vs (ns.map WData.int)→IntsAre vs ns:=by
 intro ns
 induction ns with
 | nil=>intro vs w;rw [List.map_nil] at w;cases w;exact .nil
 | cons n ns ih=>
  intro vs w;rw [cT] at w;cases w with
  | cons a b=>cases a;exact .cons _ _ (ih _ b)
variable {l:OpenLaw} {n:Nat}
theorem Mo(hn:l.most=some n){args:List WData}{vals:List Value}
  (xW:l.row.toRowW.claim.pre args=true) (Be:WellAll P h vals args) :
  ∃a vs ns,vals=[Value.ref a]∧args=[WData.list (ns.map WData.int)]∧h.get? a=some {cls:=.type "list",data:=.seq vs.toArray}∧IntsAre vs ns∧ns.length≤n:=by
 have Mp:WShape.hasAll [] args [.list .int]=true:=(pre_splitW xW).1;have hc:l.pre.holds [] {args:=args}=true:=(pre_splitW xW).2;obtain ⟨d,r,rfl,h1,h2⟩:=hasAllW_cons Mp;obtain rfl:=hasAllW_nil h2;obtain ⟨xs,rfl,h3⟩:=hasW_list h1;obtain ⟨ns,rfl⟩:=items_int h3;have hlen:ns.length≤n:=by
  unfold OpenLaw.pre at hc;have h4:(WTm.not (.lt (.lit (.int (n:Int))) (.len (.arg 0)))).holds [] {args:=[.list (ns.map .int)]}=true:=by have h4:=(holds_andW hc).1;rw [hn] at h4;exact h4
  have h5:=condW_of h4 (w_not (w_lt w_lit (w_len_list (w_arg rfl))));rw [aG] at h5;refine Nat.le_of_not_lt fun q=>?_;have q':(n:Int)<((ns.length:Nat):Int):=by omega
  first
   | (rw [a7 q'] at h5;exact absurd h5 (by decide))
   | (simp at h5;omega)
 cases Be with
 | cons w1 w2=>
  cases w2;cases w1 with
  | list ho Bf=>exact ⟨_,_,ns,rfl,rfl,ho,Mn ns _ Bf,hlen⟩
theorem Mq(l:OpenLaw)(args:List WData):l.row.toRowW.claim.post args (.bool true) args=true:=
 postW_of (r:=l.row.toRowW) (X:=(true == true))
  (show WShape.has [] (.bool true) .bool=true by first | rfl | decide | simp [WShape.has,WShape.arms,WShape.armsAll])
  (show (WTm.eq .res (.lit (.bool true))).value [] {args:=args,res:=some (.bool true),after:=args}=some (.bool (true == true)) from w_eq_bool (w_res rfl) w_lit) rfl
theorem Mr{q:Program}{loose:List Str}{XP:(Str→Option Value)→Heap→Prop}{YP:World→Heap→Prop}{d:DefRec}
  (hn:l.most=some n) (u0:d.params.defaults=[])
  (call:∀(w:World) (s₀ s₁:Shared) (mg mb:cy) (fa:Addr) (o:Obj) (pm cd doc:Value) (a:Addr) (vs:List Value) (ns:List Int),
   Ground q loose [] XP w s₀ mg mb s₁.heap→YP w s₁.heap→
   s₁.heap.get? fa=some o→o.data=.func (docDef d.name d.params d.body d.scope pm cd doc)→s₁.heap.CodeRec cd d.name→mg d.name=some (.ref fa)→
   s₁.heap.get? a=some {cls:=.type "list",data:=.seq vs.toArray}→IntsAre vs ns→ns.length≤n→s₁.gens = #[]→
   codeAny (model l.prog w) callerA (.call (.ref fa) ⟨[.ref a],[]⟩) (fun r s'=>r=.ok (.ret (.bool true))∧OldK s₁.heap s'.heap∧s'.os=s₁.os∧AllBare s'.gens) s₁) :
  WalkO q loose XP YP l.row.toRowW d [] (fun f vs=>PySem.call f vs):=by
 intro w s₀ s₁ mg mb G Y fa o pm cd doc dV kV ho hd dR hD u4 hg args vals as xW Xh Xi Be Xj;obtain rfl:dV=.none:=Dflts.none hD u0;obtain rfl:kV=.none:=Dflts.noKw hD;obtain ⟨a,vs,ns,rfl,rfl,Bg,hints,hlen⟩:=Mo hn xW Be;refine enter_call (codeAny_mono (call w s₀ s₁ mg mb fa o pm cd doc a vs ns G Y ho (fd_plain hd) dR u4 Bg hints hlen hg) fun r s' hq=>?_);obtain ⟨rfl,h2,h3,h4⟩:=hq;exact ⟨.inl ⟨.bool true,.bool true,[],rfl,fun _=>rfl,.bool true,Mq l _,fun _=>⟨List.Pairwise.nil,fun _ hm=>(nomatch hm)⟩⟩,h2,h3,h4⟩
section
variable {prog:Program} {w:World} {A:Around} {E:aM} {s:Shared} {K:Frag}
def oC(h:Heap):Heap:={h with objs:=#[]}
theorem Bh(h:Heap)(b:Addr):(oC h).get? b=none:=by
 cases e:(oC h).get? b with
 | none=>rfl
 | some o=>exact absurd (aU e) (mf _)
def ledger(h:Heap)(L d:Addr):List (Addr×Obj):=(List.range h.objs.size).filterMap fun a=>if a=L∨a=d then none else (h.get? a).map fun o=>(a,o)
variable {L d:Addr}
theorem Ff{a:Addr}{o:Obj}:(a,o)∈ledger h L d↔a≠L∧a≠d∧h.get? a=some o:=by
 unfold ledger;rw [wR];constructor
 ·rintro ⟨b,_,e⟩
  split at e
  ·cases e
  ·rename_i hb
   obtain ⟨o',ho,e'⟩:=AA.mp e;cases e';exact ⟨fun q=>hb (.inl q),fun q=>hb (.inr q),ho⟩
 ·rintro ⟨n1,n2,ho⟩
  refine ⟨a,bY.mpr (aU ho),?_⟩;rw [aa (show ¬(a=L∨a=d) from fun q=>q.elim n1 n2),ho] <;> rfl
theorem Ms{od:Obj}(fw:d≠L)(ho:h.get? d=some od):News (oC h) L h ([]++(d,od)::ledger h L d):=by
 rintro ⟨a,o⟩ hp;rcases bb.mp hp with e | hp
 ·cases e
  exact ⟨ho,fw,Bh _ _⟩
 ·obtain ⟨n1,n2,e⟩:=Ff.mp hp
  exact ⟨e,n1,Bh _ _⟩
theorem Mt{m:cy}(n:h.Ns L m):Fr (oC h) L h m:=
 ⟨n,fun b o e=>(by rw [Bh] at e;cases e),b7 _⟩
end
end Att
namespace L2
open PySem PySem.Spec PyProof.Rows
theorem Fg:∀{vs:List Value} {ns:List Int},IntsAre vs ns→Vals (ns.map V.int) vs
 | _,_,.nil=>.nil
 | _,_,.cons n t h=>.cons ⟨t,rfl⟩ (Fg h)
abbrev Fh {K:aB} {h:Heap} (_:K.In h):PySem.W.Frag:=K
def u5(s:Stmt):Arguments:=match s with
 | .FunctionDef _ a _ _ _ _ _ _ _ _=>a
 | _=>{posonlyargs:=[],args:=[],vararg:=none,kwonlyargs:=[],kw_defaults:=[],kwarg:=none,defaults:=[]}
def kD(s:Stmt):List Stmt:=match s with
 | .FunctionDef _ _ b _ _ _ _ _ _ _=>b
 | _=>[]
def bj(s:Stmt):Scope:=match s with
 | .FunctionDef _ _ _ _ _ _ sc _ _ _=>sc
 | _=>{kind:=.function,names:=[],isGenerator:=false,isCoroutine:=false}
abbrev cm:gO:=fun _ _ _ _ _ _=>False
abbrev E0:XK:=fun _ _ _=>False
theorem bL{X:Cx}:Passes cm X E0:=fun _ _ _ _ _ _ _ h=>h.elim
structure fO (K:aB) (x qual:Str) (st:Stmt) (f:Addr) (fd:FuncData):Prop where
 ex:∃(oc:Value) (od:Option Addr) (kV doc pm:Value) (an:Option Addr) (bK ct:Value) (jA:Array (Option Value)),
  fd=PySem.W.fnOf x qual (u5 st) (kD st) (bj st) .none kV doc pm an bK ct∧K.lookup f=some ⟨oc,od,.func fd,jA⟩∧PySem.W.codeIn K bK qual=true
 kp:PySem.W.keepIn K (.ref f)=true
abbrev aV (K:aB) (x:Str) (st:Stmt) (f:Addr) (fd:FuncData):Prop:=fO K x x st f fd
section
variable {P:Program} {w:World} {K:aB} {mg:cy} {base:Heap}
variable {x qual:Str} {f:Addr} {fd:FuncData} {N ps:List Str} {k:Nat} {sp:Sp}
theorem fO.ok{st:Stmt}(F:fO K x qual st f fd)(S:bQ N ps (bj st))(len:∀vs H Q E,sp vs H Q E→vs.length=ps.length)
  (jB:∀(bK:Value) (A:Around) (outer:List Env) (s:Shared) (H:Hp) (vs:List V) (Q:VK) (E:XK),dm k (A.deeper (envOfC qual (bj st) s.heap.objs.size f bK))→sp vs H Q E→
   ∃t,eL (iY cm P w K mg base N qual (bj st) f bK A outer s H E).lA (kD st) t∧t {nx:=fun _ H'=>Q .aJ H',rt:=Q} (start N vs) H):bH P w K mg base cm (k+1) f fd ps sp:=by
 obtain ⟨oc,od,kV,doc,pm,an,bK,ct,jA,rfl,lk,dR⟩:=F.ex;refine A6 lk dR S len fun A outer s H vs Q E hr ky=>?_;obtain ⟨t,h,q⟩:=jB bK A outer s H vs Q E hr ky;exact ⟨t,h.lA,q⟩
theorem fO.dy{st:Stmt}(F:fO K x qual st f fd)(S:bQ N ps (bj st))
  (jB:∀(bK:Value) (A:Around) (outer:List Env) (s:Shared) (H:Hp) (vs:List V) (Q:VK) (E:XK),dm k (A.deeper (envOfC qual (bj st) s.heap.objs.size f bK))→sp vs H Q E→
   ∃t,eL (iY cm P w K mg base N qual (bj st) f bK A outer s H E).lA (kD st) t∧t {nx:=fun _ H'=>Q .aJ H',rt:=Q} (start N vs) H)
  (len:∀vs H Q E,sp vs H Q E→vs.length=ps.length:=by intro vs H Q E h;repeat first | (obtain ⟨rfl,_⟩:=h;rfl) | (subst h;rfl) | obtain ⟨_,h⟩:=h):bH P w K mg base cm (k+1) f fd ps sp:=F.ok S len jB
theorem fO.binds{st:Stmt}(F:fO K x qual st f fd)
  (h:∀(kV doc pm:Value) (an:Option Addr) (bK ct:Value) (us:List Value),us.length=ps.length→bindArgs (PySem.W.fnOf x qual (u5 st) (kD st) (bj st) .none kV doc pm an bK ct) ⟨us,[]⟩=pure (ps.zip us)):Binds K fd ps []:=by
 obtain ⟨oc,od,kV,doc,pm,an,bK,ct,jA,rfl,lk,dR⟩:=F.ex;exact .all (h kV doc pm an bK ct)
theorem fO.bW{st:Stmt}(F:fO K x qual st f fd)
  (h:∀(kV doc pm:Value) (an:Option Addr) (bK ct:Value) (us:List Value),us.length=ps.length→bindArgs (PySem.W.fnOf x qual (u5 st) (kD st) (bj st) .none kV doc pm an bK ct) ⟨us,[]⟩=pure (ps.zip us):=by intro _ _ _ _ _ _ us hl;rcases us with _ | ⟨_,_ | ⟨_,_ | ⟨_,_ | ⟨_,_ | ⟨_,_ | ⟨_,_ | ⟨_,_⟩⟩⟩⟩⟩⟩⟩ <;> first | rfl | (simp at hl;done)):Binds K fd ps []:=F.binds h
theorem cM{st:Stmt}{oc:Value}{od an:Option Addr}{jA:Array (Option Value)}{kV doc pm bK ct:Value}(l:K.lookup f=some ⟨oc,od,.func (PySem.W.fnOf x qual (u5 st) (kD st) (bj st) .none kV doc pm an bK ct),jA⟩)
  (c:PySem.W.codeIn K bK qual=true) (k:PySem.W.keepIn K (.ref f)=true):fO K x qual st f (PySem.W.fnOf x qual (u5 st) (kD st) (bj st) .none kV doc pm an bK ct):=⟨⟨oc,od,kV,doc,pm,an,bK,ct,jA,rfl,l,c⟩,k⟩
end
theorem dz{n:Nat}(h:n≤1000):n<sizeLine:=j6 h (by decide)
section
variable {X:Cx}
theorem pv(i:Nat){x:Str}{pos:Pos}(hN:X.N[i]?=some x:=by rfl)(hv:my X.env.scope x:=by first | exact Or.inl rfl | exact Or.inr (Or.inl rfl) | exact Or.inr (Or.inr rfl))(hd:(x == ("__debug__":Str))=false:=by decide)
  (dR:(x == ("__classdict__":Str))=false:=by decide):PE X (.Name x pos) (Em i):=KI hN hv hd dR
end
variable {A B:Prop}
theorem iF(h:B):if false=true then A else B:=by rw [aa da];exact h
theorem kF(h:A):if true=true then A else B:=by rw [ae rfl];exact h
theorem de{c:Prop}[Decidable c](h1:c→A)(h2:¬c→B):if c then A else B:=by
 by_cases h:c
 ·rw [ae h]
  exact h1 h
 ·rw [aa h]
  exact h2 h
def ak(H H':Hp):Prop:=∀b o,H b=some o→H' b=some o
theorem ak.refl(H:Hp):ak H H:=fun _ _ h=>h
variable {H:Hp}
theorem ak.trans{H1 H2:Hp}(a:ak H H1)(b:ak H1 H2):ak H H2:=fun c o h=>b c o (a c o h)
theorem ak.seq{K:aB}{H':Hp}{a:Addr}{xs:List V}(e:ak H H')(h:aO K H a xs):aO K H' a xs:=by
 rcases h with (h | ⟨o,h⟩) | h;·exact .inl (.inl (e _ _ h))
 ·exact .inl (.inr ⟨o,e _ _ h⟩)
 ·exact .inr h
end L2
set_option maxHeartbeats 4000000
namespace L2
open PySem PySem.Spec PyProof.Rows
structure xX (P:Program) (w:World) (outer:List Env) (H:Hp) (s:Shared) (H':Hp) (ea C:Addr) (B:Heap) (t:Addr) (s':Shared):Prop where
 os:s'.os=s.os
 bare:AllBare s'.gens
 fl:Heap.FlyingW B outer ea (.ref C) (.ref t) s'.heap
 aw:bV P w H' B
 kb:∀b o,s.heap.get? b=some o→H b=none→b∉cz outer→B.get? b=some o
 tb:∀b o,s.heap.get? b=some o→b∉cz outer→∃o',B.get? b=some o'
 sl:∀b o,s.heap.get? b=some o→H b=none→b∈cz outer→∃l,s'.heap.get? b=some {o with slots:=l}
 Xk:∀b∈cz outer,H b=none
 Mu:∀b o,s.heap.get? b=some o→H b=none→H' b=none
 gc:∀b xs,H b=some (.tup xs)→H' b=some (.tup xs)
 fK:∀b o u,H b=some (.a9 o u)→H' b=some (.a9 o u)
 fN:∀b ps,H b=some (.cK ps)→∃more,H' b=some (.cK (ps++more))
def gp(P:Program)(w:World):gO:=fun outer H s E e s'=>∃ea C H' B t,e=.ref ea∧xX P w outer H s H' ea C B t s'∧E (.ref C) none H'
section
variable {P:Program} {w:World} {outer:List Env} {H H':Hp} {s s':Shared} {ea C t:Addr} {B:Heap}
def ExcAt(ea C:Addr)(h:Heap):Prop:=∃oe,h.get? ea=some oe∧oe.cls=.ref C∧PySem.W.notCls oe=true
def Mv(ea C:Addr):HO:=.ext (ExcAt ea C)
end
section
variable {X:Cx} {pins:aI} {σ:St} {H H':Hp} {s s':Shared} {ea C t:Addr} {B:Heap}
structure qZ (X:Cx) (E:XK):Prop where
 iq:X.stack=X.env::X.outer
 fr:X.env.frame=some X.env.locals
 ex:X.ex=[]
 xe:X.xe=fun e s'=>wpAny (model X.prog X.w) X.A (leaving X.env e) (fun _ ku=>gp X.prog X.w X.outer X.H₀ X.s₀ E e ku) (fun e' ku=>gp X.prog X.w X.outer X.H₀ X.s₀ E e' ku) s'
theorem xY{env:Env}{outer:List Env}{L:Addr}(h:env.frame=some L):cz (env::outer)=L::cz outer:=by unfold cz;rw [wO,h]
variable {E:XK}
theorem xX.leave(L:qZ X E)(I:Inv X pins σ H s)(f:xX X.prog X.w X.stack H s H' ea C B t s'){h:Heap}(x:Heap.FlyingW B X.outer ea (.ref C) (.ref t) h)(up:s'.heap.UpToSlots h):xX X.prog X.w X.outer X.H₀ X.s₀ H' ea C B t {s' with heap:=h}:=by
 have nL:∀b o,X.s₀.heap.get? b=some o→b≠X.env.locals:=fun b o e=>bX (dD (aU e) I.ok.above);have ns:∀b o,X.s₀.heap.get? b=some o→b∉cz X.outer→b∉cz X.stack:=fun b o e nb z=>by
  rw [L.iq,xY L.fr] at z;rcases bb.mp z with z | z;·exact nL b o e z
  ·exact nb z
 have nx:∀b:Addr,b∉X.ex:=fun b z=>by rw [L.ex] at z;cases z
 refine ⟨f.os.trans I.os,f.bare,x,f.aw,fun b o e n nb=>?_,fun b o e nb=>?_,fun b o e n hb=>?_,I.ok.mB,fun b o e n=>?_,fun b xs e=>f.gc b xs (I.base.gc b xs e),fun b o u e=>f.fK b o u (I.base.fK b o u e),fun b ps e=>?_⟩;·exact f.kb b o (I.base.keep b o e n nb (nx b)) (I.base.free b o e n (nx b)) (ns b o e nb)
 ·obtain ⟨o',e'⟩:=I.base.there b o e (nx b)
  exact f.tb b o' e' (ns b o e nb)
 ·obtain ⟨l,q⟩:=I.base.slot b o e n hb (nx b)
  have hs:b∈cz X.stack:=by rw [L.iq,xY L.fr];exact bP _ hb
  obtain ⟨l2,q2⟩:=f.sl b _ q (I.base.free b o e n (nx b)) hs;obtain ⟨_,o2,q3,nf⟩:=f.fl.2.2.1.mem hs;rw [q2] at q3;cases q3;obtain ⟨l3,q4⟩:=up b _ q2 nf;exact ⟨l3,q4⟩
 ·obtain ⟨o',e'⟩:=I.base.there b o e (nx b)
  exact f.Mu b o' e' (I.base.free b o e n (nx b))
 ·obtain ⟨m1,e1⟩:=I.base.fN b ps e
  obtain ⟨m2,e2⟩:=f.fN b _ e1;exact ⟨m1++m2,by rw [e2,Array.append_assoc]⟩
theorem q8:Passes (gp X.prog X.w) X (fun _ _ _=>False):=fun pins σ H s e s' I h=>by obtain ⟨_,_,_,_,_,_,_,q⟩:=h;exact q.elim
theorem xZ(L:qZ X E):Passes (gp X.prog X.w) X E:=fun pins σ H s e s' I h=>by
 obtain ⟨ea,C,H',B,t,rfl,f,q⟩:=h;rw [L.xe];refine wpAny_leaves_onW (by rw [I.ok.frames,L.iq]) L.fr (by have z:=f.fl;rw [L.iq] at z;exact z) fun h' x up=>?_
 exact ⟨ea,C,H',B,t,rfl,f.leave L I x up,q⟩
end
variable {K:aB} {h:Heap}
theorem Mw{C:Addr}{q_:List Value}{newId:String}(cU:K.In h)(hq:PySem.W.excIn K C q_ newId=true) :
  ∃bm N nm qn bs hdct sn sub ab col dd k0 k1 k2 k3 k5 mN,h.get? C=some (excClassObj nm qn C N bs bm hdct sn sub ab col dd k0 k1 k2 k3 k5 newId)∧h.Ns N mN∧mN "__init__"=none∧OwnTail h q_ bm∧PySem.W.mroIn K C=fun b=>some ((Value.ref C::bm).contains b):=by
 unfold PySem.W.excIn at hq
 split at hq
 ·rename_i ra cls slt look
  split at hq
  ·rename_i CC rest a0 a1 a2 a3 nn a5 em es
   simp only [f9,beq_iff_eq,Bool.not_eq_true'] at hq;obtain ⟨⟨⟨⟨⟨e1,e2⟩,e3⟩,e4⟩,e5⟩,e6⟩:=hq;subst e1 e2;have Mx:PySem.W.mroIn K CC=fun b=>some ((Value.ref CC::rest).contains b):=by
    funext b
    unfold PySem.W.mroIn PySem.W.clsIn;rw [look];simp [em]
   obtain ⟨c1,c2,c3,c4,c5,c6,c7,c8,c9,Mz,Xl⟩:=cls;dsimp only at em e3 e5 e6;subst em e3;have MA:slt = #[a0,a1,a2,a3,some (.builtin nn),a5]:=by obtain ⟨ll⟩:=slt;simp only at es;rw [es]
   subst MA;exact ⟨rest,c4,c1,c5,c2,c6,c7,c8,c9,Mz,ra,a0,a1,a2,a3,a5,_,cU _ _ look,.of_isNs (PySem.W.isNs_of_in cU e5),PySem.W.nsMap_none_of_in cU e5 e6,PySem.W.tail_of_in cU e4,Mx⟩
  ·cases hq
 ·cases hq
section
variable {X:Cx} {E:XK} {x:Str} {C:Addr} {np iE pos:Pos} {e:Expr} {es:List Expr} {ta:TA} {B newId MB:String} {q_:List Value}
def MC(C:Addr)(E:XK)(ta:TA):TS:=fun _ σ H=>ta σ H fun vs H1=>vs.length≤sizeLine∧E (.ref C) none H1
theorem MD(L:qZ X E)(hc:X.calm=true)(FB:ExcBaseFacts B newId MB q_)(hq:PySem.W.excIn X.K C q_ newId=true)(hg:Gl X x)(hm:X.mg x=some (.ref C))(ha:PA X (e::es) ta)
  (hs:starEach (e::es) X.env=(false,eval e X.env)::starEach es X.env:=by rfl) (hp:(backTo iE (starEach es X.env)).any (·.1)=false:=by rfl) (hd:(x == ("__debug__":Str))=false:=by decide) :
  PS X (.Raise (some (.Call (.Name x np) (e::es) [] iE)) none pos) (MC C E ta):=by
 intro pins s σ H D I h;obtain ⟨bm,N,nm,qn,bs,hdct,sn,sub,ab,col,dd,k0,k1,k2,k3,k5,mN,hC,hN,ME,T,_⟩:=Mw I.ok.mod.cU hq
 refine wpAny_Raise_call_subT (C:=C) (nm:=nm) (q:=qn) (N:=N) (bs:=bs) (bm:=bm) (hdct:=hdct) (sn:=sn) (sub:=sub) (ab:=ab) (col:=col) (dd:=dd) (k0:=k0) (k1:=k1) (k2:=k2) (k3:=k3) (k5:=k5) FB (mN:=mN) (T.hasType FB.hasBase) (I.ok.hd hc)
  (by rw [hs];show (false || (backTo iE (starEach es X.env)).any (·.1))=false;rw [hp];rfl) ME (En I hg hm ⟨rfl,?_⟩ hd)
 have h1:=ha iE pins s σ H _ I h;rw [hs] at h1 ⊢;refine Calls.evalArgs_plain (aD h1 fun us s2 ⟨vs,H1,I1,r,hl,q⟩=>⟨rfl,by rw [←r.length];exact hl,I1.bk _ _ hC,hN.keeps I1.bk,T.keeps I1.bk,fun h' ea mk=>?_⟩)
 rw [L.xe];have nL:∀b o,X.s₀.heap.get? b=some o→b≠X.env.locals:=fun b o q=>bX (dD (aU q) I1.ok.above);have ns:∀b o,X.s₀.heap.get? b=some o→b∉cz X.outer→b∉cz X.stack:=fun b o q nb z=>by
  rw [L.iq,xY L.fr] at z;rcases bb.mp z with z | z;·exact nL b o q z
  ·exact nb z
 have nx:∀b:Addr,b∉X.ex:=fun b z=>by rw [L.ex] at z;cases z
 have ff:s2.heap.FunFrames (PySem.W.hideAll s2.heap (cz X.stack)) (X.env::X.outer):=by have z:=I1.stack;rw [←L.iq];exact PySem.W.funFrames_hide z fun env he a hf=>wR.mpr ⟨env,he,hf⟩
 refine wpAny_leaves_madeW (base:=PySem.W.hideAll s2.heap (cz X.stack)) (h:=s2.heap) (by rw [I1.ok.frames,L.iq]) L.fr (fun b o q=>PySem.W.of_hideAll _ q) ff mk fun h2 t fl _ _ up=>?_
 refine ⟨ea,C,H1,_,t,rfl,⟨I1.os,I1.bare,fl,fun a o e1=>?_,fun b o e1 n nb=>?_,fun b o e1 nb=>?_,fun b o e1 n hb=>?_,I1.ok.mB,fun b o e1 n=>?_,I1.base.gc,I1.base.fK,I1.base.fN⟩,q⟩
 ·refine (I1.aw a o e1).gb (fun b u hb e2=>wN _ e2 fun z=>?_) (fun _ z=>z) fun _ _ z=>z
  have n0:=I1.uO b z;rcases hb with hb | hb
  ·subst hb
   rw [e1] at n0;cases n0
  ·rw [hb] at n0
   cases n0
 ·exact wN _ (I1.base.keep b o e1 n nb (nx b)) (ns b o e1 nb)
 ·obtain ⟨o',e2⟩:=I1.base.there b o e1 (nx b)
  exact ⟨o',wN _ e2 (ns b o e1 nb)⟩
 ·obtain ⟨l,e2⟩:=I1.base.slot b o e1 n hb (nx b)
  have ki:b∈cz X.stack:=by rw [L.iq,xY L.fr];exact bP _ hb
  obtain ⟨_,o2,e3,nf⟩:=I1.stack.mem ki;rw [e2] at e3;cases e3;obtain ⟨l2,e4⟩:=up b _ (mk.keeps _ _ e2) nf;exact ⟨l2,e4⟩
 ·obtain ⟨o',e2⟩:=I1.base.there b o e1 (nx b)
  exact I1.base.free b o e1 n (nx b)
end
section
variable {X:Cx} {k:Nat} {f C:Addr} {fd:FuncData} {ps:List Str} {sp:Sp} {kq:List V} {ds:List Value} {x m:Str} {p pos apos:Pos} {e o:Expr} {es:List Expr} {ta:TE} {t:TA}
variable {te:TX} {i:Nat} {pos':Pos}
end
section
variable {X:Cx} {pins:aI} {σ:St} {H:Hp} {s:Shared} {ea:Addr}
end
section
variable {M:Model} {A:Around} {E:aM} {h:Heap} {g:Array GenState} {d:Drawn} {t:Nat} {os:OsState} {e:Addr} {oe:Obj} {Q:Bool→Shared→Prop}
variable {nm q Xm q':Str} {C N D N':Addr} {bs bm Xn Xo:List Value} {hdct Xp:Bool} {sn Xq:List Str} {sub Fi:List Value} {ab Xr:Bool} {col Xs:Option Bool} {dd mO:Option Addr} {k0 k1 k2 k3 k5 j0 j1 j2 j3 j5:Option Value} {newId Xt:String}
end
section
variable {X:Cx} {body:List Stmt} {b₀:Stmt} {Xu:List Stmt} {np Xv pos:Pos} {x n:Str} {D:Addr} {tb:Xw} {ts:TS} {q_:List Value} {newId:String} {i:Nat}
end
section
variable {P:Program} {w:World} {K:aB} {mg:cy} {base:Heap}
variable {x qual:Str} {f:Addr} {fd:FuncData} {N ps:List Str} {k:Nat} {sp:Sp}
theorem fO.MF{st:Stmt}(F:fO K x qual st f fd)(S:bQ N ps (bj st))(len:∀vs H Q E,sp vs H Q E→vs.length=ps.length)
  (jB:∀(bK:Value) (A:Around) (outer:List Env) (s:Shared) (H:Hp) (vs:List V) (Q:VK) (E:XK),dm k (A.deeper (envOfC qual (bj st) s.heap.objs.size f bK))→sp vs H Q E→
   qZ (iY (gp P w) P w K mg base N qual (bj st) f bK A outer s H E) E→
   ∃t,eL (iY (gp P w) P w K mg base N qual (bj st) f bK A outer s H E) (kD st) t∧t {nx:=fun _ H'=>Q .aJ H',rt:=Q} (start N vs) H):bH P w K mg base (gp P w) (k+1) f fd ps sp:=by
 obtain ⟨oc,od,kV,doc,pm,an,bK,ct,jA,rfl,lk,dR⟩:=F.ex;exact A6 lk dR S len fun A outer s H vs Q E hr ky=>jB bK A outer s H vs Q E hr ky ⟨rfl,rfl,rfl,rfl⟩
theorem fO.gP{st:Stmt}(F:fO K x qual st f fd)(S:bQ N ps (bj st))
  (jB:∀(bK:Value) (A:Around) (outer:List Env) (s:Shared) (H:Hp) (vs:List V) (Q:VK) (E:XK),dm k (A.deeper (envOfC qual (bj st) s.heap.objs.size f bK))→sp vs H Q E→
   qZ (iY (gp P w) P w K mg base N qual (bj st) f bK A outer s H E) E→
   ∃t,eL (iY (gp P w) P w K mg base N qual (bj st) f bK A outer s H E) (kD st) t∧t {nx:=fun _ H'=>Q .aJ H',rt:=Q} (start N vs) H)
  (len:∀vs H Q E,sp vs H Q E→vs.length=ps.length:=by intro vs H Q E h;repeat first | (obtain ⟨rfl,_⟩:=h;rfl) | (subst h;rfl) | obtain ⟨_,h⟩:=h):bH P w K mg base (gp P w) (k+1) f fd ps sp:=F.MF S len jB
end
structure oD (K:aB) (C:Addr):Prop where
 ci:PySem.W.hasDictIn K C=true
 ga:PySem.W.findIn K (.ref C) "__getattribute__"=some (some (.builtin "BaseException.__getattribute__"))
 gn:PySem.W.findIn K (.ref C) "__getattr__"=some none
 ca:PySem.W.findIn K (.ref C) "__class__"=some (some (.builtin "object.__class__"))
 mo:PySem.W.mroIn K C (.type "object")=some true
 mb:PySem.W.mroIn K C (.type "BaseException")=some true
section
variable {prog:Program} {w:World} {A:Around} {E:aM} {h:Heap} {g:Array GenState} {d:Drawn} {t:Nat} {os:OsState} {K:aB} {a C:Addr} {o:Obj}
theorem MG{R:Result→Shared→Prop}(cU:K.In h)(c:oD K C)(hx:h.get? a=some o)(hc:o.cls=.ref C)(hq:R (.ok (.ret (.ref C))) ⟨h,g,d,t,os⟩) :
  codeAny (model prog w) A (.call (.builtin "getset_descriptor.__get__") ⟨[.builtin "object.__class__",.ref a,.ref C],[]⟩) R ⟨h,g,d,t,os⟩:=by
 have Fj:(⟨h,g,d,t,os⟩:Shared).TypeIs (.builtin "object.__class__") "getset_descriptor":=AB;have L1:=PySem.W.looks_mroIn (M:=model prog w) cU c.mo;have ow:=F.owner_object_class;refine codeAny_call_builtin F.slot_gs_get.plain F.entry_gs_get (F.slot_gs_get.check _ _ _ _ _ _ _ _ Fj (F.args_gs_get _ _ _) ?_)
 repeat (any_goals (first | assumption | (with_reducible refine ur hx ?_;rw [hc]) | (rw [ow];with_reducible refine L1.at ?_) | wp_step))
 refine ⟨Code.quiet_builtin _ (by decide +kernel),codeAny_builtin F.entry_object_class ?_⟩
 repeat (any_goals (first | assumption | (with_reducible refine ur hx ?_;rw [hc]) | wp_step))
variable {tk:Tok}
theorem MJ{Q:Fin→Shared→Prop}(cU:K.In h)(c:oD K C)(hx:h.get? a=some o)(hc:o.cls=.ref C)(hq:Q (.done (.ret (.ref C))) ⟨h,g,d,t,os⟩) :
  wpAny (model prog w) A (Builtin.«object.__getattribute__» ⟨[.ref a,.str "__class__" tk],[]⟩) Q E ⟨h,g,d,t,os⟩:=by
 have Fj:(⟨h,g,d,t,os⟩:Shared).TypeIs (.builtin "object.__class__") "getset_descriptor":=AB;have L1:=PySem.W.looks_findIn (M:=model prog w) cU c.ca;have f5:=AB;have f6:=F.slot_gs_get.lookup;have f7:=F.slot_gs_set.lookup
 repeat (any_goals (first | assumption | (with_reducible refine ur hx ?_;rw [hc]) | with_reducible refine L1.at ?_ | wp_step))
 refine MG cU c hx hc ?_
 repeat (any_goals (first | assumption | wp_step))
theorem MK{M:Model}{nv:Value}{Q:Unit→Shared→Prop}(cU:K.In h)(c:oD K C)(hx:h.get? a=some o)(hc:o.cls=.ref C)(hq:Q () ⟨h,g,d,t,os⟩) :
  wpAny M A (checkBuiltinCall "BaseException.__getattribute__" ⟨[.ref a,nv],[]⟩) Q E ⟨h,g,d,t,os⟩:=by
 have hk:builtinKind "BaseException.__getattribute__"=some .slot:=by decide +kernel
 have hs:splitId "BaseException.__getattribute__"=some ("BaseException","__getattribute__"):=by decide +kernel
 have L1:=PySem.W.looks_mroIn (M:=M) cU c.mb;have ha:=F.args_bexc_ga (.ref a) nv;simp only [checkBuiltinCall,hk,hs];refine a8 ?_;unfold isInstance
 repeat (first | (with_reducible refine ur hx ?_;rw [hc]) | with_reducible refine L1.at ?_ | wp_step)
 exact hq
theorem ML{fill expr:Bool}{Q:aM}(cU:K.In h)(c:oD K C)(hx:h.get? a=some o)(hc:o.cls=.ref C)(hq:Q (.ref C) ⟨h,g,d,t,os⟩) :
  wpAny (model prog w) A (getAttrBy (.ref a) (.str "__class__" tk) fill expr) Q E ⟨h,g,d,t,os⟩:=by
 have f3:=F.attrBase_ValueError.ga.bind (.ref a);have z0:(expr && onTheHeap (Value.builtin "BaseException.__getattribute__"))=false:=by cases expr <;> rfl
 have z2:(Value.builtin "BaseException.__getattribute__" == Value.builtin "object.__getattribute__")=false:=by decide +kernel
 have z1:(onTheHeap (Value.ref C) && Value.builtin "BaseException.__getattribute__" == Value.builtin "object.__getattribute__")=false:=by rw [z2];rfl
 have L1:=PySem.W.looks_findIn (M:=model prog w) cU c.ga;have L2:=PySem.W.looks_findIn (M:=model prog w) cU c.gn
 repeat (any_goals (first | assumption | (with_reducible refine ur hx ?_;rw [hc]) | with_reducible refine L1.at ?_ | with_reducible refine L2.at ?_ | wp_step))
 refine codeAny_call_builtin F.attrBase_ValueError.ga.plain F.entry_bexc_ga (MK cU c hx hc (MJ cU c hx hc ?_))
 repeat (any_goals (first | assumption | wp_step))
theorem MM{Q:Option Value→Shared→Prop}(cU:K.In h)(c:oD K C)(hx:h.get? a=some o)(hc:o.cls=.ref C)(hq:Q (some (.ref C)) ⟨h,g,d,t+1,os⟩) :
  wpAny (model prog w) A (getAttr? (.ref a) "__class__") Q E ⟨h,g,d,t,os⟩:=by
 unfold getAttr? getAttrBy?
 repeat (any_goals (first | assumption | with_reducible apply ML cU c hx hc | wp_step))
theorem MN(c:oD K C):PySem.W.KitX K (.ref a) (.ref C) (ExcAt a C) where
 ty:=fun M h _ k=>by obtain ⟨oe,e1,e2,_⟩:=k;exact e2▸(PySem.W.Looks.ld e1).andThen .now
 it:=fun M h cU _=>by
  obtain ⟨cd,hc,_⟩:=PySem.W.any_some c.ci;unfold PySem.W.clsIn at hc
  split at hc
  ·rename_i look
   intro A' Q' E' s' k q;unfold isType loadHead;exact a8 (wpAny_loadPart (k _ _ (cU _ _ look)) (cS q))
  ·cases hc
 ne:=fun h tp dd its n sl cU MO=>by
  obtain ⟨cd,hc,_⟩:=PySem.W.any_some c.ci;refine uu.mpr fun q=>?_;have e:C=tp:=Value.ref.inj (beq_iff_eq.mp q);subst e;unfold PySem.W.clsIn at hc
  split at hc
  ·rename_i look
   have z:=(cU _ _ look).symm.trans MO;cases z
  ·cases hc
 ca:=fun{prog w A E Q s} cU k z=>by obtain ⟨oe,e1,e2,_⟩:=k;obtain ⟨h,g,d,t,os⟩:=s;exact MM cU c e1 e2 z
end
def x6(a:Addr)(h:Heap):Prop:=∃o ep,h.get? a=some o∧o.ExactDict∧o.data=.dict #[] ep∧(a == sysModules)=false
theorem x6.Bi{a:Addr}(e:x6 a h):PySem.W.KitAt a "dict" h:=by obtain ⟨o,_,e,c,_⟩:=e;exact ⟨o,e,c.1⟩
def Fl(a:Addr):HO:=.ext (x6 a)
inductive u6 (K:aB) (H:Hp):V→Value→Prop where
 | of {x:V} {t:Value} (h:iD K H x t):u6 K H x t
 | exc {a C:Addr} (e:H a=some (Mv a C)) (c:oD K C):u6 K H (.ref a) (.ref C)
 | ra {a:Addr} (e:H a=some (Fl a)):u6 K H (.ref a) (.type "dict")
def Fm:V→Value
 | .ty n=>.type n
 | .ref a=>.ref a
 | _=>.none
def MP:V→Bool
 | .ty _=>true
 | .ref _=>true
 | _=>false
def MQ(K:aB):List V→Hp→VK→Prop:=fun xs H Q=>∃x c t b,xs=[x,c]∧MP c=true∧u6 K H x t∧PySem.W.kitOne K t (Fm c)=some b∧Q (.bl b) H
theorem Bj{X:Cx}(hK:X.K=K:=by rfl):fv X (.builtin "isinstance") (MQ K):=by
 intro pins s σ H xs us Q I r h;subst hK;obtain ⟨x,c,t,b,rfl,hc,ty,e,q⟩:=h;obtain ⟨u,cv,rfl,rx,rc⟩:=vals2 r;have ec:cv=Fm c:=by
  cases c with
  | ty n=>exact rc
  | ref a=>exact rc
  | _=>cases hc
 subst ec;cases ty with
 | of ty=>exact LC I rx ty e fun tk=>⟨.bl b,H,I.tok tk,rfl,q⟩
 | @ra a ea=>cases rx;obtain ⟨k,_,_⟩:=(show cf X.prog X.w H s.heap a (.ext (x6 a)) from I.aw a _ ea);exact hU PySem.W.kitx_dict I.ee k.Bi e (fun z=>nomatch z) fun tk=>⟨.bl b,H,I.tok tk,rfl,q⟩
 | @exc a C ea cc=>cases rx;obtain ⟨k,_,_⟩:=(show cf X.prog X.w H s.heap a (.ext (ExcAt a C)) from I.aw a _ ea);exact hU (MN cc) I.ee k e (fun z=>nomatch z) fun tk=>⟨.bl b,H,I.tok tk,rfl,q⟩
theorem boot_isinstance:bootBuiltins "isinstance"=some (.builtin "isinstance"):=by decide +kernel
theorem boot_min:bootBuiltins "min"=some (.builtin "min"):=by decide +kernel
theorem boot_max:bootBuiltins "max"=some (.builtin "max"):=by decide +kernel
theorem boot_int:bootBuiltins "int"=some (.type "int"):=by decide +kernel
theorem boot_bool:bootBuiltins "bool"=some (.type "bool"):=by decide +kernel
theorem boot_tuple:bootBuiltins "tuple"=some (.type "tuple"):=by decide +kernel
theorem boot_list:bootBuiltins "list"=some (.type "list"):=by decide +kernel
end L2
namespace My
open PySem L2
end My
namespace L2
open PySem PySem.Spec PyProof.Rows
abbrev Cx.bC (X:Cx) (N:List Str) (scope:Scope) (cl:List (Str×Addr)) (s₃:Shared) (H₃:Hp) (fp:List Addr):Cx:=
 {X with N:=N,s₀:=s₃,H₀:=H₃,env:=compEnvC scope cl s₃.heap.objs.size X.env,outer:=X.stack,stack:=X.stack,ex:=fp,fn:=fun _=>false,pn:=[],xe:=fun _ _=>False}
inductive mP (X:Cx):List Expr→TT→Prop where
 | nil:mP X [] (fun _ H Q=>Q true H)
 | one {c:Expr} {t:TT} (h:PT X c t):mP X [c] t
def i6(wi:TI)(ρ:St→St)(tt:TT)(te:TE):TE:=fun σ H Q=>wi σ H fun J H1=>∀D,H1 D=none→∃W:Nat→Nat→List V→Hp→Prop,(∃m,W 0 m [] (upd H1 D (.lst []))) ∧
 ∀i m ys Hc,W i m ys Hc→Hc D=some (.lst ys)∧((J.stop i Hc∧Q (.ref D) Hc)∨(J.go i Hc∧∀x H',J.dw i Hc x H'→tt (some x::ρ σ) H' fun b H2=>
  if b=true then te (some x::ρ σ) H2 fun y H3=>H3 D=some (.lst ys)∧ys.length<sizeLine∧∃m',m'<m∧W (i+1) m' (ys++[y]) (upd H3 D (.lst (ys++[y]))) else ∃m',m'<m∧W (i+1) m' ys H2))
section
variable {X:Cx} {N:List Str} {scope:Scope} {cl:List (Str×Addr)} {x:Str} {px pos:Pos} {iter elt:Expr} {ifs:List Expr} {wi:TI} {ρ:St→St} {tt:TT} {te:TE}
structure Bk (X:Cx) (N:List Str) (scope:Scope) (cl:List (Str×Addr)) (x:Str) (ρ:St→St):Prop where
 x8:closureFor scope X.env=pure cl
 kind:scope.kind=.function
 x9:∀y∈scope.names,y.2≠.cell
 names:∀y∈scope.names,y.2=.local→scope.names.lookup y.1=some .local
 sub:∀p∈cl,X.env.cells.lookup p.1=some p.2
 has:∀y,((relabel scope X.env).names.lookup y=some .cell∨(relabel scope X.env).names.lookup y=some .free)→∃c,cl.lookup y=some c
 n0:N[0]?=some x
 nd:N.Nodup
 hx:scope.names.lookup x=some .local
 x_:∀(σ:St) (j:Nat) (v:V),(ρ σ)[j]?=some (some v)→∃(i:Nat) (y:Str),N[j+1]?=some y∧X.N[i]?=some y∧σ[i]?=some (some v)∧my X.env.scope y∧(X.env.kindOf y=some .cell∨X.env.kindOf y=some .free)∧((relabel scope X.env).names.lookup y=some .cell∨(relabel scope X.env).names.lookup y=some .free)
 len:∀σ:St,σ.length=X.N.length→(ρ σ).length+1=N.length
theorem Fn{names:List (Str×NameKind)}(h:(names.all fun q=>(q.2 != .cell && q.2 != .free) || (cl.lookup q.1).isSome)=true) :
  ∀y,(names.lookup y=some .cell∨names.lookup y=some .free)→∃c,cl.lookup y=some c:=fun y hy=>by
 have key:∀k:NameKind,(k != .cell && k != .free)=false→names.lookup y=some k→∃c,cl.lookup y=some c:=fun k hk e=>by have z:=nQ.mp h (y,k) (k6 e);rw [hk,Bool.false_or] at z;exact Option.isSome_iff_exists.mp z
 rcases hy with e | e;·exact key .cell rfl e
 ·exact key .free rfl e
theorem join_some{o:Option (Option V)}{v:V}(h:some o.join=some (some v)):o=some (some v):=by
 cases o with
 | none=>cases h
 | some o=>cases h;rfl
def ya(X:Cx)(sc:Scope):List Str→List Nat→Prop
 | n::ns,i::is=>(X.N[i]?=some n∧my X.env.scope n∧(X.env.kindOf n=some .cell∨X.env.kindOf n=some .free)∧((relabel sc X.env).names.lookup n=some .cell∨(relabel sc X.env).names.lookup n=some .free))∧ya X sc ns is
 | _,[]=>True
 | [],_::_=>False
theorem Bl{X:Cx}{sc:Scope}:∀{ns:List Str} {is:List Nat},ya X sc ns is→∀(σ:St) (j:Nat) (v:V),(is.map fun i=>σ[i]?.join)[j]?=some (some v)→∃(i:Nat) (n:Str),ns[j]?=some n∧X.N[i]?=some n∧σ[i]?=some (some v)∧my X.env.scope n∧(X.env.kindOf n=some .cell∨X.env.kindOf n=some .free)∧((relabel sc X.env).names.lookup n=some .cell∨(relabel sc X.env).names.lookup n=some .free)
 | _,[],_,_,_,_,e=>by cases e
 | [],_::_,h,_,_,_,_=>h.elim
 | n::_,i::_,h,_,0,_,e=>⟨i,n,rfl,h.1.1,join_some e,h.1.2⟩
 | _::_,_::_,h,σ,j+1,v,e=>Bl h.2 σ j v e
theorem iG(is:List Nat)(h1:closureFor scope X.env=pure cl)(h:ya X scope N.tail is:=by repeat' first | exact True.intro | refine And.intro ⟨rfl,Or.inr (Or.inl rfl),.inl rfl,.inl rfl⟩ ?_)(h2:scope.kind=.function:=by rfl)(h3:∀y∈scope.names,y.2≠.cell:=by decide +kernel)(h4:∀y∈scope.names,y.2=.local→scope.names.lookup y.1=some .local:=by decide +kernel)(h5:∀p∈cl,X.env.cells.lookup p.1=some p.2:=by repeat' first | exact List.forall_mem_nil _ | refine List.forall_mem_cons.mpr ⟨rfl,?_⟩)(h6:((relabel scope X.env).names.all fun q=>(q.2 != .cell && q.2 != .free) || (cl.lookup q.1).isSome)=true:=by rfl)(h7:N[0]?=some x:=by rfl)(h8:N.Nodup:=by decide +kernel)(h9:scope.names.lookup x=some .local:=by rfl)(hr:∀σ:St,ρ σ=is.map fun i=>σ[i]?.join:=by exact fun _=>rfl)(hl:is.length+1=N.length:=by rfl):Bk X N scope cl x ρ:=
 ⟨h1,h2,h3,h4,h5,Fn h6,h7,h8,h9,fun σ j v e=>by rw [hr] at e;rw [←List.getElem?_tail];exact Bl h σ j v e,fun σ _=>by rw [hr,aG];exact hl⟩
theorem lF(B:Bk X N scope cl x ρ)(hc:X.calm=true)(hi:PI X (.Name x px) iter wi)(ht:∀s₃ H₃ fp,mP (X.bC N scope cl s₃ H₃ fp) ifs tt)(he:∀s₃ H₃ fp,PE (X.bC N scope cl s₃ H₃ fp) elt te)
  (hs:∀x,foldedSetIterable iter X.env x=pure x:=by intro _;rfl):PE X (.ListComp elt [⟨.Name x px,iter,ifs,0⟩] scope pos) (i6 wi ρ tt te):=by
 intro pins s σ H Q I h
 rw [eval_ListComp]
 refine AD (use:=none) rfl hs B.x8 B.kind B.names (aD (hi pins s σ H _ I h) fun v s1 h1=>aD h1 fun uX s2 h2=>?_)
 obtain ⟨it,fp,tn,J,H2,rfl,I2,T,iy,f2,q2⟩:=h2
 have nD:H2 s2.heap.objs.size=none:=I2.aw.fresh (ax _)
 obtain ⟨W,⟨m0,w0⟩,turn⟩:=q2 _ nD
 refine wpAny_newObj_type (wY B.x9 (by intro y hy;simp at hy) (fun h₁ gQ gR=>?_) B.kind)
 dsimp only at gQ gR ⊢
 generalize hD:s2.heap.objs.size=D at nD w0 turn gQ gR ⊢
 generalize jD:({s2 with heap:=s2.heap.push {cls:=.type "list",dict:=none,data:=.seq ([]:List Value).toArray}}:Shared)=s3
 have I3:Inv X pins σ (upd H2 D (.lst [])) s3:=by
  subst hD jD
  exact I2.laid (t':=s2.toks) (fun b u e=>ck _ e) (ax _) ⟨b7 _,[],_,.nil,eI _ rfl⟩
 have e3:s3.heap=s2.heap.push {cls:=.type "list",dict:=none,data:=.seq ([]:List Value).toArray}:=by rw [←jD]
 have gS:∀b o,s2.heap.get? b=some o→s3.heap.get? b=some o:=fun b o e=>by rw [e3];exact ck _ e
 rw [←e3] at gQ gR ⊢
 have below:∀b o,s3.heap.get? b=some o→b≠s3.heap.objs.size:=fun b o e=>bX (aU e)
 have eA:∀b o,s3.heap.get? b=some o→h₁.get? b=some o:=fun b o e=>gR.extBut b o (below b o e) (ck _ e)
 have jE:∀b∈fp,∃o,s2.heap.get? b=some o∧∀v,o.data≠.cell v:=T.obj _ _ iy
 have u7:∀b∈fp,b≠D:=fun b hb z=>by
  obtain ⟨o,e,_⟩:=jE b hb
  rw [z,←hD] at e
  exact absurd (aU e) (eG _)
 have dJ:∀y c,cl.lookup y=some c→X.env.cells.lookup y=some c:=fun y c e=>B.sub (y,c) (k6 e)
 have u9:=I3.uO
 have gP:(X.bC N scope cl s3 (upd H2 D (.lst [])) fp).Ok:=by
  refine ⟨I.ok.mod,B.kind,I.ok.glob,I.ok.blt,ax _,fun a b c e1 e2=>I.ok.inj a b c (dJ a c e1) (dJ b c e2),fun y hy=>B.has y hy,(fun _ _ z _=>absurd z da),(fun _=>I.ok.hd hc),I.ok.frames,.inl rfl,fun b hb=>⟨?_,fun y c e z=>?_⟩,fun b o e=>?_,cj I.ok.iu I3.sz,fun b o e hb=>?_,fun b hb z=>?_,I3.stack,u9⟩
  ·obtain ⟨o,e,_⟩:=jE b hb
   exact below b o (gS b o e)
  ·exact (f2 b hb).2.2.2.2.1 y c (dJ y c e) z
  ·exact I3.bs b o e
  ·rcases (f2 b hb).2.2.2.1 with z | z
   ·exact I.ok.oi b o e z
   ·exact absurd (dD (aU e) (cj I.ok.iu z)) (eG _)
  ·rcases bb.mp (I3.uN b z) with z | z
   ·exact (f2 b hb).2.1 z
   ·exact (f2 b hb).2.2.1 z
 have IB:∀tk:Nat,Inv (X.bC N scope cl s3 (upd H2 D (.lst [])) fp) [] (none::ρ σ) (upd H2 D (.lst [])) {s3 with heap:=h₁,toks:=tk}:=fun tk=>by
  refine ⟨gP,rfl,I3.bare,Un.kept eA,⟨_,gQ,fun j y v e1 e2 e3=>?_⟩,fun y c e=>?_,?_,fun y c e=>I3.iU y c (dJ y c e),(fun p hp=>nomatch hp),I3.aw.kept eA,?_⟩
  ·cases j with
   | zero=>cases e2
   | succ j=>
    obtain ⟨i,y',a1,a2,a3,a4,a5,a6⟩:=B.x_ σ j v e2
    have oE:N[j+1]?=some y:=e1
    rw [oE] at a1
    cases a1
    obtain ⟨m,hn,hl⟩:=I3.loc
    obtain ⟨u,r,l⟩:=hl i y v a2 a3 a4
    refine ⟨u,r,.inr ⟨a6,?_⟩⟩
    obtain ⟨c,ec⟩:=B.has y a6
    rcases l with ⟨k,_⟩ | ⟨_,c',mQ,z⟩
    ·rcases a5 with q | q <;> (rw [k] at q;cases q)
    ·have:=dJ y c ec
     rw [this] at mQ
     cases mQ
     obtain ⟨o,ho,hd⟩:=z
     exact ⟨c,ec,o,eA _ _ ho,hd⟩
  ·obtain ⟨v,o,ho,hd⟩:=I3.cell y c (dJ y c e)
   exact ⟨v,o,eA _ _ ho,hd⟩
  ·exact I3.aw.fresh (ax _)
  ·show (none::ρ σ).length=N.length
   rw [dE]
   exact B.len σ I.len
 have fin:∀{σ':St} {H':Hp} {s':Shared},Inv (X.bC N scope cl s3 (upd H2 D (.lst [])) fp) [] σ' H' s'→Q (.ref D) H'→compPost (model X.prog X.w) X.A X.xe none (EP X pins σ Q) (.ref D) s3.heap.objs.size (.ok .next) s':=fun{σ' H' s'} J q=>by
  obtain ⟨m,hn,_⟩:=J.loc
  refine ⟨m,hn,fun h' gT=>⟨.ref D,H',?_,rfl,q⟩⟩
  have old:∀b o,s3.heap.get? b=some o→b≠s3.heap.objs.size:=below
  have u1:Un (cz X.stack) fp (upd H2 D (.lst [])) H' s3.heap h':=by
   refine ⟨fun b o e n hb hx=>?_,fun b o e n hb hx=>?_,J.base.free,fun b o e hx=>?_,J.base.gc,J.base.fK,J.base.fN⟩
   ·exact (gT.2 b (old b o e)).trans (J.base.keep b o e n hb hx)
   ·obtain ⟨sl,z⟩:=J.base.slot b o e n hb hx
    exact ⟨sl,(gT.2 b (old b o e)).trans z⟩
   ·obtain ⟨o',z⟩:=J.base.there b o e hx
    exact ⟨o',(gT.2 b (old b o e)).trans z⟩
  have u_:bV X.prog X.w H' h':=fun b u e=>by
   refine (J.aw b u e).gb (fun c v hc z=>(gT.2 c fun y=>?_).trans z) (fun _ z=>z) fun _ _ z=>z
   have fr:=J.free
   have y':c=s3.heap.objs.size:=y
   rcases hc with hc | hc
   ·rw [←hc,y'] at e
    exact absurd (fr.symm.trans e) (by simp)
   ·rw [y'] at hc
    exact absurd (fr.symm.trans hc) (by simp)
  refine I3.mC (s':={s' with heap:=h'}) (ch:=fp) (J.os) u1 u_ J.bare fun b hb=>?_
  obtain ⟨g0,g1,g2,g3,g4,g5⟩:=f2 b hb
  exact ⟨g3,g1,g4,g5⟩
 have gf:∀{H':Hp},(∀b∈fp,H' b=none)→∀b∈fp,lB (X.bC N scope cl s3 (upd H2 D (.lst [])) fp) [] H' b:=fun hn b hb=>by
  refine ⟨hn b hb,?_,?_,.inl hb,fun y c e z=>(f2 b hb).2.2.2.2.1 y c (dJ y c e) z,fun p hp=>nomatch hp⟩
  ·obtain ⟨o,e,_⟩:=jE b hb
   exact below b o (gS b o e)
  ·exact gP.oj b hb
 have loop:∀tk:Nat,codeAny (model X.prog X.w) X.A (.compLoop (.ListComp elt [⟨.Name x px,iter,ifs,0⟩] scope pos) 0 (.ref it) (.ref D) (compEnvC scope cl s3.heap.objs.size X.env))
   (compPost (model X.prog X.w) X.A X.xe none (EP X pins σ Q) (.ref D) s3.heap.objs.size) {s3 with heap:=h₁,toks:=tk}:=fun tk=>by
  refine codeAny_compLoop_tests (fun n s'=>∃i ys o H',Inv (X.bC N scope cl s3 (upd H2 D (.lst [])) fp) [] (o::ρ σ) H' s'∧tn i s'.heap∧(∀b∈fp,H' b=none)∧W i n ys H') ?_ m0
   ⟨0,[],none,_,IB tk,T.keep _ _ _ iy fun b hb o e=>eA _ _ (gS _ _ e),fun b hb=>by rw [aH (u7 b hb)];exact (f2 b hb).1,w0⟩
  rintro n s4 ⟨i,ys,o,H4,I4,mR,mS,w4⟩
  obtain ⟨Fo,va⟩:=turn i n ys H4 w4
  rcases va with ⟨stop,qn⟩ | ⟨go,step⟩
  ·refine bZ (T.done (X.bC N scope cl s3 (upd H2 D (.lst [])) fp) rfl rfl rfl hc i [] s4 _ H4 (fun _ _=>False) I4 (gf mS) mR stop) (fun r s5 ⟨hr,I5⟩=>?_) fun _ _ z=>z.elim
   subst hr
   exact fin I5 qn
  ·refine bZ (T.item (X.bC N scope cl s3 (upd H2 D (.lst [])) fp) rfl rfl rfl hc i [] s4 _ H4 (fun _ _=>False) I4 (gf mS) mR go) (fun r s5 ⟨u,hr,h5⟩=>?_) fun _ _ z=>z.elim
   subst hr
   have z:letOwnedTupleGo (.Name x px) (.ref it) u=pure ():=rfl
   rw [z] at h5
   show wpAny _ _ ((pure ():Sem Unit) >>= fun _=>assign (.Name x px) (compEnvC scope cl s3.heap.objs.size X.env) u) _ _ s5
   refine a8 (bZ h5 (fun _ s5 ⟨y,H5,I5,r5,y5,gg,ot⟩=>?_) fun _ _ z=>z.elim)
   have ou:=I5.pinned (gf ot) (T.obj _ _ gg)
   have pg:PG (X.bC N scope cl s3 (upd H2 D (.lst [])) fp) (.Name x px) (aX 0):=dc (i:=0) B.nd B.n0 (.inl (mh B.hx)) (.inr (mh B.hx))
   have again:∀{σ7:St} {H7:Hp} {s7:Shared},Inv (X.bC N scope cl s3 (upd H2 D (.lst [])) fp) ([]++kj fp s5.heap) σ7 H7 s7→Inv (X.bC N scope cl s3 (upd H2 D (.lst [])) fp) [] σ7 H7 s7∧tn (i+1) s7.heap∧∀b∈fp,H7 b=none:=fun{σ7 H7 s7} I7=>by
    refine ⟨I7.qT,T.keep _ _ _ gg fun b hb o e=>(I7.pin (b,o) (d_ _ (d_ _ (mH hb e)))).1,fun b hb=>?_⟩
    obtain ⟨o,e,d⟩:=T.obj _ _ gg b hb
    exact (I7.pin (b,o) (d_ _ (d_ _ (mH hb e)))).2.1
   refine bZ (pg _ s5 _ H5 y u (fun σ2 H6=>σ2=some y::ρ σ∧H6=H5) ou r5 ⟨rfl,rfl⟩) (fun _ s6 ⟨σ6,H6,I6,q6⟩=>?_) fun _ _ z=>z.elim
   obtain ⟨rfl,rfl⟩:=q6
   have vb:=step y _ y5
   have tests:∀{jF:TT},mP (X.bC N scope cl s3 (upd H2 D (.lst [])) fp) ifs jF→∀{R:Bool→Hp→Prop},jF (some y::ρ σ) H6 R→wpAny (model X.prog X.w) X.A
     (forIn ifs true fun c r=>if r=true then do let ok ←isTrue c (compEnvC scope cl s3.heap.objs.size X.env) (eval c (compEnvC scope cl s3.heap.objs.size X.env));pure (ForInStep.yield ok) else pure (ForInStep.yield r))
     (fun ok s7=>∃H7,Inv (X.bC N scope cl s3 (upd H2 D (.lst [])) fp) ([]++kj fp s5.heap) (some y::ρ σ) H7 s7∧R ok H7) (fun _ _=>False) s6:=fun{jF} p {R} hR=>by
    cases p with
    | nil=>exact wpAny_tests_nil ⟨_,I6,hR⟩
    | one p=>exact wpAny_tests_one (p _ s6 _ _ _ I6 hR)
   refine bZ (tests (ht s3 _ fp) vb) (fun ok s7 ⟨H7,I7,q7⟩=>?_) fun _ _ z=>z.elim
   cases ok with
   | false=>
    obtain ⟨m',d8,w7⟩:=q7
    obtain ⟨a1,a2,a3⟩:=again I7
    exact ⟨m',d8,i+1,ys,_,H7,a1,a2,a3,w7⟩
   | true=>
    refine bZ (he s3 _ fp _ s7 _ H7 _ I7 q7) (fun ev s8 ⟨z,H8,I8,r8,vc,hz,m',d8,w8⟩=>?_) fun _ _ z=>z.elim
    refine bZ (kC (X:=X.bC N scope cl s3 (upd H2 D (.lst [])) fp) _ s8 _ H8 (.ref D) [z] (.ref D) [ev] (fun _ H9=>H9=upd H8 D (.lst (ys++[z]))) I8 rfl (.cons r8 .nil) ⟨D,ys,z,rfl,rfl,vc,hz,rfl⟩) (fun _ s9 ⟨_,H9,I9,_,q9⟩=>?_) fun _ _ z=>z.elim
    subst q9
    obtain ⟨a1,a2,a3⟩:=again I9
    exact ⟨m',d8,i+1,ys++[z],_,_,a1,a2,a3,w8⟩
 have start:=loop (s3.toks+([]:List (Str×Value)).length)
 have es:({s3 with heap:=h₁,toks:=s3.toks+([]:List (Str×Value)).length}:Shared)={s2 with heap:=h₁,toks:=s2.toks+([]:List (Str×Value)).length}:=by rw [←jD]
 rw [es] at start
 exact AE start (T.self _ 0 _ _ _ (T.keep _ _ _ iy fun b hb o e=>eA _ _ (gS _ _ e)) start)
end
def fP(i:Int):Prop:=i.natAbs<2 ^ 2048
theorem fP.log{i:Int}(h:fP i):i.natAbs.log2<2048:=by
 by_cases z:i.natAbs=0;·rw [z];decide
 ·exact (Nat.log2_lt z).mpr h
theorem Fp:∀{xs:List V} {us:List Value},xs.length=us.length→(∀(i:Nat) (x:V) (u:Value),xs[i]?=some x→us[i]?=some u→RelV x u)→Vals xs us
 | [],[],_,_=>.nil
 | [],_::_,h,_=>by simp at h
 | _::_,[],h,_=>by simp at h
 | x::xs,u::us,h,k=>.cons (k 0 x u rfl rfl) (Fp (by simpa using h) fun i a b h1 h2=>k (i+1) a b (by simpa using h1) (by simpa using h2))
section
variable {X:Cx}
def MR(i j:Int):Prop:=0<j∧fP j
theorem MS:cq X (binaryOp .FloorDiv) (rI MR fun i j=>.int (i / j)):=xK fun i j _ _ _ _ _ hc q=>floordiv_int (Int.ne_of_gt hc.1) (by rw [Int.fdiv_eq_ediv_of_nonneg i (cO hc.1)];exact q) (.inl (PyProof.noPylong_of_log2 (dD hc.2.log (by decide))))
def allR(K:aB):List V→Hp→VK→Prop:=fun xs H Q=>∃(p:Addr) (bs:List Bool),xs=[.ref p]∧aO K H p (bs.map V.bl)∧Q (.bl (bs.all id)) H
theorem Fq{K:aB}(hc:X.calm=true)(hK:X.K=K:=by rfl):fv X (.builtin "all") (allR K):=by
 intro pins s σ H xs us Q I r h;subst hK;obtain ⟨p,bs,rfl,hq,q⟩:=h;obtain ⟨u,rfl,ru⟩:=vals1 r;cases ru;obtain ⟨its,rv,pl,hz⟩:=I.list hq;have fw:p≠s.heap.objs.size:=by obtain ⟨o,e,_⟩:=pl.isList;exact bX (aU e)
 have hl:its.length=bs.length:=by rw [←rv.length,aG]
 refine call_all_walk (wpAny_pyIter_list pl.isList ?_);refine ⟨s.heap.objs.size,_,_,_,_,_,fun i=>bs.getD i true,rfl,Walks.list (A:=X.A.in1) (show X.A.in1.handled=none from I.ok.hd hc) s.heap.objs.size p fw its.toArray,⟨⟨_,eI _ rfl,rfl,rfl⟩,pl.isList.push _⟩,fun i v s' Q' E' hv yb=>?_,fun h' tk hk=>?_⟩
 ·have lG:its[i]?=some v:=by simpa using hv
  cases eb:bs[i]? with
  | none=>
   have:=rv.none_of (i:=i) (by rw [bD,eb];rfl)
   rw [this] at lG;cases lG
  | some b=>
   obtain ⟨u,hu,ru⟩:=rv.get (i:=i) (x:=V.bl b) (by rw [bD,eb];rfl)
   rw [hu] at lG;cases lG;cases ru;have e:bs.getD i true=b:=by rw [b9,eb];rfl
   have lH:Q' (bs.getD i true) s':=yb;rw [e] at lH;exact ma lH
 ·refine ⟨.bl (bs.all id),H,I.kept fun b o e=>hk b o (fun z=>?_) (ck _ e),?_,q⟩
  ·exact absurd (aU e) (by rw [dt.mp z];exact eG _)
  ·show Value.bool _=Value.bool _
   congr 1
   rw [b8,hl];clear hk q rv pl hz hl hq
   induction bs with
   | nil=>rfl
   | cons b bs ih=>rw [dE,List.range_succ_eq_map,List.all_cons,List.all_map,List.all_cons];show (b && (List.range bs.length).all fun i=>bs.getD i true)=(b && bs.all id);rw [ih]
def MT:List V→Hp→VK→Prop:=fun xs H Q=>∃j:Int,xs=[.int j]∧∀p,H p=none→Q (.ref p) (upd H p (.fJ 0 j))
theorem yc:fv X (.type "range") MT:=by intro pins s σ H xs us Q I r h;obtain ⟨j,rfl,q⟩:=h;obtain ⟨u,rfl,ru⟩:=vals1 r;obtain ⟨t,rfl⟩:=ru;refine call_range_1 ⟨.ref s.heap.objs.size,_,I.laid (o:=.fJ 0 j) (fun b o e=>ck _ e) (ax _) ⟨_,_,_,eI _ rfl⟩,rfl,q _ (I.aw.fresh (ax _))⟩
def cV(n:Nat):List V:=(List.range n).map fun i:Nat=>V.int (i:Int)
def MU:List V→Hp→VK→Prop:=fun xs H Q=>∃p n,xs=[.ref p]∧H p=some (.fJ 0 (n:Nat))∧n≤10000∧∀l,H l=none→Q (.ref l) (upd H l (.lst (cV n)))
theorem yd(hc:X.calm=true):fv X (.type "list") MU:=by
 intro pins s σ H xs us Q I r h;obtain ⟨p,n,rfl,hp,hn,q⟩:=h;obtain ⟨u,rfl,ru⟩:=vals1 r;cases ru;obtain ⟨t,u,v,e⟩:=(show cf X.prog X.w H s.heap p (.fJ 0 n) from I.aw p _ hp);refine call_list_range (n:=n) (I.ok.hd hc) e (small_one (by omega) (by omega) (by omega) (by omega)) (by rw [rangeSize_one];split <;> omega) (by omega) fun h' tk acc c hk hD hit=>?_
 refine ⟨.ref s.heap.objs.size,_,I.laid (o:=.lst (cV n)) (fun b o e=>hk b o e) (ax _) ⟨?_,acc.toList,c,?_,?_⟩,rfl,q _ (I.aw.fresh (ax _))⟩
 ·unfold cV
  rw [aG,eW];exact cj hn (by decide)
 ·refine Fp ?_ fun i x u h1 h2=>?_
  ·unfold cV
   rw [aG,eW,fF,hit.1]
  ·have Fs:acc[i]?=some u:=by simpa using h2
   obtain ⟨Ft,e'⟩:=hit.2 i u Fs;unfold cV at h1;rw [bD] at h1;have hi:i<n:=by have z:=(Array.getElem?_eq_some_iff.mp Fs).1;rw [hit.1] at z;exact z
   rw [mj hi] at h1;cases h1;exact ⟨Ft,by rw [e'];simp⟩
 ·rw [hD]
end
theorem boot_all:bootBuiltins "all"=some (.builtin "all"):=by decide +kernel
theorem ye:bootBuiltins "range"=some (.type "range"):=by decide +kernel
def Bm:Expr→Bool
 | .Starred _ _=>false
 | _=>true
variable {e:Expr} {es:List Expr}
theorem MV{env:Env}(h:Bm e=true):starEach (e::es) env=(false,eval e env)::starEach es env:=by cases e <;> first | rfl | cases h
variable {X:Cx} {te:TE} {t:TA}
theorem MW(hs:Bm e=true)(ha:PE X e te)(hr:PA X es t):PA X (e::es) (xQ te t):=
 LD ha hr (MV hs)
theorem aj(ha:PE X e te)(hr:PA X es t)(hs:Bm e=true:=by rfl):PA X (e::es) (xQ te t):=MW hs ha hr
variable {pos pos':Pos} {x:Str}
theorem Fu{i:Nat}(hs:swapsWith e (some (.Name x pos')) pos.line X.env=pure false)(hf:X.fn x=true∨X.env.scope.names.lookup x=some .local)(hN:X.N.Nodup)(hi:X.N[i]?=some x)(hx:Loc X.env.scope x)(he:PE X e te) :
  PS X (.Assign [.Name x pos'] e pos) (oq te (aX i)):=K9 hN hi hx he hs hf
theorem putL(i:Nat)(hN:X.N.Nodup)(he:PE X e te)(hs:swapsWith e (some (.Name x pos')) pos.line X.env=pure false:=by rfl)(hi:X.N[i]?=some x:=by rfl)(hx:X.env.scope.names.lookup x=some .local:=by rfl) :
  PS X (.Assign [.Name x pos'] e pos) (oq te (aX i)):=Fu hs (.inr hx) hN hi (.inl hx) he
theorem Bn(i:Nat)(hN:X.N.Nodup)(he:PE X e te)(hs:swapsWith e (some (.Name x pos')) pos.line X.env=pure false:=by rfl)(hf:X.fn x=true∨X.env.scope.names.lookup x=some .local:=by first | exact .inl rfl | exact .inr rfl | assumption)(hi:X.N[i]?=some x:=by rfl)(hx:X.env.scope.names.lookup x=some .cell:=by rfl) :
  PS X (.Assign [.Name x pos'] e pos) (oq te (aX i)):=Fu hs hf hN hi (.inr hx) he
end L2
namespace My
open PySem L2
theorem vd(a b:Int):decide (V.int a=V.int b)=decide (a=b):=by
 by_cases h:a=b;·subst h;simp
 ·rw [bt h];exact bt fun e=>h (V.int.inj e)
variable {K:aB}
theorem MX{T:String}:PySem.W.kitOne K (.type T) (.type T)=some true:=by unfold PySem.W.kitOne;rw [ae (beq_self_eq_true _)]
variable {H:Hp}
theorem aY{p:Addr}{o:HO}(h:H p=none):ak H (upd H p o):=fun b u e=>by rw [aH (fu e h)];exact e
variable {i:Int}
theorem Fv{α:Type}{xs:List α}(h0:0≤i)(h1:i<xs.length):∃v,i4 xs i=some v∧v∈xs:=by
 obtain ⟨k,rfl⟩:∃k:Nat,i=(k:Int):=⟨i.toNat,by omega⟩
 have hk:k<xs.length:=by omega
 exact ⟨xs[k],oB (by simp [hk]),bJ _⟩
inductive Any (H:Hp):V→Prop where
 | aJ:Any H .aJ
 | bl (b:Bool):Any H (.bl b)
 | int (i:Int):Any H (.int i)
 | str (x:Str):Any H (.str x)
 | lst {a:Addr} {xs:List V} (e:H a=some (.lst xs)):Any H (.ref a)
 | tup {a:Addr} {xs:List V} (e:H a=some (.tup xs)):Any H (.ref a)
 | ra {a:Addr} (e:H a=some (Fl a)):Any H (.ref a)
def rb:V→Bool
 | .int _=>true
 | _=>false
def rf:V→Bool
 | .bl _=>true
 | _=>false
def yf(H:Hp):V→Bool
 | .ref a=>(match H a with | some (.tup _)=>true | _=>false)
 | _=>false
theorem Any.Bi{v:V}(h:Any H v):∃T:String,u6 K H v (.type T)∧PySem.W.kitOne K (.type T) (.type "int")=some (rb v || rf v)∧PySem.W.kitOne K (.type T) (.type "bool")=some (rf v) ∧
  PySem.W.kitOne K (.type T) (.type "tuple")=some (yf H v):=by
 cases h with
 | aJ=>exact ⟨"NoneType",.of .aJ,rfl,rfl,rfl⟩
 | bl b=>exact ⟨"bool",.of (.bl b),rfl,rfl,rfl⟩
 | int i=>exact ⟨"int",.of (.int i),rfl,rfl,rfl⟩
 | str x=>exact ⟨"str",.of (.str x),rfl,rfl,rfl⟩
 | lst e=>exact ⟨"list",.of (.lst e),rfl,rfl,by unfold yf;dsimp only;rw [e];rfl⟩
 | tup e=>exact ⟨"tuple",.of (.tup e),rfl,rfl,by unfold yf;dsimp only;rw [e];rfl⟩
 | ra e=>exact ⟨"dict",.ra e,rfl,rfl,by unfold yf;dsimp only;rw [e];rfl⟩
theorem MY{v:V}(h:rf v=true):rb v=false:=by cases v <;> first | rfl | cases h
theorem fP.of_lt(h1:-(10 ^ 70)<i)(h2:i<10 ^ 70):fP i:=by
 have h3:i.natAbs<2 ^ 240:=by omega
 exact dD h3 (Nat.pow_le_pow_right (by decide) (by decide))
def MZ:Sp:=fun vs H Q _=>∃v:V,vs=[v]∧Any H v∧Q (.bl (rb v)) H
def M0(K:aB):Sp:=fun vs H Q _=>∃(a:Addr) (ns:List Int),vs=[.ref a]∧aO K H a (ns.map V.int)∧ns.length≤63∧∀H',Q (.bl true) H'
theorem M1(xs:List V)(k:Nat):i3 xs none (some (k:Int))=xs.take k:=by unfold i3;rw [HT.LP,HT.LQ,List.drop_zero,Nat.sub_zero];rw [List.take_eq_take_iff];omega
end My
namespace L2
open PySem PySem.Spec PyProof.Rows
end L2
namespace My
open PySem L2
end My
namespace L2
open PySem PySem.Spec PyProof.Rows
section
variable {P:Program} {w:World} {K:aB} {mg:cy} {base:Heap}
end
section
variable {X:Cx} {CX:gO} {k:Nat} {f C:Addr} {fd:FuncData} {ps:List Str} {y:Str} {sp:Sp} {E:XK} {m:Str} {pos apos EO:Pos} {e e' o:Expr} {ta:TE} {t tk:TA}
end
end L2
namespace My
open PySem L2
end My
namespace L2
open PySem PySem.Spec PyProof.Rows
section
variable {X:Cx}
theorem M3:cq X (compareOp .Is) (fun x y H Q=>∃a b,x=.bl a∧y=.bl b∧Q (.bl (a == b)) H):=by intro pins s σ H x y v u Q I rx ry h;obtain ⟨a,b,rfl,rfl,q⟩:=h;cases rx;cases ry;exact cS (cF I q (by cases a <;> cases b <;> rfl))
theorem Fw:cq X (compareOp .IsNot) (fun x y H Q=>∃a b,x=.bl a∧y=.bl b∧Q (.bl (!(a == b))) H):=by intro pins s σ H x y v u Q I rx ry h;obtain ⟨a,b,rfl,rfl,q⟩:=h;cases rx;cases ry;exact cS (cF I q (by cases a <;> cases b <;> rfl))
end
end L2
namespace My
open PySem L2
section
variable {C N z:Addr} {q:Int} {v u:V} {t b t' b':Int} {H:Hp} {Q:VK} {E:XK}
end
end My
namespace L2
open PySem PySem.Spec PyProof.Rows
structure lI (J:It) (xs:List V) (H1:Hp):Prop where
 go:∀i Hc,ak H1 Hc→i<xs.length→J.go i Hc
 dw:∀i Hc x H',ak H1 Hc→J.dw i Hc x H'→H'=Hc∧(i<xs.length→xs[i]?=some x)
 stop:∀i Hc,ak H1 Hc→xs.length≤i→J.stop i Hc
variable {K:aB} {xs:List V} {H1:Hp}
theorem oF{a:Addr}(h:aO K H1 a xs):lI (lC K a) xs H1 where
 go:=fun i Hc s hi=>⟨xs,xs[i],s.seq h,by simp [hi]⟩
 dw:=fun i Hc x H' s y=>⟨y.1,fun _=>y.2 xs (s.seq h)⟩
 stop:=fun i Hc s hi=>⟨xs,s.seq h,hi⟩
theorem M4{lo:Int}{n:Nat}:lI (mG lo n) ((List.range n).map fun i:Nat=>V.int (lo+(i:Int))) H1 where
 go:=fun i Hc s hi=>by
  have hi:i<n:=by simpa using hi
  exact hi
 dw:=fun i Hc x H' s y=>⟨y.1,fun hi=>by
  have hi:i<n:=by simpa using hi
  rw [y.2];simp [hi]⟩
 stop:=fun i Hc s hi=>by
  have hi:n≤i:=by simpa using hi
  exact hi
variable {H:Hp} {D:Addr}
theorem fA{H':Hp}{o:HO}(s:ak H H')(n:H D=none):ak H (upd H' D o):=fun b u e=>by rw [aH (fu e n)];exact s b u e
variable {te:TE} {Q:VK}
theorem Fx{J:It}{ρσ:St}(js:lI J xs H1)(nD:H1 D=none)(hn:xs.length<sizeLine)
  (P:Nat→V→Hp→Prop) (mono:∀i y H H' ys,P i y H→H D=some (.lst ys)→(∀b o,b≠D→H b=some o→H' b=some o)→P i y H')
  (step:∀i x,xs[i]?=some x→∀(Hc:Hp) (R:VK),ak H1 Hc→(∃ys,Hc D=some (.lst ys))→(∀y H3,ak Hc H3→P i y H3→R y H3)→te (some x::ρσ) Hc R)
  (fin:∀ys Hc,ak H1 Hc→ys.length=xs.length→(∀i y,ys[i]?=some y→P i y Hc)→Hc D=some (.lst ys)→Q (.ref D) Hc) :
  ∃W:Nat→Nat→List V→Hp→Prop,(∃m,W 0 m [] (upd H1 D (.lst []))) ∧
   ∀i m ys Hc,W i m ys Hc→Hc D=some (.lst ys)∧((J.stop i Hc∧Q (.ref D) Hc)∨(J.go i Hc∧∀x H',J.dw i Hc x H'→
    if true=true then te (some x::ρσ) H' fun y H3=>H3 D=some (.lst ys)∧ys.length<sizeLine∧∃m',m'<m∧W (i+1) m' (ys++[y]) (upd H3 D (.lst (ys++[y]))) else ∃m',m'<m∧W (i+1) m' ys H')):=by
 refine ⟨fun i m ys Hc=>m=xs.length-i∧i≤xs.length∧Hc D=some (.lst ys)∧ak H1 Hc∧ys.length=i∧∀j y,ys[j]?=some y→P j y Hc,⟨_,rfl,b7 _,ay,fA (ak.refl H1) nD,rfl,fun j y e=>by simp at e⟩,?_⟩
 rintro i m ys Hc ⟨rfl,hi,eD,sH,el,hP⟩;refine ⟨eD,?_⟩;by_cases a_:i<xs.length
 ·refine .inr ⟨js.go i Hc sH a_,fun x H' hy=>?_⟩
  obtain ⟨rfl,hx⟩:=js.dw i Hc x H' sH hy;rw [ae rfl];refine step i x (hx a_) _ _ sH ⟨ys,eD⟩ fun y H3 s3 hp=>?_;have e3:=s3 _ _ eD;refine ⟨e3,by omega,xs.length-(i+1),by omega,rfl,a_,ay,fA (sH.trans s3) nD,by simp [el],fun j y' e=>?_⟩
  have bS:∀b o,b≠D→H3 b=some o→upd H3 D (.lst (ys++[y])) b=some o:=fun b o nb e=>by rw [aH nb];exact e
  by_cases hj:j<i
  ·have e':ys[j]?=some y':=by rw [gM (by omega)] at e;exact e
   refine mono j y' H' _ ys (hP j y' e') eD fun b o nb e=>?_;exact bS b o nb (s3 _ _ e)
  ·have hj:j=i:=by have:=(cp.mp e).1;simp at this;omega
   subst hj;have e':y'=y:=by rw [gK (by omega),el,uv] at e;simpa using e.symm
   subst e';exact mono _ _ H3 _ ys hp e3 bS
 ·have e:i=xs.length:=by omega
  subst e;exact .inl ⟨js.stop _ Hc sH (ax _),fin ys Hc sH el hP eD⟩
variable {wi:TI} {ρ:St→St} {σ:St}
theorem Fy(iH:∀R:It→Hp→Prop,(∀J H1,ak H H1→lI J xs H1→R J H1)→wi σ H R)(hn:xs.length<sizeLine)
  (P:Addr→Nat→V→Hp→Prop) (mono:∀D i y H H' ys,P D i y H→H D=some (.lst ys)→(∀b o,b≠D→H b=some o→H' b=some o)→P D i y H')
  (step:∀D i x,xs[i]?=some x→∀(Hc:Hp) (R:VK),ak H Hc→(∃ys,Hc D=some (.lst ys))→(∀y H3,ak Hc H3→P D i y H3→R y H3)→te (some x::ρ σ) Hc R)
  (fin:∀D ys Hc,ak H Hc→ys.length=xs.length→(∀i y,ys[i]?=some y→P D i y Hc)→Hc D=some (.lst ys)→Q (.ref D) Hc):i6 wi ρ (fun _ H Q=>Q true H) te σ H Q:=by
 refine iH _ fun J H1 s1 js=>?_;intro D nD;exact Fx (ρσ:=ρ σ) (te:=te) (Q:=Q) js nD hn (P D) (mono D) (fun i x hx Hc R sc=>step D i x hx Hc R (s1.trans sc)) (fun ys Hc sc=>fin D ys Hc (s1.trans sc))
theorem rg{g:TG}{D:Ends}(h:te σ H fun x H1=>g x σ H1 D.nx):oq te g D σ H:=h
theorem bO{a b:TS}{D:Ends}(h:a {D with nx:=fun σ H=>b D σ H} σ H):AS a b D σ H:=h
section
variable {X:Cx} {N:List Str} {scope:Scope} {cl:List (Str×Addr)} {x:Str} {px pos:Pos} {iter elt:Expr} {ifs:List Expr} {wi:TI} {ρ:St→St} {tt:TT} {te:TE}
theorem yg{y:Str}{py Fz:Pos}{i0:Nat}(B:Bk X N scope cl x ρ)(hc:X.calm=true)(hN:X.N.Nodup)(M5:X.N[i0]?=some y)(hy:Loc X.env.scope y)(hi:PI X (.Name x px) iter wi)(ht:∀s₃ H₃ fp,mP (X.bC N scope cl s₃ H₃ fp) ifs tt)(he:∀s₃ H₃ fp,PE (X.bC N scope cl s₃ H₃ fp) elt te)
  (M6:swapsWith (.ListComp elt [⟨.Name x px,iter,ifs,0⟩] scope pos) (some (.Name y py)) Fz.line X.env=pure true:=by rfl) (hf:X.fn y=true∨X.env.scope.names.lookup y=some .local:=by first | exact .inl rfl | exact .inr rfl | assumption)
  (hs:∀x,foldedSetIterable iter X.env x=pure x:=by intro _;rfl):PS X (.Assign [.Name y py] (.ListComp elt [⟨.Name x px,iter,ifs,0⟩] scope pos) Fz) (oq (i6 wi ρ tt te) (aX i0)):=by
 intro pins s σ H D0 I h
 have h:i6 wi ρ tt te σ H (fun v H1=>D0.nx (σ.set i0 (some v)) H1):=h
 rw [exec_Assign_Name_used _ _ _ _ M6]
 refine a8 (ug (a8 ?_))
 show wpAny _ X.A (do let _ ←comprehension (.ListComp elt [⟨.Name x px,iter,ifs,0⟩] scope pos) scope X.env _ (newList []) false (eval iter X.env) (some (assign (.Name y py) X.env))) _ _ s
 refine a8 (bZ (Q:=fun _ s'=>SP X pins D0 .next s') ?_ (fun _ s' hq=>cS (cS hq)) fun _ _ e=>e)
 refine AD (use:=some (assign (.Name y py) X.env)) rfl hs B.x8 B.kind B.names (aD (hi pins s σ H _ I h) fun v s1 h1=>aD h1 fun uX s2 h2=>?_)
 obtain ⟨it,fp,tn,J,H2,rfl,I2,T,iy,f2,q2⟩:=h2
 have nD:H2 s2.heap.objs.size=none:=I2.aw.fresh (ax _)
 obtain ⟨W,⟨m0,w0⟩,turn⟩:=q2 _ nD
 refine wpAny_newObj_type (wY B.x9 (by intro y hy;simp at hy) (fun h₁ gQ gR=>?_) B.kind)
 dsimp only at gQ gR ⊢
 generalize hD:s2.heap.objs.size=D at nD w0 turn gQ gR ⊢
 generalize jD:({s2 with heap:=s2.heap.push {cls:=.type "list",dict:=none,data:=.seq ([]:List Value).toArray}}:Shared)=s3
 have I3:Inv X pins σ (upd H2 D (.lst [])) s3:=by
  subst hD jD
  exact I2.laid (t':=s2.toks) (fun b u e=>ck _ e) (ax _) ⟨b7 _,[],_,.nil,eI _ rfl⟩
 have e3:s3.heap=s2.heap.push {cls:=.type "list",dict:=none,data:=.seq ([]:List Value).toArray}:=by rw [←jD]
 have gS:∀b o,s2.heap.get? b=some o→s3.heap.get? b=some o:=fun b o e=>by rw [e3];exact ck _ e
 rw [←e3] at gQ gR ⊢
 have below:∀b o,s3.heap.get? b=some o→b≠s3.heap.objs.size:=fun b o e=>bX (aU e)
 have eA:∀b o,s3.heap.get? b=some o→h₁.get? b=some o:=fun b o e=>gR.extBut b o (below b o e) (ck _ e)
 have jE:∀b∈fp,∃o,s2.heap.get? b=some o∧∀v,o.data≠.cell v:=T.obj _ _ iy
 have u7:∀b∈fp,b≠D:=fun b hb z=>by
  obtain ⟨o,e,_⟩:=jE b hb
  rw [z,←hD] at e
  exact absurd (aU e) (eG _)
 have dJ:∀y c,cl.lookup y=some c→X.env.cells.lookup y=some c:=fun y c e=>B.sub (y,c) (k6 e)
 have u9:=I3.uO
 have gP:(X.bC N scope cl s3 (upd H2 D (.lst [])) fp).Ok:=by
  refine ⟨I.ok.mod,B.kind,I.ok.glob,I.ok.blt,ax _,fun a b c e1 e2=>I.ok.inj a b c (dJ a c e1) (dJ b c e2),fun y hy=>B.has y hy,(fun _ _ z _=>absurd z da),(fun _=>I.ok.hd hc),I.ok.frames,.inl rfl,fun b hb=>⟨?_,fun y c e z=>?_⟩,fun b o e=>?_,cj I.ok.iu I3.sz,fun b o e hb=>?_,fun b hb z=>?_,I3.stack,u9⟩
  ·obtain ⟨o,e,_⟩:=jE b hb
   exact below b o (gS b o e)
  ·exact (f2 b hb).2.2.2.2.1 y c (dJ y c e) z
  ·exact I3.bs b o e
  ·rcases (f2 b hb).2.2.2.1 with z | z
   ·exact I.ok.oi b o e z
   ·exact absurd (dD (aU e) (cj I.ok.iu z)) (eG _)
  ·rcases bb.mp (I3.uN b z) with z | z
   ·exact (f2 b hb).2.1 z
   ·exact (f2 b hb).2.2.1 z
 have IB:∀tk:Nat,Inv (X.bC N scope cl s3 (upd H2 D (.lst [])) fp) [] (none::ρ σ) (upd H2 D (.lst [])) {s3 with heap:=h₁,toks:=tk}:=fun tk=>by
  refine ⟨gP,rfl,I3.bare,Un.kept eA,⟨_,gQ,fun j y v e1 e2 e3=>?_⟩,fun y c e=>?_,?_,fun y c e=>I3.iU y c (dJ y c e),(fun p hp=>nomatch hp),I3.aw.kept eA,?_⟩
  ·cases j with
   | zero=>cases e2
   | succ j=>
    obtain ⟨i,y',a1,a2,a3,a4,a5,a6⟩:=B.x_ σ j v e2
    have oE:N[j+1]?=some y:=e1
    rw [oE] at a1
    cases a1
    obtain ⟨m,hn,hl⟩:=I3.loc
    obtain ⟨u,r,l⟩:=hl i y v a2 a3 a4
    refine ⟨u,r,.inr ⟨a6,?_⟩⟩
    obtain ⟨c,ec⟩:=B.has y a6
    rcases l with ⟨k,_⟩ | ⟨_,c',mQ,z⟩
    ·rcases a5 with q | q <;> (rw [k] at q;cases q)
    ·have:=dJ y c ec
     rw [this] at mQ
     cases mQ
     obtain ⟨o,ho,hd⟩:=z
     exact ⟨c,ec,o,eA _ _ ho,hd⟩
  ·obtain ⟨v,o,ho,hd⟩:=I3.cell y c (dJ y c e)
   exact ⟨v,o,eA _ _ ho,hd⟩
  ·exact I3.aw.fresh (ax _)
  ·show (none::ρ σ).length=N.length
   rw [dE]
   exact B.len σ I.len
 have Bo:∀b o,s3.heap.get? b=some o→b≠s3.heap.objs.size:=below
 have fin:∀{σ':St} {H':Hp} {s':Shared},Inv (X.bC N scope cl s3 (upd H2 D (.lst [])) fp) [] σ' H' s'→D0.nx (σ.set i0 (some (.ref D))) H'→compPost (model X.prog X.w) X.A X.xe (some (assign (.Name y py) X.env)) (fun _ s'=>SP X pins D0 .next s') (.ref D) s3.heap.objs.size (.ok .next) s':=fun{σ' H' s'} J q=>by
  obtain ⟨m,hn,_⟩:=J.loc
  have hn:s'.heap.Ns s3.heap.objs.size m:=hn
  have JC:H' s3.heap.objs.size=none:=J.free
  have u1:Un (cz X.stack) fp (upd H2 D (.lst [])) H' s3.heap s'.heap:=by
   refine ⟨fun b o e n hb hx=>J.base.keep b o e n hb hx,fun b o e n hb hx=>J.base.slot b o e n hb hx,J.base.free,fun b o e hx=>J.base.there b o e hx,J.base.gc,J.base.fK,J.base.fN⟩
  have IX:Inv X pins σ H' s':=I3.mC (ch:=fp) (J.os) u1 J.aw J.bare fun b hb=>by
   obtain ⟨g0,g1,g2,g3,g4,g5⟩:=f2 b hb
   exact ⟨g3,g1,g4,g5⟩
  have nl:X.env.locals≠s3.heap.objs.size:=by
   obtain ⟨m3,⟨o3,_,_,e3,_⟩,_⟩:=I3.loc
   exact Bo _ _ e3
  have nc:∀z c,X.env.cells.lookup z=some c→c≠s3.heap.objs.size:=fun z c e=>by
   obtain ⟨v3,o3,e3,_⟩:=I3.cell z c e
   exact Bo _ _ e3
  refine wpAny_assign_Name (Ei (v:=.ref D) IX hN M5 hy rfl (fun ku Bp rh=>?_) hf)
  obtain ⟨a,rh,ha⟩:=rh
  have na:s3.heap.objs.size≠a:=by
   rcases ha with rfl | e
   ·exact fun z=>nl z.symm
   ·exact fun z=>nc _ _ e z.symm
  refine ⟨m,hn.sameBut rh na,fun h' gT=>⟨σ.set i0 (some (.ref D)),H',?_,q⟩⟩
  have u2:Un (cz X.stack) [s3.heap.objs.size] H' H' ku.heap h':=by
   refine ⟨fun b o e n hb hx=>(gT.2 b (by simpa using hx)).trans e,fun b o e n hb hx=>⟨o.slots,(gT.2 b (by simpa using hx)).trans e⟩,fun b o e n hx=>n,fun b o e hx=>⟨o,(gT.2 b (by simpa using hx)).trans e⟩,fun b xs z=>z,fun b o u z=>z,fun b ps z=>⟨#[],by simpa using z⟩⟩
  have u_:bV X.prog X.w H' h':=fun b u e=>by
   refine (Bp.aw b u e).gb (fun c v hc z=>(gT.2 c fun y=>?_).trans z) (fun _ z=>z) fun _ _ z=>z
   have y':c=s3.heap.objs.size:=y
   rcases hc with hc | hc
   ·rw [←hc,y',JC] at e
    cases e
   ·rw [y',JC] at hc
    cases hc
  refine Bp.mC (s':={ku with heap:=h'}) (ch:=[s3.heap.objs.size]) rfl u2 u_ Bp.bare fun b hb=>?_
  have eb:b=s3.heap.objs.size:=by simpa using hb
  subst eb
  refine ⟨.inr I3.sz,fun z=>nl z.symm,fun z c e=>nc z c e,fun p hp=>?_⟩
  exact Bo _ _ (I3.pin p hp).1
 have gf:∀{H':Hp},(∀b∈fp,H' b=none)→∀b∈fp,lB (X.bC N scope cl s3 (upd H2 D (.lst [])) fp) [] H' b:=fun hn b hb=>by
  refine ⟨hn b hb,?_,?_,.inl hb,fun y c e z=>(f2 b hb).2.2.2.2.1 y c (dJ y c e) z,fun p hp=>nomatch hp⟩
  ·obtain ⟨o,e,_⟩:=jE b hb
   exact below b o (gS b o e)
  ·exact gP.oj b hb
 have loop:∀tk:Nat,codeAny (model X.prog X.w) X.A (.compLoop (.ListComp elt [⟨.Name x px,iter,ifs,0⟩] scope pos) 0 (.ref it) (.ref D) (compEnvC scope cl s3.heap.objs.size X.env))
   (compPost (model X.prog X.w) X.A X.xe (some (assign (.Name y py) X.env)) (fun _ s'=>SP X pins D0 .next s') (.ref D) s3.heap.objs.size) {s3 with heap:=h₁,toks:=tk}:=fun tk=>by
  refine codeAny_compLoop_tests (fun n s'=>∃i ys o H',Inv (X.bC N scope cl s3 (upd H2 D (.lst [])) fp) [] (o::ρ σ) H' s'∧tn i s'.heap∧(∀b∈fp,H' b=none)∧W i n ys H') ?_ m0
   ⟨0,[],none,_,IB tk,T.keep _ _ _ iy fun b hb o e=>eA _ _ (gS _ _ e),fun b hb=>by rw [aH (u7 b hb)];exact (f2 b hb).1,w0⟩
  rintro n s4 ⟨i,ys,o,H4,I4,mR,mS,w4⟩
  obtain ⟨Fo,va⟩:=turn i n ys H4 w4
  rcases va with ⟨stop,qn⟩ | ⟨go,step⟩
  ·refine bZ (T.done (X.bC N scope cl s3 (upd H2 D (.lst [])) fp) rfl rfl rfl hc i [] s4 _ H4 (fun _ _=>False) I4 (gf mS) mR stop) (fun r s5 ⟨hr,I5⟩=>?_) fun _ _ z=>z.elim
   subst hr
   exact fin I5 qn
  ·refine bZ (T.item (X.bC N scope cl s3 (upd H2 D (.lst [])) fp) rfl rfl rfl hc i [] s4 _ H4 (fun _ _=>False) I4 (gf mS) mR go) (fun r s5 ⟨u,hr,h5⟩=>?_) fun _ _ z=>z.elim
   subst hr
   have z:letOwnedTupleGo (.Name x px) (.ref it) u=pure ():=rfl
   rw [z] at h5
   show wpAny _ _ ((pure ():Sem Unit) >>= fun _=>assign (.Name x px) (compEnvC scope cl s3.heap.objs.size X.env) u) _ _ s5
   refine a8 (bZ h5 (fun _ s5 ⟨y,H5,I5,r5,y5,gg,ot⟩=>?_) fun _ _ z=>z.elim)
   have ou:=I5.pinned (gf ot) (T.obj _ _ gg)
   have pg:PG (X.bC N scope cl s3 (upd H2 D (.lst [])) fp) (.Name x px) (aX 0):=dc (i:=0) B.nd B.n0 (.inl (mh B.hx)) (.inr (mh B.hx))
   have again:∀{σ7:St} {H7:Hp} {s7:Shared},Inv (X.bC N scope cl s3 (upd H2 D (.lst [])) fp) ([]++kj fp s5.heap) σ7 H7 s7→Inv (X.bC N scope cl s3 (upd H2 D (.lst [])) fp) [] σ7 H7 s7∧tn (i+1) s7.heap∧∀b∈fp,H7 b=none:=fun{σ7 H7 s7} I7=>by
    refine ⟨I7.qT,T.keep _ _ _ gg fun b hb o e=>(I7.pin (b,o) (d_ _ (d_ _ (mH hb e)))).1,fun b hb=>?_⟩
    obtain ⟨o,e,d⟩:=T.obj _ _ gg b hb
    exact (I7.pin (b,o) (d_ _ (d_ _ (mH hb e)))).2.1
   refine bZ (pg _ s5 _ H5 y u (fun σ2 H6=>σ2=some y::ρ σ∧H6=H5) ou r5 ⟨rfl,rfl⟩) (fun _ s6 ⟨σ6,H6,I6,q6⟩=>?_) fun _ _ z=>z.elim
   obtain ⟨rfl,rfl⟩:=q6
   have vb:=step y _ y5
   have tests:∀{jF:TT},mP (X.bC N scope cl s3 (upd H2 D (.lst [])) fp) ifs jF→∀{R:Bool→Hp→Prop},jF (some y::ρ σ) H6 R→wpAny (model X.prog X.w) X.A
     (forIn ifs true fun c r=>if r=true then do let ok ←isTrue c (compEnvC scope cl s3.heap.objs.size X.env) (eval c (compEnvC scope cl s3.heap.objs.size X.env));pure (ForInStep.yield ok) else pure (ForInStep.yield r))
     (fun ok s7=>∃H7,Inv (X.bC N scope cl s3 (upd H2 D (.lst [])) fp) ([]++kj fp s5.heap) (some y::ρ σ) H7 s7∧R ok H7) (fun _ _=>False) s6:=fun{jF} p {R} hR=>by
    cases p with
    | nil=>exact wpAny_tests_nil ⟨_,I6,hR⟩
    | one p=>exact wpAny_tests_one (p _ s6 _ _ _ I6 hR)
   refine bZ (tests (ht s3 _ fp) vb) (fun ok s7 ⟨H7,I7,q7⟩=>?_) fun _ _ z=>z.elim
   cases ok with
   | false=>
    obtain ⟨m',d8,w7⟩:=q7
    obtain ⟨a1,a2,a3⟩:=again I7
    exact ⟨m',d8,i+1,ys,_,H7,a1,a2,a3,w7⟩
   | true=>
    refine bZ (he s3 _ fp _ s7 _ H7 _ I7 q7) (fun ev s8 ⟨z,H8,I8,r8,vc,hz,m',d8,w8⟩=>?_) fun _ _ z=>z.elim
    refine bZ (kC (X:=X.bC N scope cl s3 (upd H2 D (.lst [])) fp) _ s8 _ H8 (.ref D) [z] (.ref D) [ev] (fun _ H9=>H9=upd H8 D (.lst (ys++[z]))) I8 rfl (.cons r8 .nil) ⟨D,ys,z,rfl,rfl,vc,hz,rfl⟩) (fun _ s9 ⟨_,H9,I9,_,q9⟩=>?_) fun _ _ z=>z.elim
    subst q9
    obtain ⟨a1,a2,a3⟩:=again I9
    exact ⟨m',d8,i+1,ys++[z],_,_,a1,a2,a3,w8⟩
 have start:=loop (s3.toks+([]:List (Str×Value)).length)
 have es:({s3 with heap:=h₁,toks:=s3.toks+([]:List (Str×Value)).length}:Shared)={s2 with heap:=h₁,toks:=s2.toks+([]:List (Str×Value)).length}:=by rw [←jD]
 rw [es] at start
 exact AE start (T.self _ 0 _ _ _ (T.keep _ _ _ iy fun b hb o e=>eA _ _ (gS _ _ e)) start)
end
def Bq(K:aB)(l1 l2:Addr):It:=
  ⟨fun i H=>∃xs ys x y,aO K H l1 xs∧aO K H l2 ys∧xs[i]?=some x∧ys[i]?=some y,
   fun i H v H'=>∃T x y,H T=none∧v=.ref T∧H'=upd H T (.tup [x,y])∧∀xs ys,aO K H l1 xs→aO K H l2 ys→xs[i]?=some x∧ys[i]?=some y,
   fun i H=>∃xs ys,aO K H l1 xs∧aO K H l2 ys∧(xs.length≤i∨ys.length≤i)⟩
theorem M7{P:Program}{w:World}{elts:List Expr}{k:Nat}{pos:Pos}{z TI TO i1 i2 l1 l2:Addr}(D:ZipApart z TI TO i1 i2 l1 l2):Turn P w K (.Tuple elts k pos) (Bq K l1 l2) [z,TI,TO,i1,i2] z
  (fun i h=>IsZip h z TI TO .none∧IsPair h TI (.ref i1) (.ref i2)∧(∃a b,IsPair h TO a b)∧h.IsListIter i1 l1 i∧h.IsListIter i2 l2 i) where
 mem:=by simp
 obj:=fun i h st b hb=>by
  obtain ⟨hz,lJ,⟨a,c,mT⟩,h1,h2⟩:=st;simp only [bb,iS,iT] at hb;rcases hb with rfl | rfl | rfl | rfl | rfl;·exact ⟨_,hz,fun v z=>by cases z⟩
  ·exact ⟨_,lJ,fun v z=>by cases z⟩
  ·exact ⟨_,mT,fun v z=>by cases z⟩
  ·obtain ⟨o,e,c,d⟩:=h1
   exact ⟨o,e,fun v z=>by rw [d] at z;cases z⟩
  ·obtain ⟨o,e,c,d⟩:=h2
   exact ⟨o,e,fun v z=>by rw [d] at z;cases z⟩
 keep:=fun i h h' st k=>by obtain ⟨hz,lJ,⟨a,c,mT⟩,h1,h2⟩:=st;exact ⟨k _ (by simp) _ hz,k _ (by simp) _ lJ,⟨a,c,k _ (by simp) _ mT⟩,h1.at fun o e=>k _ (by simp) o e,h2.at fun o e=>k _ (by simp) o e⟩
 item:=by
  intro X hP hw hK hc i pins s σ H E I hf st hg;subst hP hw hK;obtain ⟨hz,lJ,⟨a,c,mT⟩,h1,h2⟩:=st;obtain ⟨xs,ys,x,y,iI,lH,hx,hy⟩:=hg;obtain ⟨its,rv,p,_⟩:=I.list iI;obtain ⟨FA,yh,p',_⟩:=I.list lH;obtain ⟨u,hu,ru⟩:=rv.get hx;obtain ⟨u',Br,M8⟩:=yh.get hy;refine wpAny_pyNext_zip_item D hz lJ mT h1 h2 p.isList p'.isList (x:=u) (y:=u') (by simpa using hu) (by simpa using Br) fun h' g1 g2 g3 g4 g5 g6 g7=>⟨_,rfl,?_⟩
  refine wpAny_letOwnedTupleGo_zip g1 fun kG q1 sb=>?_;have ve:H s.heap.objs.size=none:=I.aw.fresh (ax _);have lt:∀b o,s.heap.get? b=some o→b≠s.heap.objs.size:=fun b o e=>bX (aU e);have keep:∀b o,b∉[z,TI,TO,i1,i2]→s.heap.get? b=some o→kG.get? b=some o:=fun b o nb e=>by simp only [bb,iS,iT,not_or] at nb;exact sb.extBut _ _ nb.1 (g7 b o nb.1 nb.2.2.1 nb.2.2.2.1 nb.2.2.2.2 e)
  have M9:z≠s.heap.objs.size:=lt _ _ hz;have pT:IsPair kG s.heap.objs.size u u':=sb.extBut _ _ M9.symm g5;have jG:∀{b:Addr} {o:HO} (e:H b=some o),upd H s.heap.objs.size (.tup [x,y]) b=some o:=fun e=>by rw [aH (fu e ve)];exact e
  have aw:bV X.prog X.w (upd H s.heap.objs.size (.tup [x,y])) kG:=fun b o e=>by
   by_cases hb:b=s.heap.objs.size
   ·subst hb
    rw [ay] at e;cases e;exact ⟨by show 2≤sizeLine;decide,[u,u'],.cons ru (.cons M8 .nil),⟨_,pT,rfl,_,rfl⟩⟩
   ·rw [aH hb] at e
    refine (I.aw b o e).gb (fun c v du q=>keep c v (fun m=>?_) q) (fun c q=>jG q) fun c xs q=>jG q;have nn:=(hf c m).1;rcases du with rfl | du;·rw [nn] at e;cases e
    ·rw [nn] at du;cases du
  have u1:Un (cz X.stack) [z,TI,TO,i1,i2] H (upd H s.heap.objs.size (.tup [x,y])) s.heap kG:=
   ⟨fun b o e n _ hx=>keep b o hx e,fun b o e n _ hx=>⟨o.slots,keep b o hx e⟩,fun b o e n hx=>by rw [aH (lt b o e)];exact n,fun b o e hx=>⟨o,keep b o hx e⟩,fun b xs e=>jG e,fun b o u e=>jG e,fun b ps e=>⟨#[],by rw [jG e];simp⟩⟩
  refine ⟨.ref s.heap.objs.size,upd H s.heap.objs.size (.tup [x,y]),I.mC (s':={s with heap:=kG}) (ch:=[z,TI,TO,i1,i2]) rfl u1 aw I.bare (fun b hb=>?_),rfl,⟨_,x,y,ve,rfl,rfl,fun as bs ha hb=>⟨by rw [I.xC ha iI];exact hx,by rw [I.xC hb lH];exact hy⟩⟩,?_,fun b hb=>?_⟩
  ·obtain ⟨f0,f1,f2,f3,f4,f5⟩:=hf b hb
   exact ⟨f3,f1,f4,f5⟩
  ·exact ⟨q1,sb.extBut _ _ D.TIz (g7 _ _ D.TIz D.TITO D.TIi1 D.TIi2 lJ),⟨_,_,sb.extBut _ _ D.TOz g2⟩,g3.extBut sb.extBut D.i1z,g4.extBut sb.extBut D.i2z⟩
  ·have nb:b≠s.heap.objs.size:=by
    simp only [bb,iS,iT] at hb;rcases hb with rfl | rfl | rfl | rfl | rfl;·exact lt _ _ hz
    ·exact lt _ _ lJ
    ·exact lt _ _ mT
    ·obtain ⟨o,e,_⟩:=h1;exact lt _ _ e
    ·obtain ⟨o,e,_⟩:=h2;exact lt _ _ e
   rw [aH nb];exact (hf b hb).1
 done:=by
  intro X hP hw hK hc i pins s σ H E I hf st hg;subst hP hw hK;obtain ⟨hz,lJ,⟨a,c,mT⟩,h1,h2⟩:=st;obtain ⟨xs,ys,iI,lH,hx⟩:=hg;obtain ⟨its,rv,p,_⟩:=I.list iI;obtain ⟨FA,yh,p',_⟩:=I.list lH;have hl:=rv.length;have Xx:=yh.length;refine wpAny_pyNext_zip_end (I.ok.hd hc) D hz lJ mT h1 h2 p.isList p'.isList (hx.imp (fun h=>by simp;omega) fun h=>by simp;omega) fun h' g=>⟨rfl,?_⟩
  have keep:∀b o,b∉[z,TI,TO,i1,i2]→s.heap.get? b=some o→h'.get? b=some o:=fun b o nb e=>by simp only [bb,iS,iT,not_or] at nb;exact g b o nb.1 nb.2.2.1 nb.2.2.2.1 nb.2.2.2.2 e
  have aw:bV X.prog X.w H h':=fun b o e=>by
   refine (I.aw b o e).gb (fun c v du q=>keep c v (fun m=>?_) q) (fun c q=>q) fun c xs q=>q;have nn:=(hf c m).1;rcases du with rfl | du;·rw [nn] at e;cases e
   ·rw [nn] at du;cases du
  have u1:Un (cz X.stack) [z,TI,TO,i1,i2] H H s.heap h':=
   ⟨fun b o e n _ hx=>keep b o hx e,fun b o e n _ hx=>⟨o.slots,keep b o hx e⟩,fun b o e n hx=>n,fun b o e hx=>⟨o,keep b o hx e⟩,fun b xs e=>e,fun b o u e=>e,fun b ps e=>⟨#[],by rw [e];simp⟩⟩
  refine I.mC (s':={s with heap:=h'}) (ch:=[z,TI,TO,i1,i2]) rfl u1 aw I.bare fun b hb=>?_;obtain ⟨f0,f1,f2,f3,f4,f5⟩:=hf b hb;exact ⟨f3,f1,f4,f5⟩
 self:=fun _ _ _ _ _ st h=>wpAny_pyIter_zip st.1 h
theorem boot_zip:bootBuiltins "zip"=some (.type "zip"):=by decide +kernel
def M_(K:aB)(ta:TA):TI:=fun σ H R=>ta σ H fun vs H1=>∃l1 l2,vs=[.ref l1,.ref l2]∧(∃xs,aO K H1 l1 xs)∧(∃ys,aO K H1 l2 ys)∧R (Bq K l1 l2) H1
section
variable {X:Cx}
theorem Na{elts:List Expr}{k:Nat}{mF:Pos}{a b:Expr}{ta:TA}{p pos:Pos}(hg:Gl X "zip")(hm:X.mg "zip"=none)(ha:PA X [a,b] ta)(hs:starEach [a,b] X.env=[(false,eval a X.env),(false,eval b X.env)]:=by rfl)(ki:starEach [b] X.env=[(false,eval b X.env)]:=by rfl) :
  PI X (.Tuple elts k mF) (.Call (.Name "zip" p) [a,b] [] pos) (M_ X.K ta):=by
 intro pins s σ H R I h;refine Call_ (kg I hg hm boot_zip (qr (aD (ha pos pins s σ H _ I h) fun us s1 ⟨vs,H1,I1,r1,q1⟩=>?_) (by rw [hs,ki]) (by rw [ki];rfl)))
 obtain ⟨l1,l2,e,⟨xs,iI⟩,⟨ys,lH⟩,q⟩:=q1;subst e;cases r1 with
 | cons r rr=>
  cases rr with
  | cons r' rr=>
   cases rr;cases r;cases r';obtain ⟨its,rv,p1,_⟩:=I1.list iI;obtain ⟨FA,yh,p2,_⟩:=I1.list lH;have b1:l1<s1.heap.objs.size:=by obtain ⟨o,e,_⟩:=p1.isList;exact aU e
   have b2:l2<s1.heap.objs.size:=by obtain ⟨o,e,_⟩:=p2.isList;exact aU e
   refine call_zip_2 p1.isList p2.isList fun h' z1 z2 z3 z4 z5 z6 z7=>?_;refine wpAny_pyIter_zip (s:={s1 with heap:=h'}) z1 ?_;have D:ZipApart (s1.heap.objs.size+4) (s1.heap.objs.size+2) (s1.heap.objs.size+3) s1.heap.objs.size (s1.heap.objs.size+1) l1 l2:=by constructor <;> (intro h;have h:@Eq Nat _ _:=h;have b1:@LT.lt Nat _ l1 s1.heap.objs.size:=b1;have b2:@LT.lt Nat _ l2 s1.heap.objs.size:=b2;omega)
   refine ⟨_,_,_,_,H1,rfl,I1.kept (t':=s1.toks) z7,M7 D,⟨z1,z2,⟨_,_,z3⟩,z4,z5⟩,fun b hb=>?_,q⟩;have le:s1.heap.objs.size≤b:=by
    simp only [bb,iS,iT] at hb;rcases hb with rfl | rfl | rfl | rfl | rfl;·exact uy ..
    ·exact uy ..
    ·exact uy ..
    ·exact ax _
    ·exact uy ..
   exact I1.qQ le (I1.aw.fresh le)
end
section
variable {prog:Program} {w:World} {A:Around} {R:Result→Shared→Prop} {s:Shared}
theorem Nb{elt target iter:Expr}{ifs:List Expr}{scope:Scope}{pos:Pos}{it acc:Value}{env:Env}(I:Nat→Shared→Prop)
  (turn:∀n s,I n s→wpAny (model prog w) A (pyNext it) (fun r s₁=>match r with
   | none=>R (.ok .next) s₁
   | some v=>wpAny (model prog w) A (letOwnedTupleGo target it v) (fun _ s₁=>wpAny (model prog w) A (assign target env v) (fun _ s₂=>
     wpAny (model prog w) A (forIn ifs true fun c r=>if r=true then do let ok ←isTrue c env (eval c env);pure (ForInStep.yield ok) else pure (ForInStep.yield r)) (fun ok s₃=>
      if ok=true then wpAny (model prog w) A (eval elt env) (fun x s₄=>
       wpAny (model prog w) A (call (.builtin "list.append") [acc,x]) (fun _ s₅=>∃m,m<n∧I m s₅) (notedBy (model prog w) A env fun e s'=>R (.error e) s') s₄) (notedBy (model prog w) A env fun e s'=>R (.error e) s') s₃
      else ∃m,m<n∧I m s₃) (notedBy (model prog w) A env fun e s'=>R (.error e) s') s₂) (notedBy (model prog w) A env fun e s'=>R (.error e) s') s₁) (notedBy (model prog w) A env fun e s'=>R (.error e) s') s₁) (notedBy (model prog w) A env fun e s'=>R (.error e) s') s)
  (n:Nat) (h:I n s):codeAny (model prog w) A (.compLoop (.ListComp elt [⟨target,iter,ifs,0⟩] scope pos) 0 it acc env) R s:=by
 refine codeAny_loop rfl I (fun n s hI=>?_) n h
 show wpAny _ A ((compTurn (.ListComp elt [⟨target,iter,ifs,0⟩] scope pos) 0 it acc env).onRaise (fun x=>do noteFrame x env;theTreesLotGoes x)) _ _ s
 refine wpAny_noted ?_
 rw [compTurn_list]
 refine a8 (ug (a8 (bZ (turn n s hI) (fun r s₁ h₁=>?_) fun _ _ h'=>h')))
 cases r with
 | none=>exact cS h₁
 | some v=>
  refine a8 (bZ h₁ (fun _ s₁ h₁=>?_) fun _ _ h'=>h')
  refine a8 (bZ h₁ (fun _ s₂ h₂=>a8 (bZ h₂ (fun ok s₃ h₃=>?_) fun _ _ h'=>h')) fun _ _ h'=>h')
  cases ok with
  | false=>exact cS ⟨rfl,h₃⟩
  | true=>
   exact a8 (a8 (bZ h₃ (fun x s₄ h₄=>a8 (bZ h₄ (fun _ s₅ h₅=>cS (cS ⟨rfl,h₅⟩)) fun _ _ h'=>h')) fun _ _ h'=>h'))
end
def FC(K:aB)(wi:TI)(ρ:St→St)(tt:TT)(te:TE):TE:=fun σ H Q=>wi σ H fun J H1=>∀D,H1 D=none→∃W:Nat→Nat→List V→Hp→Prop,(∃m,W 0 m [] (upd H1 D (.lst []))) ∧
 ∀i m ys Hc,W i m ys Hc→Hc D=some (.lst ys)∧((J.stop i Hc∧Q (.ref D) Hc)∨(J.go i Hc∧∀v H',J.dw i Hc v H'→∃T x1 x2,v=.ref T∧e8 K H' T [x1,x2]∧tt (some x1::some x2::ρ σ) H' fun b H2=>
  if b=true then te (some x1::some x2::ρ σ) H2 fun y H3=>H3 D=some (.lst ys)∧ys.length<sizeLine∧∃m',m'<m∧W (i+1) m' (ys++[y]) (upd H3 D (.lst (ys++[y]))) else ∃m',m'<m∧W (i+1) m' ys H2))
section
variable {X:Cx} {N:List Str} {scope:Scope} {cl:List (Str×Addr)} {x y:Str} {px py pos tp:Pos} {vf:Nat} {iter elt:Expr} {ifs:List Expr} {wi:TI} {ρ:St→St} {tt:TT} {te:TE}
structure FD (X:Cx) (N:List Str) (scope:Scope) (cl:List (Str×Addr)) (x y:Str) (ρ:St→St):Prop where
 x8:closureFor scope X.env=pure cl
 kind:scope.kind=.function
 x9:∀y∈scope.names,y.2≠.cell
 names:∀y∈scope.names,y.2=.local→scope.names.lookup y.1=some .local
 sub:∀p∈cl,X.env.cells.lookup p.1=some p.2
 has:∀y,((relabel scope X.env).names.lookup y=some .cell∨(relabel scope X.env).names.lookup y=some .free)→∃c,cl.lookup y=some c
 n0:N[0]?=some x
 n1:N[1]?=some y
 nd:N.Nodup
 hx:scope.names.lookup x=some .local
 hy:scope.names.lookup y=some .local
 x_:∀(σ:St) (j:Nat) (v:V),(ρ σ)[j]?=some (some v)→∃(i:Nat) (y:Str),N[j+1+1]?=some y∧X.N[i]?=some y∧σ[i]?=some (some v)∧my X.env.scope y∧(X.env.kindOf y=some .cell∨X.env.kindOf y=some .free)∧((relabel scope X.env).names.lookup y=some .cell∨(relabel scope X.env).names.lookup y=some .free)
 len:∀σ:St,σ.length=X.N.length→(ρ σ).length+1+1=N.length
theorem FE(is:List Nat)(h1:closureFor scope X.env=pure cl)(h:ya X scope N.tail.tail is:=by repeat' first | exact True.intro | refine And.intro ⟨rfl,Or.inr (Or.inl rfl),.inl rfl,.inl rfl⟩ ?_)(h2:scope.kind=.function:=by rfl)(h3:∀y∈scope.names,y.2≠.cell:=by decide +kernel)(h4:∀y∈scope.names,y.2=.local→scope.names.lookup y.1=some .local:=by decide +kernel)(h5:∀p∈cl,X.env.cells.lookup p.1=some p.2:=by repeat' first | exact List.forall_mem_nil _ | refine List.forall_mem_cons.mpr ⟨rfl,?_⟩)(h6:((relabel scope X.env).names.all fun q=>(q.2 != .cell && q.2 != .free) || (cl.lookup q.1).isSome)=true:=by rfl)(h7:N[0]?=some x:=by rfl)(Nc:N[1]?=some y:=by rfl)(h8:N.Nodup:=by decide +kernel)(h9:scope.names.lookup x=some .local:=by rfl)(Nd:scope.names.lookup y=some .local:=by rfl)(hr:∀σ:St,ρ σ=is.map fun i=>σ[i]?.join:=by exact fun _=>rfl)(hl:is.length+1+1=N.length:=by rfl):FD X N scope cl x y ρ:=
 ⟨h1,h2,h3,h4,h5,Fn h6,h7,Nc,h8,h9,Nd,fun σ j v e=>by rw [hr] at e;rw [←List.getElem?_tail,←List.getElem?_tail];exact Bl h σ j v e,fun σ _=>by rw [hr,aG];exact hl⟩
theorem FF(B:FD X N scope cl x y ρ)(hc:X.calm=true)(hi:PI X (.Tuple [.Name x px,.Name y py] vf tp) iter wi)(ht:∀s₃ H₃ fp,mP (X.bC N scope cl s₃ H₃ fp) ifs tt)(he:∀s₃ H₃ fp,PE (X.bC N scope cl s₃ H₃ fp) elt te)
  (hs:∀x,foldedSetIterable iter X.env x=pure x:=by intro _;rfl):PE X (.ListComp elt [⟨.Tuple [.Name x px,.Name y py] vf tp,iter,ifs,0⟩] scope pos) (FC X.K wi ρ tt te):=by
 intro pins s σ H Q I h
 rw [eval_ListComp]
 refine AD (use:=none) rfl hs B.x8 B.kind B.names (aD (hi pins s σ H _ I h) fun v s1 h1=>aD h1 fun uX s2 h2=>?_)
 obtain ⟨it,fp,tn,J,H2,rfl,I2,T,iy,f2,q2⟩:=h2
 have nD:H2 s2.heap.objs.size=none:=I2.aw.fresh (ax _)
 obtain ⟨W,⟨m0,w0⟩,turn⟩:=q2 _ nD
 refine wpAny_newObj_type (wY B.x9 (by intro y hy;simp at hy) (fun h₁ gQ gR=>?_) B.kind)
 dsimp only at gQ gR ⊢
 generalize hD:s2.heap.objs.size=D at nD w0 turn gQ gR ⊢
 generalize jD:({s2 with heap:=s2.heap.push {cls:=.type "list",dict:=none,data:=.seq ([]:List Value).toArray}}:Shared)=s3
 have I3:Inv X pins σ (upd H2 D (.lst [])) s3:=by
  subst hD jD
  exact I2.laid (t':=s2.toks) (fun b u e=>ck _ e) (ax _) ⟨b7 _,[],_,.nil,eI _ rfl⟩
 have e3:s3.heap=s2.heap.push {cls:=.type "list",dict:=none,data:=.seq ([]:List Value).toArray}:=by rw [←jD]
 have gS:∀b o,s2.heap.get? b=some o→s3.heap.get? b=some o:=fun b o e=>by rw [e3];exact ck _ e
 rw [←e3] at gQ gR ⊢
 have below:∀b o,s3.heap.get? b=some o→b≠s3.heap.objs.size:=fun b o e=>bX (aU e)
 have eA:∀b o,s3.heap.get? b=some o→h₁.get? b=some o:=fun b o e=>gR.extBut b o (below b o e) (ck _ e)
 have jE:∀b∈fp,∃o,s2.heap.get? b=some o∧∀v,o.data≠.cell v:=T.obj _ _ iy
 have u7:∀b∈fp,b≠D:=fun b hb z=>by
  obtain ⟨o,e,_⟩:=jE b hb
  rw [z,←hD] at e
  exact absurd (aU e) (eG _)
 have dJ:∀y c,cl.lookup y=some c→X.env.cells.lookup y=some c:=fun y c e=>B.sub (y,c) (k6 e)
 have u9:=I3.uO
 have gP:(X.bC N scope cl s3 (upd H2 D (.lst [])) fp).Ok:=by
  refine ⟨I.ok.mod,B.kind,I.ok.glob,I.ok.blt,ax _,fun a b c e1 e2=>I.ok.inj a b c (dJ a c e1) (dJ b c e2),fun y hy=>B.has y hy,(fun _ _ z _=>absurd z da),(fun _=>I.ok.hd hc),I.ok.frames,.inl rfl,fun b hb=>⟨?_,fun y c e z=>?_⟩,fun b o e=>?_,cj I.ok.iu I3.sz,fun b o e hb=>?_,fun b hb z=>?_,I3.stack,u9⟩
  ·obtain ⟨o,e,_⟩:=jE b hb
   exact below b o (gS b o e)
  ·exact (f2 b hb).2.2.2.2.1 y c (dJ y c e) z
  ·exact I3.bs b o e
  ·rcases (f2 b hb).2.2.2.1 with z | z
   ·exact I.ok.oi b o e z
   ·exact absurd (dD (aU e) (cj I.ok.iu z)) (eG _)
  ·rcases bb.mp (I3.uN b z) with z | z
   ·exact (f2 b hb).2.1 z
   ·exact (f2 b hb).2.2.1 z
 have IB:∀tk:Nat,Inv (X.bC N scope cl s3 (upd H2 D (.lst [])) fp) [] (none::none::ρ σ) (upd H2 D (.lst [])) {s3 with heap:=h₁,toks:=tk}:=fun tk=>by
  refine ⟨gP,rfl,I3.bare,Un.kept eA,⟨_,gQ,fun j y v e1 e2 e3=>?_⟩,fun y c e=>?_,?_,fun y c e=>I3.iU y c (dJ y c e),(fun p hp=>nomatch hp),I3.aw.kept eA,?_⟩
  ·cases j with
   | zero=>cases e2
   | succ j=>
   cases j with
   | zero=>cases e2
   | succ j=>
    obtain ⟨i,y',a1,a2,a3,a4,a5,a6⟩:=B.x_ σ j v e2
    have oE:N[j+1+1]?=some y:=e1
    rw [oE] at a1
    cases a1
    obtain ⟨m,hn,hl⟩:=I3.loc
    obtain ⟨u,r,l⟩:=hl i y v a2 a3 a4
    refine ⟨u,r,.inr ⟨a6,?_⟩⟩
    obtain ⟨c,ec⟩:=B.has y a6
    rcases l with ⟨k,_⟩ | ⟨_,c',mQ,z⟩
    ·rcases a5 with q | q <;> (rw [k] at q;cases q)
    ·have:=dJ y c ec
     rw [this] at mQ
     cases mQ
     obtain ⟨o,ho,hd⟩:=z
     exact ⟨c,ec,o,eA _ _ ho,hd⟩
  ·obtain ⟨v,o,ho,hd⟩:=I3.cell y c (dJ y c e)
   exact ⟨v,o,eA _ _ ho,hd⟩
  ·exact I3.aw.fresh (ax _)
  ·show (none::none::ρ σ).length=N.length
   rw [dE,dE]
   exact B.len σ I.len
 have fin:∀{σ':St} {H':Hp} {s':Shared},Inv (X.bC N scope cl s3 (upd H2 D (.lst [])) fp) [] σ' H' s'→Q (.ref D) H'→compPost (model X.prog X.w) X.A X.xe none (EP X pins σ Q) (.ref D) s3.heap.objs.size (.ok .next) s':=fun{σ' H' s'} J q=>by
  obtain ⟨m,hn,_⟩:=J.loc
  refine ⟨m,hn,fun h' gT=>⟨.ref D,H',?_,rfl,q⟩⟩
  have old:∀b o,s3.heap.get? b=some o→b≠s3.heap.objs.size:=below
  have u1:Un (cz X.stack) fp (upd H2 D (.lst [])) H' s3.heap h':=by
   refine ⟨fun b o e n hb hx=>?_,fun b o e n hb hx=>?_,J.base.free,fun b o e hx=>?_,J.base.gc,J.base.fK,J.base.fN⟩
   ·exact (gT.2 b (old b o e)).trans (J.base.keep b o e n hb hx)
   ·obtain ⟨sl,z⟩:=J.base.slot b o e n hb hx
    exact ⟨sl,(gT.2 b (old b o e)).trans z⟩
   ·obtain ⟨o',z⟩:=J.base.there b o e hx
    exact ⟨o',(gT.2 b (old b o e)).trans z⟩
  have u_:bV X.prog X.w H' h':=fun b u e=>by
   refine (J.aw b u e).gb (fun c v hc z=>(gT.2 c fun y=>?_).trans z) (fun _ z=>z) fun _ _ z=>z
   have fr:=J.free
   have y':c=s3.heap.objs.size:=y
   rcases hc with hc | hc
   ·rw [←hc,y'] at e
    exact absurd (fr.symm.trans e) (by simp)
   ·rw [y'] at hc
    exact absurd (fr.symm.trans hc) (by simp)
  refine I3.mC (s':={s' with heap:=h'}) (ch:=fp) (J.os) u1 u_ J.bare fun b hb=>?_
  obtain ⟨g0,g1,g2,g3,g4,g5⟩:=f2 b hb
  exact ⟨g3,g1,g4,g5⟩
 have gf:∀{H':Hp},(∀b∈fp,H' b=none)→∀b∈fp,lB (X.bC N scope cl s3 (upd H2 D (.lst [])) fp) [] H' b:=fun hn b hb=>by
  refine ⟨hn b hb,?_,?_,.inl hb,fun y c e z=>(f2 b hb).2.2.2.2.1 y c (dJ y c e) z,fun p hp=>nomatch hp⟩
  ·obtain ⟨o,e,_⟩:=jE b hb
   exact below b o (gS b o e)
  ·exact gP.oj b hb
 have loop:∀tk:Nat,codeAny (model X.prog X.w) X.A (.compLoop (.ListComp elt [⟨.Tuple [.Name x px,.Name y py] vf tp,iter,ifs,0⟩] scope pos) 0 (.ref it) (.ref D) (compEnvC scope cl s3.heap.objs.size X.env))
   (compPost (model X.prog X.w) X.A X.xe none (EP X pins σ Q) (.ref D) s3.heap.objs.size) {s3 with heap:=h₁,toks:=tk}:=fun tk=>by
  refine Nb (fun n s'=>∃i ys o o2 H',Inv (X.bC N scope cl s3 (upd H2 D (.lst [])) fp) [] (o::o2::ρ σ) H' s'∧tn i s'.heap∧(∀b∈fp,H' b=none)∧W i n ys H') ?_ m0
   ⟨0,[],none,none,_,IB tk,T.keep _ _ _ iy fun b hb o e=>eA _ _ (gS _ _ e),fun b hb=>by rw [aH (u7 b hb)];exact (f2 b hb).1,w0⟩
  rintro n s4 ⟨i,ys,o,o2,H4,I4,mR,mS,w4⟩
  obtain ⟨Fo,va⟩:=turn i n ys H4 w4
  rcases va with ⟨stop,qn⟩ | ⟨go,step⟩
  ·refine bZ (T.done (X.bC N scope cl s3 (upd H2 D (.lst [])) fp) rfl rfl rfl hc i [] s4 _ H4 (fun _ _=>False) I4 (gf mS) mR stop) (fun r s5 ⟨hr,I5⟩=>?_) fun _ _ z=>z.elim
   subst hr
   exact fin I5 qn
  ·refine bZ (T.item (X.bC N scope cl s3 (upd H2 D (.lst [])) fp) rfl rfl rfl hc i [] s4 _ H4 (fun _ _=>False) I4 (gf mS) mR go) (fun r s5 ⟨u,hr,h5⟩=>?_) fun _ _ z=>z.elim
   subst hr
   refine bZ h5 (fun _ s5 ⟨y0,H5,I5,r5,y5,gg,ot⟩=>?_) fun _ _ z=>z.elim
   obtain ⟨Tt,x1,x2,e0,Nf,vb⟩:=step y0 _ y5
   subst e0
   have ou:=I5.pinned (gf ot) (T.obj _ _ gg)
   have pg:PG (X.bC N scope cl s3 (upd H2 D (.lst [])) fp) (.Tuple [.Name x px,.Name y py] vf tp) (Er X.K 2 (AX (aX 0) (AX (aX 1) Ep))):=
    qP (X:=X.bC N scope cl s3 (upd H2 D (.lst [])) fp) hc (iX (dc (i:=0) B.nd B.n0 (.inl (mh B.hx)) (.inr (mh B.hx))) (iX (dc (i:=1) B.nd B.n1 (.inl (mh B.hy)) (.inr (mh B.hy))) qO))
   have again:∀{σ7:St} {H7:Hp} {s7:Shared},Inv (X.bC N scope cl s3 (upd H2 D (.lst [])) fp) ([]++kj fp s5.heap) σ7 H7 s7→Inv (X.bC N scope cl s3 (upd H2 D (.lst [])) fp) [] σ7 H7 s7∧tn (i+1) s7.heap∧∀b∈fp,H7 b=none:=fun{σ7 H7 s7} I7=>by
    refine ⟨I7.qT,T.keep _ _ _ gg fun b hb o e=>(I7.pin (b,o) (d_ _ (d_ _ (mH hb e)))).1,fun b hb=>?_⟩
    obtain ⟨o,e,d⟩:=T.obj _ _ gg b hb
    exact (I7.pin (b,o) (d_ _ (d_ _ (mH hb e)))).2.1
   refine bZ (pg _ s5 _ H5 (.ref Tt) u (fun σ2 H6=>σ2=some x1::some x2::ρ σ∧H6=H5) ou r5 ⟨Tt,_,rfl,Nf,rfl,_,_,rfl,_,_,rfl,rfl,rfl,rfl⟩) (fun _ s6 ⟨σ6,H6,I6,q6⟩=>?_) fun _ _ z=>z.elim
   obtain ⟨rfl,rfl⟩:=q6
   have tests:∀{jF:TT},mP (X.bC N scope cl s3 (upd H2 D (.lst [])) fp) ifs jF→∀{R:Bool→Hp→Prop},jF (some x1::some x2::ρ σ) H6 R→wpAny (model X.prog X.w) X.A
     (forIn ifs true fun c r=>if r=true then do let ok ←isTrue c (compEnvC scope cl s3.heap.objs.size X.env) (eval c (compEnvC scope cl s3.heap.objs.size X.env));pure (ForInStep.yield ok) else pure (ForInStep.yield r))
     (fun ok s7=>∃H7,Inv (X.bC N scope cl s3 (upd H2 D (.lst [])) fp) ([]++kj fp s5.heap) (some x1::some x2::ρ σ) H7 s7∧R ok H7) (fun _ _=>False) s6:=fun{jF} p {R} hR=>by
    cases p with
    | nil=>exact wpAny_tests_nil ⟨_,I6,hR⟩
    | one p=>exact wpAny_tests_one (p _ s6 _ _ _ I6 hR)
   refine bZ (tests (ht s3 _ fp) vb) (fun ok s7 ⟨H7,I7,q7⟩=>?_) fun _ _ z=>z.elim
   cases ok with
   | false=>
    obtain ⟨m',d8,w7⟩:=q7
    obtain ⟨a1,a2,a3⟩:=again I7
    exact ⟨m',d8,i+1,ys,_,_,H7,a1,a2,a3,w7⟩
   | true=>
    refine bZ (he s3 _ fp _ s7 _ H7 _ I7 q7) (fun ev s8 ⟨z,H8,I8,r8,vc,hz,m',d8,w8⟩=>?_) fun _ _ z=>z.elim
    refine bZ (kC (X:=X.bC N scope cl s3 (upd H2 D (.lst [])) fp) _ s8 _ H8 (.ref D) [z] (.ref D) [ev] (fun _ H9=>H9=upd H8 D (.lst (ys++[z]))) I8 rfl (.cons r8 .nil) ⟨D,ys,z,rfl,rfl,vc,hz,rfl⟩) (fun _ s9 ⟨_,H9,I9,_,q9⟩=>?_) fun _ _ z=>z.elim
    subst q9
    obtain ⟨a1,a2,a3⟩:=again I9
    exact ⟨m',d8,i+1,ys++[z],_,_,_,a1,a2,a3,w8⟩
 have start:=loop (s3.toks+([]:List (Str×Value)).length)
 have es:({s3 with heap:=h₁,toks:=s3.toks+([]:List (Str×Value)).length}:Shared)={s2 with heap:=h₁,toks:=s2.toks+([]:List (Str×Value)).length}:=by rw [←jD]
 rw [es] at start
 exact AE start (T.self _ 0 _ _ _ (T.keep _ _ _ iy fun b hb o e=>eA _ _ (gS _ _ e)) start)
end
section
variable {X:Cx}
def Ng(K:aB):List V→Hp→VK→Prop:=fun xs H Q=>∃(p:Addr) (ns:List Int),xs=[.ref p]∧aO K H p (ns.map V.int)∧Q (.int ns.sum) H
theorem Nh:∀(ns:List Int),preSum (fun i=>ns.getD i 0) ns.length=ns.sum:=by
 intro ns;have key:∀k,k≤ns.length→preSum (fun i=>ns.getD i 0) k=(ns.take k).sum:=by
  intro k
  induction k with
  | zero=>intro _;rfl
  | succ k ih=>
   intro hk;show preSum (fun i=>ns.getD i 0) k+ns.getD k 0=_;rw [ih (by omega),List.take_add_one,wZ]
   have e:ns[k]?=some ns[k]:=by simp [show k<ns.length by omega]
   rw [b9,e];simp
 rw [key ns.length (ax _),hW]
theorem Ni(hc:X.calm=true)(hK:X.K=K:=by rfl):fv X (.builtin "sum") (Ng K):=by
 intro pins s σ H xs us Q I r h;subst hK;obtain ⟨p,ns,rfl,hq,q⟩:=h;obtain ⟨u,rfl,ru⟩:=vals1 r;cases ru;obtain ⟨its,rv,pl,hz⟩:=I.list hq;have fw:p≠s.heap.objs.size:=by obtain ⟨o,e,_⟩:=pl.isList;exact bX (aU e)
 have hl:its.length=ns.length:=by rw [←rv.length,aG]
 refine call_sum_walkG (wpAny_pyIter_list pl.isList ?_);refine ⟨s.heap.objs.size,_,_,_,_,_,fun i=>ns.getD i 0,rfl,Walks.list (A:=X.A.in1) (show X.A.in1.handled=none from I.ok.hd hc) s.heap.objs.size p fw its.toArray,⟨⟨_,eI _ rfl,rfl,rfl⟩,pl.isList.push _⟩,?_,fun i v hv=>?_,fun h' tk t' hk=>?_⟩
 ·intro b hb
  rw [Heap.size_push];simp only [bb,iS,iT] at hb;rcases hb with rfl | rfl;·exact Nat.lt_succ_self _
  ·obtain ⟨o,e,_⟩:=pl.isList
   exact uz (aU e)
 ·have lG:its[i]?=some v:=by simpa using hv
  cases eb:ns[i]? with
  | none=>
   have:=rv.none_of (i:=i) (by rw [bD,eb];rfl)
   rw [this] at lG;cases lG
  | some b=>
   obtain ⟨u,hu,ru⟩:=rv.get (i:=i) (x:=V.int b) (by rw [bD,eb];rfl)
   rw [hu] at lG;cases lG;obtain ⟨t,rfl⟩:=ru;exact ⟨t,by show Value.int b t=Value.int (ns.getD i 0) t;rw [b9,eb];rfl⟩
 ·refine ⟨.int ns.sum,H,I.kept fun b o e=>hk b o (fun z=>?_) (ck _ e),⟨t',?_⟩,q⟩
  ·exact absurd (aU e) (by rw [dt.mp z];exact eG _)
  ·congr 1
   rw [b8,hl];exact Nh ns
end
theorem boot_sum:bootBuiltins "sum"=some (.builtin "sum"):=by decide +kernel
section
variable {M:Model} {A:Around} {E:aM} {s:Shared}
end
section
variable {X:Cx} {N:List Str} {scope:Scope} {cl:List (Str×Addr)} {x:Str} {px pos:Pos} {iter elt:Expr} {ifs:List Expr} {wi:TI} {ρ:St→St} {tt:TT} {te:TE}
end
theorem Nj{v:V}(h:kB v=true):dS v v=true:=by
 cases v with
 | aJ=>rfl
 | bl b=>show (b == b)=true;simp
 | int i=>show (i == i)=true;simp
 | str x=>show (x == x)=true;simp
 | _=>cases h
theorem all_range(n:Nat):(List.range n).all (fun _=>true)=true:=by simp
section
variable {X:Cx} {pins:aI} {σ:St} {H:Hp} {s:Shared}
end
section
variable {X:Cx}
end
section
variable {X:Cx} {N:List Str} {scope:Scope} {cl:List (Str×Addr)} {x:Str} {px pos:Pos} {iter elt:Expr} {ifs:List Expr} {wi:TI} {ρ:St→St} {tt:TT} {te:TE}
end
theorem Bs(iH:∀R:It→Hp→Prop,(∀J H1,ak H H1→lI J xs H1→R J H1)→wi σ H R)(hn:xs.length<sizeLine)
  (P:Addr→Nat→V→Hp→Prop) (mono:∀D i y H H' ys,P D i y H→H D=some (.lst ys)→(∀b o,b≠D→H b=some o→H' b=some o)→P D i y H')
  (step:∀D i x,xs[i]?=some x→∀(Hc:Hp) (R:VK),ak H Hc→(∃ys,Hc D=some (.lst ys))→(∀y H3,ak Hc H3→P D i y H3→R y H3)→te (some x::ρ σ) Hc R)
  (fin:∀D ys Hc,H D=none→ak H Hc→ys.length=xs.length→(∀(i:Nat) (y:V),ys[i]?=some y→P D i y Hc)→Hc D=some (.lst ys)→Q (.ref D) Hc):i6 wi ρ (fun _ H Q=>Q true H) te σ H Q:=by
 refine iH _ fun J H1 s1 js=>?_;intro D nD;have hD:H D=none:=by
  cases e:H D with
  | none=>rfl
  | some o=>rw [s1 _ _ e] at nD;cases nD
 exact Fx (ρσ:=ρ σ) (te:=te) (Q:=Q) js nD hn (P D) (mono D) (fun i x hx Hc R sc=>step D i x hx Hc R (s1.trans sc)) (fun ys Hc sc=>fin D ys Hc hD (s1.trans sc))
section
variable {X:Cx} {K:aB}
theorem rj(hK:X.K=K:=by rfl):qY X (E5 K):=by subst hK;exact en
theorem Bt(hK:X.K=K:=by rfl):qY X (E4 K):=by subst hK;exact cZ
def Nk(K:aB):List V→Hp→VK→Prop:=fun xs H Q=>∃p ys,xs=[.ref p]∧(aO K H p ys∨e8 K H p ys)∧Q (.int (ys.length:Int)) H
theorem Nl(hK:X.K=K:=by rfl):fv X (.builtin "len") (Nk K):=by subst hK;exact i5
end
end L2
namespace My
open PySem L2
variable {te:TE} {σ:St} {H:Hp} {Q:VK}
theorem vg{r:List V→Hp→VK→Prop}(h:te σ H fun x H1=>r [x] H1 Q):A7 r (xQ te xP) σ H Q:=h
theorem rm{D:Ends}(h:te σ H D.rt):Eo te D σ H:=h
theorem Nm{vs:List V}{b:Bool}(h:∀(i:Nat) (v:V),vs[i]?=some v→v=.bl b):vs=(List.replicate vs.length b).map V.bl:=by
 refine uA fun i=>?_;rw [bD];by_cases hi:i<vs.length
 ·rw [show vs[i]?=some vs[i] by simp [hi],h i vs[i] (by simp [hi])]
  simp [hi]
 ·rw [w5 (by omega),w5 (by simp;omega)]
  rfl
theorem Nn(n:Nat):(List.replicate n true).all id=true:=by simp
theorem Np{r:R2}{ta tb:TE}(h:ta σ H fun x H1=>tb σ H1 fun y H2=>r x y H2 Q):mI r ta tb σ H Q:=h
variable {H':Hp} {b:Addr}
theorem none_of(s:ak H H')(h:H' b=none):H b=none:=by
 cases e:H b with
 | none=>rfl
 | some o=>rw [s _ _ e] at h;cases h
theorem getD_at{α:Type}{xs:List α}{d:α}{i:Nat}(hi:i<xs.length):xs.getD i d=xs[i]:=by
 rw [b9,show xs[i]?=some xs[i] by simp [hi]]
 rfl
def er(P:Addr)(H:Hp):Hp:=fun b=>if b=P then none else H b
variable {P:Addr}
theorem vh:ak (er P H) H:=fun b o e=>by
 unfold er at e
 split at e
 ·cases e
 ·exact e
theorem eO(h:b≠P):er P H b=H b:=aa h
variable {o:HO}
theorem yi(h:b≠P)(e:H b=some o):er P H b=some o:=by rw [eO h];exact e
theorem yj(s:ak H H'):ak (er P H) (er P H'):=fun b o e=>by
 unfold er at e ⊢
 split at e
 ·cases e
 ·rename_i h
  rw [aa h];exact s _ _ e
theorem FG:er P (upd H P o)=er P H:=funext fun b=>by
 unfold er
 split
 ·rfl
 ·rename_i h
  exact aH h
def bT(H:Hp)(P a:Addr):Prop:=∃x y:Int,H P=some (.lst [.ref a,.int x,.int y])∧0≤x∧0≤y
variable {a:Addr}
theorem bT.mono(h:bT H P a)(s:ak H H'):bT H' P a:=by obtain ⟨x,y,e,h1,h2⟩:=h;exact ⟨x,y,s _ _ e,h1,h2⟩
variable {D:Addr}
theorem bT.upd(h:bT H P a)(n:D≠P):bT (L2.upd H D o) P a:=by obtain ⟨x,y,e,h1,h2⟩:=h;exact ⟨x,y,by rw [aH n.symm];exact e,h1,h2⟩
theorem bT.ne(h:bT H P a)(n:H D=none):D≠P:=fun z=>by obtain ⟨x,y,e,_⟩:=h;rw [z,e] at n;cases n
def aN(P:Addr)(H H':Hp):Prop:=ak (er P H) (er P H')
theorem aN.refl(H:Hp):aN P H H:=ak.refl _
theorem aN.trans{H2:Hp}(s:aN P H H')(t:aN P H' H2):aN P H H2:=ak.trans s t
theorem aN.of(s:ak H H'):aN P H H':=yj s
theorem aN.i7:aN P H (upd H P o):=by unfold aN;rw [FG];exact ak.refl _
theorem aN.but(s:aN P H H')(n:H D=none):aN P H (upd H' D o):=fun b u e=>by
 have e0:=s b u e;have nb:b≠P:=fun z=>by unfold er at e;rw [ae z] at e;cases e
 rw [eO nb] at e e0 ⊢;rw [aH (fu e n)];exact e0
theorem aN.at(s:aN P H H')(nb:b≠P)(e:H b=some o):H' b=some o:=by have z:=s b o (yi nb e);rw [eO nb] at z;exact z
end My
namespace L2
open PySem PySem.Spec PyProof.Rows
end L2
namespace My
open PySem L2
def Nq:Sp:=fun vs H Q _=>∃c a:Int,vs=[.int c,.int a]∧0≤a∧∀r:Int,0≤r→Q (.int r) H
def Nr(K:aB):Sp:=fun vs H Q _=>∃(P a:Addr) (ns:List Int) (many:Int),vs=[.ref P,.int many]∧bT H P a∧aO K (er P H) a (ns.map V.int)∧1≤many∧fP many∧∀(r:Int) (H':Hp),0≤r→r<many→aN P H H'→bT H' P a→Q (.int r) H'
end My
namespace L2
open PySem PySem.Spec PyProof.Rows
end L2
namespace My
open PySem L2
end My
namespace L2
open PySem PySem.Spec PyProof.Rows
def vi(K:aB)(l:Addr):It:=
  ⟨fun i H=>∃xs x,aO K H l xs∧xs[i]?=some x,
   fun i H v H'=>∃T x,H T=none∧v=.ref T∧H'=upd H T (.tup [.int (i:Int),x])∧∀xs,aO K H l xs→xs[i]?=some x,
   fun i H=>∃xs,aO K H l xs∧xs.length≤i⟩
variable {K:aB} {l:Addr}
theorem Nt{P:Program}{w:World}{elts:List Expr}{k:Nat}{pos:Pos}{e it:Addr}(FH:e≠it):Turn P w K (.Tuple elts k pos) (vi K l) [e,it] e
  (fun i h=>(∃old,IsEnum h e it (i:Int) old)∧h.IsListIter it l i) where
 mem:=by simp
 obj:=fun i h st b hb=>by
  obtain ⟨⟨old,he⟩,h1⟩:=st;simp only [bb,iS,iT] at hb;rcases hb with rfl | rfl;·exact ⟨_,he,fun v z=>by cases z⟩
  ·obtain ⟨o,e,c,d⟩:=h1
   exact ⟨o,e,fun v z=>by rw [d] at z;cases z⟩
 keep:=fun i h h' st k=>by obtain ⟨⟨old,he⟩,h1⟩:=st;exact ⟨⟨old,k _ (by simp) _ he⟩,h1.at fun o e=>k _ (by simp) o e⟩
 item:=by
  intro X hP hw hK hc i pins s σ H E I hf st hg;subst hP hw hK;obtain ⟨⟨old,he⟩,h1⟩:=st;obtain ⟨xs,x,iI,hx⟩:=hg;obtain ⟨its,rv,p,_⟩:=I.list iI;obtain ⟨u,hu,ru⟩:=rv.get hx;refine wpAny_pyNext_enum_item he h1 p.isList (x:=u) (by simpa using hu) FH fun h' g1 g2 g3 g4 g5=>⟨_,rfl,?_⟩
  refine wpAny_letOwnedTupleGo_enum g1 fun kG q1 sb=>?_;have ve:H s.heap.objs.size=none:=I.aw.fresh (ax _);have lt:∀b o,s.heap.get? b=some o→b≠s.heap.objs.size:=fun b o e=>bX (aU e);have keep:∀b o,b∉[e,it]→s.heap.get? b=some o→kG.get? b=some o:=fun b o nb e=>by simp only [bb,iS,iT,not_or] at nb;exact sb.extBut _ _ nb.1 (g5 b o nb.1 nb.2 e)
  have elt:e≠s.heap.objs.size:=lt _ _ he;have pT:=sb.extBut _ _ elt.symm g3;have jG:∀{b:Addr} {o:HO} (e:H b=some o),upd H s.heap.objs.size (.tup [.int (i:Int),x]) b=some o:=fun e=>by rw [aH (fu e ve)];exact e
  have aw:bV X.prog X.w (upd H s.heap.objs.size (.tup [.int (i:Int),x])) kG:=fun b o e=>by
   by_cases hb:b=s.heap.objs.size
   ·subst hb
    rw [ay] at e;cases e;exact ⟨by show 2≤sizeLine;decide,[.int i s.toks,u],.cons ⟨_,rfl⟩ (.cons ru .nil),⟨_,pT,rfl,_,rfl⟩⟩
   ·rw [aH hb] at e
    refine (I.aw b o e).gb (fun c v du q=>keep c v (fun m=>?_) q) (fun c q=>jG q) fun c xs q=>jG q;have nn:=(hf c m).1;rcases du with rfl | du;·rw [nn] at e;cases e
    ·rw [nn] at du;cases du
  have u1:Un (cz X.stack) [e,it] H (upd H s.heap.objs.size (.tup [.int (i:Int),x])) s.heap kG:=
   ⟨fun b o e n _ hx=>keep b o hx e,fun b o e n _ hx=>⟨o.slots,keep b o hx e⟩,fun b o e n hx=>by rw [aH (lt b o e)];exact n,fun b o e hx=>⟨o,keep b o hx e⟩,fun b xs e=>jG e,fun b o u e=>jG e,fun b ps e=>⟨#[],by rw [jG e];simp⟩⟩
  refine ⟨.ref s.heap.objs.size,upd H s.heap.objs.size (.tup [.int (i:Int),x]),I.mC (s':={s with heap:=kG,toks:=s.toks+1}) (ch:=[e,it]) rfl u1 aw I.bare (fun b hb=>?_),rfl,⟨_,x,ve,rfl,rfl,fun as ha=>by rw [I.xC ha iI];exact hx⟩,?_,fun b hb=>?_⟩
  ·obtain ⟨f0,f1,f2,f3,f4,f5⟩:=hf b hb
   exact ⟨f3,f1,f4,f5⟩
  ·refine ⟨⟨u,?_⟩,g2.extBut sb.extBut FH.symm⟩
   have z:((i+1:Nat):Int)=(i:Int)+1:=by omega
   rw [z];exact q1
  ·have nb:b≠s.heap.objs.size:=by
    simp only [bb,iS,iT] at hb;rcases hb with rfl | rfl;·exact lt _ _ he
    ·obtain ⟨o,e,_⟩:=h1;exact lt _ _ e
   rw [aH nb];exact (hf b hb).1
 done:=by
  intro X hP hw hK hc i pins s σ H E I hf st hg;subst hP hw hK;obtain ⟨⟨old,he⟩,h1⟩:=st;obtain ⟨xs,iI,hx⟩:=hg;obtain ⟨its,rv,p,_⟩:=I.list iI;have hl:=rv.length;refine wpAny_pyNext_enum_end (I.ok.hd hc) he h1 p.isList (by simp;omega) fun h' g=>⟨rfl,?_⟩
  have keep:∀b o,b∉[e,it]→s.heap.get? b=some o→h'.get? b=some o:=fun b o nb e=>by simp only [bb,iS,iT,not_or] at nb;exact g b o nb.2 e
  have aw:bV X.prog X.w H h':=fun b o e=>by
   refine (I.aw b o e).gb (fun c v du q=>keep c v (fun m=>?_) q) (fun c q=>q) fun c xs q=>q;have nn:=(hf c m).1;rcases du with rfl | du;·rw [nn] at e;cases e
   ·rw [nn] at du;cases du
  have u1:Un (cz X.stack) [e,it] H H s.heap h':=
   ⟨fun b o e n _ hx=>keep b o hx e,fun b o e n _ hx=>⟨o.slots,keep b o hx e⟩,fun b o e n hx=>n,fun b o e hx=>⟨o,keep b o hx e⟩,fun b xs e=>e,fun b o u e=>e,fun b ps e=>⟨#[],by rw [e];simp⟩⟩
  refine I.mC (s':={s with heap:=h'}) (ch:=[e,it]) rfl u1 aw I.bare fun b hb=>?_;obtain ⟨f0,f1,f2,f3,f4,f5⟩:=hf b hb;exact ⟨f3,f1,f4,f5⟩
 self:=fun _ _ _ _ _ st h=>by obtain ⟨⟨old,he⟩,_⟩:=st;exact wpAny_pyIter_enum he h
theorem boot_enumerate:bootBuiltins "enumerate"=some (.type "enumerate"):=by decide +kernel
def Nu(K:aB)(ta:TA):TI:=fun σ H R=>ta σ H fun vs H1=>∃l,vs=[.ref l]∧(∃xs,aO K H1 l xs)∧R (vi K l) H1
section
variable {X:Cx}
theorem FI{elts:List Expr}{k:Nat}{mF:Pos}{a:Expr}{ta:TA}{p pos:Pos}(hg:Gl X "enumerate")(hm:X.mg "enumerate"=none)(ha:PA X [a] ta)(hs:starEach [a] X.env=[(false,eval a X.env)]:=by rfl) :
  PI X (.Tuple elts k mF) (.Call (.Name "enumerate" p) [a] [] pos) (Nu X.K ta):=by
 intro pins s σ H R I h;refine Call_ (kg I hg hm boot_enumerate (qr (aD (ha pos pins s σ H _ I h) fun us s1 ⟨vs,H1,I1,r1,q1⟩=>?_) hs rfl));obtain ⟨l,e,⟨xs,iI⟩,q⟩:=q1;subst e;obtain ⟨u,rfl,ru⟩:=vals1 r1;cases ru;obtain ⟨its,rv,p1,_⟩:=I1.list iI;refine call_enumerate_list p1.isList fun h' z1 z2 z3 z4=>?_;refine wpAny_pyIter_enum (s:={s1 with heap:=h'}) z1 ?_;refine ⟨_,_,_,_,H1,rfl,I1.kept (t':=s1.toks) z4,Nt (Nat.succ_ne_self _),⟨⟨_,z1⟩,z2⟩,fun b hb=>?_,q⟩;have le:s1.heap.objs.size≤b:=by
  simp only [bb,iS,iT] at hb;rcases hb with rfl | rfl;·exact uy ..
  ·exact ax _
 exact I1.qQ le (I1.aw.fresh le)
end
theorem FJ{xs:List V}{g:TG}{tb:TS}{D:Ends}{σ:St}{H:Hp}(Pv:Nat→St→Hp→Prop)(h0:Pv 0 σ H)(hl:∀i σ H,Pv i σ H→aO K H l xs)
  (hs:∀(i:Nat) (x:V) σ H T,xs[i]?=some x→Pv i σ H→H T=none→g (.ref T) σ (upd H T (.tup [.int (i:Int),x])) fun σ2 H2=>tb {D with nx:=Pv (i+1),ct:=Pv (i+1),bk:=D.nx} σ2 H2) (hd:∀σ H,Pv xs.length σ H→D.nx σ H) :
  ∃W:Nat→Nat→St→Hp→Prop,(∃m,W 0 m σ H)∧∀i m σ H,W i m σ H→
   ((vi K l).stop i H∧D.nx σ H)∨((vi K l).go i H∧∃N:St→Hp→Prop,(∀σ' H',N σ' H'→∃m',m'<m∧W (i+1) m' σ' H')∧∀x H',(vi K l).dw i H x H'→g x σ H' fun σ2 H2=>tb {D with nx:=N,ct:=N,bk:=D.nx} σ2 H2):=by
 refine ⟨fun i m σ H=>m=xs.length-i∧i≤xs.length∧Pv i σ H,⟨xs.length,by simp,b7 _,h0⟩,?_⟩
 rintro i m σ H ⟨rfl,hi,p⟩;have q1:=hl i σ H p;by_cases a_:i<xs.length
 ·refine .inr ⟨⟨xs,xs[i],q1,by simp [a_]⟩,Pv (i+1),fun σ' H' p'=>⟨xs.length-(i+1),by omega,rfl,a_,p'⟩,fun v H' hy=>?_⟩
  obtain ⟨T,x,nT,rfl,rfl,hx⟩:=hy;exact hs i x σ H T (hx xs q1) p nT
 ·have e:i=xs.length:=by omega
  subst e;exact .inl ⟨⟨xs,q1,ax _⟩,hd σ H p⟩
def Nv(K:aB):V→V→Hp→VK→Prop:=fun o i H Q=>∃p xs k v,o=.ref p∧i=.int k∧0≤k∧aO K H p xs∧i4 xs k=some v∧Q v H
theorem Nw{X:Cx}:Es X (Nv X.K):=by
 intro pins s σ H o i ov iv Q I ro ri h;obtain ⟨p,xs,k,z,rfl,rfl,h0,hq,he,q⟩:=h;cases ro;obtain ⟨t,rfl⟩:=ri;obtain ⟨its,r,pl,hz⟩:=I.list hq;obtain ⟨j,h1,h2,h3,h4,h5⟩:=A8 he;obtain ⟨w,ew,ei⟩:=r.get h2;have hl:=r.length;have hn:=qX;have hj:k.toNat=j:=by rw [seqIndex_of h0 h5] at h1;exact Option.some.inj h1
 exact wpAny_getItem_list pl.isList h0 (by omega) (by rw [hj];simpa using ew) ⟨z,H,I,ei,q⟩
end L2
namespace My
open PySem L2
end My
namespace L2
open PySem PySem.Spec PyProof.Rows
section
variable {X:Cx} {tg:Expr}
end
section
variable {X:Cx} {e:Expr} {te:TE} {pos p2:Pos}
end
end L2
namespace My
open PySem L2
theorem Nx:∀place:Nat,(List.replicate ((place:Int).toNat) [V.int 0]).flatten=(List.replicate place (0:Int)).map V.int:=fun place=>by
 rw [dh,List.map_replicate]
 induction place with
 | zero=>rfl
 | succ m ih=>rw [me,qv,ih,me];rfl
theorem FK{wi:TI}{ρ:St→St}{te:TE}{σ:St}{H:Hp}{Q:VK}{xs:List V}{n:Nat}(hl:xs.length=n)(iH:∀R:It→Hp→Prop,(∀J H1,ak H H1→lI J xs H1→R J H1)→wi σ H R)(hn:n<sizeLine)
  (P:Addr→Nat→Addr→Hp→Prop) (mono:∀D i y H H' ys,P D i y H→y≠D→H D=some (.lst ys)→(∀b o,b≠D→H b=some o→H' b=some o)→P D i y H')
  (step:∀D (i:Nat) (x:V),xs[i]?=some x→∀(Hc:Hp) (R:VK),ak H Hc→(∃ys,Hc D=some (.lst ys))→(∀y H3,ak Hc H3→Hc y=none→(∃o,H3 y=some o)→P D i y H3→R (.ref y) H3)→te (some x::ρ σ) Hc R)
  (fin:∀D (A:Nat→Addr) Hc,H D=none→ak H Hc→(∀i j,i<n→j<n→A i=A j→i=j)→(∀i,i<n→P D i (A i) Hc∧A i≠D)→Hc D=some (.lst ((List.range n).map fun i=>V.ref (A i)))→Q (.ref D) Hc):i6 wi ρ (fun _ H Q=>Q true H) te σ H Q:=by
 refine iH _ fun J H1 s1 js=>?_;intro D nD;have hD:H D=none:=by
  cases e:H D with
  | none=>rfl
  | some o=>rw [s1 _ _ e] at nD;cases nD
 refine ⟨fun i m ys Hc=>m=n-i∧i≤n∧Hc D=some (.lst ys)∧ak H1 Hc∧∃A:Nat→Addr,ys=(List.range i).map (fun j=>V.ref (A j))∧(∀a b,a<i→b<i→A a=A b→a=b)∧∀j,j<i→P D j (A j) Hc∧A j≠D∧∃o,Hc (A j)=some o,⟨_,rfl,b7 _,ay,fA (ak.refl H1) nD,fun _=>D,rfl,(fun a b h=>by omega),fun j h=>by omega⟩,?_⟩
 rintro i m ys Hc ⟨rfl,hi,eD,sH,A,rfl,inj,hA⟩;refine ⟨eD,?_⟩;by_cases a_:i<n
 ·refine .inr ⟨js.go i Hc sH (by omega),fun x H' hy=>?_⟩
  obtain ⟨rfl,hx⟩:=js.dw i Hc x H' sH hy;rw [ae rfl];refine step D i x (hx (by omega)) _ _ (s1.trans sH) ⟨_,eD⟩ fun y H3 s3 ny ⟨o,ho⟩ hp=>?_
  have e3:=s3 _ _ eD;have yD:y≠D:=fun e=>by rw [e,eD] at ny;cases ny
  have bS:∀b o,b≠D→H3 b=some o→upd H3 D (.lst ((List.range i).map (fun j=>V.ref (A j))++[.ref y])) b=some o:=fun b o nb e=>by rw [aH nb];exact e
  have nA:∀j,j<i→A j≠y:=fun j hj e=>by obtain ⟨_,_,o',h'⟩:=hA j hj;rw [e,ny] at h';cases h'
  refine ⟨e3,by simp;omega,n-(i+1),by omega,rfl,a_,ay,fA (sH.trans s3) nD,fun j=>if j=i then y else A j,?_,fun a b ha hb e=>?_,fun j hj=>?_⟩
  ·rw [qx,fG]
   congr 1
   ·refine h_ fun j hj=>?_
    dsimp only;rw [aa (by have:=bY.mp hj;omega)]
   ·simp
  ·dsimp only at e
   by_cases z1:a=i
   ·by_cases z2:b=i
    ·omega
    ·rw [ae z1,aa z2] at e
     exact absurd e.symm (nA b (by omega))
   ·by_cases z2:b=i
    ·rw [aa z1,ae z2] at e
     exact absurd e (nA a (by omega))
    ·rw [aa z1,aa z2] at e
     exact inj a b (by omega) (by omega) e
  ·dsimp only
   by_cases z:j=i
   ·rw [ae z,z]
    exact ⟨mono D i y H3 _ _ hp yD e3 bS,yD,o,bS _ _ yD ho⟩
   ·rw [aa z]
    obtain ⟨h1,h2,o',h3⟩:=hA j (by omega)
    exact ⟨mono D j (A j) H' _ _ h1 h2 eD (fun b o nb e=>bS b o nb (s3 _ _ e)),h2,o',bS _ _ h2 (s3 _ _ h3)⟩
 ·have e:i=n:=by omega
  subst e;exact .inl ⟨js.stop _ Hc sH (by omega),fin D A Hc hD (s1.trans sH) inj (fun j hj=>⟨(hA j hj).1,(hA j hj).2.1⟩) eD⟩
end My
namespace L2
open PySem PySem.Spec PyProof.Rows
theorem Ny{xs ys:List Int}(h:xs.length=ys.length):((List.range xs.length).all fun j=>dS (.int (xs.getD j 0)) (.int (ys.getD j 0)))=decide (xs=ys):=by
 by_cases e:xs=ys
 ·subst e
  rw [a7 rfl,nQ];intro j _;exact Nj rfl
 ·rw [bt e]
  cases z:((List.range xs.length).all fun j=>dS (.int (xs.getD j 0)) (.int (ys.getD j 0))) with
  | false=>rfl
  | true=>refine absurd (fH h fun j h1 h2=>?_) e;have:=nQ.mp z j (bY.mpr h1);have this:(xs.getD j 0 == ys.getD j 0)=true:=this;rw [beq_iff_eq,b9,b9] at this;simpa [h1,h2] using this
end L2
namespace My
open PySem L2
end My
namespace L2
open PySem PySem.Spec PyProof.Rows
end L2
namespace My
open PySem L2
end My
namespace L2
open PySem PySem.Spec PyProof.Rows
section
variable {X:Cx}
end
end L2
namespace My
open PySem L2
end My
namespace L2
open PySem PySem.Spec PyProof.Rows
end L2
namespace My
open PySem L2
end My
namespace L2
open PySem PySem.Spec PyProof.Rows
section
variable {X:Cx} {N:List Str} {scope:Scope} {cl:List (Str×Addr)} {x y:Str} {px py pos tp:Pos} {vf:Nat} {iter elt:Expr} {ifs:List Expr} {wi:TI} {ρ:St→St} {tt:TT} {te:TE}
end
section
variable {X:Cx} {pins:aI} {σ:St} {H:Hp} {s:Shared}
end
end L2
namespace My
open PySem PySem.W PyProof.Rows
section
variable {n:Nat} {c:Nat→Int}
def kH(n:Nat)(p:Array Nat):Prop:=p.Perm (List.toArray (List.range n))
theorem kH.size{p:Array Nat}(h:kH n p):p.size=n:=by rw [Array.Perm.size_eq h];simp
def vN(c:Nat→Int)(p:Array Nat)(i:Nat):Int:=c (p.getD i 0)
def mU(c:Nat→Int)(p:Array Nat)(k:Nat):Prop:=∀a b,a≤b→b<k→vN c p a≤vN c p b
end
end My
namespace Tm
open PySem PySem.W PyProof.Rows
def mV:Bool→Keyed→Array Keyed→Nat→Nat→Nat→StateT SortSt Sem (Option Nat):=sortPriv% PySem.Builtin.gallop
def vj:Nat→StateT SortSt Sem Unit:=sortPriv% PySem.Builtin.setMinGallop
def Bu:Array Keyed→Array Keyed→StateT SortSt Sem (Array Keyed):=sortPriv% PySem.Builtin.mergeLo
def Bv:Array Keyed→Array Keyed→StateT SortSt Sem (Array Keyed):=sortPriv% PySem.Builtin.mergeHi
def oG(left:Bool)(key:Keyed)(arr:Array Keyed)(base i:Nat):StateT SortSt Sem (Option Bool):=do
 let x ←elem' arr (base+i)
 if left then lt' x key else return (←lt' key x).map (!·)
theorem Nz(left:Bool)(key:Keyed)(arr:Array Keyed)(base n hint:Nat):mV left key arr base n hint=(do
 let mut yk:=0
 let mut bq:=1
 let mut lo:=0
 let mut hi:=0
 let some right ←oG left key arr base hint | return none
 if right then
  let vk:=n-hint
  for _ in [0:n] do
   if bq≥vk then break
   let some more ←oG left key arr base (hint+bq) | return none
   if !more then break
   yk:=bq
   bq:=2*bq+1
  lo:=hint+yk+1
  hi:=hint+min bq vk
 else
  let vk:=hint+1
  for _ in [0:n] do
   if bq≥vk then break
   let some found ←oG left key arr base (hint-bq) | return none
   if found then break
   yk:=bq
   bq:=2*bq+1
  lo:=hint+1-min bq vk
  hi:=hint-yk
 for _ in [0:n] do
  if lo≥hi then break
  let m:=lo+(hi-lo) / 2
  let some more ←oG left key arr base m | return none
  if more then lo:=m+1 else hi:=m
 return some hi):=rfl
section
variable {prog:Program} {w:World} {A:Around} {E:aM} {s:Shared} {κ:SortKind} {key:Keyed→Int} {Ok:Keyed→Prop}
def i8(prog:Program)(w:World)(A:Around)(s:Shared)(κ:SortKind)(key:Keyed→Int)(Ok:Keyed→Prop):Prop:=
 ∀x y,Ok x→Ok y→∀C:Bool→Shared→Prop,C (decide (key x<key y)) s→wpAny (model prog w) A (keyLt' κ x.1 y.1) C (fun _ _=>False) s
variable {Q:Option Bool→SortSt→Prop}
theorem vn(h:i8 prog w A s κ key Ok){x y:Keyed}(ox:Ok x)(oy:Ok y){st:SortSt}(hk:kindOf st=κ)(q:Q (some (decide (key x<key y))) st):wpS (model prog w) A E s (lt' x y) Q st:=by rw [lt'_eq];refine aq (ic ?_);rw [hk];refine aq (wpS_lift (wpAny_attempt (bZ (h x y ox oy (fun c s'=>s'=s∧wpS (model prog w) A E s (pure (some c)) Q st) ⟨rfl,ao q⟩) (fun c s' hc=>?_) fun _ _ hF=>hF.elim)));exact hc
def nn:Keyed:=(Value.none,Value.none)
variable {arr:Array Keyed} {i:Nat}
theorem bu(hi:i<arr.size){st:SortSt}{Q:Keyed→SortSt→Prop}(q:Q (arr.getD i nn) st):wpS (model prog w) A E s (elem' arr i) Q st:=by
 rw [elem'_eq];have e:arr[i]?=some (arr.getD i nn):=by simp [Array.getD,hi]
 rw [e];exact ao q
def eQ(Ok:Keyed→Prop)(arr:Array Keyed):Prop:=∀i,i<arr.size→Ok (arr.getD i nn)
def bB(left:Bool)(k a:Int):Bool:=if left=true then decide (a<k) else !decide (k<a)
variable {left:Bool} {kx:Keyed} {base:Nat}
theorem gU(h:i8 prog w A s κ key Ok)(hi:base+i<arr.size)(ha:eQ Ok arr)(ox:Ok kx){st:SortSt}(hk:kindOf st=κ)(q:Q (some (bB left (key kx) (key (arr.getD (base+i) nn)))) st):wpS (model prog w) A E s (oG left kx arr base i) Q st:=by
 unfold oG;refine aq (bu hi ?_);unfold bB at q;cases left with
 | true=>rw [ae rfl] at q ⊢;exact vn h (ha _ hi) ox hk q
 | false=>
  rw [aa (by simp)] at q ⊢
  exact aq (vn h ox (ha _ hi) hk (ao q))
theorem gW{n hint:Nat}{f:Nat→Bool}{st:SortSt}
  (hb:∀i,i<n→∀Q:Option Bool→SortSt→Prop,Q (some (f i)) st→wpS (model prog w) A E s (oG left kx arr base i) Q st)
  (hh:hint<n) (mono:∀i j,i≤j→j<n→f j=true→f i=true) {Q:Option Nat→SortSt→Prop}
  (k:∀m,m≤n→(∀i,i<m→f i=true)→(∀i,m≤i→i<n→f i=false)→Q (some m) st):wpS (model prog w) A E s (mV left kx arr base n hint) Q st:=by
 rw [Nz];refine aq (hb hint hh _ ?_);dsimp only;have Bw:∀i j,i≤j→j<n→f i=false→f j=false:=fun i j h1 h2 h3=>by
  cases e:f j with
  | false=>rfl
  | true=>rw [mono i j h1 h2 e] at h3;cases h3
 have bs:∀(lo hi:Nat) (body:Nat→Option (Option Nat)×Nat×Nat→StateT SortSt Sem (ForInStep (Option (Option Nat)×Nat×Nat))) (R:Option (Option Nat)×Nat×Nat→SortSt→Prop),lo≤hi→hi≤n→(∀i,i<lo→f i=true)→(∀i,hi≤i→i<n→f i=false)→
   (∀x lo hi (R:ForInStep (Option (Option Nat)×Nat×Nat)→SortSt→Prop),lo≥hi→R (.done (none,lo,hi)) st→wpS (model prog w) A E s (body x (none,lo,hi)) R st)→
   (∀x lo hi (R:ForInStep (Option (Option Nat)×Nat×Nat)→SortSt→Prop),lo<hi→hi≤n→R (.yield (if f (lo+(hi-lo) / 2)=true then (none,lo+(hi-lo) / 2+1,hi) else (none,lo,lo+(hi-lo) / 2))) st→wpS (model prog w) A E s (body x (none,lo,hi)) R st)→
   (∀m,m≤n→(∀i,i<m→f i=true)→(∀i,m≤i→i<n→f i=false)→R (none,m,m) st)→
   wpS (model prog w) A E s (forIn [0:n] (none,lo,hi) body) R st:=fun lo hi body R h1 h2 h3 h4 b1 b2 kk=>by
  refine eX (I:=fun x c au=>au=st∧∃lo hi,c=(none,lo,hi)∧lo≤hi∧hi≤n∧hi-lo+x≤n∧(∀i,i<lo→f i=true)∧(∀i,hi≤i→i<n→f i=false)) ?_ ?_ ⟨rfl,lo,hi,rfl,h1,h2,by omega,h3,h4⟩
  ·rintro x c au _ hx ⟨rfl,lo,hi,rfl,g1,g2,g3,g4,g5⟩
   by_cases z:lo≥hi
   ·refine b1 x lo hi _ z ?_
    obtain rfl:lo=hi:=by omega
    exact kk lo g2 g4 g5
   ·refine b2 x lo hi _ (by omega) g2 ?_
    cases e:f (lo+(hi-lo) / 2) with
    | true=>rw [ae rfl];exact ⟨rfl,_,_,rfl,by omega,g2,by omega,fun i bg=>mono i (lo+(hi-lo) / 2) (by omega) (by omega) e,g5⟩
    | false=>
     rw [aa (by simp)]
     exact ⟨rfl,_,_,rfl,by omega,by omega,by omega,g4,fun i h1 h2=>Bw (lo+(hi-lo) / 2) i h1 h2 e⟩
  ·rintro c au ⟨rfl,lo,hi,rfl,g1,g2,g3,g4,g5⟩
   have:lo=hi:=by
    have:max 0 n=n:=by omega
    omega
   subst this;exact kk lo g2 g4 g5
 cases e:f hint with
 | true=>
  rw [ae rfl]
  refine aq (fq (eX (I:=fun x c au=>au=st∧∃la bq,c=(none,la,bq)∧x+1≤bq∧la<bq∧la<n-hint∧f (hint+la)=true)
   (Q:=fun c au=>au=st∧∃la bq,c=(none,la,bq)∧la<bq∧la<n-hint∧f (hint+la)=true∧(bq≥n-hint∨f (hint+bq)=false)) ?_ ?_ ⟨rfl,0,1,rfl,ax _,by omega,by omega,by simpa using e⟩) ?_)
  ·rintro x c au _ hx ⟨rfl,la,bq,rfl,g1,g2,g3,g4⟩
   dsimp only;by_cases z:bq≥n-hint
   ·rw [ae z]
    exact ao ⟨rfl,la,bq,rfl,g2,g3,g4,.inl z⟩
   ·rw [aa z]
    refine aq (hb _ (by omega) _ ?_)
    dsimp only;cases e':f (hint+bq) with
    | true=>
     rw [aa (by simp)]
     exact ao ⟨rfl,_,_,rfl,by omega,by omega,by omega,e'⟩
    | false=>
     rw [ae (by simp)]
     exact ao ⟨rfl,la,bq,rfl,g2,g3,g4,.inr e'⟩
  ·rintro c au ⟨rfl,la,bq,rfl,g1,g2,g3,g4⟩
   have:max 0 n=n:=by omega
   exact ⟨rfl,la,bq,rfl,g2,g3,g4,.inl (by omega)⟩
  ·rintro c au ⟨rfl,la,bq,rfl,g2,g3,g4,g5⟩
   refine aq (bs (hint+la+1) (hint+min bq (n-hint)) _ _ (by omega) (by omega) (fun i hi=>mono i (hint+la) (by omega) (by omega) g4) (fun i h1 h2=>?_) ?_ ?_ ?_)
   ·rcases g5 with g5 | g5
    ·omega
    ·by_cases z:bq≥n-hint
     ·omega
     ·exact Bw (hint+bq) i (by omega) h2 g5
   ·intro x lo hi R z hR
    dsimp only;rw [ae z];exact ao hR
   ·intro x lo hi R z z2 hR
    dsimp only;rw [aa (by omega)]
    refine aq (hb _ (by omega) _ ?_)
    dsimp only;cases e:f (lo+(hi-lo) / 2) with
    | true=>rw [e,ae rfl] at hR;rw [ae rfl];exact ao hR
    | false=>
     rw [e,aa (by simp)] at hR
     rw [aa (by simp)]
     exact ao hR
   ·exact fun m m1 m2 m3=>ao (k m m1 m2 m3)
 | false=>
  rw [aa (by simp)]
  refine aq (fq (eX (I:=fun x c au=>au=st∧∃la bq,c=(none,la,bq)∧x+1≤bq∧la<bq∧la≤hint∧f (hint-la)=false)
   (Q:=fun c au=>au=st∧∃la bq,c=(none,la,bq)∧la<bq∧la≤hint∧f (hint-la)=false∧(bq≥hint+1∨f (hint-bq)=true)) ?_ ?_ ⟨rfl,0,1,rfl,ax _,by omega,by omega,by simpa using e⟩) ?_)
  ·rintro x c au _ hx ⟨rfl,la,bq,rfl,g1,g2,g3,g4⟩
   dsimp only;by_cases z:bq≥hint+1
   ·rw [ae z]
    exact ao ⟨rfl,la,bq,rfl,g2,g3,g4,.inl z⟩
   ·rw [aa z]
    refine aq (hb _ (by omega) _ ?_)
    dsimp only;cases e':f (hint-bq) with
    | true=>rw [ae rfl];exact ao ⟨rfl,la,bq,rfl,g2,g3,g4,.inr e'⟩
    | false=>
     rw [aa (by simp)]
     exact ao ⟨rfl,_,_,rfl,by omega,by omega,by omega,e'⟩
  ·rintro c au ⟨rfl,la,bq,rfl,g1,g2,g3,g4⟩
   have:max 0 n=n:=by omega
   exact ⟨rfl,la,bq,rfl,g2,g3,g4,.inl (by omega)⟩
  ·rintro c au ⟨rfl,la,bq,rfl,g2,g3,g4,g5⟩
   refine aq (bs (hint+1-min bq (hint+1)) (hint-la) _ _ (by omega) (by omega) (fun i hi=>?_) (fun i h1 h2=>Bw (hint-la) i (by omega) h2 g4) ?_ ?_ ?_)
   ·rcases g5 with g5 | g5
    ·omega
    ·by_cases z:bq≥hint+1
     ·omega
     ·exact mono i (hint-bq) (by omega) (by omega) g5
   ·intro x lo hi R z hR
    dsimp only;rw [ae z];exact ao hR
   ·intro x lo hi R z z2 hR
    dsimp only;rw [aa (by omega)]
    refine aq (hb _ (by omega) _ ?_)
    dsimp only;cases e:f (lo+(hi-lo) / 2) with
    | true=>rw [e,ae rfl] at hR;rw [ae rfl];exact ao hR
    | false=>
     rw [e,aa (by simp)] at hR
     rw [aa (by simp)]
     exact ao hR
   ·exact fun m m1 m2 m3=>ao (k m m1 m2 m3)
end
def bh(K:Keyed→Int)(l:List Keyed):Prop:=l.Pairwise fun x y=>K x≤K y
variable {K:Keyed→Int} {l:List Keyed}
theorem bh.take(h:bh K l)(k:Nat):bh K (l.take k):=List.Pairwise.sublist (List.take_sublist k l) h
theorem bh.drop(h:bh K l)(k:Nat):bh K (l.drop k):=List.Pairwise.sublist (List.drop_sublist k l) h
variable {m:List Keyed}
theorem bh.app(h:bh K l)(h':bh K m)(k:∀x∈l,∀y∈m,K x≤K y):bh K (l++m):=List.pairwise_append.mpr ⟨h,h',k⟩
structure MI (K:Keyed→Int) (A B O:List Keyed) (i j:Nat):Prop where
 pm:O.Perm (A.take i++B.take j)
 so:bh K O
 ca:∀x∈O,∀y∈A.drop i,K x≤K y
 cb:∀x∈O,∀y∈B.drop j,K x≤K y
variable {A B O:List Keyed} {i j:Nat}
theorem MI.flip(h:MI K A B O i j):MI K B A O j i:=⟨h.pm.trans qy,h.so,h.cb,h.ca⟩
theorem MI.yl(h:MI K A B O i j)(sA:bh K A)(k:Nat)(hk:∀x∈(A.drop i).take k,∀y∈B.drop j,K x≤K y):MI K A B (O++(A.drop i).take k) (i+k) j:=by
 have e:A.take (i+k)=A.take i++(A.drop i).take k:=List.take_add;have d:A.drop (i+k)=(A.drop i).drop k:=by rw [List.drop_drop]
 have sd:=sA.drop i;have sp:(A.drop i).take k++(A.drop i).drop k=A.drop i:=mq ..;have cr:∀x∈(A.drop i).take k,∀y∈(A.drop i).drop k,K x≤K y:=by have:=sd;rw [←sp] at this;exact (List.pairwise_append.mp this).2.2
 refine ⟨?_,h.so.app (sd.take k) fun x hx y hy=>h.ca x hx y (List.mem_of_mem_take hy),fun x hx y hy=>?_,fun x hx y hy=>?_⟩
 ·rw [e]
  refine (h.pm.append_right _).trans ?_;rw [fm,fm];exact AF _ qy
 ·rw [d] at hy
  rcases dI.mp hx with hx | hx;·exact h.ca x hx y (List.mem_of_mem_drop hy)
  ·exact cr x hx y hy
 ·rcases dI.mp hx with hx | hx
  ·exact h.cb x hx y hy
  ·exact hk x hx y hy
theorem MI.Bx(h:MI K A B O i j)(sB:bh K B)(k:Nat)(hk:∀x∈(B.drop j).take k,∀y∈A.drop i,K x≤K y):MI K A B (O++(B.drop j).take k) i (j+k):=(h.flip.yl sB k hk).flip
theorem MI.done(h:MI K A B O i j)(sA:bh K A)(sB:bh K B)(k:∀x∈A.drop i,∀y∈B.drop j,K x≤K y):(O++A.drop i++B.drop j).Perm (A++B)∧bh K (O++A.drop i++B.drop j):=by
 refine ⟨?_,(h.so.app (sA.drop i) h.ca).app (sB.drop j) fun x hx y hy=>?_⟩
 ·have e1:A.take i++A.drop i=A:=mq ..
  have e2:B.take j++B.drop j=B:=mq ..;have:(A.take i++B.take j++A.drop i++B.drop j).Perm ((A.take i++A.drop i)++(B.take j++B.drop j)):=by rw [fm,fm,fm];refine AF _ ?_;rw [←fm,←fm];exact List.Perm.append_right _ qy
  rw [e1,e2] at this;exact ((h.pm.append_right _).append_right _).trans this
 ·rcases dI.mp hx with hx | hx
  ·exact h.cb x hx y hy
  ·exact k x hx y hy
theorem MI.FL(h:MI K A B O i j)(sA:bh K A)(sB:bh K B)(k:∀x∈A.drop i,∀y∈B.drop j,K y≤K x):(O++B.drop j++A.drop i).Perm (A++B)∧bh K (O++B.drop j++A.drop i):=by have:=h.flip.done sB sA fun x hx y hy=>k y hy x hx;exact ⟨this.1.trans qy,this.2⟩
theorem NA(a b:Array Keyed):Bu a b=(do
 rule "list.sort.merge-lo"
 let total:=a.size+b.size
 let done (out:Array Keyed) (ia ib:Nat):=out++a.extract ia a.size++b.extract ib b.size
 let ym (out:Array Keyed) (ia ib:Nat):=out++b.extract ib b.size++a.extract ia a.size
 let mut out:Array Keyed:=#[←elem' b 0]
 let mut ia:=0
 let mut ib:=1
 if ib == b.size then return done out ia ib
 if ia+1 == a.size then return ym out ia ib
 let mut minGallop:=gallopOf (←get)
 for _ in [0:total] do
  let mut iJ:=0
  let mut iK:=0
  for _ in [0:total] do
   let some NB ←lt' (←elem' b ib) (←elem' a ia) | return done out ia ib
   if NB then
    out:=out.push (←elem' b ib);ib:=ib+1;iK:=iK+1;iJ:=0
    if ib == b.size then return done out ia ib
    if iK≥minGallop then break
   else
    out:=out.push (←elem' a ia);ia:=ia+1;iJ:=iJ+1;iK:=0
    if ia+1 == a.size then return ym out ia ib
    if iJ≥minGallop then break
  rule "list.sort.gallop"
  minGallop:=minGallop+1
  for _ in [0:total] do
   if minGallop>1 then minGallop:=minGallop-1
   vj minGallop
   let some k ←mV false (←elem' b ib) a ia (a.size-ia) 0 | return done out ia ib
   iJ:=k
   if k>0 then
    out:=out++a.extract ia (ia+k);ia:=ia+k
    if ia+1 == a.size then return ym out ia ib
    if ia == a.size then return done out ia ib
   out:=out.push (←elem' b ib);ib:=ib+1
   if ib == b.size then return done out ia ib
   let some k ←mV true (←elem' a ia) b ib (b.size-ib) 0 | return done out ia ib
   iK:=k
   if k>0 then
    out:=out++b.extract ib (ib+k);ib:=ib+k
    if ib == b.size then return done out ia ib
   out:=out.push (←elem' a ia);ia:=ia+1
   if ia+1 == a.size then return ym out ia ib
   if iJ<7 && iK<7 then break
  minGallop:=minGallop+1
  vj minGallop
 unsupported "internal:list.sort.merge-bound"):=rfl
section
variable {prog:Program} {w:World} {A:Around} {E:aM} {s:Shared} {κ:SortKind} {key:Keyed→Int} {Ok:Keyed→Prop}
def setG(st:SortSt)(g:Nat):SortSt:=SortSt.mk' (kindOf st) (arrOf st) (pendingOf st) g (failedOf st)
variable {a:Array Keyed}
theorem vp(hi:i<a.size):(a.toList.drop i).take 1=[a.getD i nn]:=by
 have hl:i<a.toList.length:=by simpa using hi
 rw [AG hl];simp [Array.getD,hi]
theorem i9(a:Array Keyed)(i j:Nat):(a.extract i j).toList=(a.toList.drop i).take (j-i):=by rw [Array.toList_extract,List.extract_eq_take_drop]
theorem yn(a:Array Keyed)(i:Nat):(a.extract i a.size).toList=a.toList.drop i:=by rw [i9];refine w6 ?_;simp
variable {x:Keyed}
theorem oH(h:x∈a.toList.drop i):∃j,i≤j∧j<a.size∧x=a.getD j nn:=by
 obtain ⟨j,hj,rfl⟩:=nS h;have dA:i+j<a.size:=by simp at hj;omega
 refine ⟨i+j,by omega,dA,?_⟩
 rw [List.getElem_drop];simp [Array.getD,dA]
theorem By{k:Nat}(h:x∈(a.toList.drop i).take k):∃j,j<k∧i+j<a.size∧x=a.getD (i+j) nn:=by
 obtain ⟨j,hj,rfl⟩:=nS h;have dA:i+j<a.size∧j<k:=by simp at hj;omega
 refine ⟨j,dA.2,dA.1,?_⟩;rw [List.getElem_take,List.getElem_drop];simp [Array.getD,dA.1]
theorem e_(h:bh key a.toList)(Bz:i≤j)(hj:j<a.size):key (a.getD i nn)≤key (a.getD j nn):=by
 have hi:i<a.size:=by omega
 by_cases e:i=j;·subst e;exact k8 _
 ·have:=uB.mp h i j (by simpa using hi) (by simpa using hj) (by omega)
  simpa [Array.getD,hi,hj] using this
theorem d9{c:Prop}[Decidable c]{α:Type}{m1 m2:StateT SortSt Sem α}{Q:α→SortSt→Prop}{st:SortSt}(h1:c→wpS (model prog w) A E s m1 Q st)(h2:¬c→wpS (model prog w) A E s m2 Q st):wpS (model prog w) A E s (if c then m1 else m2) Q st:=by
 by_cases h:c;·rw [ae h];exact h1 h
 ·rw [aa h];exact h2 h
theorem rp{st:SortSt}{g:Nat}{Q:Unit→SortSt→Prop}(q:Q () (setG st g)):wpS (model prog w) A E s (vj g) Q st:=jr q
variable {k:Int}
theorem gq{a:Int}(h:bB true k a=true):a<k:=eY h
theorem gX{a:Int}(h:bB true k a=false):k≤a:=Int.not_lt.mp (of_decide_eq_false h)
theorem kI{a:Int}(h:bB false k a=true):a≤k:=by have:(!decide (k<a))=true:=h;simpa using this
theorem mW{a:Int}(h:bB false k a=false):k<a:=by have:(!decide (k<a))=false:=h;simpa using this
variable {b:Array Keyed} {o:Nat}
theorem mX(sb:bh key b.toList):∀i j,i≤j→j<b.size-o→bB true k (key (b.getD (o+j) nn))=true→bB true k (key (b.getD (o+i) nn))=true:=fun i j h1 h2 h3=>a7 (Int.lt_of_le_of_lt (e_ sb (by omega) (by omega)) (gq h3))
theorem yo(sb:bh key b.toList):∀i j,i≤j→j<b.size-o→bB false k (key (b.getD (o+j) nn))=true→bB false k (key (b.getD (o+i) nn))=true:=fun i j h1 h2 h3=>by
 have:key (b.getD (o+i) nn)≤k:=cY (e_ sb (by omega) (by omega)) (kI h3)
 show (!decide (k<key (b.getD (o+i) nn)))=true;simpa using this
section
variable {a b:Array Keyed} (sa:bh key a.toList) (sb:bh key b.toList) {out:Array Keyed} {ia ib:Nat}
include sa sb
theorem rq(m:MI key a.toList b.toList out.toList ia ib)(hb:ib<b.size)(k:∀j,ia≤j→j<a.size→key (b.getD ib nn)≤key (a.getD j nn)):MI key a.toList b.toList (out.push (b.getD ib nn)).toList ia (ib+1):=by
 have:=m.Bx sb 1 fun x hx y hy=>by rw [vp hb,dt] at hx;subst hx;obtain ⟨j,h1,h2,rfl⟩:=oH hy;exact k j h1 h2
 rw [vp hb] at this;rw [mr];exact this
theorem lK(m:MI key a.toList b.toList out.toList ia ib)(ha:ia<a.size)(k:∀j,ib≤j→j<b.size→key (a.getD ia nn)≤key (b.getD j nn)):MI key a.toList b.toList (out.push (a.getD ia nn)).toList (ia+1) ib:=by
 have:=m.yl sa 1 fun x hx y hy=>by rw [vp ha,dt] at hx;subst hx;obtain ⟨j,h1,h2,rfl⟩:=oH hy;exact k j h1 h2
 rw [vp ha] at this;rw [mr];exact this
variable {n:Nat}
theorem FN(m:MI key a.toList b.toList out.toList ia ib)(k:∀i j,i<n→ia+i<a.size→ib≤j→j<b.size→key (a.getD (ia+i) nn)≤key (b.getD j nn)):MI key a.toList b.toList (out++a.extract ia (ia+n)).toList (ia+n) ib:=by
 have:=m.yl sa n fun x hx y hy=>by obtain ⟨i,h3,h4,rfl⟩:=By hx;obtain ⟨j,h1,h2,rfl⟩:=oH hy;exact k i j h3 h4 h1 h2
 rw [j7,i9,show ia+n-ia=n by omega]
 exact this
theorem yp(m:MI key a.toList b.toList out.toList ia ib)(k:∀i j,i<n→ib+i<b.size→ia≤j→j<a.size→key (b.getD (ib+i) nn)≤key (a.getD j nn)):MI key a.toList b.toList (out++b.extract ib (ib+n)).toList ia (ib+n):=by
 have:=m.Bx sb n fun x hx y hy=>by obtain ⟨i,h3,h4,rfl⟩:=By hx;obtain ⟨j,h1,h2,rfl⟩:=oH hy;exact k i j h3 h4 h1 h2
 rw [j7,i9,show ib+n-ib=n by omega]
 exact this
theorem i_(m:MI key a.toList b.toList out.toList ia ib)(e:ib=b.size∨ia=a.size):(out++a.extract ia a.size++b.extract ib b.size).toList.Perm (a.toList++b.toList)∧bh key (out++a.extract ia a.size++b.extract ib b.size).toList:=by rw [j7,j7,yn,yn];refine m.done sa sb fun x hx y hy=>?_;obtain ⟨i,h1,h2,_⟩:=oH hx;obtain ⟨j,h3,h4,_⟩:=oH hy;omega
theorem ja(m:MI key a.toList b.toList out.toList ia ib)(hl:∀y∈b.toList,key y≤key (a.getD (a.size-1) nn))(e:ia+1=a.size):(out++b.extract ib b.size++a.extract ia a.size).toList.Perm (a.toList++b.toList)∧bh key (out++b.extract ib b.size++a.extract ia a.size).toList:=by
 rw [j7,j7,yn,yn];refine m.FL sa sb fun x hx y hy=>?_;obtain ⟨i,h1,h2,rfl⟩:=oH hx;have:=hl y (List.mem_of_mem_drop hy);rw [show i=a.size-1 by omega]
 exact this
end
theorem NC(h:i8 prog w A s κ key Ok)(oa:eQ Ok a)(ob:eQ Ok b)(sa:bh key a.toList)(sb:bh key b.toList)(a1:1≤a.size)(b1:1≤b.size)
  (h0:∀x∈a.toList,key (b.getD 0 nn)≤key x) (hl:∀y∈b.toList,key y≤key (a.getD (a.size-1) nn)) {st:SortSt} (hk:kindOf st=κ) {Q:Array Keyed→SortSt→Prop}
  (q:∀m g,m.toList.Perm (a.toList++b.toList)→bh key m.toList→Q m (setG st g)):wpS (model prog w) A E s (Bu a b) Q st:=by
 rw [NA];refine aq (wpS_lift (nU ⟨rfl,?_⟩));refine aq (bu (by omega) ?_)
 dsimp only;have m0:MI key a.toList b.toList (#[b.getD 0 nn]:Array Keyed).toList 0 1:=by
  have:MI key a.toList b.toList (#[]:Array Keyed).toList 0 0:=⟨by simp,List.Pairwise.nil,fun x hx=>by simp at hx,fun x hx=>by simp at hx⟩
  exact rq sa sb this (by omega) fun j _ hj=>h0 _ (by simp [Array.getD,hj])
 have fB:∀g,kindOf (setG st g)=κ:=fun _=>hk;by_cases e1:(1 == b.size)=true
 ·rw [ae e1]
  have:=i_ sa sb m0 (.inl (eq_of_beq e1));exact ao (q _ (gallopOf st) this.1 this.2)
 rw [aa e1];by_cases e2:(0+1 == a.size)=true
 ·rw [ae e2]
  have:=ja sa sb m0 hl (eq_of_beq e2);exact ao (q _ (gallopOf st) this.1 this.2)
 rw [aa e2];have b2:1<b.size:=by
  have:1≠b.size:=fun e=>e1 (by simp [←e])
  omega
 have a2:0+1<a.size:=by
  have:0+1≠a.size:=fun e=>e2 (by simp [←e])
  omega
 refine aq (ic ?_)
 refine aq (fq (eX (I:=fun x c au=>∃out ia ib mg g,c=(none,out,ia,ib,mg)∧au=setG st g∧MI key a.toList b.toList out.toList ia ib∧ia+1<a.size∧ib<b.size∧x≤ia+ib)
  (Q:=fun c au=>∃m g,c.1=some m∧au=setG st g∧m.toList.Perm (a.toList++b.toList)∧bh key m.toList) ?_ ?_ ⟨_,_,_,_,gallopOf st,rfl,rfl,m0,a2,b2,b7 _⟩) ?_)
 ·rintro x c au _ hx ⟨out,ia,ib,mg,g,rfl,rfl,mi,ha,hb,oI⟩
  dsimp only
  refine aq (fq (eX (I:=fun y c au=>∃out fQ gr ac bc,c=(none,out,fQ,gr,ac,bc)∧au=setG st g∧MI key a.toList b.toList out.toList fQ gr∧fQ+1<a.size∧gr<b.size∧ia+ib+y≤fQ+gr)
   (Q:=fun c au=>au=setG st g∧((∃m,c.1=some m∧m.toList.Perm (a.toList++b.toList)∧bh key m.toList)∨∃out fQ gr ac bc,c=(none,out,fQ,gr,ac,bc)∧MI key a.toList b.toList out.toList fQ gr∧fQ+1<a.size∧gr<b.size∧ia+ib+1≤fQ+gr)) ?_ ?_ ⟨_,_,_,_,_,rfl,rfl,mi,ha,hb,ax _⟩) ?_)
  ·rintro y c au _ hy ⟨out,fQ,gr,ac,bc,rfl,rfl,mi,ha,hb,gu⟩
   dsimp only;refine aq (bu hb (aq (bu (by omega) (aq (vn h (ob _ hb) (oa fQ (by omega)) (fB _) ?_)))))
   dsimp only;by_cases z:key (b.getD gr nn)<key (a.getD fQ nn)
   ·rw [a7 z,ae rfl]
    refine aq (bu hb ?_);have gv:=rq sa sb mi hb fun j h1 h2=>cY (cO z) (e_ sa h1 h2);by_cases z1:(gr+1 == b.size)=true
    ·rw [ae z1]
     exact ao ⟨rfl,.inl ⟨_,rfl,i_ sa sb gv (.inl (eq_of_beq z1))⟩⟩
    ·rw [aa z1]
     have rA:gr+1≠b.size:=fun e=>z1 (by simp [←e])
     by_cases z2:bc+1≥mg
     ·rw [ae z2]
      exact ao ⟨rfl,.inr ⟨_,_,_,_,_,rfl,gv,ha,by omega,by omega⟩⟩
     ·rw [aa z2]
      exact ao ⟨_,_,_,_,_,rfl,rfl,gv,ha,by omega,by omega⟩
   ·rw [bt z,aa (by simp)]
    refine aq (bu (by omega) ?_)
    have gv:=lK sa sb mi (by omega) fun j h1 h2=>cY (Int.not_lt.mp z) (e_ sb h1 h2)
    by_cases z1:(fQ+1+1 == a.size)=true
    ·rw [ae z1]
     exact ao ⟨rfl,.inl ⟨_,rfl,ja sa sb gv hl (eq_of_beq z1)⟩⟩
    ·rw [aa z1]
     have rA:fQ+1+1≠a.size:=fun e=>z1 (by simp [←e])
     by_cases z2:ac+1≥mg
     ·rw [ae z2]
      exact ao ⟨rfl,.inr ⟨_,_,_,_,_,rfl,gv,by omega,hb,by omega⟩⟩
     ·rw [aa z2]
      exact ao ⟨_,_,_,_,_,rfl,rfl,gv,by omega,hb,by omega⟩
  ·rintro c au ⟨out,fQ,gr,ac,bc,rfl,rfl,mi,ha,hb,gu⟩
   exact ⟨rfl,.inr ⟨_,_,_,_,_,rfl,mi,ha,hb,by omega⟩⟩
  ·rintro c au ⟨rfl,⟨m,e,pm⟩ | ⟨out,fQ,gr,ac,bc,rfl,mi,ha,hb,gu⟩⟩
   ·obtain ⟨c1,c2⟩:=c
    dsimp only at e;subst e;exact ao ⟨m,g,rfl,rfl,pm⟩
   ·dsimp only
    refine aq (wpS_lift (nU ⟨rfl,?_⟩))
    refine aq (fq (eX (I:=fun y c au=>∃out i j mg ac bc g,c=(none,out,i,j,mg,ac,bc)∧au=setG st g∧MI key a.toList b.toList out.toList i j∧i+1<a.size∧j<b.size∧x+1≤i+j)
     (Q:=fun c au=>(∃m g,c.1=some m∧au=setG st g∧m.toList.Perm (a.toList++b.toList)∧bh key m.toList)∨∃out i j mg ac bc g,c=(none,out,i,j,mg,ac,bc)∧au=setG st g∧MI key a.toList b.toList out.toList i j∧i+1<a.size∧j<b.size∧x+1≤i+j) ?_ ?_ ⟨_,_,_,_,_,_,g,rfl,rfl,mi,ha,hb,by omega⟩) ?_)
    ·clear mi ha hb gu
     rintro y c au _ hy ⟨out,ia,ib,mg,ac,bc,g,rfl,rfl,mi,ha,hb,gu⟩;dsimp only;rcases Nat.lt_or_ge 1 mg with zm | zm
     ·rw [ae zm]
      refine aq (rp ?_);refine aq (bu hb (aq (gW (f:=fun i=>bB false (key (b.getD ib nn)) (key (a.getD (ia+i) nn))) (fun i hi Q q=>gU h (by omega) oa (ob _ hb) (fB _) q) (by omega) (yo sa) fun k k1 k2 k3=>?_)))
      dsimp only;by_cases zk:k>0
      ·rw [ae zk]
       have gx:=FN sa sb mi (n:=k) fun i j hi bg hj dA=>cY (kI (k2 i hi)) (e_ sb hj dA);by_cases w1:(ia+k+1 == a.size)=true
       ·rw [ae w1]
        exact ao (.inl ⟨_,_,rfl,rfl,ja sa sb gx hl (eq_of_beq w1)⟩)
       ·rw [aa w1]
        have BA:ia+k+1≠a.size:=fun e=>w1 (by simp [←e])
        by_cases w2:(ia+k == a.size)=true
        ·rw [ae w2]
         exact ao (.inl ⟨_,_,rfl,rfl,i_ sa sb gx (.inr (eq_of_beq w2))⟩)
        ·rw [aa w2]
         have ND:ia+k≠a.size:=fun e=>w2 (by simp [←e])
         refine aq (bu hb ?_);have cu:=rq sa sb gx hb fun j h1 h2=>by have:=mW (k3 (j-ia) (by omega) (by omega));rw [show ia+(j-ia)=j by omega] at this;exact cO this
         by_cases x1:(ib+1 == b.size)=true
         ·rw [ae x1]
          exact ao (.inl ⟨_,_,rfl,rfl,i_ sa sb cu (.inl (eq_of_beq x1))⟩)
         ·rw [aa x1]
          have oJ:ib+1≠b.size:=fun e=>x1 (by simp [←e])
          refine aq (bu (by omega) (aq (gW (f:=fun i=>bB true (key (a.getD (ia+k) nn)) (key (b.getD (ib+1+i) nn))) (fun i hi Q q=>gU h (by omega) ob (oa _ (by omega)) (fB _) q) (by omega) (mX sb) fun k' q1 q2 q3=>?_)))
          dsimp only;by_cases dM:k'>0
          ·rw [ae dM]
           have df:=yp sa sb cu (n:=k') fun i j hi bg hj dA=>cY (cO (gq (q2 i hi))) (e_ sa hj dA);by_cases x2:(ib+1+k' == b.size)=true
           ·rw [ae x2]
            exact ao (.inl ⟨_,_,rfl,rfl,i_ sa sb df (.inl (eq_of_beq x2))⟩)
           ·rw [aa x2]
            have oK:ib+1+k'≠b.size:=fun e=>x2 (by simp [←e])
            refine aq (bu (by omega) ?_)
            have aR:=lK sa sb df (by omega) fun j h1 h2=>by have:=gX (q3 (j-(ib+1)) (by omega) (by omega));rwa [show ib+1+(j-(ib+1))=j by omega] at this
            by_cases y1:(ia+k+1+1 == a.size)=true
            ·rw [ae y1]
             exact ao (.inl ⟨_,_,rfl,rfl,ja sa sb aR hl (eq_of_beq y1)⟩)
            ·rw [aa y1]
             have gy:ia+k+1+1≠a.size:=fun e=>y1 (by simp [←e])
             exact d9 (fun _=>ao (.inr ⟨_,_,_,_,_,_,_,rfl,rfl,aR,by omega,by omega,by omega⟩)) (fun _=>ao ⟨_,_,_,_,_,_,_,rfl,rfl,aR,by omega,by omega,by omega⟩)
          ·rw [aa dM]
           obtain rfl:k'=0:=by omega
           refine aq (bu (by omega) ?_)
           have aR:=lK sa sb cu (by omega) fun j h1 h2=>by have:=gX (q3 (j-(ib+1)) (by omega) (by omega));rwa [show ib+1+(j-(ib+1))=j by omega] at this
           by_cases y1:(ia+k+1+1 == a.size)=true
           ·rw [ae y1]
            exact ao (.inl ⟨_,_,rfl,rfl,ja sa sb aR hl (eq_of_beq y1)⟩)
           ·rw [aa y1]
            have gy:ia+k+1+1≠a.size:=fun e=>y1 (by simp [←e])
            exact d9 (fun _=>ao (.inr ⟨_,_,_,_,_,_,_,rfl,rfl,aR,by omega,by omega,by omega⟩)) (fun _=>ao ⟨_,_,_,_,_,_,_,rfl,rfl,aR,by omega,by omega,by omega⟩)
      ·rw [aa zk]
       obtain rfl:k=0:=by omega
       refine aq (bu hb ?_);have cu:=rq sa sb mi hb fun j h1 h2=>by have:=mW (k3 (j-ia) (by omega) (by omega));rw [show ia+(j-ia)=j by omega] at this;exact cO this
       by_cases x1:(ib+1 == b.size)=true
       ·rw [ae x1]
        exact ao (.inl ⟨_,_,rfl,rfl,i_ sa sb cu (.inl (eq_of_beq x1))⟩)
       ·rw [aa x1]
        have oJ:ib+1≠b.size:=fun e=>x1 (by simp [←e])
        refine aq (bu (by omega) (aq (gW (f:=fun i=>bB true (key (a.getD (ia) nn)) (key (b.getD (ib+1+i) nn))) (fun i hi Q q=>gU h (by omega) ob (oa _ (by omega)) (fB _) q) (by omega) (mX sb) fun k' q1 q2 q3=>?_)))
        dsimp only;by_cases dM:k'>0
        ·rw [ae dM]
         have df:=yp sa sb cu (n:=k') fun i j hi bg hj dA=>cY (cO (gq (q2 i hi))) (e_ sa hj dA);by_cases x2:(ib+1+k' == b.size)=true
         ·rw [ae x2]
          exact ao (.inl ⟨_,_,rfl,rfl,i_ sa sb df (.inl (eq_of_beq x2))⟩)
         ·rw [aa x2]
          have oK:ib+1+k'≠b.size:=fun e=>x2 (by simp [←e])
          refine aq (bu (by omega) ?_)
          have aR:=lK sa sb df (by omega) fun j h1 h2=>by have:=gX (q3 (j-(ib+1)) (by omega) (by omega));rwa [show ib+1+(j-(ib+1))=j by omega] at this
          by_cases y1:(ia+1+1 == a.size)=true
          ·rw [ae y1]
           exact ao (.inl ⟨_,_,rfl,rfl,ja sa sb aR hl (eq_of_beq y1)⟩)
          ·rw [aa y1]
           have gy:ia+1+1≠a.size:=fun e=>y1 (by simp [←e])
           exact d9 (fun _=>ao (.inr ⟨_,_,_,_,_,_,_,rfl,rfl,aR,by omega,by omega,by omega⟩)) (fun _=>ao ⟨_,_,_,_,_,_,_,rfl,rfl,aR,by omega,by omega,by omega⟩)
        ·rw [aa dM]
         obtain rfl:k'=0:=by omega
         refine aq (bu (by omega) ?_)
         have aR:=lK sa sb cu (by omega) fun j h1 h2=>by have:=gX (q3 (j-(ib+1)) (by omega) (by omega));rwa [show ib+1+(j-(ib+1))=j by omega] at this
         by_cases y1:(ia+1+1 == a.size)=true
         ·rw [ae y1]
          exact ao (.inl ⟨_,_,rfl,rfl,ja sa sb aR hl (eq_of_beq y1)⟩)
         ·rw [aa y1]
          have gy:ia+1+1≠a.size:=fun e=>y1 (by simp [←e])
          exact d9 (fun _=>ao (.inr ⟨_,_,_,_,_,_,_,rfl,rfl,aR,by omega,by omega,by omega⟩)) (fun _=>ao ⟨_,_,_,_,_,_,_,rfl,rfl,aR,by omega,by omega,by omega⟩)
     ·rw [aa (by omega)]
      refine aq (rp ?_);refine aq (bu hb (aq (gW (f:=fun i=>bB false (key (b.getD ib nn)) (key (a.getD (ia+i) nn))) (fun i hi Q q=>gU h (by omega) oa (ob _ hb) (fB _) q) (by omega) (yo sa) fun k k1 k2 k3=>?_)))
      dsimp only;by_cases zk:k>0
      ·rw [ae zk]
       have gx:=FN sa sb mi (n:=k) fun i j hi bg hj dA=>cY (kI (k2 i hi)) (e_ sb hj dA);by_cases w1:(ia+k+1 == a.size)=true
       ·rw [ae w1]
        exact ao (.inl ⟨_,_,rfl,rfl,ja sa sb gx hl (eq_of_beq w1)⟩)
       ·rw [aa w1]
        have BA:ia+k+1≠a.size:=fun e=>w1 (by simp [←e])
        by_cases w2:(ia+k == a.size)=true
        ·rw [ae w2]
         exact ao (.inl ⟨_,_,rfl,rfl,i_ sa sb gx (.inr (eq_of_beq w2))⟩)
        ·rw [aa w2]
         have ND:ia+k≠a.size:=fun e=>w2 (by simp [←e])
         refine aq (bu hb ?_);have cu:=rq sa sb gx hb fun j h1 h2=>by have:=mW (k3 (j-ia) (by omega) (by omega));rw [show ia+(j-ia)=j by omega] at this;exact cO this
         by_cases x1:(ib+1 == b.size)=true
         ·rw [ae x1]
          exact ao (.inl ⟨_,_,rfl,rfl,i_ sa sb cu (.inl (eq_of_beq x1))⟩)
         ·rw [aa x1]
          have oJ:ib+1≠b.size:=fun e=>x1 (by simp [←e])
          refine aq (bu (by omega) (aq (gW (f:=fun i=>bB true (key (a.getD (ia+k) nn)) (key (b.getD (ib+1+i) nn))) (fun i hi Q q=>gU h (by omega) ob (oa _ (by omega)) (fB _) q) (by omega) (mX sb) fun k' q1 q2 q3=>?_)))
          dsimp only;by_cases dM:k'>0
          ·rw [ae dM]
           have df:=yp sa sb cu (n:=k') fun i j hi bg hj dA=>cY (cO (gq (q2 i hi))) (e_ sa hj dA);by_cases x2:(ib+1+k' == b.size)=true
           ·rw [ae x2]
            exact ao (.inl ⟨_,_,rfl,rfl,i_ sa sb df (.inl (eq_of_beq x2))⟩)
           ·rw [aa x2]
            have oK:ib+1+k'≠b.size:=fun e=>x2 (by simp [←e])
            refine aq (bu (by omega) ?_)
            have aR:=lK sa sb df (by omega) fun j h1 h2=>by have:=gX (q3 (j-(ib+1)) (by omega) (by omega));rwa [show ib+1+(j-(ib+1))=j by omega] at this
            by_cases y1:(ia+k+1+1 == a.size)=true
            ·rw [ae y1]
             exact ao (.inl ⟨_,_,rfl,rfl,ja sa sb aR hl (eq_of_beq y1)⟩)
            ·rw [aa y1]
             have gy:ia+k+1+1≠a.size:=fun e=>y1 (by simp [←e])
             exact d9 (fun _=>ao (.inr ⟨_,_,_,_,_,_,_,rfl,rfl,aR,by omega,by omega,by omega⟩)) (fun _=>ao ⟨_,_,_,_,_,_,_,rfl,rfl,aR,by omega,by omega,by omega⟩)
          ·rw [aa dM]
           obtain rfl:k'=0:=by omega
           refine aq (bu (by omega) ?_)
           have aR:=lK sa sb cu (by omega) fun j h1 h2=>by have:=gX (q3 (j-(ib+1)) (by omega) (by omega));rwa [show ib+1+(j-(ib+1))=j by omega] at this
           by_cases y1:(ia+k+1+1 == a.size)=true
           ·rw [ae y1]
            exact ao (.inl ⟨_,_,rfl,rfl,ja sa sb aR hl (eq_of_beq y1)⟩)
           ·rw [aa y1]
            have gy:ia+k+1+1≠a.size:=fun e=>y1 (by simp [←e])
            exact d9 (fun _=>ao (.inr ⟨_,_,_,_,_,_,_,rfl,rfl,aR,by omega,by omega,by omega⟩)) (fun _=>ao ⟨_,_,_,_,_,_,_,rfl,rfl,aR,by omega,by omega,by omega⟩)
      ·rw [aa zk]
       obtain rfl:k=0:=by omega
       refine aq (bu hb ?_);have cu:=rq sa sb mi hb fun j h1 h2=>by have:=mW (k3 (j-ia) (by omega) (by omega));rw [show ia+(j-ia)=j by omega] at this;exact cO this
       by_cases x1:(ib+1 == b.size)=true
       ·rw [ae x1]
        exact ao (.inl ⟨_,_,rfl,rfl,i_ sa sb cu (.inl (eq_of_beq x1))⟩)
       ·rw [aa x1]
        have oJ:ib+1≠b.size:=fun e=>x1 (by simp [←e])
        refine aq (bu (by omega) (aq (gW (f:=fun i=>bB true (key (a.getD (ia) nn)) (key (b.getD (ib+1+i) nn))) (fun i hi Q q=>gU h (by omega) ob (oa _ (by omega)) (fB _) q) (by omega) (mX sb) fun k' q1 q2 q3=>?_)))
        dsimp only;by_cases dM:k'>0
        ·rw [ae dM]
         have df:=yp sa sb cu (n:=k') fun i j hi bg hj dA=>cY (cO (gq (q2 i hi))) (e_ sa hj dA);by_cases x2:(ib+1+k' == b.size)=true
         ·rw [ae x2]
          exact ao (.inl ⟨_,_,rfl,rfl,i_ sa sb df (.inl (eq_of_beq x2))⟩)
         ·rw [aa x2]
          have oK:ib+1+k'≠b.size:=fun e=>x2 (by simp [←e])
          refine aq (bu (by omega) ?_)
          have aR:=lK sa sb df (by omega) fun j h1 h2=>by have:=gX (q3 (j-(ib+1)) (by omega) (by omega));rwa [show ib+1+(j-(ib+1))=j by omega] at this
          by_cases y1:(ia+1+1 == a.size)=true
          ·rw [ae y1]
           exact ao (.inl ⟨_,_,rfl,rfl,ja sa sb aR hl (eq_of_beq y1)⟩)
          ·rw [aa y1]
           have gy:ia+1+1≠a.size:=fun e=>y1 (by simp [←e])
           exact d9 (fun _=>ao (.inr ⟨_,_,_,_,_,_,_,rfl,rfl,aR,by omega,by omega,by omega⟩)) (fun _=>ao ⟨_,_,_,_,_,_,_,rfl,rfl,aR,by omega,by omega,by omega⟩)
        ·rw [aa dM]
         obtain rfl:k'=0:=by omega
         refine aq (bu (by omega) ?_)
         have aR:=lK sa sb cu (by omega) fun j h1 h2=>by have:=gX (q3 (j-(ib+1)) (by omega) (by omega));rwa [show ib+1+(j-(ib+1))=j by omega] at this
         by_cases y1:(ia+1+1 == a.size)=true
         ·rw [ae y1]
          exact ao (.inl ⟨_,_,rfl,rfl,ja sa sb aR hl (eq_of_beq y1)⟩)
         ·rw [aa y1]
          have gy:ia+1+1≠a.size:=fun e=>y1 (by simp [←e])
          exact d9 (fun _=>ao (.inr ⟨_,_,_,_,_,_,_,rfl,rfl,aR,by omega,by omega,by omega⟩)) (fun _=>ao ⟨_,_,_,_,_,_,_,rfl,rfl,aR,by omega,by omega,by omega⟩)
    ·rintro c au ⟨out,i,j,mg,ac,bc,g,rfl,rfl,mi,ha,hb,gu⟩
     exact .inr ⟨_,_,_,_,_,_,_,rfl,rfl,mi,ha,hb,gu⟩
    ·rintro c au (⟨m,g,e,rfl,pm⟩ | ⟨out,i,j,mg,ac,bc,g,rfl,rfl,mi,ha,hb,gu⟩)
     ·obtain ⟨c1,c2⟩:=c
      dsimp only at e;subst e;exact ao ⟨m,g,rfl,rfl,pm⟩
     ·dsimp only
      exact aq (rp (ao ⟨_,_,_,_,_,rfl,rfl,mi,ha,hb,by omega⟩))
 ·rintro c au ⟨out,ia,ib,mg,g,rfl,rfl,mi,ha,hb,oI⟩
  exfalso
  omega
 ·rintro c au ⟨m,g,e,rfl,pm,sm⟩
  obtain ⟨c1,c2⟩:=c;dsimp only at e;subst e;exact ao (q m g pm sm)
end
theorem NF(a b:Array Keyed):Bv a b=(do
 rule "list.sort.merge-hi"
 let total:=a.size+b.size
 let done (out:Array Keyed) (na nb:Nat):=a.extract 0 na++b.extract 0 nb++out.reverse
 let yq (out:Array Keyed) (na nb:Nat):=b.extract 0 nb++a.extract 0 na++out.reverse
 let mut na:=a.size-1
 let mut nb:=b.size
 let mut out:Array Keyed:=#[←elem' a na]
 if na == 0 then return done out na nb
 if nb == 1 then return yq out na nb
 let mut minGallop:=gallopOf (←get)
 for _ in [0:total] do
  let mut iJ:=0
  let mut iK:=0
  for _ in [0:total] do
   let some NG ←lt' (←elem' b (nb-1)) (←elem' a (na-1)) | return done out na nb
   if NG then
    na:=na-1;out:=out.push (←elem' a na);iJ:=iJ+1;iK:=0
    if na == 0 then return done out na nb
    if iJ≥minGallop then break
   else
    nb:=nb-1;out:=out.push (←elem' b nb);iK:=iK+1;iJ:=0
    if nb == 1 then return yq out na nb
    if iK≥minGallop then break
  rule "list.sort.gallop"
  minGallop:=minGallop+1
  for _ in [0:total] do
   if minGallop>1 then minGallop:=minGallop-1
   vj minGallop
   let some at_ ←mV false (←elem' b (nb-1)) a 0 na (na-1) | return done out na nb
   let k:=na-at_
   iJ:=k
   if k>0 then
    out:=out++(a.extract at_ na).reverse;na:=at_
    if na == 0 then return done out na nb
   nb:=nb-1;out:=out.push (←elem' b nb)
   if nb == 1 then return yq out na nb
   let some at_ ←mV true (←elem' a (na-1)) b 0 nb (nb-1) | return done out na nb
   let k:=nb-at_
   iK:=k
   if k>0 then
    out:=out++(b.extract at_ nb).reverse;nb:=at_
    if nb == 1 then return yq out na nb
    if nb == 0 then return done out na nb
   na:=na-1;out:=out.push (←elem' a na)
   if na == 0 then return done out na nb
   if iJ<7 && iK<7 then break
  minGallop:=minGallop+1
  vj minGallop
 unsupported "internal:list.sort.merge-bound"):=rfl
section
variable {key:Keyed→Int}
theorem rB(h:bh key l):bh (fun x=>-key x) l.reverse:=by unfold bh;rw [List.pairwise_reverse];exact w_ (fun h=>Int.neg_le_neg h) h
theorem FO(h:bh (fun x=>-key x) l):bh key l.reverse:=by unfold bh;rw [List.pairwise_reverse];exact w_ (fun h=>Int.le_of_neg_le_neg h) h
variable {a:Array Keyed} {n:Nat}
theorem jH(h:n≤a.size):a.toList.reverse.drop (a.size-n)=(a.extract 0 n).toList.reverse:=by rw [List.drop_reverse,i9,List.drop_zero,Nat.sub_zero,fF,show a.size-(a.size-n)=n by omega]
theorem yr{m:Nat}(h:n≤a.size)(hm:m≤n):(a.toList.reverse.drop (a.size-n)).take (n-m)=(a.extract m n).reverse.toList:=by rw [jH h,xb,i9,i9,List.drop_zero,Nat.sub_zero,List.take_reverse,qu,fF,show min n a.size-(n-m)=m by omega,List.drop_take]
theorem lN{m:Nat}(h:n≤a.size){x:Keyed}(hx:x∈(a.extract m n).toList):∃j,m≤j∧j<n∧x=a.getD j nn:=by rw [i9] at hx;obtain ⟨j,h1,h2,rfl⟩:=By hx;exact ⟨m+j,by omega,by omega,rfl⟩
theorem FP(h:n≤a.size)(h1:1≤n):(a.extract (n-1) n).reverse.toList=[a.getD (n-1) nn]:=by
 rw [xb,i9,show n-(n-1)=1 by omega,vp (by omega)]
 rfl
def MH(key:Keyed→Int)(a b out:Array Keyed)(na nb:Nat):Prop:=MI (fun x=>-key x) a.toList.reverse b.toList.reverse out.toList (a.size-na) (b.size-nb)∧na≤a.size∧nb≤b.size
variable {a b:Array Keyed} (sa:bh key a.toList) (sb:bh key b.toList) {out:Array Keyed} {na nb:Nat}
include sa sb
variable {k:Nat}
theorem BB(m:MH key a b out na nb)(hk:k≤na)(c:∀i j,k≤i→i<na→j<nb→key (b.getD j nn)≤key (a.getD i nn)):MH key a b (out++(a.extract k na).reverse) k nb:=by
 obtain ⟨m,ha,hb⟩:=m;refine ⟨?_,by omega,hb⟩
 have:=m.yl (rB sa) (na-k) fun x hx y hy=>by rw [yr ha hk,xb,j8] at hx;rw [jH hb,j8] at hy;obtain ⟨i,i1,i2,rfl⟩:=lN ha hx;obtain ⟨j,j1,j2,rfl⟩:=lN hb hy;have:=c i j i1 i2 j2;omega
 rw [yr ha hk,show a.size-na+(na-k)=a.size-k by omega] at this
 rw [j7];exact this
theorem vt(m:MH key a b out na nb)(hk:k≤nb)(c:∀i j,k≤i→i<nb→j<na→key (a.getD j nn)≤key (b.getD i nn)):MH key a b (out++(b.extract k nb).reverse) na k:=by
 obtain ⟨m,ha,hb⟩:=m;refine ⟨?_,ha,by omega⟩
 have:=m.Bx (rB sb) (nb-k) fun x hx y hy=>by rw [yr hb hk,xb,j8] at hx;rw [jH ha,j8] at hy;obtain ⟨i,i1,i2,rfl⟩:=lN hb hx;obtain ⟨j,j1,j2,rfl⟩:=lN ha hy;have:=c i j i1 i2 j2;omega
 rw [yr hb hk,show b.size-nb+(nb-k)=b.size-k by omega] at this
 rw [j7];exact this
theorem kJ(m:MH key a b out na nb)(h1:1≤na)(c:∀j,j<nb→key (b.getD j nn)≤key (a.getD (na-1) nn)):MH key a b (out.push (a.getD (na-1) nn)) (na-1) nb:=by
 have:=BB sa sb m (k:=na-1) (by omega) fun i j i1 i2 j1=>by
  rw [show i=na-1 by omega]
  exact c j j1
 have e:out++(a.extract (na-1) na).reverse=out.push (a.getD (na-1) nn):=by apply Array.toList_inj.mp;rw [j7,FP m.2.1 h1,mr]
 rw [e] at this;exact this
theorem vv(m:MH key a b out na nb)(h1:1≤nb)(c:∀j,j<na→key (a.getD j nn)≤key (b.getD (nb-1) nn)):MH key a b (out.push (b.getD (nb-1) nn)) na (nb-1):=by
 have:=vt sa sb m (k:=nb-1) (by omega) fun i j i1 i2 j1=>by
  rw [show i=nb-1 by omega]
  exact c j j1
 have e:out++(b.extract (nb-1) nb).reverse=out.push (b.getD (nb-1) nn):=by apply Array.toList_inj.mp;rw [j7,FP m.2.2 h1,mr]
 rw [e] at this;exact this
theorem fR(m:MH key a b out na nb)(e:na=0∨nb=0):(a.extract 0 na++b.extract 0 nb++out.reverse).toList.Perm (a.toList++b.toList)∧bh key (a.extract 0 na++b.extract 0 nb++out.reverse).toList:=by
 obtain ⟨m,ha,hb⟩:=m;have:=m.FL (rB sa) (rB sb) fun x hx y hy=>by rw [jH ha,j8] at hx;rw [jH hb,j8] at hy;obtain ⟨i,i1,i2,_⟩:=lN ha hx;obtain ⟨j,j1,j2,_⟩:=lN hb hy;omega
 rw [jH ha,jH hb] at this;have er:(a.extract 0 na++b.extract 0 nb++out.reverse).toList=(out.toList++(b.extract 0 nb).toList.reverse++(a.extract 0 na).toList.reverse).reverse:=by simp
 rw [er];refine ⟨(k_ _).trans (this.1.trans ?_),FO this.2⟩;exact (k_ _).append (k_ _)
theorem kK(m:MH key a b out na nb)(h0:∀x∈a.toList,key (b.getD 0 nn)≤key x)(e:nb=1):(b.extract 0 nb++a.extract 0 na++out.reverse).toList.Perm (a.toList++b.toList)∧bh key (b.extract 0 nb++a.extract 0 na++out.reverse).toList:=by
 obtain ⟨m,ha,hb⟩:=m;have:=m.done (rB sa) (rB sb) fun x hx y hy=>by
  rw [jH ha,j8] at hx;rw [jH hb,j8] at hy;obtain ⟨i,i1,i2,rfl⟩:=lN ha hx;obtain ⟨j,j1,j2,rfl⟩:=lN hb hy;have:=h0 (a.getD i nn) (by simp [Array.getD,show i<a.size by omega])
  rw [show j=0 by omega]
  omega
 rw [jH ha,jH hb] at this;have er:(b.extract 0 nb++a.extract 0 na++out.reverse).toList=(out.toList++(a.extract 0 na).toList.reverse++(b.extract 0 nb).toList.reverse).reverse:=by simp
 rw [er];refine ⟨(k_ _).trans (this.1.trans ?_),FO this.2⟩;exact (k_ _).append (k_ _)
end
section
variable {prog:Program} {w:World} {A:Around} {E:aM} {s:Shared} {κ:SortKind} {key:Keyed→Int} {Ok:Keyed→Prop}
theorem NH(h:i8 prog w A s κ key Ok){a b:Array Keyed}(oa:eQ Ok a)(ob:eQ Ok b)(sa:bh key a.toList)(sb:bh key b.toList)(a1:1≤a.size)(b1:1≤b.size)
  (h0:∀x∈a.toList,key (b.getD 0 nn)≤key x) (hl:∀y∈b.toList,key y≤key (a.getD (a.size-1) nn)) {st:SortSt} (hk:kindOf st=κ) {Q:Array Keyed→SortSt→Prop}
  (q:∀m g,m.toList.Perm (a.toList++b.toList)→bh key m.toList→Q m (setG st g)):wpS (model prog w) A E s (Bv a b) Q st:=by
 rw [NF];refine aq (wpS_lift (nU ⟨rfl,?_⟩));refine aq (bu (by omega) ?_)
 dsimp only;have m0:MH key a b (#[a.getD (a.size-1) nn]:Array Keyed) (a.size-1) b.size:=by
  have:MH key a b (#[]:Array Keyed) a.size b.size:=⟨⟨by simp,List.Pairwise.nil,fun x hx=>by simp at hx,fun x hx=>by simp at hx⟩,ax _,ax _⟩
  exact kJ sa sb this a1 fun j hj=>hl _ (by simp [Array.getD,hj])
 have fB:∀g,kindOf (setG st g)=κ:=fun _=>hk;by_cases e1:(a.size-1 == 0)=true
 ·rw [ae e1]
  have:=fR sa sb m0 (.inl (eq_of_beq e1));exact ao (q _ (gallopOf st) this.1 this.2)
 rw [aa e1];by_cases e2:(b.size == 1)=true
 ·rw [ae e2]
  have:=kK sa sb m0 h0 (eq_of_beq e2);exact ao (q _ (gallopOf st) this.1 this.2)
 rw [aa e2];have a2:1≤a.size-1:=by
  have:a.size-1≠0:=fun e=>e1 (by simp [e])
  omega
 have b2:2≤b.size:=by
  have:b.size≠1:=fun e=>e2 (by simp [e])
  omega
 refine aq (ic ?_)
 refine aq (fq (eX (I:=fun x c au=>∃(out:Array Keyed) (na nb mg g:Nat),c=(none,na,nb,out,mg)∧au=setG st g∧MH key a b out na nb∧1≤na∧2≤nb∧x+na+nb≤a.size+b.size)
  (Q:=fun c au=>∃(m:Array Keyed) (g:Nat),c.1=some m∧au=setG st g∧m.toList.Perm (a.toList++b.toList)∧bh key m.toList) ?_ ?_ ⟨_,a.size-1,b.size,_,gallopOf st,rfl,rfl,m0,a2,b2,show 0+(a.size-1)+b.size≤a.size+b.size by omega⟩) ?_)
 ·rintro x c au _ hx ⟨out,na,nb,mg,g,rfl,rfl,mi,ha,hb,oI⟩
  dsimp only
  refine aq (fq (eX (I:=fun y c au=>∃(out:Array Keyed) (bo cg ac bc:Nat),c=(none,bo,cg,out,ac,bc)∧au=setG st g∧MH key a b out bo cg∧1≤bo∧2≤cg∧y+bo+cg≤na+nb)
   (Q:=fun c au=>au=setG st g∧((∃m:Array Keyed,c.1=some m∧m.toList.Perm (a.toList++b.toList)∧bh key m.toList)∨∃(out:Array Keyed) (bo cg ac bc:Nat),c=(none,bo,cg,out,ac,bc)∧MH key a b out bo cg∧1≤bo∧2≤cg∧1+bo+cg≤na+nb)) ?_ ?_ ⟨_,na,nb,_,_,rfl,rfl,mi,ha,hb,show 0+na+nb≤na+nb by omega⟩) ?_)
  ·rintro y c au _ hy ⟨out,bo,cg,ac,bc,rfl,rfl,mi,ha,hb,gu⟩
   have NI:=mi.2.1;have oO:=mi.2.2;dsimp only;refine aq (bu (by omega) (aq (bu (by omega) (aq (vn h (ob (cg-1) (by omega)) (oa (bo-1) (by omega)) (fB _) ?_)))))
   dsimp only;by_cases z:key (b.getD (cg-1) nn)<key (a.getD (bo-1) nn)
   ·rw [a7 z,ae rfl]
    refine aq (bu (by omega) ?_)
    have gv:=kJ sa sb mi ha fun j hj=>cY (e_ sb (by omega) (by omega)) (cO z)
    by_cases z1:(bo-1 == 0)=true
    ·rw [ae z1]
     exact ao ⟨rfl,.inl ⟨_,rfl,fR sa sb gv (.inl (eq_of_beq z1))⟩⟩
    ·rw [aa z1]
     have rA:bo-1≠0:=fun e=>z1 (by simp [e])
     exact d9 (fun _=>ao ⟨rfl,.inr ⟨_,_,_,_,_,rfl,gv,by omega,hb,by omega⟩⟩) (fun _=>ao ⟨_,_,_,_,_,rfl,rfl,gv,by omega,hb,by omega⟩)
   ·rw [bt z,aa (by simp)]
    refine aq (bu (by omega) ?_)
    have gv:=vv sa sb mi (by omega) fun j hj=>cY (e_ sa (by omega) (by omega)) (Int.not_lt.mp z)
    by_cases z1:(cg-1 == 1)=true
    ·rw [ae z1]
     exact ao ⟨rfl,.inl ⟨_,rfl,kK sa sb gv h0 (eq_of_beq z1)⟩⟩
    ·rw [aa z1]
     have rA:cg-1≠1:=fun e=>z1 (by simp [e])
     exact d9 (fun _=>ao ⟨rfl,.inr ⟨_,_,_,_,_,rfl,gv,ha,by omega,by omega⟩⟩) (fun _=>ao ⟨_,_,_,_,_,rfl,rfl,gv,ha,by omega,by omega⟩)
  ·rintro c au ⟨out,bo,cg,ac,bc,rfl,rfl,mi,ha,hb,gu⟩
   exact ⟨rfl,.inr ⟨_,_,_,_,_,rfl,mi,ha,hb,by omega⟩⟩
  ·rintro c au ⟨rfl,⟨m,e,pm⟩ | ⟨out,bo,cg,ac,bc,rfl,mi,ha,hb,gu⟩⟩
   ·obtain ⟨c1,c2⟩:=c
    dsimp only at e;subst e;exact ao ⟨m,g,rfl,rfl,pm⟩
   ·dsimp only
    refine aq (wpS_lift (nU ⟨rfl,?_⟩))
    refine aq (fq (eX (I:=fun y c au=>∃(out:Array Keyed) (i j mg ac bc g:Nat),c=(none,i,j,out,mg,ac,bc)∧au=setG st g∧MH key a b out i j∧1≤i∧2≤j∧x+1+i+j≤a.size+b.size)
     (Q:=fun c au=>(∃(m:Array Keyed) (g:Nat),c.1=some m∧au=setG st g∧m.toList.Perm (a.toList++b.toList)∧bh key m.toList)∨∃(out:Array Keyed) (i j mg ac bc g:Nat),c=(none,i,j,out,mg,ac,bc)∧au=setG st g∧MH key a b out i j∧1≤i∧2≤j∧x+1+i+j≤a.size+b.size) ?_ ?_ ⟨_,bo,cg,_,_,_,g,rfl,rfl,mi,ha,hb,by omega⟩) ?_)
    ·clear mi ha hb gu
     rintro y c au _ hy ⟨out,na,nb,mg,ac,bc,g,rfl,rfl,mi,ha,hb,gu⟩;have NI:=mi.2.1;have oO:=mi.2.2;dsimp only;rcases Nat.lt_or_ge 1 mg with zm | zm
     ·rw [ae zm]
      refine aq (rp ?_);refine aq (bu (by omega) (aq (gW (f:=fun i=>bB false (key (b.getD (nb-1) nn)) (key (a.getD (0+i) nn))) (fun i hi Q q=>gU h (by omega) oa (ob _ (by omega)) (fB _) q) (by omega) (fun i j h1 h2 h3=>yo sa (o:=0) i j h1 (by omega) h3) fun k k1 k2 k3=>?_)))
      dsimp only;by_cases zk:na-k>0
      ·rw [ae zk]
       have gx:=BB sa sb mi (k:=k) k1 fun i j hi bg hj=>by have:=mW (k3 i hi bg);rw [dQ] at this;exact cY (e_ sb (by omega) (by omega)) (cO this)
       by_cases w1:(k == 0)=true
       ·rw [ae w1]
        exact ao (.inl ⟨_,_,rfl,rfl,fR sa sb gx (.inl (eq_of_beq w1))⟩)
       ·rw [aa w1]
        have BA:k≠0:=fun e=>w1 (by simp [e])
        refine aq (bu (by have:=gx.2.2;omega) ?_)
        have cu:=vv sa sb gx (by omega) fun j h1=>by have:=kI (k2 j h1);rw [dQ] at this;exact this
        by_cases x1:(nb-1 == 1)=true
        ·rw [ae x1]
         exact ao (.inl ⟨_,_,rfl,rfl,kK sa sb cu h0 (eq_of_beq x1)⟩)
        ·rw [aa x1]
         have oJ:nb-1≠1:=fun e=>x1 (by simp [e])
         have oO:=cu.2.2;refine aq (bu (by omega) (aq (gW (f:=fun i=>bB true (key (a.getD (k-1) nn)) (key (b.getD (0+i) nn))) (fun i hi Q q=>gU h (by omega) ob (oa _ (by omega)) (fB _) q) (by omega) (fun i j h1 h2 h3=>mX sb (o:=0) i j h1 (by omega) h3) fun k' q1 q2 q3=>?_)))
         dsimp only;by_cases dM:nb-1-k'>0
         ·rw [ae dM]
          have df:=vt sa sb cu (k:=k') q1 fun i j hi bg hj=>by have:=gX (q3 i hi bg);rw [dQ] at this;exact cY (e_ sa (by omega) (by omega)) this
          by_cases x2:(k' == 1)=true
          ·rw [ae x2]
           exact ao (.inl ⟨_,_,rfl,rfl,kK sa sb df h0 (eq_of_beq x2)⟩)
          ·rw [aa x2]
           have oK:k'≠1:=fun e=>x2 (by simp [e])
           by_cases x3:(k' == 0)=true
           ·rw [ae x3]
            exact ao (.inl ⟨_,_,rfl,rfl,fR sa sb df (.inr (eq_of_beq x3))⟩)
           ·rw [aa x3]
            have BC:k'≠0:=fun e=>x3 (by simp [e])
            refine aq (bu (by omega) ?_)
            have aR:=kJ sa sb df (by omega) fun j h1=>by have:=gq (q2 j h1);rw [dQ] at this;exact cO this
            by_cases y1:(k-1 == 0)=true
            ·rw [ae y1]
             exact ao (.inl ⟨_,_,rfl,rfl,fR sa sb aR (.inl (eq_of_beq y1))⟩)
            ·rw [aa y1]
             have gy:k-1≠0:=fun e=>y1 (by simp [e])
             exact d9 (fun _=>ao (.inr ⟨_,_,_,_,_,_,_,rfl,rfl,aR,by omega,by omega,by omega⟩)) (fun _=>ao ⟨_,_,_,_,_,_,_,rfl,rfl,aR,by omega,by omega,by omega⟩)
         ·rw [aa dM]
          obtain rfl:k'=nb-1:=by omega
          refine aq (bu (by omega) ?_)
          have aR:=kJ sa sb cu (by omega) fun j h1=>by have:=gq (q2 j h1);rw [dQ] at this;exact cO this
          by_cases y1:(k-1 == 0)=true
          ·rw [ae y1]
           exact ao (.inl ⟨_,_,rfl,rfl,fR sa sb aR (.inl (eq_of_beq y1))⟩)
          ·rw [aa y1]
           have gy:k-1≠0:=fun e=>y1 (by simp [e])
           exact d9 (fun _=>ao (.inr ⟨_,_,_,_,_,_,_,rfl,rfl,aR,by omega,by omega,by omega⟩)) (fun _=>ao ⟨_,_,_,_,_,_,_,rfl,rfl,aR,by omega,by omega,by omega⟩)
      ·rw [aa zk]
       obtain rfl:k=na:=by omega
       refine aq (bu (by have:=mi.2.2;omega) ?_)
       have cu:=vv sa sb mi (by omega) fun j h1=>by have:=kI (k2 j h1);rw [dQ] at this;exact this
       by_cases x1:(nb-1 == 1)=true
       ·rw [ae x1]
        exact ao (.inl ⟨_,_,rfl,rfl,kK sa sb cu h0 (eq_of_beq x1)⟩)
       ·rw [aa x1]
        have oJ:nb-1≠1:=fun e=>x1 (by simp [e])
        have oO:=cu.2.2;refine aq (bu (by omega) (aq (gW (f:=fun i=>bB true (key (a.getD (k-1) nn)) (key (b.getD (0+i) nn))) (fun i hi Q q=>gU h (by omega) ob (oa _ (by omega)) (fB _) q) (by omega) (fun i j h1 h2 h3=>mX sb (o:=0) i j h1 (by omega) h3) fun k' q1 q2 q3=>?_)))
        dsimp only;by_cases dM:nb-1-k'>0
        ·rw [ae dM]
         have df:=vt sa sb cu (k:=k') q1 fun i j hi bg hj=>by have:=gX (q3 i hi bg);rw [dQ] at this;exact cY (e_ sa (by omega) (by omega)) this
         by_cases x2:(k' == 1)=true
         ·rw [ae x2]
          exact ao (.inl ⟨_,_,rfl,rfl,kK sa sb df h0 (eq_of_beq x2)⟩)
         ·rw [aa x2]
          have oK:k'≠1:=fun e=>x2 (by simp [e])
          by_cases x3:(k' == 0)=true
          ·rw [ae x3]
           exact ao (.inl ⟨_,_,rfl,rfl,fR sa sb df (.inr (eq_of_beq x3))⟩)
          ·rw [aa x3]
           have BC:k'≠0:=fun e=>x3 (by simp [e])
           refine aq (bu (by omega) ?_)
           have aR:=kJ sa sb df (by omega) fun j h1=>by have:=gq (q2 j h1);rw [dQ] at this;exact cO this
           by_cases y1:(k-1 == 0)=true
           ·rw [ae y1]
            exact ao (.inl ⟨_,_,rfl,rfl,fR sa sb aR (.inl (eq_of_beq y1))⟩)
           ·rw [aa y1]
            have gy:k-1≠0:=fun e=>y1 (by simp [e])
            exact d9 (fun _=>ao (.inr ⟨_,_,_,_,_,_,_,rfl,rfl,aR,by omega,by omega,by omega⟩)) (fun _=>ao ⟨_,_,_,_,_,_,_,rfl,rfl,aR,by omega,by omega,by omega⟩)
        ·rw [aa dM]
         obtain rfl:k'=nb-1:=by omega
         refine aq (bu (by omega) ?_)
         have aR:=kJ sa sb cu (by omega) fun j h1=>by have:=gq (q2 j h1);rw [dQ] at this;exact cO this
         by_cases y1:(k-1 == 0)=true
         ·rw [ae y1]
          exact ao (.inl ⟨_,_,rfl,rfl,fR sa sb aR (.inl (eq_of_beq y1))⟩)
         ·rw [aa y1]
          have gy:k-1≠0:=fun e=>y1 (by simp [e])
          exact d9 (fun _=>ao (.inr ⟨_,_,_,_,_,_,_,rfl,rfl,aR,by omega,by omega,by omega⟩)) (fun _=>ao ⟨_,_,_,_,_,_,_,rfl,rfl,aR,by omega,by omega,by omega⟩)
     ·rw [aa (by omega)]
      refine aq (rp ?_);refine aq (bu (by omega) (aq (gW (f:=fun i=>bB false (key (b.getD (nb-1) nn)) (key (a.getD (0+i) nn))) (fun i hi Q q=>gU h (by omega) oa (ob _ (by omega)) (fB _) q) (by omega) (fun i j h1 h2 h3=>yo sa (o:=0) i j h1 (by omega) h3) fun k k1 k2 k3=>?_)))
      dsimp only;by_cases zk:na-k>0
      ·rw [ae zk]
       have gx:=BB sa sb mi (k:=k) k1 fun i j hi bg hj=>by have:=mW (k3 i hi bg);rw [dQ] at this;exact cY (e_ sb (by omega) (by omega)) (cO this)
       by_cases w1:(k == 0)=true
       ·rw [ae w1]
        exact ao (.inl ⟨_,_,rfl,rfl,fR sa sb gx (.inl (eq_of_beq w1))⟩)
       ·rw [aa w1]
        have BA:k≠0:=fun e=>w1 (by simp [e])
        refine aq (bu (by have:=gx.2.2;omega) ?_)
        have cu:=vv sa sb gx (by omega) fun j h1=>by have:=kI (k2 j h1);rw [dQ] at this;exact this
        by_cases x1:(nb-1 == 1)=true
        ·rw [ae x1]
         exact ao (.inl ⟨_,_,rfl,rfl,kK sa sb cu h0 (eq_of_beq x1)⟩)
        ·rw [aa x1]
         have oJ:nb-1≠1:=fun e=>x1 (by simp [e])
         have oO:=cu.2.2;refine aq (bu (by omega) (aq (gW (f:=fun i=>bB true (key (a.getD (k-1) nn)) (key (b.getD (0+i) nn))) (fun i hi Q q=>gU h (by omega) ob (oa _ (by omega)) (fB _) q) (by omega) (fun i j h1 h2 h3=>mX sb (o:=0) i j h1 (by omega) h3) fun k' q1 q2 q3=>?_)))
         dsimp only;by_cases dM:nb-1-k'>0
         ·rw [ae dM]
          have df:=vt sa sb cu (k:=k') q1 fun i j hi bg hj=>by have:=gX (q3 i hi bg);rw [dQ] at this;exact cY (e_ sa (by omega) (by omega)) this
          by_cases x2:(k' == 1)=true
          ·rw [ae x2]
           exact ao (.inl ⟨_,_,rfl,rfl,kK sa sb df h0 (eq_of_beq x2)⟩)
          ·rw [aa x2]
           have oK:k'≠1:=fun e=>x2 (by simp [e])
           by_cases x3:(k' == 0)=true
           ·rw [ae x3]
            exact ao (.inl ⟨_,_,rfl,rfl,fR sa sb df (.inr (eq_of_beq x3))⟩)
           ·rw [aa x3]
            have BC:k'≠0:=fun e=>x3 (by simp [e])
            refine aq (bu (by omega) ?_)
            have aR:=kJ sa sb df (by omega) fun j h1=>by have:=gq (q2 j h1);rw [dQ] at this;exact cO this
            by_cases y1:(k-1 == 0)=true
            ·rw [ae y1]
             exact ao (.inl ⟨_,_,rfl,rfl,fR sa sb aR (.inl (eq_of_beq y1))⟩)
            ·rw [aa y1]
             have gy:k-1≠0:=fun e=>y1 (by simp [e])
             exact d9 (fun _=>ao (.inr ⟨_,_,_,_,_,_,_,rfl,rfl,aR,by omega,by omega,by omega⟩)) (fun _=>ao ⟨_,_,_,_,_,_,_,rfl,rfl,aR,by omega,by omega,by omega⟩)
         ·rw [aa dM]
          obtain rfl:k'=nb-1:=by omega
          refine aq (bu (by omega) ?_)
          have aR:=kJ sa sb cu (by omega) fun j h1=>by have:=gq (q2 j h1);rw [dQ] at this;exact cO this
          by_cases y1:(k-1 == 0)=true
          ·rw [ae y1]
           exact ao (.inl ⟨_,_,rfl,rfl,fR sa sb aR (.inl (eq_of_beq y1))⟩)
          ·rw [aa y1]
           have gy:k-1≠0:=fun e=>y1 (by simp [e])
           exact d9 (fun _=>ao (.inr ⟨_,_,_,_,_,_,_,rfl,rfl,aR,by omega,by omega,by omega⟩)) (fun _=>ao ⟨_,_,_,_,_,_,_,rfl,rfl,aR,by omega,by omega,by omega⟩)
      ·rw [aa zk]
       obtain rfl:k=na:=by omega
       refine aq (bu (by have:=mi.2.2;omega) ?_)
       have cu:=vv sa sb mi (by omega) fun j h1=>by have:=kI (k2 j h1);rw [dQ] at this;exact this
       by_cases x1:(nb-1 == 1)=true
       ·rw [ae x1]
        exact ao (.inl ⟨_,_,rfl,rfl,kK sa sb cu h0 (eq_of_beq x1)⟩)
       ·rw [aa x1]
        have oJ:nb-1≠1:=fun e=>x1 (by simp [e])
        have oO:=cu.2.2;refine aq (bu (by omega) (aq (gW (f:=fun i=>bB true (key (a.getD (k-1) nn)) (key (b.getD (0+i) nn))) (fun i hi Q q=>gU h (by omega) ob (oa _ (by omega)) (fB _) q) (by omega) (fun i j h1 h2 h3=>mX sb (o:=0) i j h1 (by omega) h3) fun k' q1 q2 q3=>?_)))
        dsimp only;by_cases dM:nb-1-k'>0
        ·rw [ae dM]
         have df:=vt sa sb cu (k:=k') q1 fun i j hi bg hj=>by have:=gX (q3 i hi bg);rw [dQ] at this;exact cY (e_ sa (by omega) (by omega)) this
         by_cases x2:(k' == 1)=true
         ·rw [ae x2]
          exact ao (.inl ⟨_,_,rfl,rfl,kK sa sb df h0 (eq_of_beq x2)⟩)
         ·rw [aa x2]
          have oK:k'≠1:=fun e=>x2 (by simp [e])
          by_cases x3:(k' == 0)=true
          ·rw [ae x3]
           exact ao (.inl ⟨_,_,rfl,rfl,fR sa sb df (.inr (eq_of_beq x3))⟩)
          ·rw [aa x3]
           have BC:k'≠0:=fun e=>x3 (by simp [e])
           refine aq (bu (by omega) ?_)
           have aR:=kJ sa sb df (by omega) fun j h1=>by have:=gq (q2 j h1);rw [dQ] at this;exact cO this
           by_cases y1:(k-1 == 0)=true
           ·rw [ae y1]
            exact ao (.inl ⟨_,_,rfl,rfl,fR sa sb aR (.inl (eq_of_beq y1))⟩)
           ·rw [aa y1]
            have gy:k-1≠0:=fun e=>y1 (by simp [e])
            exact d9 (fun _=>ao (.inr ⟨_,_,_,_,_,_,_,rfl,rfl,aR,by omega,by omega,by omega⟩)) (fun _=>ao ⟨_,_,_,_,_,_,_,rfl,rfl,aR,by omega,by omega,by omega⟩)
        ·rw [aa dM]
         obtain rfl:k'=nb-1:=by omega
         refine aq (bu (by omega) ?_)
         have aR:=kJ sa sb cu (by omega) fun j h1=>by have:=gq (q2 j h1);rw [dQ] at this;exact cO this
         by_cases y1:(k-1 == 0)=true
         ·rw [ae y1]
          exact ao (.inl ⟨_,_,rfl,rfl,fR sa sb aR (.inl (eq_of_beq y1))⟩)
         ·rw [aa y1]
          have gy:k-1≠0:=fun e=>y1 (by simp [e])
          exact d9 (fun _=>ao (.inr ⟨_,_,_,_,_,_,_,rfl,rfl,aR,by omega,by omega,by omega⟩)) (fun _=>ao ⟨_,_,_,_,_,_,_,rfl,rfl,aR,by omega,by omega,by omega⟩)
    ·rintro c au ⟨out,i,j,mg,ac,bc,g,rfl,rfl,mi,ha,hb,gu⟩
     exact .inr ⟨_,_,_,_,_,_,_,rfl,rfl,mi,ha,hb,gu⟩
    ·rintro c au (⟨m,g,e,rfl,pm⟩ | ⟨out,i,j,mg,ac,bc,g,rfl,rfl,mi,ha,hb,gu⟩)
     ·obtain ⟨c1,c2⟩:=c
      dsimp only at e;subst e;exact ao ⟨m,g,rfl,rfl,pm⟩
     ·dsimp only
      exact aq (rp (ao ⟨_,_,_,_,_,rfl,rfl,mi,ha,hb,by omega⟩))
 ·rintro c au ⟨out,ia,ib,mg,g,rfl,rfl,mi,ha,hb,oI⟩
  exfalso
  omega
 ·rintro c au ⟨m,g,e,rfl,pm,sm⟩
  obtain ⟨c1,c2⟩:=c;dsimp only at e;subst e;exact ao (q m g pm sm)
end
section
variable {prog:Program} {w:World} {A:Around} {E:aM} {s:Shared} {κ:SortKind} {key:Keyed→Int} {Ok:Keyed→Prop}
def vA(key:Keyed→Int)(arr:Array Keyed)(i:Nat):Int:=key (arr.getD i nn)
def cI(key:Keyed→Int)(arr:Array Keyed)(lo hi:Nat):Prop:=∀i j,lo≤i→i≤j→j<hi→vA key arr i≤vA key arr j
def jb(key:Keyed→Int)(arr:Array Keyed)(lo hi:Nat):Prop:=∀i j,lo≤i→i≤j→j<hi→vA key arr j≤vA key arr i
structure Rl (arr aQ:Array Keyed) (lo hi:Nat):Prop where
 pm:aQ.Perm arr
 out:∀k,k<lo∨hi≤k→aQ[k]?=arr[k]?
theorem Rl.refl(arr:Array Keyed)(lo hi:Nat):Rl arr arr lo hi:=⟨Array.Perm.refl _,fun _ _=>rfl⟩
variable {arr aQ:Array Keyed} {lo hi:Nat}
theorem Rl.trans{aE:Array Keyed}(h:Rl arr aQ lo hi)(h':Rl aQ aE lo hi):Rl arr aE lo hi:=⟨h'.pm.trans h.pm,fun k hk=>(h'.out k hk).trans (h.out k hk)⟩
theorem Rl.size(h:Rl arr aQ lo hi):aQ.size=arr.size:=h.pm.size_eq
theorem Rl.wide{FQ bg:Nat}(h:Rl arr aQ lo hi)(h1:FQ≤lo)(h2:hi≤bg):Rl arr aQ FQ bg:=⟨h.pm,fun k hk=>h.out k (by omega)⟩
theorem jI(arr:Array Keyed)(i:Nat):arr.getD i nn=arr[i]?.getD nn:=by by_cases z:i<arr.size <;> simp [Array.getD,z]
variable {k:Nat}
theorem Rl.v(h:Rl arr aQ lo hi)(hk:k<lo∨hi≤k):vA key aQ k=vA key arr k:=by unfold vA;rw [jI,jI,h.out k hk]
theorem rC(h:eQ Ok arr)(p:aQ.Perm arr):eQ Ok aQ:=fun i hi=>by
 have e:aQ.getD i nn=aQ[i]:=by simp [Array.getD,hi]
 rw [e];have m:aQ[i]∈arr:=(Array.Perm.mem_iff p).mp (Array.getElem_mem hi);obtain ⟨j,hj,ej⟩:=Array.getElem_of_mem m;rw [←ej];have:=h j hj;simpa [Array.getD,hj] using this
theorem Rl.ok(h:Rl arr aQ lo hi)(ok:eQ Ok arr):eQ Ok aQ:=rC ok h.pm
theorem jJ(hj:j≤arr.size):Rl arr (mirror arr i j ((j-i) / 2)) i j:=⟨mirror_perm ..,fun k hk=>by rw [getElem?_mirror_all hj,aa (by omega)]⟩
theorem yt(hj:j≤arr.size)(h1:i≤k)(h2:k<j):vA key (mirror arr i j ((j-i) / 2)) k=vA key arr (i+j-1-k):=by unfold vA;rw [jI,jI,getElem?_mirror_all hj,ae ⟨h1,h2⟩]
abbrev aZ (κ:SortKind) (arr:Array Keyed) (pend:Array (Nat×Nat×Nat)) (g:Nat):SortSt:=SortSt.mk' κ arr pend g none
variable {arr:Array Keyed} {pend:Array (Nat×Nat×Nat)} {g:Nat}
theorem jK(h:i8 prog w A s κ key Ok)(ok:eQ Ok arr)(hi:i<arr.size)(hj:j<arr.size){Q:Option Bool→SortSt→Prop}(q:Q (some (decide (vA key arr i<vA key arr j))) (aZ κ arr pend g)):wpS (model prog w) A E s (ltAt' i j) Q (aZ κ arr pend g):=by rw [ltAt'_eq];refine aq (ic ?_);exact aq (bu hi (aq (bu hj (vn h (ok _ hi) (ok _ hj) rfl q))))
theorem lO{Q:Unit→SortSt→Prop}(q:Q () (aZ κ (mirror arr i j ((j-i) / 2)) pend g)):wpS (model prog w) A E s (reverseSlice' i j) Q (aZ κ arr pend g):=by rw [reverseSlice'_eq];exact jr q
variable {n:Nat}
theorem cI.more(h:cI key arr lo (lo+n))(n1:1≤n)(c:vA key arr (lo+n-1)≤vA key arr (lo+n)):cI key arr lo (lo+(n+1)):=fun i j h1 h2 h3=>by
 by_cases z:j<lo+n;·exact h i j h1 h2 z
 ·obtain rfl:j=lo+n:=by omega
  by_cases y:i=lo+n;·rw [y];exact k8 _
  ·exact cY (h i (lo+n-1) h1 (by omega) (by omega)) c
theorem jb.more(h:jb key arr lo (lo+n))(n1:1≤n)(c:vA key arr (lo+n)≤vA key arr (lo+n-1)):jb key arr lo (lo+(n+1)):=fun i j h1 h2 h3=>by
 by_cases z:j<lo+n;·exact h i j h1 h2 z
 ·obtain rfl:j=lo+n:=by omega
  by_cases y:i=lo+n;·rw [y];exact k8 _
  ·exact cY c (h i (lo+n-1) h1 (by omega) (by omega))
def vw(key:Keyed→Int)(arr:Array Keyed)(lo n q:Nat):Prop:=q+1≤n∧∀i,lo+n-(q+1)≤i→i<lo+n→vA key arr i=vA key arr (lo+n-1)
theorem yu{q:Nat}(hz:lo+n≤arr.size)(d:jb key arr lo (lo+n))(e:vw key arr lo n q):jb key (mirror arr (lo+n-(q+1)) (lo+n) ((lo+n-(lo+n-(q+1))) / 2)) lo (lo+n)∧∀k,vA key (mirror arr (lo+n-(q+1)) (lo+n) ((lo+n-(lo+n-(q+1))) / 2)) k=vA key arr k:=by
 have hv:∀k,vA key (mirror arr (lo+n-(q+1)) (lo+n) ((lo+n-(lo+n-(q+1))) / 2)) k=vA key arr k:=fun k=>by
  by_cases z:lo+n-(q+1)≤k∧k<lo+n;·rw [yt hz z.1 z.2,e.2 _ (by have:=e.1;omega) (by omega),e.2 k z.1 z.2]
  ·exact (jJ hz).v (by omega)
 refine ⟨fun i j h1 h2 h3=>?_,hv⟩;rw [hv,hv];exact d i j h1 h2 h3
theorem yw(hz:lo+n≤arr.size)(d:jb key arr lo (lo+n)):cI key (mirror arr lo (lo+n) ((lo+n-lo) / 2)) lo (lo+n):=fun i j h1 h2 h3=>by
 rw [yt hz h1 (by omega),yt hz (by omega) h3]
 exact d _ _ (by omega) (by omega) (by omega)
end
section
variable {prog:Program} {w:World} {A:Around} {E:aM} {s:Shared} {κ:SortKind} {key:Keyed→Int} {Ok:Keyed→Prop} {arr:Array Keyed} {pend:Array (Nat×Nat×Nat)} {g:Nat}
variable {lo cw:Nat}
theorem vy(h:i8 prog w A s κ key Ok)(ok:eQ Ok arr){m:Nat}(hz:lo+cw≤arr.size)(m1:1≤m)(mn:m≤cw)(sg:cI key arr lo (lo+m)){body:Nat→Option (Option Nat)×Nat→StateT SortSt Sem (ForInStep (Option (Option Nat)×Nat))}{R:Option (Option Nat)×Nat→SortSt→Prop}
  (hb:∀x n (R:ForInStep (Option (Option Nat)×Nat)→SortSt→Prop),1≤n→n<cw→R (if vA key arr (lo+n)<vA key arr (lo+n-1) then .done (none,n) else .yield (none,n+1)) (aZ κ arr pend g)→wpS (model prog w) A E s (body x (none,n)) R (aZ κ arr pend g))
  (k:∀n,m≤n→n≤cw→cI key arr lo (lo+n)→(n<cw→vA key arr (lo+n)<vA key arr (lo+n-1))→R (none,n) (aZ κ arr pend g)) :
  wpS (model prog w) A E s (forIn [m:cw] (none,m) body) R (aZ κ arr pend g):=by
 refine eX (I:=fun x c au=>au=aZ κ arr pend g∧c=(none,x)∧m≤x∧x≤cw∧cI key arr lo (lo+x)) ?_ ?_ ⟨rfl,rfl,ax _,mn,sg⟩
 ·rintro x c au _ hx ⟨rfl,rfl,g1,g2,g3⟩
  refine hb x x _ (by omega) hx ?_
  by_cases z:vA key arr (lo+x)<vA key arr (lo+x-1)
  ·rw [ae z]
   exact k x g1 g2 g3 fun _=>z
  ·rw [aa z]
   exact ⟨rfl,rfl,by omega,by omega,g3.more (by omega) (Int.not_lt.mp z)⟩
 ·rintro c au ⟨rfl,rfl,g1,g2,g3⟩
  have e:max m cw=cw:=by omega
  rw [e] at g3 ⊢;exact k cw mn (ax _) g3 fun z=>absurd z (eG _)
theorem NJ(h:i8 prog w A s κ key Ok)(ok:eQ Ok arr)(hz:lo+cw≤arr.size)(n1:1≤cw){Q:Option Nat→SortSt→Prop}
  (k:∀n aQ,1≤n→n≤cw→Rl arr aQ lo (lo+cw)→cI key aQ lo (lo+n)→Q (some n) (aZ κ aQ pend g)):wpS (model prog w) A E s (countRun' lo cw) Q (aZ κ arr pend g):=by
 rw [countRun'_eq];refine aq (vy h ok hz (ax 1) n1 (fun i j h1 h2 h3=>by rw [show i=j by omega];exact k8 _) ?_ fun n m1 mn sg br=>?_)
 ·intro x n R a1 a2 r
  dsimp only;refine aq (jK h ok (by omega) (by omega) ?_)
  dsimp only;by_cases z:vA key arr (lo+n)<vA key arr (lo+n-1)
  ·rw [ae z] at r
   rw [a7 z,ae rfl];exact ao r
  ·rw [aa z] at r
   rw [bt z,aa (by simp)]
   exact ao r
 dsimp only;by_cases e1:(n == cw)=true
 ·rw [ae e1]
  exact ao (k n arr m1 mn (Rl.refl ..) sg)
 rw [aa e1];have a_:n<cw:=by
  have:n≠cw:=fun e=>e1 (by simp [e])
  omega
 have FR:=br a_;by_cases e2:n>1
 ·rw [ae e2]
  refine aq (jK h ok (by omega) (by omega) ?_)
  dsimp only;by_cases z:vA key arr lo<vA key arr (lo+n-1)
  ·rw [a7 z,ae rfl]
   exact ao (k n arr m1 mn (Rl.refl ..) sg)
  ·rw [bt z,aa (by simp)]
   refine aq (lO ?_);have ev:∀i,lo≤i→i<lo+n→vA key arr i=vA key arr (lo+n-1):=fun i h1 h2=>by
    have a1:=sg lo i (ax _) h1 h2;have a2:=sg i (lo+n-1) h1 (by omega) (by omega)
    omega
   have hv:∀i,vA key (mirror arr lo (lo+n) ((lo+n-lo) / 2)) i=vA key arr i:=fun i=>by
    by_cases y:lo≤i∧i<lo+n;·rw [yt (by omega) y.1 y.2,ev _ (by omega) (by omega),ev i y.1 y.2]
    ·exact (jJ (by omega)).v (by omega)
   have d1:jb key (mirror arr lo (lo+n) ((lo+n-lo) / 2)) lo (lo+n):=fun i j h1 h2 h3=>by
    rw [hv,hv,ev i h1 (by omega),ev j (by omega) h3]
    exact k8 _
   have yy:Rl arr (mirror arr lo (lo+n) ((lo+n-lo) / 2)) lo (lo+cw):=(jJ (by omega)).wide (ax _) (by omega)
   have FT:vA key (mirror arr lo (lo+n) ((lo+n-lo) / 2)) (lo+n)<vA key (mirror arr lo (lo+n) ((lo+n-lo) / 2)) (lo+n-1):=by rw [hv,hv];exact FR
   generalize mirror arr lo (lo+n) ((lo+n-lo) / 2)=NK at d1 yy FT ⊢;refine aq (wpS_lift (nU ⟨rfl,?_⟩))
   refine aq (fq (eX (I:=fun x c au=>∃(aE:Array Keyed) (q:Nat),au=aZ κ aE pend g∧c=(none,x,q)∧Rl arr aE lo (lo+cw)∧jb key aE lo (lo+x)∧vw key aE lo x q∧x≤cw∧1≤x)
    (Q:=fun c au=>∃(aE:Array Keyed) (n q:Nat),au=aZ κ aE pend g∧c=(none,n,q)∧Rl arr aE lo (lo+cw)∧jb key aE lo (lo+n)∧vw key aE lo n q∧n≤cw∧1≤n) ?_ ?_ ⟨NK,0,rfl,rfl,yy,d1.more (by omega) (cO FT),⟨by omega,fun i h1 h2=>by rw [show i=lo+(n+1)-1 by omega]⟩,by omega,by omega⟩) ?_)
   ·rintro x c au _ hx ⟨aE,q,rfl,rfl,dB,d2,e2,x1,x2⟩
    have jc:=dB.ok ok;have z2:=dB.size;dsimp only;refine aq (jK h jc (by omega) (by omega) ?_)
    dsimp only;by_cases z:vA key aE (lo+x)<vA key aE (lo+x-1)
    ·rw [a7 z,ae rfl]
     by_cases y:q>0
     ·rw [ae y]
      refine aq (lO (ao ?_));obtain ⟨d3,hv⟩:=yu (by omega) d2 e2
      refine ⟨_,0,rfl,rfl,dB.trans ((jJ (by omega)).wide (by have:=e2.1;omega) (by omega)),d3.more (by omega) (by rw [hv,hv];exact cO z),⟨by omega,fun i h1 h2=>by rw [show i=lo+(x+1)-1 by omega]⟩,by omega,by omega⟩
     ·rw [aa y]
      exact ao ⟨_,0,rfl,rfl,dB,d2.more (by omega) (cO z),⟨by omega,fun i h1 h2=>by rw [show i=lo+(x+1)-1 by omega]⟩,by omega,by omega⟩
    ·rw [bt z,aa (by simp)]
     refine aq (jK h jc (by omega) (by omega) ?_)
     dsimp only;by_cases y:vA key aE (lo+x-1)<vA key aE (lo+x)
     ·rw [a7 y,ae rfl]
      exact ao ⟨_,_,_,rfl,rfl,dB,d2,e2,x1,x2⟩
     ·rw [bt y,aa (by simp)]
      have ev:vA key aE (lo+x)=vA key aE (lo+x-1):=by omega
      refine ao ⟨_,_,rfl,rfl,dB,d2.more (by omega) (by omega),⟨by have:=e2.1;omega,fun i h1 h2=>?_⟩,by omega,by omega⟩
      rw [show lo+(x+1)-1=lo+x by omega]
      by_cases w:i=lo+x;·rw [w]
      ·rw [ev]
       exact e2.2 i (by omega) (by omega)
   ·rintro c au ⟨aE,q,rfl,rfl,dB,d2,e2,x1,x2⟩
    exact ⟨aE,_,q,rfl,rfl,dB,d2,e2,x1,x2⟩
   ·rintro c au ⟨aE,n2,q2,rfl,rfl,dB,d2,e2,x1,x2⟩
    have z2:=dB.size;dsimp only;by_cases y:q2>0
    ·rw [ae y]
     obtain ⟨d3,hv⟩:=yu (by omega) d2 e2
     refine aq (lO (aq (lO ?_)));have jL:=dB.trans ((jJ (arr:=aE) (i:=lo+n2-(q2+1)) (j:=lo+n2) (by omega)).wide (by have:=e2.1;omega) (show lo+n2≤lo+cw by omega))
     generalize mirror aE (lo+n2-(q2+1)) (lo+n2) _=cB at d3 jL ⊢;have z3:=jL.size;have fC:=yw (by omega) d3
     have bI:=jL.trans ((jJ (arr:=cB) (i:=lo) (j:=lo+n2) (by omega)).wide (ax lo) (show lo+n2≤lo+cw by omega))
     generalize mirror cB lo (lo+n2) _=aS at fC bI ⊢;have jM:=Rl.ok bI ok;have z4:=Rl.size bI;refine aq (vy h jM (by omega) (by omega) (by omega) fC ?_ fun m m1 mn oP _=>ao (k m aS (by omega) mn bI oP))
     intro x n R a1 a2 r;dsimp only;refine aq (jK h jM (by omega) (by omega) ?_)
     dsimp only;by_cases z:vA key aS (lo+n)<vA key aS (lo+n-1)
     ·rw [ae z] at r
      rw [a7 z,ae rfl];exact ao r
     ·rw [aa z] at r
      rw [bt z,aa (by simp)]
      exact ao r
    ·rw [aa y]
     refine aq (lO ?_);have fC:=yw (by omega) d2
     have bI:=dB.trans ((jJ (arr:=aE) (i:=lo) (j:=lo+n2) (by omega)).wide (ax lo) (show lo+n2≤lo+cw by omega))
     generalize mirror aE lo (lo+n2) _=aS at fC bI ⊢;have jM:=Rl.ok bI ok;have z4:=Rl.size bI;refine aq (vy h jM (by omega) (by omega) (by omega) fC ?_ fun m m1 mn oP _=>ao (k m aS (by omega) mn bI oP))
     intro x n R a1 a2 r;dsimp only;refine aq (jK h jM (by omega) (by omega) ?_)
     dsimp only;by_cases z:vA key aS (lo+n)<vA key aS (lo+n-1)
     ·rw [ae z] at r
      rw [a7 z,ae rfl];exact ao r
     ·rw [aa z] at r
      rw [bt z,aa (by simp)]
      exact ao r
 ·rw [aa e2]
  have d1:jb key arr lo (lo+n):=fun i j h1 h2 h3=>by
   rw [show i=j by omega]
   exact k8 _
  have yy:Rl arr arr lo (lo+cw):=Rl.refl ..;refine aq (wpS_lift (nU ⟨rfl,?_⟩))
  refine aq (fq (eX (I:=fun x c au=>∃(aE:Array Keyed) (q:Nat),au=aZ κ aE pend g∧c=(none,x,q)∧Rl arr aE lo (lo+cw)∧jb key aE lo (lo+x)∧vw key aE lo x q∧x≤cw∧1≤x)
   (Q:=fun c au=>∃(aE:Array Keyed) (n q:Nat),au=aZ κ aE pend g∧c=(none,n,q)∧Rl arr aE lo (lo+cw)∧jb key aE lo (lo+n)∧vw key aE lo n q∧n≤cw∧1≤n) ?_ ?_ ⟨arr,0,rfl,rfl,yy,d1.more (by omega) (cO FR),⟨by omega,fun i h1 h2=>by rw [show i=lo+(n+1)-1 by omega]⟩,by omega,by omega⟩) ?_)
  ·rintro x c au _ hx ⟨aE,q,rfl,rfl,dB,d2,e2,x1,x2⟩
   have jc:=dB.ok ok;have z2:=dB.size;dsimp only;refine aq (jK h jc (by omega) (by omega) ?_)
   dsimp only;by_cases z:vA key aE (lo+x)<vA key aE (lo+x-1)
   ·rw [a7 z,ae rfl]
    by_cases y:q>0
    ·rw [ae y]
     refine aq (lO (ao ?_));obtain ⟨d3,hv⟩:=yu (by omega) d2 e2
     refine ⟨_,0,rfl,rfl,dB.trans ((jJ (by omega)).wide (by have:=e2.1;omega) (by omega)),d3.more (by omega) (by rw [hv,hv];exact cO z),⟨by omega,fun i h1 h2=>by rw [show i=lo+(x+1)-1 by omega]⟩,by omega,by omega⟩
    ·rw [aa y]
     exact ao ⟨_,0,rfl,rfl,dB,d2.more (by omega) (cO z),⟨by omega,fun i h1 h2=>by rw [show i=lo+(x+1)-1 by omega]⟩,by omega,by omega⟩
   ·rw [bt z,aa (by simp)]
    refine aq (jK h jc (by omega) (by omega) ?_)
    dsimp only;by_cases y:vA key aE (lo+x-1)<vA key aE (lo+x)
    ·rw [a7 y,ae rfl]
     exact ao ⟨_,_,_,rfl,rfl,dB,d2,e2,x1,x2⟩
    ·rw [bt y,aa (by simp)]
     have ev:vA key aE (lo+x)=vA key aE (lo+x-1):=by omega
     refine ao ⟨_,_,rfl,rfl,dB,d2.more (by omega) (by omega),⟨by have:=e2.1;omega,fun i h1 h2=>?_⟩,by omega,by omega⟩
     rw [show lo+(x+1)-1=lo+x by omega]
     by_cases w:i=lo+x;·rw [w]
     ·rw [ev]
      exact e2.2 i (by omega) (by omega)
  ·rintro c au ⟨aE,q,rfl,rfl,dB,d2,e2,x1,x2⟩
   exact ⟨aE,_,q,rfl,rfl,dB,d2,e2,x1,x2⟩
  ·rintro c au ⟨aE,n2,q2,rfl,rfl,dB,d2,e2,x1,x2⟩
   have z2:=dB.size;dsimp only;by_cases y:q2>0
   ·rw [ae y]
    obtain ⟨d3,hv⟩:=yu (by omega) d2 e2
    refine aq (lO (aq (lO ?_)));have jL:=dB.trans ((jJ (arr:=aE) (i:=lo+n2-(q2+1)) (j:=lo+n2) (by omega)).wide (by have:=e2.1;omega) (show lo+n2≤lo+cw by omega))
    generalize mirror aE (lo+n2-(q2+1)) (lo+n2) _=cB at d3 jL ⊢;have z3:=jL.size;have fC:=yw (by omega) d3
    have bI:=jL.trans ((jJ (arr:=cB) (i:=lo) (j:=lo+n2) (by omega)).wide (ax lo) (show lo+n2≤lo+cw by omega))
    generalize mirror cB lo (lo+n2) _=aS at fC bI ⊢;have jM:=Rl.ok bI ok;have z4:=Rl.size bI;refine aq (vy h jM (by omega) (by omega) (by omega) fC ?_ fun m m1 mn oP _=>ao (k m aS (by omega) mn bI oP))
    intro x n R a1 a2 r;dsimp only;refine aq (jK h jM (by omega) (by omega) ?_)
    dsimp only;by_cases z:vA key aS (lo+n)<vA key aS (lo+n-1)
    ·rw [ae z] at r
     rw [a7 z,ae rfl];exact ao r
    ·rw [aa z] at r
     rw [bt z,aa (by simp)]
     exact ao r
   ·rw [aa y]
    refine aq (lO ?_);have fC:=yw (by omega) d2
    have bI:=dB.trans ((jJ (arr:=aE) (i:=lo) (j:=lo+n2) (by omega)).wide (ax lo) (show lo+n2≤lo+cw by omega))
    generalize mirror aE lo (lo+n2) _=aS at fC bI ⊢;have jM:=Rl.ok bI ok;have z4:=Rl.size bI;refine aq (vy h jM (by omega) (by omega) (by omega) fC ?_ fun m m1 mn oP _=>ao (k m aS (by omega) mn bI oP))
    intro x n R a1 a2 r;dsimp only;refine aq (jK h jM (by omega) (by omega) ?_)
    dsimp only;by_cases z:vA key aS (lo+n)<vA key aS (lo+n-1)
    ·rw [ae z] at r
     rw [a7 z,ae rfl];exact ao r
    ·rw [aa z] at r
     rw [bt z,aa (by simp)]
     exact ao r
end
section
variable {prog:Program} {w:World} {A:Around} {E:aM} {s:Shared} {κ:SortKind} {key:Keyed→Int} {Ok:Keyed→Prop} {arr:Array Keyed} {pend:Array (Nat×Nat×Nat)} {g:Nat}
theorem NL{Q:Unit→SortSt→Prop}(q:Q () (aZ κ (bubble arr i (i-j)) pend g)):wpS (model prog w) A E s (moveDown' i j) Q (aZ κ arr pend g):=by rw [moveDown'_eq];exact jr q
variable {d:Nat}
theorem FU{k:Nat}(hi:i<arr.size)(hd:d≤i):vA key (bubble arr i d) k=if k=i-d then vA key arr i else if i-d<k∧k≤i then vA key arr (k-1) else vA key arr k:=by
 unfold vA;rw [jI,getElem?_bubble hi d hd,jI arr i,jI arr (k-1),jI arr k];by_cases a:k=i-d;·rw [ae a,ae a]
 ·rw [aa a,aa a]
  by_cases b:i-d<k∧k≤i;·rw [ae b,ae b]
  ·rw [aa b,aa b]
variable {lo:Nat}
theorem NM{hi:Nat}(h:i<arr.size)(hd:d≤i)(h1:lo≤i-d)(h2:i<hi):Rl arr (bubble arr i d) lo hi:=⟨bubble_perm ..,fun k hk=>by rw [getElem?_bubble h d hd,aa (by omega),aa (by omega)]⟩
theorem NN(h:i8 prog w A s κ key Ok)(ok:eQ Ok arr){n m:Nat}(hz:lo+n≤arr.size)(m1:1≤m)(mn:m≤n)(sg:cI key arr lo (lo+m)){Q:Bool→SortSt→Prop}
  (k:∀aQ,Rl arr aQ lo (lo+n)→cI key aQ lo (lo+n)→Q true (aZ κ aQ pend g)):wpS (model prog w) A E s (binarySort' lo n m) Q (aZ κ arr pend g):=by
 rw [binarySort'_eq];have em:max m 1=m:=by omega
 rw [em]
 refine aq (fq (eX (I:=fun x c au=>∃aE:Array Keyed,au=aZ κ aE pend g∧c=(none,())∧Rl arr aE lo (lo+n)∧cI key aE lo (lo+x)∧m≤x∧x≤n)
  (Q:=fun c au=>∃aE:Array Keyed,au=aZ κ aE pend g∧c=(none,())∧Rl arr aE lo (lo+n)∧cI key aE lo (lo+n)) ?_ ?_ ⟨arr,rfl,rfl,Rl.refl ..,sg,ax _,mn⟩) ?_)
 ·rintro x c au _ hx ⟨aE,rfl,rfl,rl,sg,x1,x2⟩
  have jc:=rl.ok ok;have z2:=rl.size;dsimp only
  refine aq (fq (eX (I:=fun y c au=>∃l r:Nat,au=aZ κ aE pend g∧c=(none,l,r)∧l≤r∧r≤x∧r-l+y≤x∧(∀i,i<l→vA key aE (lo+i)≤vA key aE (lo+x))∧(∀i,r≤i→i<x→vA key aE (lo+x)≤vA key aE (lo+i)))
   (Q:=fun c au=>∃l:Nat,au=aZ κ aE pend g∧c=(none,l,l)∧l≤x∧(∀i,i<l→vA key aE (lo+i)≤vA key aE (lo+x))∧(∀i,l≤i→i<x→vA key aE (lo+x)≤vA key aE (lo+i))) ?_ ?_ ⟨0,x,rfl,rfl,by omega,ax _,show x-0+0≤x by omega,fun i hi=>absurd hi (mf _),fun i h1 h2=>by omega⟩) ?_)
  ·rintro y c au _ hy ⟨l,r,rfl,rfl,g1,g2,g3,g4,g5⟩
   dsimp only;by_cases z:l≥r
   ·rw [ae z]
    obtain rfl:l=r:=by omega
    exact ao ⟨l,rfl,rfl,g2,g4,g5⟩
   ·rw [aa z]
    refine aq (jK h jc (by omega) (by omega) ?_)
    dsimp only;by_cases w:vA key aE (lo+x)<vA key aE (lo+(l+r) / 2)
    ·rw [a7 w,ae rfl]
     exact ao ⟨l,_,rfl,rfl,by omega,by omega,by omega,g4,fun i h1 h2=>cY (cO w) (sg _ _ (by omega) (by omega) (by omega))⟩
    ·rw [bt w,aa (by simp)]
     exact ao ⟨_,r,rfl,rfl,by omega,g2,by omega,fun i h1=>cY (sg _ _ (by omega) (by omega) (by omega)) (Int.not_lt.mp w),g5⟩
  ·rintro c au ⟨l,r,rfl,rfl,g1,g2,g3,g4,g5⟩
   have:max 0 x=x:=by omega
   obtain rfl:l=r:=by omega
   exact ⟨l,rfl,rfl,g2,g4,g5⟩
  ·rintro c au ⟨l,rfl,rfl,g2,g4,g5⟩
   dsimp only;refine aq (NL (ao ?_));have ed:lo+x-(lo+l)=x-l:=by omega
   rw [ed];refine ⟨_,rfl,rfl,rl.trans (NM (by omega) (by omega) (by omega) (by omega)),fun i j h1 h2 h3=>?_,by omega,by omega⟩
   have e0:lo+x-(x-l)=lo+l:=by omega
   rw [FU (by omega) (by omega),FU (by omega) (by omega),e0]
   have f4:∀i,lo≤i→i<lo+l→vA key aE i≤vA key aE (lo+x):=fun i a b=>by have:=g4 (i-lo) (by omega);rwa [show lo+(i-lo)=i by omega] at this
   have f5:∀i,lo+l≤i→i<lo+x→vA key aE (lo+x)≤vA key aE i:=fun i a b=>by have:=g5 (i-lo) (by omega) (by omega);rwa [show lo+(i-lo)=i by omega] at this
   by_cases a1:i=lo+l
   ·rw [ae a1]
    by_cases b1:j=lo+l;·rw [ae b1];exact k8 _
    ·rw [aa b1,ae (by omega)]
     exact f5 _ (by omega) (by omega)
   ·rw [aa a1]
    by_cases a2:lo+l<i∧i≤lo+x
    ·rw [ae a2,aa (by omega),ae (by omega)]
     exact sg _ _ (by omega) (by omega) (by omega)
    ·rw [aa a2]
     by_cases b1:j=lo+l
     ·rw [ae b1]
      exact f4 i h1 (by omega)
     ·rw [aa b1]
      by_cases b2:lo+l<j∧j≤lo+x
      ·rw [ae b2]
       exact cY (f4 i h1 (by omega)) (f5 _ (by omega) (by omega))
      ·rw [aa b2]
       exact sg _ _ (by omega) (by omega) (by omega)
 ·rintro c au ⟨aE,rfl,rfl,rl,sg,x1,x2⟩
  have:max m n=n:=by omega
  rw [this] at sg;exact ⟨aE,rfl,rfl,rl,sg⟩
 ·rintro c au ⟨aE,rfl,rfl,rl,sg⟩
  exact ao (k aE rl sg)
end
theorem NP(i:Nat):mergeAt' i=(do
 let s ←get
 let (some (sa,na,power),some (sb,nb,_)):=((pendingOf s)[i]?,(pendingOf s)[i+1]?) | unsupported "internal:list.sort.pending"
 set (setPending s (((pendingOf s).setIfInBounds i (sa,na+nb,power)).eraseIdxIfInBounds (i+1)))
 let some k ←mV false (←elem' (arrOf s) sb) (arrOf s) sa na 0 | return false
 let (sa,na):=(sa+k,na-k)
 if na == 0 then return true
 let some nb ←mV true (←elem' (arrOf s) (sa+na-1)) (arrOf s) sb nb (nb-1) | return false
 if nb == 0 then return true
 let x:=(arrOf s).extract sa sb
 let y:=(arrOf s).extract sb (sb+nb)
 let merged ←if na≤nb then Bu x y else Bv x y
 modify fun s=>setArr s (merged.toList.zipIdx.foldl (fun a (p,j)=>a.setIfInBounds (sa+j) p) (arrOf s))
 return (failedOf (←get)).isNone):=rfl
def putL(m:List Keyed)(o:Nat)(arr:Array Keyed)(n:Nat):Array Keyed:=(m.zipIdx n).foldl (fun a (p,j)=>a.setIfInBounds (o+j) p) arr
theorem FV(m:List Keyed)(o:Nat):∀(arr:Array Keyed) (n k:Nat),o+n+m.length≤arr.size→(putL m o arr n)[k]?=if o+n≤k∧k<o+n+m.length then m[k-(o+n)]? else arr[k]?:=by
 induction m with
 | nil=>
  intro arr n k _;rw [aa (by simp)]
  rfl
 | cons x m ih=>
  intro arr n k hz;rw [dE] at hz ⊢;show (putL m o (arr.setIfInBounds (o+n) x) (n+1))[k]?=_;rw [ih _ _ _ (by simp;omega)]
  by_cases a:o+(n+1)≤k∧k<o+(n+1)+m.length
  ·rw [ae a,ae (by omega),show k-(o+n)=(k-(o+(n+1)))+1 by omega]
   rfl
  ·rw [aa a]
   by_cases b:k=o+n
   ·subst b
    rw [ae (by omega),uv]
    simp [show o+n<arr.size by omega]
   ·rw [aa (by omega)]
    rw [Array.getElem?_setIfInBounds_ne (by omega)]
theorem NQ{o:Nat}{arr:Array Keyed}(hz:o+m.length≤arr.size):(putL m o arr 0).toList=arr.toList.take o++m++arr.toList.drop (o+m.length):=by
 refine uA fun k=>?_;have e:(putL m o arr 0).toList[k]?=(putL m o arr 0)[k]?:=by simp
 rw [e,FV m o arr 0 k (by omega),uC]
 by_cases a:k<o
 ·rw [aa (by omega),fm,gM (by simp;omega),List.getElem?_take_of_lt a]
  simp
 ·by_cases b:k<o+m.length
  ·rw [ae (by omega),fm,gK (by simp;omega),gM (by simp;omega)]
   congr 1
   simp;omega
  ·rw [aa (by omega),gK (by simp;omega),List.getElem?_drop]
   have:o+m.length+(k-(arr.toList.take o++m).length)=k:=by simp;omega
   rw [this];simp
section
variable {prog:Program} {w:World} {A:Around} {E:aM} {s:Shared} {κ:SortKind} {key:Keyed→Int} {Ok:Keyed→Prop} {arr:Array Keyed} {pend:Array (Nat×Nat×Nat)} {g:Nat}
variable {lo hi:Nat}
theorem FW(h:cI key arr lo hi)(hz:hi≤arr.size):bh key (arr.extract lo hi).toList:=by
 unfold bh;rw [uB];intro i j bg hj Bz;have h1:i<hi-lo∧j<hi-lo:=by simp at bg hj;omega
 have:=h (lo+i) (lo+j) (by omega) (by omega) (by omega)
 unfold vA at this;simpa [Array.getD,show lo+i<arr.size by omega,show lo+j<arr.size by omega] using this
theorem BD(hz:hi≤arr.size)(bg:lo+i<hi):(arr.extract lo hi).getD i nn=arr.getD (lo+i) nn:=by simp [Array.getD,show lo+i<arr.size by omega,show i<min hi arr.size-lo by omega]
theorem FX(ok:eQ Ok arr)(hz:hi≤arr.size):eQ Ok (arr.extract lo hi):=fun i bg=>by
 have:lo+i<hi:=by simp at bg;omega
 rw [BD hz this];exact ok _ (by omega)
theorem ext_mem(hz:hi≤arr.size){x:Keyed}(hx:x∈(arr.extract lo hi).toList):∃j,lo≤j∧j<hi∧x=arr.getD j nn:=lN hz hx
theorem NR{σ:Type}{st au:σ}{Q:PUnit→σ→Prop}{M:Model}(q:Q ⟨⟩ au):wpS M A E s (set au:StateT σ Sem PUnit) Q st:=by unfold wpS;rw [StateT.run_set];exact cS ⟨rfl,q⟩
variable {sa na nb:Nat}
theorem NS{sb bo cg:Nat}{m:Array Keyed}(hz:sb+nb≤arr.size)(h0:sa+na=sb)(hk:bo≤na)(hb:cg≤nb)(pm:m.toList.Perm ((arr.extract (sa+bo) sb).toList++(arr.extract sb (sb+cg)).toList))(sm:bh key m.toList)
  (s1:cI key arr sa sb) (s2:cI key arr sb (sb+nb)) (NT:bo<na) (FY:1≤nb)
  (c1:∀i,i<bo→vA key arr (sa+i)≤vA key arr sb) (c2:∀i,cg≤i→i<nb→vA key arr (sb-1)≤vA key arr (sb+i)) :
  Rl arr (putL m.toList (sa+bo) arr 0) sa (sb+nb)∧cI key (putL m.toList (sa+bo) arr 0) sa (sb+nb):=by
 have lm:m.toList.length=(na-bo)+cg:=by rw [pm.length_eq,dP,i9,i9];simp;omega
 have hsz:sa+bo+m.toList.length≤arr.size:=by omega
 have at':=FV m.toList (sa+bo) arr 0;have rl:Rl arr (putL m.toList (sa+bo) arr 0) sa (sb+nb):=by
  refine ⟨nV.mpr ?_,fun k fB=>?_⟩
  ·rw [NQ hsz]
   have e:arr.toList=arr.toList.take (sa+bo)++((arr.extract (sa+bo) sb).toList++(arr.extract sb (sb+cg)).toList)++arr.toList.drop (sa+bo+m.toList.length):=by
    rw [i9,i9,show sa+bo+m.toList.length=sb+cg by omega,show sb+cg-sb=cg by omega]
    have t1:arr.toList.drop (sa+bo)=(arr.toList.drop (sa+bo)).take (sb-(sa+bo))++arr.toList.drop sb:=by
     have:=(mq (sb-(sa+bo)) (arr.toList.drop (sa+bo))).symm;rw [List.drop_drop,show sa+bo+(sb-(sa+bo))=sb by omega] at this
     exact this
    have t2:arr.toList.drop sb=(arr.toList.drop sb).take cg++arr.toList.drop (sb+cg):=by have:=(mq cg (arr.toList.drop sb)).symm;rw [List.drop_drop] at this;exact this
    have t0:=(mq (sa+bo) arr.toList).symm;rw [t1,t2] at t0;rw [fm,fm];exact t0
   refine List.Perm.trans ?_ (List.Perm.of_eq e.symm);exact List.Perm.append_right _ (AF _ pm)
  ·rw [at' k (by omega),aa (by omega)]
 have vo:∀k,k<sa+bo∨sb+cg≤k→vA key (putL m.toList (sa+bo) arr 0) k=vA key arr k:=fun k fB=>by unfold vA;rw [jI,at' k (by omega),aa (by omega),jI]
 have vm:∀k,sa+bo≤k→k<sb+cg→∃hj:k-(sa+bo)<m.toList.length,vA key (putL m.toList (sa+bo) arr 0) k=key (m.toList[k-(sa+bo)]'hj):=fun k h1 h2=>by
  have hj:k-(sa+bo)<m.toList.length:=by omega
  refine ⟨hj,?_⟩;unfold vA;rw [jI,at' k (by omega),ae (by omega),uC,bU hj]
  rfl
 have vq:∀k,sa+bo≤k→k<sb+cg→∃q,sa+bo≤q∧q<sb+cg∧vA key (putL m.toList (sa+bo) arr 0) k=vA key arr q:=fun k h1 h2=>by
  obtain ⟨hj,e⟩:=vm k h1 h2;have mm:=pm.mem_iff.mp (bJ hj);rcases dI.mp mm with mm | mm
  ·obtain ⟨q,q1,q2,eq⟩:=ext_mem (by omega) mm
   exact ⟨q,q1,by omega,by rw [e,eq];rfl⟩
  ·obtain ⟨q,q1,q2,eq⟩:=ext_mem (by omega) mm
   exact ⟨q,by omega,q2,by rw [e,eq];rfl⟩
 have d1:∀i,sa≤i→i<sa+bo→vA key arr i≤vA key arr sb:=fun i a b=>by
  have:=c1 (i-sa) (by omega)
  rwa [show sa+(i-sa)=i by omega] at this
 have d2:∀j,sb+cg≤j→j<sb+nb→vA key arr (sb-1)≤vA key arr j:=fun j a b=>by
  have:=c2 (j-sb) (by omega) (by omega)
  rwa [show sb+(j-sb)=j by omega] at this
 refine ⟨rl,fun i j h1 h2 h3=>?_⟩;by_cases i1:i<sa+bo
 ·rw [vo i (.inl i1)]
  by_cases j1:j<sa+bo
  ·rw [vo j (.inl j1)]
   exact s1 i j h1 h2 (by omega)
  ·by_cases j2:j<sb+cg
   ·obtain ⟨q,q1,q2,e⟩:=vq j (by omega) j2
    rw [e];by_cases q3:q<sb;·exact s1 i q h1 (by omega) q3
    ·exact cY (d1 i h1 i1) (s2 sb q (ax _) (by omega) (by omega))
   ·rw [vo j (.inr (by omega))]
    exact cY (d1 i h1 i1) (s2 sb j (ax _) (by omega) h3)
 ·by_cases i2:i<sb+cg
  ·by_cases j2:j<sb+cg
   ·obtain ⟨x1,e1⟩:=vm i (by omega) i2
    obtain ⟨x2,e2⟩:=vm j (by omega) j2
    rw [e1,e2];by_cases z:i=j;·subst z;exact k8 _
    ·exact uB.mp sm _ _ x1 x2 (by omega)
   ·obtain ⟨q,q1,q2,e⟩:=vq i (by omega) i2
    rw [e,vo j (.inr (by omega))]
    by_cases q3:q<sb;·exact cY (s1 q (sb-1) (by omega) (by omega) (by omega)) (d2 j (by omega) h3)
    ·exact s2 q j (by omega) (by omega) h3
  ·rw [vo i (.inr (by omega)),vo j (.inr (by omega))]
   exact s2 i j (by omega) h2 h3
theorem NU(h:i8 prog w A s κ key Ok)(ok:eQ Ok arr){pw lQ:Nat}(e1:pend[i]?=some (sa,na,pw))(e2:pend[i+1]?=some (sa+na,nb,lQ))(NT:1≤na)(FY:1≤nb)(hz:sa+na+nb≤arr.size)
  (s1:cI key arr sa (sa+na)) (s2:cI key arr (sa+na) (sa+na+nb)) {Q:Bool→SortSt→Prop}
  (k:∀aQ g',Rl arr aQ sa (sa+na+nb)→cI key aQ sa (sa+na+nb)→Q true (aZ κ aQ ((pend.setIfInBounds i (sa,na+nb,pw)).eraseIdxIfInBounds (i+1)) g')):wpS (model prog w) A E s (mergeAt' i) Q (aZ κ arr pend g):=by
 rw [NP];refine aq (ic ?_);have oE:(pendingOf (aZ κ arr pend g))[i]?=some (sa,na,pw):=e1;have BE:(pendingOf (aZ κ arr pend g))[i+1]?=some (sa+na,nb,lQ):=e2;rw [oE,BE];dsimp only;refine aq (NR ?_);refine aq (bu (by show sa+na<arr.size;omega) ?_)
 refine aq (gW (f:=fun j=>bB false (vA key arr (sa+na)) (vA key arr (sa+j))) (fun j hj Q q=>gU (κ:=κ) h (by show sa+j<arr.size;omega) ok (ok _ (by omega)) rfl q) (by omega) ?_ fun t t1 t2 t3=>?_)
 ·intro i j h1 h2 h3
  have:vA key arr (sa+i)≤vA key arr (sa+na):=cY (s1 _ _ (by omega) (by omega) (by omega)) (kI h3)
  show (!decide (vA key arr (sa+na)<vA key arr (sa+i)))=true;simpa using this
 dsimp only;by_cases z1:(na-t == 0)=true
 ·rw [ae z1]
  have tz:t=na:=by have:=eq_of_beq z1;omega
  subst tz;refine ao (k arr g (Rl.refl ..) fun i j h1 h2 h3=>?_);by_cases i1:i<sa+t
  ·by_cases j1:j<sa+t
   ·exact s1 i j h1 h2 j1
   ·have:=kI (t2 (i-sa) (by omega))
    rw [show sa+(i-sa)=i by omega] at this
    exact cY this (s2 _ _ (ax _) (by omega) (by omega))
  ·exact s2 i j (by omega) h2 (by omega)
 rw [aa z1];have tn:t<na:=by
  have:na-t≠0:=fun e=>z1 (by simp [e])
  omega
 refine aq (bu (by show sa+t+(na-t)-1<arr.size;omega) ?_)
 have el:sa+t+(na-t)-1=sa+na-1:=by omega
 rw [el];refine aq (gW (f:=fun j=>bB true (vA key arr (sa+na-1)) (vA key arr (sa+na+j))) (fun j hj Q q=>gU (κ:=κ) h (by show sa+na+j<arr.size;omega) ok (ok _ (by omega)) rfl q) (by omega) ?_ fun u u1 u2 u3=>?_)
 ·intro i j h1 h2 h3
  exact a7 (Int.lt_of_le_of_lt (s2 _ _ (by omega) (by omega) (by omega)) (gq h3))
 dsimp only;have NV:=mW (t3 (na-1) (by omega) (by omega))
 rw [show sa+(na-1)=sa+na-1 by omega] at NV
 by_cases z2:(u == 0)=true
 ·exfalso
  have:=gX (u3 0 (by have:=eq_of_beq z2;omega) (by omega))
  rw [uC] at this;omega
 rw [aa z2];have un:1≤u:=by
  have:u≠0:=fun e=>z2 (by simp [e])
  omega
 have ox:=FX ok (lo:=sa+t) (hi:=sa+na) (by omega)
 have oy:=FX ok (lo:=sa+na) (hi:=sa+na+u) (by omega)
 have sx:bh key (arr.extract (sa+t) (sa+na)).toList:=FW (fun i j h1 h2 h3=>s1 i j (by omega) h2 h3) (by omega)
 have sy:bh key (arr.extract (sa+na) (sa+na+u)).toList:=FW (fun i j h1 h2 h3=>s2 i j h1 h2 (by omega)) (by omega)
 have zx:(arr.extract (sa+t) (sa+na)).size=na-t:=by simp;omega
 have zy:(arr.extract (sa+na) (sa+na+u)).size=u:=by simp;omega
 have h0:∀x∈(arr.extract (sa+t) (sa+na)).toList,key ((arr.extract (sa+na) (sa+na+u)).getD 0 nn)≤key x:=fun x hx=>by
  obtain ⟨j,j1,j2,rfl⟩:=ext_mem (by omega) hx
  rw [BD (by omega) (by omega),uC]
  have:=mW (t3 (j-sa) (by omega) (by omega))
  rw [show sa+(j-sa)=j by omega] at this
  exact cO this
 have hl:∀y∈(arr.extract (sa+na) (sa+na+u)).toList,key y≤key ((arr.extract (sa+t) (sa+na)).getD ((arr.extract (sa+t) (sa+na)).size-1) nn):=fun y hy=>by
  obtain ⟨j,j1,j2,rfl⟩:=ext_mem (by omega) hy
  rw [zx,BD (by omega) (by omega),show sa+t+(na-t-1)=sa+na-1 by omega]
  have:=gq (u2 (j-(sa+na)) (by omega))
  rw [show sa+na+(j-(sa+na))=j by omega] at this
  exact cO this
 have fin:∀(m:Array Keyed) (g':Nat),m.toList.Perm ((arr.extract (sa+t) (sa+na)).toList++(arr.extract (sa+na) (sa+na+u)).toList)→bh key m.toList→Q true (aZ κ (putL m.toList (sa+t) arr 0) ((pend.setIfInBounds i (sa,na+nb,pw)).eraseIdxIfInBounds (i+1)) g'):=fun m g' pm sm=>by obtain ⟨rl,sg⟩:=NS (sb:=sa+na) hz rfl (kZ tn) u1 pm sm s1 s2 tn FY (fun i hi=>kI (t2 i hi)) (fun i h1 h2=>gX (u3 i h1 h2));exact k _ g' rl sg
 refine d9 (fun _=>?_) (fun _=>?_)
 ·refine aq (NC (κ:=κ) h ox oy sx sy (by omega) (by omega) h0 hl rfl fun m g' pm sm=>?_)
  exact aq (jr (aq (ic (ao (fin m g' pm sm)))))
 ·refine aq (NH (κ:=κ) h ox oy sx sy (by omega) (by omega) h0 hl rfl fun m g' pm sm=>?_)
  exact aq (jr (aq (ic (ao (fin m g' pm sm)))))
end
def cG(key:Keyed→Int)(arr:Array Keyed):List (Nat×Nat×Nat)→Nat→Nat→Prop
 | [],lo,hi=>lo=hi
 | p::r,lo,hi=>p.1=lo∧1≤p.2.1∧cI key arr lo (lo+p.2.1)∧cG key arr r (lo+p.2.1) hi
section
variable {key:Keyed→Int} {arr aQ:Array Keyed}
theorem cG.le:∀{l:List (Nat×Nat×Nat)} {lo hi:Nat},cG key arr l lo hi→lo+l.length≤hi
 | [],lo,hi,h=>by have:lo=hi:=h;simp;omega
 | p::r,lo,hi,h=>by have:=cG.le h.2.2.2;have:=h.2.1;simp only [dE];omega
variable {hi:Nat}
theorem cI.bS{lo a b:Nat}(h:cI key arr lo hi)(rl:Rl arr aQ a b)(d:hi≤a∨b≤lo):cI key aQ lo hi:=fun i j h1 h2 h3=>by
 rw [rl.v (by omega),rl.v (by omega)]
 exact h i j h1 h2 h3
theorem cG.bS:∀{l:List (Nat×Nat×Nat)} {lo hi a b:Nat},cG key arr l lo hi→Rl arr aQ a b→hi≤a∨b≤lo→cG key aQ l lo hi
 | [],lo,hi,a,b,h,_,_=>h
 | p::r,lo,hi,a,b,h,rl,d=>by have:=h.2.2.2.le;refine ⟨h.1,h.2.1,h.2.2.1.bS rl (by omega),h.2.2.2.bS rl (by omega)⟩
theorem cG.snoc:∀{l:List (Nat×Nat×Nat)} {lo hi n pw:Nat},cG key arr l lo hi→1≤n→cI key arr hi (hi+n)→cG key arr (l++[(hi,n,pw)]) lo (hi+n)
 | [],lo,hi,n,pw,h,n1,s=>by obtain rfl:lo=hi:=h;exact ⟨rfl,n1,s,rfl⟩
 | p::r,lo,hi,n,pw,h,n1,s=>⟨h.1,h.2.1,h.2.2.1,h.2.2.2.snoc n1 s⟩
theorem cG.two:∀{l:List (Nat×Nat×Nat)} {lo hi i:Nat},cG key arr l lo hi→i+1<l.length→∃sa na pw nb lQ,l[i]?=some (sa,na,pw)∧l[i+1]?=some (sa+na,nb,lQ)∧1≤na∧1≤nb∧lo≤sa∧sa+na+nb≤hi∧cI key arr sa (sa+na)∧cI key arr (sa+na) (sa+na+nb) ∧
  ∀aQ,Rl arr aQ sa (sa+na+nb)→cI key aQ sa (sa+na+nb)→cG key aQ ((l.set i (sa,na+nb,pw)).eraseIdx (i+1)) lo hi
 | [],lo,hi,i,h,bg=>by simp at bg
 | [p],lo,hi,i,h,bg=>by simp at bg
 | p::q::r,lo,hi,0,h,_=>by
  obtain ⟨p1,p2,pw⟩:=p;obtain ⟨q1,q2,lQ⟩:=q;obtain ⟨e1,n1,s1,e2,n2,s2,c⟩:=h;dsimp only at e1 n1 s1 e2 n2 s2 c;subst e1;subst e2;have:=c.le;refine ⟨p1,p2,pw,q2,lQ,rfl,rfl,n1,n2,ax _,by omega,s1,s2,fun aQ rl sg=>?_⟩
  show cG key aQ ((p1,p2+q2,pw)::r) p1 hi;refine ⟨rfl,by show 1≤p2+q2;omega,by show cI key aQ p1 (p1+(p2+q2));rw [←Nat.add_assoc];exact sg,?_⟩
  show cG key aQ r (p1+(p2+q2)) hi;rw [←Nat.add_assoc];exact c.bS rl (.inr (ax _))
 | p::q::r,lo,hi,i+1,h,bg=>by
  obtain ⟨sa,na,pw,nb,lQ,e1,e2,n1,n2,l1,l2,s1,s2,k⟩:=h.2.2.2.two (i:=i) (by simpa using bg)
  refine ⟨sa,na,pw,nb,lQ,e1,e2,n1,n2,by omega,l2,s1,s2,fun aQ rl sg=>?_⟩
  exact ⟨h.1,h.2.1,h.2.2.1.bS rl (.inl l1),k aQ rl sg⟩
theorem cG.last:∀{l:List (Nat×Nat×Nat)} {lo hi pw:Nat},cG key arr l lo hi→cG key arr (l.modify (l.length-1) fun x=>(x.1,x.2.1,pw)) lo hi
 | [],lo,hi,pw,h=>h
 | [p],lo,hi,pw,h=>h
 | p::q::r,lo,hi,pw,h=>⟨h.1,h.2.1,h.2.2.1,h.2.2.2.last⟩
theorem cG.one{l:List (Nat×Nat×Nat)}(h:cG key arr l 0 hi)(hl:l.length≤1):cI key arr 0 hi:=by
 match l,h,hl with
 | [],h,_=>have:0=hi:=h;exact fun i j h1 h2 h3=>by omega
 | [p],h,_=>have:=h.2.2.1;have e:0+p.2.1=hi:=h.2.2.2;rw [←e];exact this
 | p::q::r,_,hl=>simp at hl
end
section
variable {prog:Program} {w:World} {A:Around} {E:aM} {s:Shared} {κ:SortKind} {key:Keyed→Int} {Ok:Keyed→Prop} {arr:Array Keyed} {pend:Array (Nat×Nat×Nat)} {g:Nat}
theorem BF(h:i8 prog w A s κ key Ok)(ok:eQ Ok arr){hi:Nat}(c:cG key arr pend.toList 0 hi)(hz:hi≤arr.size)(bg:i+1<pend.size){Q:Bool→SortSt→Prop}
  (k:∀aQ rE g',Rl arr aQ 0 hi→cG key aQ rE.toList 0 hi→rE.size+1=pend.size→Q true (aZ κ aQ rE g')):wpS (model prog w) A E s (mergeAt' i) Q (aZ κ arr pend g):=by
 obtain ⟨sa,na,pw,nb,lQ,e1,e2,n1,n2,l1,l2,s1,s2,kk⟩:=c.two (i:=i) (by simpa using bg)
 refine NU h ok (by simpa using e1) (by simpa using e2) n1 n2 (by omega) s1 s2 fun aQ g' rl sg=>?_
 refine k _ _ _ (rl.wide (b7 _) l2) ?_ ?_
 ·have:=kk aQ rl sg
  simpa using this
 ·rw [←fF,Array.toList_eraseIdxIfInBounds,List.length_eraseIdx,ae (by simpa using bg)]
  simp;omega
theorem NW(h:i8 prog w A s κ key Ok)(ok:eQ Ok arr){Q:Unit→SortSt→Prop}
  (k:∀aQ au,aQ.Perm arr→cI key aQ 0 arr.size→arrOf au=aQ→failedOf au=none→Q () au):wpS (model prog w) A E s sortRuns' Q (aZ κ arr #[] g):=by
 rw [sortRuns'_eq];refine aq (ic ?_);dsimp only;have es:(arrOf (aZ κ arr #[] g)).size=arr.size:=rfl;rw [es]
 refine aq (fq (eX (I:=fun x c au=>∃(aE:Array Keyed) (dU:Array (Nat×Nat×Nat)) (g2 lo:Nat),au=aZ κ aE dU g2∧c=(none,lo)∧aE.Perm arr∧cG key aE dU.toList 0 lo∧lo≤arr.size∧x≤lo)
  (Q:=fun c au=>∃(aE:Array Keyed) (dU:Array (Nat×Nat×Nat)) (g2:Nat),au=aZ κ aE dU g2∧c=(none,arr.size)∧aE.Perm arr∧cG key aE dU.toList 0 arr.size) ?_ ?_ ⟨arr,#[],g,0,rfl,rfl,Array.Perm.refl _,rfl,b7 _,ax _⟩) ?_)
 ·rintro x c au _ hx ⟨aE,dU,g2,lo,rfl,rfl,mY,oQ,l1,l2⟩
  have jc:=rC ok mY;have z2:=mY.size_eq;dsimp only;by_cases z:lo≥arr.size
  ·rw [ae z]
   obtain rfl:lo=arr.size:=by omega
   exact ao ⟨aE,dU,g2,rfl,rfl,mY,oQ⟩
  rw [aa z];refine aq (NJ h jc (by omega) (by omega) fun n cB n1 nn jL sg=>?_)
  have dW:=jL.pm.trans mY;have FZ:=rC ok dW;have z3:=dW.size_eq;have gY:=oQ.bS jL (.inl (ax _));dsimp only;by_cases y:n<minRun' arr.size arr.size 0
  ·rw [ae y]
   refine aq (wpS_lift (nU ⟨rfl,?_⟩));refine aq (NN h FZ (n:=min (arr.size-lo) (minRun' arr.size arr.size 0)) (by omega) n1 (by omega) sg fun aS bI fC=>?_)
   rw [aa (by simp)]
   have fD:=gY.bS bI (.inl (ax _));have BG:=bI.pm.trans dW;clear gY dW FZ z3 sg jL bI;have f1:1≤min (arr.size-lo) (minRun' arr.size arr.size 0):=by omega
   have f2:lo+min (arr.size-lo) (minRun' arr.size arr.size 0)≤arr.size:=by omega
   generalize min (arr.size-lo) (minRun' arr.size arr.size 0)=fo at fC f1 f2 ⊢
   revert fD BG fC
   generalize aS=cB;intro gY dW fC;refine aq (ic ?_);have eb:(pendingOf (aZ κ cB dU g2)).back?=dU.back?:=rfl;rw [eb];cases dU.back? with
   | none=>dsimp only;exact aq (jr (ao ⟨cB,dU.push (lo,fo,0),g2,lo+fo,rfl,rfl,dW,by rw [mr];exact gY.snoc f1 fC,f2,by have:=f1;omega⟩))
   | some p=>
    obtain ⟨NX,yA,NY⟩:=p;dsimp only;have z3:=dW.size_eq
    refine aq (fq (eX (I:=fun y c au=>∃(aS:Array Keyed) (bA:Array (Nat×Nat×Nat)) (g4:Nat),au=aZ κ aS bA g4∧c=(none,())∧Rl cB aS 0 lo∧cG key aS bA.toList 0 lo)
     (Q:=fun c au=>∃(aS:Array Keyed) (bA:Array (Nat×Nat×Nat)) (g4:Nat),au=aZ κ aS bA g4∧c=(none,())∧Rl cB aS 0 lo∧cG key aS bA.toList 0 lo) ?_ (fun c au hh=>hh) ⟨cB,dU,g2,rfl,rfl,Rl.refl ..,gY⟩) ?_)
    ·rintro y c au _ hy ⟨aS,bA,g4,rfl,rfl,bI,fD⟩
     have z4:=bI.size;refine aq (ic ?_);have hx:∀o,o=(if (pendingOf (aZ κ aS bA g4)).size>1 then (pendingOf (aZ κ aS bA g4))[(pendingOf (aZ κ aS bA g4)).size-2]? else none)→o.isSome=true→bA.size>1:=fun o ho hs=>by
      by_cases z:bA.size>1;·exact z
      ·rw [aa z] at ho
       rw [ho] at hs;cases hs
     generalize eo:(if (pendingOf (aZ κ aS bA g4)).size>1 then (pendingOf (aZ κ aS bA g4))[(pendingOf (aZ κ aS bA g4)).size-2]? else none)=o
     cases o with
     | none=>exact ao ⟨aS,bA,g4,rfl,rfl,bI,fD⟩
     | some p=>
      have gt:=hx _ eo.symm rfl;obtain ⟨q1,q2,NZ⟩:=p;dsimp only;refine d9 (fun _=>ao ⟨aS,bA,g4,rfl,rfl,bI,fD⟩) (fun _=>?_);refine aq (BF h (rC ok (bI.pm.trans dW)) fD (by omega) (show bA.size-2+1<bA.size by omega) fun BH BI g5 BJ BK _=>?_)
      rw [aa (by simp)]
      exact ao ⟨BH,BI,g5,rfl,rfl,bI.trans BJ,BK⟩
    ·rintro c au ⟨aS,bA,g4,rfl,rfl,bI,fD⟩
     dsimp only;refine aq (jr (aq (jr (ao ⟨aS,_,g4,lo+fo,rfl,rfl,bI.pm.trans dW,?_,f2,by have:=f1;omega⟩))))
     rw [mr];refine cG.snoc ?_ f1 (cI.bS fC bI (.inr (ax _)));rw [Array.toList_modify];exact fD.last
  ·rw [aa y]
   have f2:lo+n≤arr.size:=by omega
   refine aq (ic ?_);have eb:(pendingOf (aZ κ cB dU g2)).back?=dU.back?:=rfl;rw [eb];cases dU.back? with
   | none=>dsimp only;exact aq (jr (ao ⟨cB,dU.push (lo,n,0),g2,lo+n,rfl,rfl,dW,by rw [mr];exact gY.snoc n1 sg,f2,by have:=n1;omega⟩))
   | some p=>
    obtain ⟨NX,yA,NY⟩:=p;dsimp only;have z3:=dW.size_eq
    refine aq (fq (eX (I:=fun y c au=>∃(aS:Array Keyed) (bA:Array (Nat×Nat×Nat)) (g4:Nat),au=aZ κ aS bA g4∧c=(none,())∧Rl cB aS 0 lo∧cG key aS bA.toList 0 lo)
     (Q:=fun c au=>∃(aS:Array Keyed) (bA:Array (Nat×Nat×Nat)) (g4:Nat),au=aZ κ aS bA g4∧c=(none,())∧Rl cB aS 0 lo∧cG key aS bA.toList 0 lo) ?_ (fun c au hh=>hh) ⟨cB,dU,g2,rfl,rfl,Rl.refl ..,gY⟩) ?_)
    ·rintro y c au _ hy ⟨aS,bA,g4,rfl,rfl,bI,fD⟩
     have z4:=bI.size;refine aq (ic ?_);have hx:∀o,o=(if (pendingOf (aZ κ aS bA g4)).size>1 then (pendingOf (aZ κ aS bA g4))[(pendingOf (aZ κ aS bA g4)).size-2]? else none)→o.isSome=true→bA.size>1:=fun o ho hs=>by
      by_cases z:bA.size>1;·exact z
      ·rw [aa z] at ho
       rw [ho] at hs;cases hs
     generalize eo:(if (pendingOf (aZ κ aS bA g4)).size>1 then (pendingOf (aZ κ aS bA g4))[(pendingOf (aZ κ aS bA g4)).size-2]? else none)=o
     cases o with
     | none=>exact ao ⟨aS,bA,g4,rfl,rfl,bI,fD⟩
     | some p=>
      have gt:=hx _ eo.symm rfl;obtain ⟨q1,q2,NZ⟩:=p;dsimp only;refine d9 (fun _=>ao ⟨aS,bA,g4,rfl,rfl,bI,fD⟩) (fun _=>?_);refine aq (BF h (rC ok (bI.pm.trans dW)) fD (by omega) (show bA.size-2+1<bA.size by omega) fun BH BI g5 BJ BK _=>?_)
      rw [aa (by simp)]
      exact ao ⟨BH,BI,g5,rfl,rfl,bI.trans BJ,BK⟩
    ·rintro c au ⟨aS,bA,g4,rfl,rfl,bI,fD⟩
     dsimp only;refine aq (jr (aq (jr (ao ⟨aS,_,g4,lo+n,rfl,rfl,bI.pm.trans dW,?_,f2,by have:=n1;omega⟩))))
     rw [mr];refine cG.snoc ?_ n1 (cI.bS sg bI (.inr (ax _)));rw [Array.toList_modify];exact fD.last
 ·rintro c au ⟨aE,dU,g2,lo,rfl,rfl,mY,oQ,l1,l2⟩
  obtain rfl:lo=arr.size:=by omega
  exact ⟨aE,dU,g2,rfl,rfl,mY,oQ⟩
 ·rintro c au ⟨aE,dU,g2,rfl,rfl,mY,oQ⟩
  dsimp only;have pz:=oQ.le
  refine aq (fq (eX (I:=fun x c au=>∃(cB:Array Keyed) (dX:Array (Nat×Nat×Nat)) (g3:Nat),au=aZ κ cB dX g3∧c=(none,())∧cB.Perm arr∧cG key cB dX.toList 0 arr.size∧dX.size+x≤arr.size)
   (Q:=fun c au=>∃(cB:Array Keyed) (dX:Array (Nat×Nat×Nat)) (g3:Nat),au=aZ κ cB dX g3∧c=(none,())∧cB.Perm arr∧cG key cB dX.toList 0 arr.size∧dX.size≤1) ?_ ?_ ⟨aE,dU,g2,rfl,rfl,mY,oQ,show dU.size+0≤arr.size by simpa using pz⟩) ?_)
  ·rintro x c au _ hx ⟨cB,dX,g3,rfl,rfl,dW,gY,l3⟩
   have z3:=dW.size_eq;refine aq (ic ?_);by_cases z:(pendingOf (aZ κ cB dX g3)).size≤1
   ·rw [ae z]
    exact ao ⟨cB,dX,g3,rfl,rfl,dW,gY,z⟩
   ·rw [aa z]
    have z':1<dX.size:=Nat.lt_of_not_le z;have go:∀i,i+1<dX.size→wpS (model prog w) A E s (mergeAt' i) (fun b au=>b=true∧∃(aS:Array Keyed) (bA:Array (Nat×Nat×Nat)) (g4:Nat),au=aZ κ aS bA g4∧aS.Perm arr∧cG key aS bA.toList 0 arr.size∧bA.size+(x+1)≤arr.size) (aZ κ cB dX g3):=fun i hi=>by refine BF h (rC ok dW) gY (by omega) hi fun aS bA g4 bI fD sz=>⟨rfl,aS,bA,g4,rfl,bI.pm.trans dW,fD,by omega⟩
    refine aq (fq (go _ ?_) ?_)
    ·show (if _ then _ else _)+1<dX.size
     have e:(pendingOf (aZ κ cB dX g3)).size=dX.size:=rfl;rw [e];have:∀c:Bool,(if c=true then dX.size-2-1 else dX.size-2)+1<dX.size:=fun c=>by cases c <;> simp <;> omega
     exact this _
    ·rintro b au ⟨rfl,aS,bA,g4,rfl,BG,fD,l4⟩
     rw [aa (by simp)]
     exact ao ⟨aS,bA,g4,rfl,rfl,BG,fD,l4⟩
  ·rintro c au ⟨cB,dX,g3,rfl,rfl,dW,gY,l3⟩
   exact ⟨cB,dX,g3,rfl,rfl,dW,gY,by omega⟩
  ·rintro c au ⟨cB,dX,g3,rfl,rfl,dW,gY,l3⟩
   exact ao (k cB _ dW (gY.one (by simpa using l3)) rfl rfl)
end
end Tm
namespace My
open PySem PySem.W PyProof.Rows Tm
section
variable {prog:Program} {w:World} {A:Around} {E:aM} {s:Shared}
def eB(h:Heap)(v:Value)(x y:Int):Prop:=∃a o t u e,v=.ref a∧h.get? a=some o∧o.cls=.type "tuple"∧o.data=.seq #[.int x t,.int y u] e
variable {x y x' y':Int}
theorem N0{v v':Value}(h1:eB s.heap v x y)(h2:eB s.heap v' x' y'){Q:Bool→Shared→Prop}(h:Q (decide (x<x'∨x=x'∧y<y')) s):wpAny (model prog w) A (keyLt' (tuples' true) v v') Q E s:=by
 obtain ⟨a,o,t,u,e,rfl,g,_,d⟩:=h1;obtain ⟨a',o',t',u',e',rfl,g',_,d'⟩:=h2;refine kat_lt g d g' d' ?_;show KatLex prog w A true (decide (2<2)) Q [(.int x t,.int x' t'),(.int y u,.int y' u')] 0 s;refine kat_cons (wpAny_eqBool_int ?_);by_cases z:x=x'
 ·subst z
  rw [show (x == x)=true by simp]
  refine kat_yes (kat_cons (wpAny_eqBool_int ?_));by_cases z2:y=y'
  ·subst z2
   rw [show (y == y)=true by simp]
   refine kat_yes (kat_nil ?_);rw [bt (by omega)] at h
   exact h
  ·rw [show (y == y')=false by simp [z2]]
   refine kat_no ?_;show wpAny (model prog w) A (oneLt' false (.int y u) (.int y' u')) Q _ s;refine kat_one _ _ (lt_int ?_);show Q (decide (y<y')) s;rw [show decide (y<y')=decide (x<x∨x=x∧y<y') from qz.mpr (by omega)]
   exact h
 ·rw [show (x == x')=false by simp [z]]
  refine kat_no ?_;show wpAny (model prog w) A (oneLt' true (.int x t) (.int x' t')) Q _ s;refine oneLt_int ?_;rw [show decide (x<x')=decide (x<x'∨x=x'∧y<y') from qz.mpr (by omega)]
  exact h
theorem F0{h:Heap}:∀{vs:List Value},(∀v∈vs,∃x y,eB h v x y)→∃fs:List Value,KatTups h vs fs∧fs.length=vs.length∧∀f∈fs,∃n t,f=.int n t
 | [],_=>⟨[],.nil,rfl,fun f hf=>by cases hf⟩
 | v::vs,hv=>by
  obtain ⟨fs,k,l,i⟩:=F0 (vs:=vs) fun v h=>hv v (bP _ h);obtain ⟨x,y,a,o,t,u,e,rfl,g,c,d⟩:=hv v cE;refine ⟨.int x t::fs,.cons g c d rfl k,by rw [dE,dE,l],fun f hf=>?_⟩
  rcases bb.mp hf with rfl | hf;·exact ⟨x,t,rfl⟩
  ·exact i f hf
theorem perm_back{α β:Type}{f:α→β}{l m:List β}(h:l.Perm m):∀q:List α,m=q.map f→∃p:List α,p.Perm q∧l=p.map f:=by
 induction h with
 | nil=>intro q e;exact ⟨q,List.Perm.refl _,e⟩
 | cons x _ ih=>
  intro q e
  match q,e with
  | a::q,e=>obtain ⟨rfl,e'⟩:=List.cons.inj e;obtain ⟨p,hp,rfl⟩:=ih q e';exact ⟨a::p,hp.cons a,rfl⟩
 | swap x y _=>
  intro q e
  match q,e with
  | a::b::q,e=>obtain ⟨rfl,e'⟩:=List.cons.inj e;obtain ⟨rfl,rfl⟩:=List.cons.inj e';exact ⟨b::a::q,List.Perm.swap ..,rfl⟩
 | trans _ _ N1 N2=>intro q e;obtain ⟨p,hp,e1⟩:=N2 q e;obtain ⟨p',kL,e2⟩:=N1 p e1;exact ⟨p',kL.trans hp,e2⟩
variable {h:Heap}
theorem eB.uniq{v:Value}(h1:eB h v x y)(h2:eB h v x' y'):x=x'∧y=y':=by obtain ⟨a,o,t,u,e,rfl,g,_,d⟩:=h1;obtain ⟨a',o',t',u',e',ev,g',_,d'⟩:=h2;cases ev;rw [g] at g';cases g';rw [d] at d';simp at d';exact ⟨d'.1.1.1,d'.1.2.1⟩
open Classical in
noncomputable def BL (h:Heap) (k:Keyed):Int:=if e:∃z:Int×Int,eB h k.1 z.1 z.2 then (choose e).1*1000+(choose e).2 else 0
theorem yB{v u:Value}(p:eB h v x y):BL h (v,u)=x*1000+y:=by have e:∃z:Int×Int,eB h (v,u).1 z.1 z.2:=⟨(x,y),p⟩;unfold BL;rw [dif_pos e];obtain ⟨a,b⟩:=(Classical.choose_spec e).uniq p;rw [a,b]
variable {vs:List Value}
theorem N3{x y:Nat→Int}(h2:2≤vs.length)(hv:∀i v,vs[i]?=some v→eB s.heap v (x i) (y i)∧0≤y i∧y i<1000){Q:SortSt→Shared→Prop}
  (hQ:∀(p:Array Nat) (st:SortSt),kH vs.length p→mU (fun i=>x i*1000+y i) p vs.length→(arrOf st).map (·.2)=List.toArray (p.toList.map fun i=>vs.getD i Value.none)→failedOf st=none→Q st s) :
  wpAny (model prog w) A (sortRuns'.run (SortSt.mk' (tuples' true) (vs.toArray.zip vs.toArray) #[] 7 none)) (fun r s'=>Q r.2 s') E s:=by
 have az:(vs.toArray.zip vs.toArray).size=vs.length:=by simp
 have ag:∀i,i<vs.length→(vs.toArray.zip vs.toArray).getD i nn=(vs.getD i Value.none,vs.getD i Value.none):=fun i hi=>by simp [Array.getD,hi]
 have ga:∀i (hi:i<vs.length),eB s.heap (vs.getD i Value.none) (x i) (y i)∧0≤y i∧y i<1000:=fun i hi=>by refine hv i _ ?_;simp [hi]
 have lt:i8 prog w A s (tuples' true) (BL s.heap) (fun k=>∃a b,eB s.heap k.1 a b∧0≤b∧b<1000):=by
  rintro ⟨u,u'⟩ ⟨v,v'⟩ ⟨a,b,p1,b0,b1⟩ ⟨c,d,p2,d0,d1⟩ C hC;refine N0 p1 p2 ?_;rw [yB p1,yB p2] at hC;rw [show decide (a<c∨a=c∧b<d)=decide (a*1000+b<c*1000+d) from qz.mpr (by omega)]
  exact hC
 have ok:eQ (fun k=>∃a b,eB s.heap k.1 a b∧0≤b∧b<1000) (vs.toArray.zip vs.toArray):=fun i hi=>by rw [az] at hi;rw [ag i hi];exact ⟨_,_,ga i hi⟩
 refine bZ (NW (E:=E) (Q:=fun _ st=>Q st s) (g:=7) lt ok fun aQ st pm sg ha hf=>?_) (fun r s' h'=>by obtain ⟨rfl,h'⟩:=h';exact h') fun _ _ e=>e
 have el:(vs.toArray.zip vs.toArray).toList=(List.range vs.length).map fun i=>(vs.getD i Value.none,vs.getD i Value.none):=by
  refine fH (by simp) fun i h1 h2=>?_
  have hi:i<vs.length:=by simpa using h2
  simp [hi]
 obtain ⟨p,hp,ep⟩:=perm_back (nV.mp pm) _ el;have pl:p.length=vs.length:=by rw [hp.length_eq,eW]
 have N4:∀i∈p,i<vs.length:=fun i hi=>bY.mp (hp.mem_iff.mp hi);have hsz:aQ.size=vs.length:=by rw [pm.size_eq,az]
 have gd:∀i,i<vs.length→aQ.getD i nn=(vs.getD (p.toArray.getD i 0) Value.none,vs.getD (p.toArray.getD i 0) Value.none)∧p.toArray.getD i 0<vs.length:=fun i hi=>by
  have e1:aQ.getD i nn=aQ.toList[i]'(by simp;omega):=by simp [Array.getD,show i<aQ.size by omega]
  have e2:p.toArray.getD i 0=p[i]'(by omega):=by simp [Array.getD,show i<p.length by omega]
  rw [e1,e2];refine ⟨?_,N4 _ (bJ _)⟩;simp [ep]
 refine hQ p.toArray st (nV.mpr (by simpa using hp)) (fun i j h1 h3=>?_) ?_ hf
 ·have:=sg i j (b7 _) h1 (by rw [az];exact h3)
  unfold vA at this;obtain ⟨e1,l1⟩:=gd i (by omega)
  obtain ⟨e2,l2⟩:=gd j h3;rw [e1,e2,yB (ga _ l1).1,yB (ga _ l2).1] at this;exact this
 ·rw [ha]
  apply Array.toList_inj.mp;rw [Array.toList_map,ep,dF];rfl
theorem N5{Q:SortKind→Shared→Prop}(h1:1≤vs.length)(hv:∀v∈vs,∃x y,eB s.heap v x y)(h:Q (tuples' true) s):wpAny (model prog w) A (keyKind' vs.toArray) Q E s:=by
 obtain ⟨fs,k,l,i⟩:=F0 hv;refine kat_kind (T:=Value.type "int") k (by omega) (fun v hv=>?_) rfl h
 obtain ⟨n,t,rfl⟩:=i v hv;exact .now
theorem eB.mono{h':Heap}{v:Value}(k:∀b o,h.get? b=some o→h'.get? b=some o)(p:eB h v x y):eB h' v x y:=by obtain ⟨a,o,t,u,e,rfl,g,c,d⟩:=p;exact ⟨a,o,t,u,e,rfl,k _ _ g,c,d⟩
theorem N6{a:Addr}{n:Nat}{x y:Nat→Int}{P:PySem.Fin→Shared→Prop}(ho:s.heap.get? a=some (seqObj "list" vs.toArray n))(yC:vs.length<2000)(hv:∀i v,vs[i]?=some v→eB s.heap v (x i) (y i)∧0≤y i∧y i<1000)
  (h:∀(p:Array Nat),kH vs.length p→mU (fun i=>x i*1000+y i) p vs.length→P (.done (.ret .none)) {s with heap:=sortedHeap s.heap a vs (List.toArray (p.toList.map fun i=>vs.getD i Value.none))}) :
  wpAny (model prog w) A (Builtin.«list.sort» ⟨[.ref a],[]⟩) P E s:=by
 have sl:vs.length≤sizeLine:=by rw [md];omega
 have lt:=aU ho
 obtain ⟨e1,g1⟩:∃e,(s.heap.update a (Obj.mapSeq fun _=>#[])).get? a=some (seqObj "list" #[] e):=⟨_,get?_update_seq ho fun _=>#[]⟩
 have z1:(s.heap.update a (Obj.mapSeq fun _=>#[])).objs.size=s.heap.objs.size:=Heap.size_update _ _ _
 have up:∀b u,b<s.heap.objs.size→(s.heap.update a (Obj.mapSeq fun _=>#[])).get? b=some u→(((s.heap.update a (Obj.mapSeq fun _=>#[])).push (seqObj "tuple" vs.toArray 0)).push (seqObj "list" #[] 0)).get? b=some u:=fun b u hb hu=>by
  rw [qA _ _ _ (bX (by rw [size_push',z1];exact uz hb)),qA _ _ _ (bX (by rw [z1];exact hb))]
  exact hu
 have g3:=up a _ lt g1
 have F1:∀i v,vs[i]?=some v→eB (((s.heap.update a (Obj.mapSeq fun _=>#[])).push (seqObj "tuple" vs.toArray 0)).push (seqObj "list" #[] 0)) v (x i) (y i)∧0≤y i∧y i<1000:=fun i v hi=>by
  obtain ⟨⟨b,o,t,u,e,rfl,g,cc,d⟩,y0⟩:=hv i v hi
  have nb:b≠a:=fun q=>by
   rw [q,ho] at g
   cases g
   exact absurd (Value.type.inj cc) (by decide)
  refine ⟨⟨b,o,t,u,e,rfl,up b o (aU g) ?_,cc,d⟩,y0⟩
  rw [xc _ _ _ _ nb]
  exact g
 rw [list_sort_plain]
 refine a8 (listItems_at ho rfl (a8 (listUpdate_at ho rfl ?_ (by rw [b8];omega) (b7 _))))
 refine a8 (seqEpoch_at g1 rfl (a8 (wpAny_newTuple ?_ (by show vs.length≤_;omega))))
 refine a8 (wpAny_newList (qq ?_) (b7 _))
 show wpAny (model prog w) A _ P E {s with heap:=((s.heap.update a (Obj.mapSeq fun _=>#[])).push (seqObj "tuple" vs.toArray 0)).push (seqObj "list" #[] 0)}
 dsimp only
 have fin:∀(st:SortSt) (p:Array Nat),kH vs.length p→mU (fun i=>x i*1000+y i) p vs.length→(arrOf st).map (·.2)=List.toArray (p.toList.map fun i=>vs.getD i Value.none)→failedOf st=none→
   wpAny (model prog w) A (do
    let touched:=(←seqEpoch a) != e1
    Builtin.List.listUpdate (.ref a) fun _=>(arrOf st).map (·.2)
    if let some e:=failedOf st then rule "list.sort.comparison-raised";throw e
    if touched then rule "list.sort.modified";raiseError "ValueError" "list modified during sort"
    ret .none) P E {s with heap:=((s.heap.update a (Obj.mapSeq fun _=>#[])).push (seqObj "tuple" vs.toArray 0)).push (seqObj "list" #[] 0)}:=fun st p hp hu ha hf=>by
  refine a8 (seqEpoch_at g3 rfl (a8 (listUpdate_at g3 rfl ?_ (b7 _) ?_)))
  ·rw [hf,ha]
   simp only [bne_self_eq_false,Bool.false_eq_true,if_false]
   exact cS (h p hp hu)
  ·rw [ha,b8,aG,fF,hp.size]
   omega
 by_cases z:vs.toArray.size<2
 ·rw [ae z,ae z]
  refine a8 (cS ?_)
  rw [StateT.run_pure]
  refine a8 (cS ?_)
  have len:vs.length<2:=by simpa using z
  refine fin _ (List.toArray (List.range vs.length)) (Array.Perm.refl _) (fun a b h1 h2=>by
   obtain rfl:a=b:=by omega
   exact k8 _) ?_ rfl
  match vs,len with
  | [],_=>
   show Array.map (·.2) ((#[]:Array Value).zip #[])=_
   simp
  | [v],_=>
   show Array.map (·.2) (#[v].zip #[v])=_
   simp
 ·rw [aa z,aa z]
  have len:2≤vs.length:=by simpa using z
  refine a8 (N5 (by omega) (fun v hm=>?_) ?_)
  ·obtain ⟨i,hi,rfl⟩:=nS hm
   exact ⟨_,_,(F1 i _ (by simp [hi])).1⟩
  ·refine a8 (bZ (N3 (Q:=fun st s'=>s'={s with heap:=((s.heap.update a (Obj.mapSeq fun _=>#[])).push (seqObj "tuple" vs.toArray 0)).push (seqObj "list" #[] 0)}∧∃p,kH vs.length p∧mU (fun i=>x i*1000+y i) p vs.length∧(arrOf st).map (·.2)=List.toArray (p.toList.map fun i=>vs.getD i Value.none)∧failedOf st=none) len F1 fun p st a1 a2 a3 a4=>⟨rfl,p,a1,a2,a3,a4⟩) ?_ fun _ _ e=>e)
   rintro ⟨⟨⟩,st⟩ s' ⟨rfl,p,a1,a2,a3,a4⟩
   exact fin st p a1 a2 a3 a4
end
open PySem PySem.W PyProof.Rows
section
variable {prog:Program} {w:World} {A:Around} {E:aM} {s:Shared}
theorem N7{l:Addr}{vs:List Value}{x y:Nat→Int}{Q:aM}(hl:s.heap.IsList l vs.toArray)(yC:vs.length<2000)(hv:∀i v,vs[i]?=some v→eB s.heap v (x i) (y i)∧0≤y i∧y i<1000)
  (h:∀(p:Array Nat) (h':Heap) (c:Nat),kH vs.length p→mU (fun i=>x i*1000+y i) p vs.length→(∀b o,s.heap.get? b=some o→h'.get? b=some o)→h'.get? (s.heap.objs.size+1)=some (seqObj "list" (List.toArray (p.toList.map fun i=>vs.getD i Value.none)) c)→Q (.ref (s.heap.objs.size+1)) {s with heap:=h'}) :
  wpAny (model prog w) A (call (.builtin "sorted") [.ref l]) Q E s:=by
 have sl:vs.length≤sizeLine:=by rw [md];omega
 refine Calls.call_function_entry kind_sorted plain_sorted entry_sorted (args_sorted1 _) ?_;unfold Builtin.«sorted»;refine a8 (m:=checkCount "sorted" 1 1 _) (cS (a8 (collect_list hl (a8 (wpAny_newList ?_ sl)) sl)));have zz:((s.heap.push (seqObj "list" #[] 0)).update s.heap.objs.size (Obj.mapSeq (·++vs.toArray))).objs.size=s.heap.objs.size+1:=by rw [Heap.size_update,size_push']
 have kp:∀b o,s.heap.get? b=some o→(((s.heap.push (seqObj "list" #[] 0)).update s.heap.objs.size (Obj.mapSeq (·++vs.toArray))).push (seqObj "list" vs.toArray 0)).get? b=some o:=fun b o g=>by
  have lt:=aU g;rw [qA _ _ _ (bX (by rw [zz];exact uz lt)),xc _ _ _ _ (bX lt),qA _ _ _ (bX lt)]
  exact g
 have gL:(((s.heap.push (seqObj "list" #[] 0)).update s.heap.objs.size (Obj.mapSeq (·++vs.toArray))).push (seqObj "list" vs.toArray 0)).get? (s.heap.objs.size+1)=some (seqObj "list" vs.toArray 0):=by rw [←zz];exact eI _ rfl
 show wpAny _ _ _ _ _ {s with heap:=((s.heap.push (seqObj "list" #[] 0)).update s.heap.objs.size (Obj.mapSeq (·++vs.toArray))).push (seqObj "list" vs.toArray 0)};rw [zz];generalize ((s.heap.push (seqObj "list" #[] 0)).update s.heap.objs.size (Obj.mapSeq (·++vs.toArray))).push (seqObj "list" vs.toArray 0)=h1 at kp gL;refine a8 (qq (wpAny_call_entry slot_list_sort ⟨_,gL,rfl⟩ entry_list_sort (N6 (s:={s with heap:=h1}) gL yC (fun i v hi=>⟨(hv i v hi).1.mono kp,(hv i v hi).2⟩) fun p hp hu=>⟨_,rfl,?_⟩) (args_list_sort _)));have N8:=aU gL;have z1:(h1.update (s.heap.objs.size+1) (Obj.mapSeq fun _=>#[])).objs.size=h1.objs.size:=Heap.size_update _ _ _;obtain ⟨e1,g1⟩:∃e,(h1.update (s.heap.objs.size+1) (Obj.mapSeq fun _=>#[])).get? (s.heap.objs.size+1)=some (seqObj "list" #[] e):=⟨_,get?_update_seq gL fun _=>#[]⟩;have up:∀b u,b<h1.objs.size→(h1.update (s.heap.objs.size+1) (Obj.mapSeq fun _=>#[])).get? b=some u→(((h1.update (s.heap.objs.size+1) (Obj.mapSeq fun _=>#[])).push (seqObj "tuple" vs.toArray 0)).push (seqObj "list" #[] 0)).get? b=some u:=fun b u hb hu=>by
  rw [qA _ _ _ (bX (by rw [size_push',z1];exact uz hb)),qA _ _ _ (bX (by rw [z1];exact hb))]
  exact hu
 have g3:=up _ _ N8 g1;refine cS ⟨_,rfl,h p _ _ hp hu (fun b o g=>?_) (get?_update_seq g3 fun _=>List.toArray (p.toList.map fun i=>vs.getD i Value.none))⟩;have g':=kp b o g;have ne:b≠s.heap.objs.size+1:=bX (uz (aU g));show (Heap.update _ _ _).get? b=some o;rw [xc _ _ _ _ ne];refine up b o (aU g') ?_;rw [xc _ _ _ _ ne];exact g'
end
end My
namespace L2
open PySem PySem.W PyProof.Rows My
def F2:List V→Hp→VK→Prop:=fun xs H Q=>∃(a:Addr) (vs:List V) (x y:Nat→Int),xs=[.ref a]∧H a=some (.lst vs)∧vs.length<2000∧(∀(i:Nat) (v:V),vs[i]?=some v→(∃b,v=.ref b∧H b=some (.tup [.int (x i),.int (y i)]))∧0≤y i∧y i<1000) ∧
 ∀(p:Array Nat) (l:Addr),kH vs.length p→mU (fun i=>x i*1000+y i) p vs.length→H l=none→Q (.ref l) (upd H l (.lst (p.toList.map fun i=>vs.getD i .aJ)))
theorem F3{xs:List V}{us:List Value}(r:Vals xs us):∀(ns:List Nat),(∀i∈ns,i<xs.length)→Vals (ns.map fun i=>xs.getD i .aJ) (ns.map fun i=>us.getD i Value.none)
 | [],_=>.nil
 | i::ns,h=>by
  have hi:=h i cE;obtain ⟨u,e,ru⟩:=r.get (i:=i) (x:=xs[i]) (by simp [hi])
  refine .cons ?_ (F3 r ns fun j hj=>h j (bP _ hj));dsimp only;rw [show xs.getD i .aJ=xs[i] by simp [hi],show us.getD i Value.none=u by rw [b9,e];rfl]
  exact ru
theorem BM{X:Cx}:fv X (.builtin "sorted") F2:=by
 intro pins s σ H xs us Q I r h;obtain ⟨a,vs,x,y,rfl,ha,yC,hv,k⟩:=h;obtain ⟨u,rfl,ru⟩:=vals1 r;cases ru;obtain ⟨its,rv,pl,hz⟩:=I.list (.of ha);have hl:=rv.length;refine N7 (x:=x) (y:=y) pl.isList (by omega) (fun i v hi=>?_) fun p h' c hp hu kp g=>?_
 ·have bg:i<vs.length:=by have:=(cp.mp hi).1;omega
  have gi:vs[i]?=some vs[i]:=by simp [bg]
  obtain ⟨⟨b,eb,hb⟩,N9⟩:=hv i _ gi;obtain ⟨u,eu,ru⟩:=rv.get gi;rw [hi] at eu;cases eu;rw [eb] at ru;cases ru;obtain ⟨_,mM,r2,o,g,cl,e,d⟩:=(show cf X.prog X.w H s.heap b (.tup [.int (x i),.int (y i)]) from I.aw b _ hb);obtain ⟨u1,u2,rfl,q1,q2⟩:=vals2 r2;obtain ⟨t1,rfl⟩:=q1;obtain ⟨t2,rfl⟩:=q2;exact ⟨⟨b,o,t1,t2,e,rfl,g,cl,d⟩,N9⟩
 ·rw [←hl] at hp hu
  have sz:=hp.size;refine ⟨.ref (s.heap.objs.size+1),_,I.laid (t':=s.toks) (o:=.lst (p.toList.map fun i=>vs.getD i .aJ)) kp (qw _) ⟨?_,p.toList.map fun i=>its.getD i Value.none,c,?_,g⟩,rfl,k p _ hp hu (I.aw.fresh (qw _))⟩
  ·rw [aG,fF,sz]
   exact hz
  ·refine F3 rv _ fun i hi=>?_
   have m:i∈List.toArray (List.range vs.length):=(Array.Perm.mem_iff hp).mp (Array.mem_toList_iff.mp hi);simpa using m
end L2
namespace My
open PySem L2
def N_(K:aB):R2:=fun x y H Q=>∃a b xs,x=.ref a∧y=.ref b∧aO K H a xs∧H b=some (.lst [])∧Q (.bl (!xs.isEmpty)) H
theorem F4{X:Cx}(hu:X.A.units+64<cLine):cq X (compareOp .NotEq) (N_ X.K):=by
 intro pins s σ H x y v u Q I rx ry h;obtain ⟨a,b,xs,rfl,rfl,h1,h2,q⟩:=h;cases rx;cases ry;obtain ⟨us,r1,t1,_⟩:=I.list h1;obtain ⟨vs,r2,t2,_⟩:=I.list (aO.of h2);have l1:=r1.length;have l2:=r2.length;cases xs with
 | nil=>
  refine SeqAt.RcNeAt.lists (e:=fun _=>true) t1.isList t2.isList (by simp at l1 l2 ⊢;omega) (by omega) (fun j z1 z2=>?_) _ _ _ _ ?_
  ·simp at l1
   have:us=[]:=List.length_eq_zero_iff.mp l1.symm;subst this;simp at z1
  ·rw [all_range]
   exact ⟨.bl false,H,I,rfl,q⟩
 | cons w ws=>
  refine SeqAt.RcNeAt.lists_lengths t1.isList t2.isList ?_ (by omega) _ _ _ _ ⟨.bl true,H,I,rfl,q⟩
  simp at l1 l2 ⊢;omega
variable {σ:St} {H:Hp}
theorem F5{c:TT}{t u:TS}{D:Ends}(M:St→Hp→Prop)(hM:∀σ H,M σ H→D.nx σ H)(k:∀R:St→Hp→Prop,(∀σ H,M σ H→R σ H)→AU c t u {D with nx:=R} σ H):AU c t u D σ H:=k D.nx hM
def Oa(K:aB):Sp:=fun vs H Q _=>∃(P a l:Addr) (ns:List Int) (xs:List V),vs=[.ref P,.ref l]∧bT H P a∧aO K (er P H) a (ns.map V.int)∧l≠P∧H l=some (.lst xs)∧xs.length≤100 ∧
 ∀(r:Addr) (ys:List V) (H':Hp),aN P H H'→bT H' P a→er P H r=none→r≠P→H' r=some (.lst ys)→ys.Perm xs→Q (.ref r) H'
def Ob(K:aB):Sp:=fun vs H Q _=>∃(P a:Addr) (ns:List Int) (way size wide i j:Int),vs=[.ref P,.int way,.int size,.int wide,.int i,.int j]∧bT H P a∧aO K (er P H) a (ns.map V.int) ∧
 ∀(b:Bool) (H':Hp),aN P H H'→bT H' P a→Q (.bl b) H'
theorem F6{α:Type}:∀(zs:List α) (k:Nat) (h:k<zs.length),(zs[k]::zs.eraseIdx k).Perm zs
 | _::_,0,_=>.refl _
 | z::zs,k+1,h=>(List.Perm.swap _ _ _).trans ((F6 zs k (by simpa using h)).cons z)
def aW(H:Hp)(vs:List V)(L:av):Prop:=vs.length=L.length∧∀(k:Nat) (v:V) (p:Int×Int),vs[k]?=some v→L[k]?=some p→∃b,v=.ref b∧H b=some (.tup [.int p.1,.int p.2])
theorem aW.nil(H:Hp):aW H [] []:=⟨rfl,fun k v p h=>by simp at h⟩
variable {H':Hp} {vs:List V} {L:av}
theorem aW.mono(h:aW H vs L)(s:ak H H'):aW H' vs L:=⟨h.1,fun k v p h1 h2=>by obtain ⟨b,e,g⟩:=h.2 k v p h1 h2;exact ⟨b,e,s _ _ g⟩⟩
variable {r:Addr} {xs:List V}
theorem aW.bS(h:aW H vs L)(e:H r=some (.lst xs))(k:∀b o,b≠r→H b=some o→H' b=some o):aW H' vs L:=⟨h.1,fun i v p h1 h2=>by obtain ⟨b,eb,g⟩:=h.2 i v p h1 h2;refine ⟨b,eb,k b _ (fun z=>?_) g⟩;rw [z,e] at g;cases g⟩
variable {b:Addr} {p:Int×Int}
theorem aW.push(h:aW H vs L)(e:H b=some (.tup [.int p.1,.int p.2])):aW H (vs++[.ref b]) (L++[p]):=⟨by simp [h.1],fun k v q h1 h2=>by
 have hl:=h.1;by_cases z:k<vs.length
 ·rw [gM z] at h1
  rw [gM (by omega)] at h2
  exact h.2 k v q h1 h2
 ·have hk:=(cp.mp h1).1
  rw [dP,uo] at hk;obtain rfl:k=vs.length:=by omega
  rw [gK (ax _),uv] at h1;rw [gK (by omega),show vs.length-L.length=0 by omega] at h2
  cases h1;cases h2;exact ⟨b,rfl,e⟩⟩
structure jd (n:Nat) (L:av):Prop where
 nd:L.Nodup
 lt:∀p∈L,0≤p.1∧p.1<p.2∧p.2<n
 dC:L.length≤n*n / 2
def lexLt(p q:Int×Int):Prop:=p.1<q.1∨p.1=q.1∧p.2<q.2
variable {M:av}
theorem Oc{p:Array Nat}(P:kH M.length p)(U:mU (fun i=>(M.getD i (0,0)).1*1000+(M.getD i (0,0)).2) p M.length)(nd:M.Nodup)(b:∀q∈M,0≤q.2∧q.2<1000) :
  (p.toList.map fun i=>M.getD i (0,0)).Perm M∧(p.toList.map fun i=>M.getD i (0,0)).Pairwise lexLt:=by
 have pm:p.toList.Perm (List.range M.length):=nV.mp P;have pn:p.toList.Nodup:=pm.nodup_iff.mpr nW;have lt:∀i∈p.toList,i<M.length:=fun i hi=>bY.mp (pm.mem_iff.mp hi);refine ⟨?_,?_⟩
 ·have e:((List.range M.length).map fun i=>M.getD i (0,0))=M:=by
   refine fH (by simp) fun i h1 h2=>?_
   rw [eJ,lh,getD_at h2]
  have:=pm.map fun i=>M.getD i (0,0);rw [e] at this;exact this
 ·rw [uB]
  intro i j hi hj Bz;rw [aG] at hi hj;rw [eJ,eJ];have sz:=P.size;have li:p.toList[i]<M.length:=lt _ (bJ _);have lj:p.toList[j]<M.length:=lt _ (bJ _);have u:=U i j (by omega) (by rw [←sz,←fF];exact hj)
  unfold vN at u;have gi:p.getD i 0=p.toList[i]:=by
   have:i<p.size:=by rw [←fF];exact hi
   simp [Array.getD,this]
  have gj:p.getD j 0=p.toList[j]:=by
   have:j<p.size:=by rw [←fF];exact hj
   simp [Array.getD,this]
  rw [gi,gj] at u;dsimp only at u;rw [getD_at li,getD_at lj] at u;rw [getD_at li,getD_at lj];have ne:M[p.toList[i]]≠M[p.toList[j]]:=fun e=>by have e1:=(nN nd).mp e;have e2:=(nN pn).mp e1;omega
  have b1:=b _ (bJ li);have b2:=b _ (bJ lj);generalize M[p.toList[i]]=x at u ne b1;generalize M[p.toList[j]]=y at u ne b2;obtain ⟨x1,x2⟩:=x;obtain ⟨y1,y2⟩:=y;unfold lexLt;dsimp only at u b1 b2 ⊢;by_cases z:x1<y1;·exact .inl z
  ·right
   have e1:x1=y1:=by omega
   subst e1;refine ⟨rfl,?_⟩;by_cases y:x2=y2
   ·subst y
    exact absurd rfl ne
   ·omega
theorem vz{α β:Type}{f:α→β}:∀{L:List α},L.Nodup→(∀p q,p∈L→q∈L→f p=f q→p=q)→(L.map f).Nodup
 | [],_,_=>qB
 | x::L,h,k=>by obtain ⟨h1,h2⟩:=fk.mp h;refine fk.mpr ⟨fun m=>?_,vz h2 fun p q hp hq=>k p q (bP _ hp) (bP _ hq)⟩;obtain ⟨y,hy,e⟩:=b_.mp m;have:=k y x (bP _ hy) cE e;rw [this] at hy;exact h1 hy
def gA(nm:Nat→Int)(p:Int×Int):Int×Int:=(min (nm p.1.toNat) (nm p.2.toNat),max (nm p.1.toNat) (nm p.2.toNat))
structure BN (n:Nat) (nm:Nat→Int):Prop where
 lt:∀i,i<n→0≤nm i∧nm i<n
 inj:∀i j,i<n→j<n→nm i=nm j→i=j
variable {n:Nat}
theorem Od{nm:Nat→Int}(h:jd n L)(N:BN n nm):jd n (L.map (gA nm)) where
 nd:=by
  refine vz h.nd fun p q hp hq e=>?_;have a:=h.lt p hp;have b:=h.lt q hq;obtain ⟨p1,p2⟩:=p;obtain ⟨q1,q2⟩:=q;obtain ⟨i,rfl⟩:=ft (show 0≤p1 by dsimp only at a;omega)
  obtain ⟨j,rfl⟩:=ft (show 0≤p2 by dsimp only at a;omega)
  obtain ⟨k,rfl⟩:=ft (show 0≤q1 by dsimp only at b;omega)
  obtain ⟨l,rfl⟩:=ft (show 0≤q2 by dsimp only at b;omega)
  dsimp only at a b;have e1:=cR Prod.fst e;have e2:=cR Prod.snd e;unfold gA at e1 e2;simp only [dh] at e1 e2;have ij:nm i≠nm j:=fun z=>by have:=N.inj i j (by omega) (by omega) z;omega
  have kl:nm k≠nm l:=fun z=>by have:=N.inj k l (by omega) (by omega) z;omega
  by_cases z:nm i=nm k
  ·have e3:nm j=nm l:=by omega
   have i1:=N.inj i k (by omega) (by omega) z
   have i2:=N.inj j l (by omega) (by omega) e3
   rw [i1,i2]
  ·have e3:nm i=nm l:=by omega
   have e4:nm j=nm k:=by omega
   have i1:=N.inj i l (by omega) (by omega) e3
   have i2:=N.inj j k (by omega) (by omega) e4
   omega
 lt:=fun p hp=>by
  obtain ⟨q,hq,rfl⟩:=b_.mp hp;have a:=h.lt q hq;have n1:=N.lt q.1.toNat (by omega)
  have n2:=N.lt q.2.toNat (by omega)
  have ne:nm q.1.toNat≠nm q.2.toNat:=fun z=>by have:=N.inj _ _ (by omega) (by omega) z;omega
  unfold gA;dsimp only;omega
 dC:=by rw [aG];exact h.dC
theorem jd.perm{L':av}(h:jd n L)(p:L'.Perm L):jd n L':=⟨p.nodup_iff.mpr h.nd,fun q hq=>h.lt q (p.mem_iff.mp hq),by rw [p.length_eq];exact h.dC⟩
def c_(H:Hp)(t:Addr)(n:Nat)(L:av):Prop:=∃(lt:Addr) (us:List V),H t=some (.tup [.int (n:Int),.ref lt])∧H lt=some (.tup us)∧aW H us L
def Oe:Sp:=fun vs H Q _=>∃(l r:Addr) (n:Nat) (us ws:List V) (L:av) (nm:Nat→Int),vs=[.int (n:Int),.ref l,.ref r]∧H l=some (.lst us)∧aW H us L∧jd n L∧n≤30∧H r=some (.lst ws)∧ws.length=n∧(∀i,i<n→ws[i]?=some (.int (nm i)))∧BN n nm ∧
 ∀(t:Addr) (L':av) (H':Hp),ak H H'→H t=none→c_ H' t n L'→jd n L'→L'.Pairwise lexLt→L'.Perm (L.map (gA nm))→Q (.ref t) H'
variable {us:List V}
theorem aW.pick(h:aW H us M)(ns:List Nat)(hn:∀i∈ns,i<M.length):aW H (ns.map fun i=>us.getD i .aJ) (ns.map fun i=>M.getD i (0,0)):=⟨by simp,fun k v p h1 h2=>by
 have hl:=h.1;have hk:k<ns.length:=by have:=(cp.mp h1).1;simpa using this
 have hi:=hn ns[k] (bJ hk);rw [bD,bU hk] at h1 h2;cases h1;cases h2;dsimp only;have bg:ns[k]<us.length:=by omega
 rw [getD_at hi];have e:us.getD ns[k] .aJ=us[ns[k]]:=by simp [bg]
 rw [e];exact h.2 ns[k] _ _ (by simp [bg]) (by simp [hi])⟩
variable {wi:TI} {ρ:St→St} {tt:TT} {te:TE} {Q:VK} {P a:Addr}
theorem Of{K:aB}{l:Addr}(hn:xs.length<sizeLine)(nl:l≠P)(el:H l=some (.lst xs))(pc:bT H P a)
  (iH:∀R:It→Hp→Prop,R (lC K l) H→wi σ H R)
  (test:∀(i:Nat) (x:V),xs[i]?=some x→∀(Hc:Hp) (R:Bool→Hp→Prop),aN P H Hc→bT Hc P a→(∀b H3,aN P Hc H3→bT H3 P a→R b H3)→tt (some x::ρ σ) Hc R)
  (elem:∀(x:V) (Hc:Hp) (R:VK),R x Hc→te (some x::ρ σ) Hc R)
  (fin:∀(D:Addr) (ys:List V) (Hc:Hp),D≠P→er P H D=none→aN P H Hc→bT Hc P a→ys.Sublist xs→Hc D=some (.lst ys)→Q (.ref D) Hc):i6 wi ρ tt te σ H Q:=by
 refine iH _ fun D nD=>?_;have nP:=pc.ne nD;have lD:l≠D:=fun e=>by rw [e,nD] at el;cases el
 refine ⟨fun i m ys Hc=>m=xs.length-i∧i≤xs.length∧Hc D=some (.lst ys)∧aN P H Hc∧bT Hc P a∧ys.Sublist (xs.take i),⟨_,rfl,b7 _,ay,(aN.refl H).but nD,pc.upd nP,by simp⟩,?_⟩
 rintro i m ys Hc ⟨rfl,hi,eD,sH,F7,sub⟩;refine ⟨eD,?_⟩;have oR:=sH.at nl el;by_cases a_:i<xs.length
 ·refine .inr ⟨⟨xs,xs[i],.of oR,by simp [a_]⟩,fun x H' hy=>?_⟩
  obtain ⟨rfl,hx⟩:=hy;have ex:=hx xs (.of oR);refine test i x ex _ _ sH F7 fun b H3 s3 p3=>?_;have tk:xs.take (i+1)=xs.take i++[x]:=by rw [mw,ex];rfl
  have e3:=s3.at nP eD;cases b with
  | true=>
   rw [ae rfl];refine elem x H3 _ ⟨e3,?_,xs.length-(i+1),by omega,rfl,a_,ay,(sH.trans s3).but nD,p3.upd nP,?_⟩
   ·have:=sub.length_le
    rw [qu] at this;omega
   ·rw [tk]
    exact sub.append (List.Sublist.refl _)
  | false=>
   rw [aa (by simp)]
   refine ⟨xs.length-(i+1),by omega,rfl,a_,e3,sH.trans s3,p3,?_⟩
   rw [tk];exact sub.trans (List.sublist_append_left _ _)
 ·have e:i=xs.length:=by omega
  subst e;rw [hW] at sub;exact .inl ⟨⟨xs,.of oR,by omega⟩,fin D ys Hc nP (by rw [eO nP];exact nD) sH F7 sub eD⟩
def fb(k:Nat)(d:List Nat):Prop:=d.Pairwise (fun a b=>b<a)∧∀x∈d,x<k
theorem fb.len:∀{d:List Nat} {k:Nat},fb k d→d.length≤k
 | [],_,_=>b7 _
 | x::d,k,h=>by obtain ⟨h1,h2⟩:=nX.mp h.1;have:=fb.len (k:=x) ⟨h2,fun y hy=>h1 y hy⟩;have:=h.2 x cE;rw [dE];omega
theorem fb.nil(k:Nat):fb k []:=⟨List.Pairwise.nil,fun x hx=>by cases hx⟩
variable {k:Nat} {d:List Nat}
theorem fb.sub{e:List Nat}(h:fb k d)(s:e.Sublist d):fb k e:=⟨h.1.sublist s,fun x hx=>h.2 x (s.subset hx)⟩
variable {j:Nat}
theorem fb.put(h:fb k d)(hk:k<j):fb j (k::d):=⟨nX.mpr ⟨h.2,h.1⟩,fun x hx=>by
 rcases bb.mp hx with rfl | hx;·exact hk
 ·have:=h.2 x hx
  omega⟩
theorem fb.nd(h:fb k d):d.Nodup:=h.1.imp fun h=>by omega
def eC(d:List Nat):List V:=d.map fun(x:Nat)=>V.int (x:Int)
theorem BO:∀{d:List Nat} {ys:List V},ys.Sublist (eC d)→∃e:List Nat,e.Sublist d∧ys=eC e
 | [],ys,h=>⟨[],List.Sublist.refl _,by have h:ys.Sublist []:=h;rw [List.sublist_nil.mp h];rfl⟩
 | x::d,ys,h=>by
  have h:ys.Sublist (V.int (x:Int)::eC d):=h;cases h with
  | cons _ h=>obtain ⟨e,h1,h2⟩:=BO h;exact ⟨e,h1.cons _,h2⟩
  | cons_cons _ h=>obtain ⟨e,h1,h2⟩:=BO h;exact ⟨x::e,.cons_cons _ h1,by rw [h2];rfl⟩
structure lR (j:Nat) (L:av):Prop where
 nd:L.Nodup
 lt:∀p∈L,0≤p.1∧p.1<p.2∧p.2<j
 dC:2*L.length≤j*(j-1)
theorem lR.nil:lR 1 []:=⟨qB,(fun p hp=>by cases hp),by simp⟩
theorem lR.ok(h:lR n L):jd n L:=⟨h.nd,h.lt,by
 have:=h.dC;have:n*(n-1)≤n*n:=Nat.mul_le_mul_left _ (by omega)
 omega⟩
theorem lR.more(h:lR j L)(hd:fb j d):lR (j+1) (L++d.map fun(x:Nat)=>((x:Int),(j:Int))) where
 nd:=by
  refine jt.mpr ⟨h.nd,vz hd.nd fun p q _ _ e=>by have:=cR Prod.fst e;dsimp only at this;omega,fun p hp q hq e=>?_⟩
  obtain ⟨x,_,rfl⟩:=b_.mp hq;have:=h.lt p hp;rw [e] at this;dsimp only at this;omega
 lt:=fun p hp=>by
  rcases dI.mp hp with hp | hp
  ·have:=h.lt p hp
   omega
  ·obtain ⟨x,hx,rfl⟩:=b_.mp hp
   have:=hd.2 x hx;dsimp only;omega
 dC:=by
  have a:=h.dC;have b:=hd.len;rw [dP,aG,xf];cases j with
  | zero=>rw [Nat.zero_mul] at a;rw [Nat.mul_zero];omega
  | succ j=>
   rw [xf] at a;have e:(j+1+1)*(j+1)=(j+1)*j+2*(j+1):=by grind
   rw [e];omega
def Og(K:aB):Sp:=fun vs H Q _=>∃(P a:Addr) (ns:List Int) (n:Nat),vs=[.ref P,.int (n:Int)]∧bT H P a∧aO K (er P H) a (ns.map V.int)∧1≤n∧n≤30 ∧
 ∀(r:Addr) (us:List V) (L:av) (H':Hp),aN P H H'→bT H' P a→er P H r=none→r≠P→H' r=some (.lst us)→aW (er P H') us L→jd n L→Q (.ref r) H'
def Oh(H:Hp)(vs:List V)(j:Nat)(D:Nat→List Nat):Prop:=vs.length=j∧∀k,k<j→fb k (D k)∧∃b,vs[k]?=some (.ref b)∧H b=some (.lst (eC (D k)))
theorem BP{o:HO}:∀b o',b≠r→er P H b=some o'→er P (upd H r o) b=some o':=fun b o' nb e=>by
 by_cases z:b=P
 ·subst z
  unfold er at e;rw [ae rfl] at e;cases e
 ·rw [eO z] at e ⊢
  rw [aH nb];exact e
theorem aW.cat{zs:List V}(h:aW H us L)(g:aW H zs M):aW H (us++zs) (L++M):=⟨by simp [h.1,g.1],fun k v p h1 h2=>by
 have hl:=h.1;by_cases z:k<us.length
 ·rw [gM z] at h1
  rw [gM (by omega)] at h2
  exact h.2 k v p h1 h2
 ·rw [gK (by omega)] at h1
  rw [gK (by omega),show k-L.length=k-us.length by omega] at h2
  exact g.2 _ v p h1 h2⟩
variable {i:Nat}
theorem Oi{x:V}(h:(eC d)[i]?=some x):∃y,d[i]?=some y∧x=.int (y:Int):=by
 unfold eC at h;rw [bD] at h;cases e:d[i]? with
 | none=>rw [e] at h;cases h
 | some y=>rw [e] at h;cases h;exact ⟨y,rfl,rfl⟩
theorem vB(p:bT H P a)(e:H b=some (.tup xs)):er P H b=some (.tup xs):=by refine yi (fun z=>?_) e;obtain ⟨x,y,eP,_⟩:=p;rw [z,eP] at e;cases e
structure fS (j i:Nat) (L:av):Prop where
 nd:L.Nodup
 lt:∀p∈L,0≤p.1∧p.1<p.2∧(p.2<j∨p.2=j∧p.1<i)
 dC:2*L.length≤j*(j-1)+2*i
theorem fS.start:fS 0 0 []:=⟨qB,(fun p hp=>by cases hp),by simp⟩
theorem fS.skip(h:fS j i L):fS j (i+1) L:=⟨h.nd,fun p hp=>by
 have:=h.lt p hp;omega,by
 have:=h.dC;omega⟩
theorem fS.push(h:fS j i L)(hi:i<j):fS j (i+1) (L++[((i:Int),(j:Int))]) where
 nd:=by
  refine jt.mpr ⟨h.nd,by simp,fun p hp q hq e=>?_⟩
  rw [dt.mp hq] at e;have:=h.lt p hp;rw [e] at this;dsimp only at this;omega
 lt:=fun p hp=>by
  rcases dI.mp hp with hp | hp
  ·have:=h.lt p hp
   omega
  ·rw [dt.mp hp]
   dsimp only;omega
 dC:=by have:=h.dC;rw [dP,uo];omega
theorem fS.next(h:fS j j L):fS (j+1) 0 L:=⟨h.nd,fun p hp=>by
 have:=h.lt p hp;omega,by
 have a:=h.dC;rw [xf];cases j with
 | zero=>omega
 | succ j=>
  rw [xf] at a;have e:(j+1+1)*(j+1)=(j+1)*j+2*(j+1):=by grind
  rw [e];omega⟩
theorem fS.ok(h:fS n 0 L):jd n L:=⟨h.nd,fun p hp=>by
 have:=h.lt p hp;omega,by
 have:=h.dC;have:n*(n-1)≤n*n:=Nat.mul_le_mul_left _ (by omega)
 omega⟩
theorem Oj(n:Nat):(cV n).Nodup:=vz nW fun p q _ _ e=>by have:=V.int.inj e;omega
theorem Ol{ys:List V}(h:ys.Perm (cV n)):∃nm:Nat→Int,ys.length=n∧(∀i,i<n→ys[i]?=some (.int (nm i)))∧BN n nm:=by
 have ln:ys.length=n:=by rw [h.length_eq];unfold cV;simp
 have nd:ys.Nodup:=h.nodup_iff.mpr (Oj n);have each:∀i,∃x:Int,i<n→ys[i]?=some (.int x)∧0≤x∧x<n:=fun i=>by
  by_cases hi:i<n
  ·have bg:i<ys.length:=by omega
   have m:ys[i]∈cV n:=h.mem_iff.mp (bJ bg);obtain ⟨k,hk,e⟩:=b_.mp m;have:=bY.mp hk;exact ⟨(k:Int),fun _=>⟨by rw [e];simp [bg],by omega,by omega⟩⟩
  ·exact ⟨0,fun z=>absurd z hi⟩
 obtain ⟨nm,hn⟩:=Classical.axiomOfChoice each;refine ⟨nm,ln,fun i hi=>(hn i hi).1,fun i hi=>(hn i hi).2,fun i j hi hj e=>?_⟩;have a:=(hn i hi).1;have b:=(hn j hj).1;rw [e] at a;have bg:i<ys.length:=by omega
 have dA:j<ys.length:=by omega
 rw [bU bg] at a;rw [bU dA] at b;exact (nN nd).mp ((Option.some.inj a).trans (Option.some.inj b).symm)
def Om(K:aB):Sp:=fun vs H Q _=>∃(P a:Addr) (ns:List Int) (most:Nat),vs=[.ref P,.int (most:Int)]∧bT H P a∧aO K (er P H) a (ns.map V.int)∧1≤most∧most≤30 ∧
 ∀(t:Addr) (n:Nat) (L:av) (H':Hp),aN P H H'→bT H' P a→er P H t=none→t≠P→c_ (er P H') t n L→jd n L→L.Pairwise lexLt→1≤n→n≤most→Q (.ref t) H'
theorem aW.er(h:aW H us L)(p:bT H P a):aW (er P H) us L:=⟨h.1,fun k v q h1 h2=>by obtain ⟨b,e,g⟩:=h.2 k v q h1 h2;exact ⟨b,e,vB p g⟩⟩
variable {t:Addr}
theorem c_.er(h:c_ H t n L)(p:bT H P a):c_ (er P H) t n L:=by obtain ⟨lt,us,h1,h2,h3⟩:=h;exact ⟨lt,us,vB p h1,vB p h2,h3.er p⟩
theorem c_.mono(h:c_ H t n L)(s:ak H H'):c_ H' t n L:=by obtain ⟨lt,us,h1,h2,h3⟩:=h;exact ⟨lt,us,s _ _ h1,s _ _ h2,h3.mono s⟩
theorem Oo(pr:Nat→Bool)(iH:∀R:It→Hp→Prop,(∀J,lI J xs H→R J H)→wi σ H R)(hn:xs.length<sizeLine)
  (P:Addr→Nat→V→Hp→Prop) (mono:∀D i y H H' ys,P D i y H→H D=some (.lst ys)→(∀b o,b≠D→H b=some o→H' b=some o)→P D i y H')
  (test:∀(i:Nat) (x:V),xs[i]?=some x→∀(Hc:Hp) (R:Bool→Hp→Prop),ak H Hc→R (pr i) Hc→tt (some x::ρ σ) Hc R)
  (step:∀D (i:Nat) (x:V),xs[i]?=some x→∀(Hc:Hp) (R:VK),ak H Hc→(∃ys,Hc D=some (.lst ys))→(∀y H3,ak Hc H3→P D i y H3→R y H3)→te (some x::ρ σ) Hc R)
  (fin:∀D ys Hc,H D=none→ak H Hc→ys.length=((List.range xs.length).filter pr).length→(∀(k i:Nat) (y:V),ys[k]?=some y→((List.range xs.length).filter pr)[k]?=some i→P D i y Hc)→Hc D=some (.lst ys)→Q (.ref D) Hc):i6 wi ρ tt te σ H Q:=by
 refine iH _ fun J js=>?_;intro D nD;refine ⟨fun i m ys Hc=>m=xs.length-i∧i≤xs.length∧Hc D=some (.lst ys)∧ak H Hc∧ys.length=((List.range i).filter pr).length∧∀(k i':Nat) (y:V),ys[k]?=some y→((List.range i).filter pr)[k]?=some i'→P D i' y Hc,⟨_,rfl,b7 _,ay,fA (ak.refl H) nD,rfl,fun k i y h=>by simp at h⟩,?_⟩
 rintro i m ys Hc ⟨rfl,hi,eD,sH,ly,hP⟩;refine ⟨eD,?_⟩;by_cases a_:i<xs.length
 ·refine .inr ⟨js.go i Hc sH a_,fun x H' hy=>?_⟩
  obtain ⟨rfl,hx⟩:=js.dw i Hc x H' sH hy;refine test i x (hx a_) _ _ sH ?_;have fs:(List.range (i+1)).filter pr=(List.range i).filter pr++(if pr i=true then [i] else []):=by
   rw [qx,qC]
   congr 1
   cases e:pr i <;> simp [e]
  have fl:((List.range i).filter pr).length≤i:=cj (xg _ _) (by simp)
  cases e:pr i with
  | true=>
   rw [ae rfl];refine step D i x (hx a_) _ _ sH ⟨_,eD⟩ fun y H3 s3 hp=>?_;have e3:=s3 _ _ eD;have bS:∀b o,b≠D→H3 b=some o→upd H3 D (.lst (ys++[y])) b=some o:=fun b o nb e=>by rw [aH nb];exact e
   refine ⟨e3,by omega,xs.length-(i+1),by omega,rfl,a_,ay,fA (sH.trans s3) nD,?_,fun k i' y' h1 h2=>?_⟩
   ·rw [fs,e,ae rfl,dP,dP,ly]
    rfl
   ·rw [fs,e,ae rfl] at h2
    by_cases z:k<ys.length
    ·rw [gM z] at h1
     rw [gM (by omega)] at h2
     refine mono D i' y' H' _ ys (hP k i' y' h1 h2) eD fun b o nb e=>bS b o nb (s3 _ _ e)
    ·have hk:=(cp.mp h1).1
     rw [dP,uo] at hk;obtain rfl:k=ys.length:=by omega
     rw [gK (ax _),uv] at h1;rw [gK (by omega),show ys.length-((List.range i).filter pr).length=0 by omega] at h2
     cases h1;cases h2;exact mono D _ _ H3 _ ys hp e3 bS
  | false=>
   rw [aa (by simp)]
   refine ⟨xs.length-(i+1),by omega,rfl,a_,eD,sH,?_,fun k i' y' h1 h2=>?_⟩
   ·rw [fs,e,aa (by simp),k4]
    exact ly
   ·rw [fs,e,aa (by simp),k4] at h2
    exact hP k i' y' h1 h2
 ·have e:i=xs.length:=by omega
  subst e;exact .inl ⟨js.stop _ Hc sH (ax _),fin D ys Hc nD sH ly hP eD⟩
def BQ(n:Nat)(f:Nat→Nat→Bool)(i:Nat):List (Int×Int):=((List.range (n-(i+1))).filter fun k=>f i (i+1+k)).map fun k=>((i:Int),((i+1+k:Nat):Int))
def vD(n:Nat)(f:Nat→Nat→Bool):Nat→List (Int×Int)
 | 0=>[]
 | i+1=>vD n f i++BQ n f i
variable {f:Nat→Nat→Bool}
theorem F8(h:p∈BQ n f i):∃j,i<j∧j<n∧f i j=true∧p=((i:Int),(j:Int)):=by obtain ⟨k,hk,rfl⟩:=b_.mp h;obtain ⟨h1,h2⟩:=d6.mp hk;have:=bY.mp h1;exact ⟨i+1+k,by omega,by omega,h2,rfl⟩
theorem Oq(h1:i<j)(h2:j<n)(h3:f i j=true):((i:Int),(j:Int))∈BQ n f i:=by
 refine b_.mpr ⟨j-(i+1),d6.mpr ⟨bY.mpr (by omega),?_⟩,?_⟩
 ·show f i (i+1+(j-(i+1)))=true
  rw [show i+1+(j-(i+1))=j by omega]
  exact h3
 ·rw [show i+1+(j-(i+1))=j by omega]
theorem mem_of{n:Nat}{f:Nat→Nat→Bool}{p:Int×Int}:∀{k:Nat},p∈vD n f k→∃i j,i<k∧i<j∧j<n∧f i j=true∧p=((i:Int),(j:Int))
 | 0,h=>by cases h
 | k+1,h=>by
  rcases dI.mp h with h | h
  ·obtain ⟨i,j,h1,h2⟩:=mem_of h
   exact ⟨i,j,by omega,h2⟩
  ·obtain ⟨j,h1⟩:=F8 h
   exact ⟨k,j,by omega,h1⟩
theorem F9{n:Nat}{f:Nat→Nat→Bool}{i j:Nat}(h1:i<j)(h2:j<n)(h3:f i j=true):∀{k:Nat},i<k→((i:Int),(j:Int))∈vD n f k
 | k+1,h=>by
  by_cases z:i=k
  ·subst z
   exact d_ _ (Oq h1 h2 h3)
  ·exact l_ _ (F9 h1 h2 h3 (by omega))
theorem F_{n:Nat}{f:Nat→Nat→Bool}:∀k,(vD n f k).Pairwise lexLt
 | 0=>List.Pairwise.nil
 | k+1=>by
  refine List.pairwise_append.mpr ⟨F_ k,?_,fun p hp q hq=>?_⟩
  ·refine uD.mpr ((AH.sublist List.filter_sublist).imp fun h=>?_)
   right;dsimp only;omega
  ·obtain ⟨i,j,h1,_,_,_,rfl⟩:=mem_of hp
   obtain ⟨j',_,_,_,rfl⟩:=F8 hq;left;dsimp only;omega
theorem Ga:¬lexLt p p:=fun h=>by unfold lexLt at h;omega
theorem Ot{q:Int×Int}(h1:lexLt p q)(h2:lexLt q p):False:=by unfold lexLt at h1 h2;omega
theorem BR:∀{A B:av},A.Pairwise lexLt→B.Pairwise lexLt→(∀p,p∈A↔p∈B)→A=B
 | [],[],_,_,_=>rfl
 | [],b::B,_,_,h=>absurd ((h b).mpr cE) (by simp)
 | a::A,[],_,_,h=>absurd ((h a).mp cE) (by simp)
 | a::A,b::B,ha,hb,h=>by
  obtain ⟨a1,a2⟩:=nX.mp ha;obtain ⟨b1,b2⟩:=nX.mp hb;have e:a=b:=by
   rcases bb.mp ((h a).mp cE) with z | z;·exact z
   ·rcases bb.mp ((h b).mpr cE) with y | y
    ·exact y.symm
    ·exact (Ot (b1 a z) (a1 b y)).elim
  subst e;rw [BR a2 b2 fun p=>⟨fun m=>?_,fun m=>?_⟩]
  ·rcases bb.mp ((h p).mp (bP _ m)) with z | z
   ·subst z
    exact (Ga (a1 _ m)).elim
   ·exact z
  ·rcases bb.mp ((h p).mpr (bP _ m)) with z | z
   ·subst z
    exact (Ga (b1 _ m)).elim
   ·exact z
end My
namespace L2
open PySem PySem.Spec PyProof.Rows
end L2
namespace My
open PySem L2
end My
namespace L2
open PySem PySem.Spec PyProof.Rows
section
variable (P:Program) (w:World)
end
section
variable {P:Program} {w:World} {H H':Hp} {h h':Heap} {a:Addr} {o:HO}
end
section
variable {P:Program} {w:World} {H:Hp} {h h':Heap} {x e:Addr} {o':HO}
end
section
variable {fs AK ex oh:List Addr} {H H1 H2:Hp} {h h1 h2 h':Heap} {a x e:Addr} {o:HO}
end
section
variable {X:Cx} {pins:aI} {σ:List (Option V)} {H H':Hp} {s:Shared} {h':Heap}
end
section
variable {X:Cx}
variable {a b:Expr} {ta tb:TE} {pos:Pos}
variable {tA uR:TT} {rest:List Expr}
end
section
variable {X:Cx} {pins:aI} {σ:St} {H:Hp} {s:Shared} {a:Addr} {xs ys:List V}
end
section
variable {X:Cx} {pins:aI} {σ:St} {H:Hp} {s:Shared} {E:aM}
end
section
variable {X:Cx} {st:Stmt} {rest:List Stmt} {t u:TS} {e:Expr} {te:TE} {pos:Pos}
end
section
variable {X:Cx} {pos:Pos}
end
section
variable {X:Cx} {pos:Pos}
end
section
variable {X:Cx} {tg:Expr}
end
section
variable {X:Cx} {a b c:Expr} {ta tb tc:TE} {pos:Pos}
end
section
variable {X:Cx} {a b c:Expr} {ta tb tc:TE} {pos:Pos}
end
section
variable {prog:Program} {w:World} {A:Around} {E:aM} {s:Shared} {K:aB} {x dx C f:Addr} {mA:cy} {name:Str} {v:Value}
end
section
variable {P:Program} {w:World} {H H':Hp} {h h':Heap} {a C dx:Addr} {fs AK:List (Str×V)}
end
section
variable {X:Cx} {pins:aI} {σ:St} {H:Hp} {s:Shared} {a C dx:Addr} {fs:List (Str×V)} {f:Str} {v:V} {A:Around} {E:aM}
end
section
variable {X:Cx} {o e value:Expr} {f:Str} {pos pos' mF:Pos} {ta tv:TE}
end
section
variable {X:Cx} {pins:aI} {σ:St} {H:Hp} {s:Shared} {A:Around} {E:aM} {Q:aM} {c:Value} {b:Bool}
end
section
variable {X:Cx} {e:Expr} {es:List Expr} {te:TE} {t:TA} {pos:Pos}
end
section
variable {X:Cx} {pins:aI} {σ:St} {H:Hp} {s s':Shared}
end
section
variable {X:Cx} {CX:gO} {k:Nat} {f C:Addr} {fd:FuncData} {ps:List Str} {sp:Sp} {kq:List V} {ds:List Value} {E:XK} {x m:Str} {p pos apos:Pos} {e o:Expr} {es:List Expr} {ta:TE} {t:TA}
end
section
variable {X:Cx} {CX:gO} {k:Nat} {f C:Addr} {fd:FuncData} {ps ks:List Str} {sp:Sp} {E:XK} {x m:Str} {p pos apos EO:Pos} {e o:Expr} {es:List Expr} {LL:List Keyword} {te ta:TE} {t tk:TA} {nm:Option Str}
variable {g:List Value→List Value→List Value} {gV:List V→List V→List V}
end
section
variable {X:Cx} {x:Str} {p pos:Pos} {e:Expr} {es:List Expr} {t:TA} {id T:String} {r:List V→Hp→VK→Prop}
end
section
variable {κ:Type} [DecidableEq κ]
def fg(kvs:List (κ×V))(k:κ):Option V:=(kvs.find? fun kv=>decide (kv.1=k)).map (·.2)
def putK(kvs:List (κ×V))(k:κ)(v:V):List (κ×V):=
 if (kvs.any fun kv=>decide (kv.1=k))=true then kvs.map (fun kv=>if kv.1=k then (kv.1,v) else kv) else kvs++[(k,v)]
variable {p:κ×V} {r:List (κ×V)} {k:κ}
theorem yE(e:p.1=k):fg (p::r) k=some p.2:=by simp [fg,nY,e]
theorem yF(e:¬p.1=k):fg (p::r) k=fg r k:=by simp [fg,nY,e]
theorem Gb(k:κ):∀kvs:List (κ×V),(kvs.any fun kv=>decide (kv.1=k))=(fg kvs k).isSome
 | []=>rfl
 | p::r=>by
  rw [um];by_cases e:p.1=k;·simp only [yE e,a7 e,Bool.true_or,Option.isSome_some]
  ·rw [yF e,bt e,Bool.false_or];exact Gb k r
theorem BS(kvs:List (κ×V))(k:κ)(v:V):(putK kvs k v).length≤kvs.length+1:=by
 unfold putK
 split
 ·rw [aG];omega
 ·rw [dP,dE,List.length_nil];omega
theorem jw.vE{o:Option V}{u:Option Value}(r:jw o u):o.isSome=u.isSome:=by
 cases o with
 | none=>cases u with
  | none=>rfl
  | some _=>exact (show False from r).elim
 | some _=>cases u with
  | none=>exact (show False from r).elim
  | some _=>rfl
variable {kvs:List (κ×V)} {vs:List (κ×Value)}
theorem KV.val(r:KV kvs vs)(k:κ):jw (fg kvs k) (valueAt vs k):=by
 unfold KV at r
 induction r with
 | nil=>exact True.intro
 | @cons p q ps qs h t ih=>
  obtain ⟨h1,h2⟩:=h;by_cases e:p.1=k
  ·have e':q.1=k:=h1.symm.trans e
   have b:valueAt (q::qs) k=some q.2:=by simp [valueAt,nY,e']
   rw [yE e,b];exact h2
  ·have e':¬q.1=k:=fun z=>e (h1.trans z)
   have b:valueAt (q::qs) k=valueAt qs k:=by simp [valueAt,nY,e']
   rw [yF e,b];exact ih
theorem KV.any(r:KV kvs vs)(k:κ):(kvs.any fun kv=>decide (kv.1=k))=vs.any fun kv=>decide (kv.1=k):=by
 unfold KV at r
 induction r with
 | nil=>rfl
 | cons h t ih=>rw [um,um,ih,h.1]
variable {y:V} {u:Value}
theorem KV.BU(r:KV kvs vs)(k:κ)(ry:RelV y u) :
  KV (kvs.map fun kv=>if kv.1=k then (kv.1,y) else kv) (vs.map fun kv=>if kv.1=k then (kv.1,u) else kv):=by
 unfold KV at r ⊢
 induction r with
 | nil=>exact .nil
 | @cons p q ps qs h t ih=>
  rw [cT,cT];refine .cons ?_ ih;obtain ⟨h1,h2⟩:=h;by_cases e:p.1=k;·rw [ae e,ae (h1.symm.trans e)];exact ⟨h1,ry⟩
  ·rw [aa e,aa (fun z=>e (h1.trans z))];exact ⟨h1,h2⟩
theorem KV.put(r:KV kvs vs)(k:κ)(ry:RelV y u):KV (putK kvs k y) (stored vs k u):=by
 unfold putK stored;rw [r.any k];by_cases e:(vs.any fun kv=>decide (kv.1=k))=true;·rw [ae e,ae e];exact r.BU k ry
 ·rw [aa e,aa e];exact Paired.snoc r ⟨rfl,ry⟩
theorem KV.length(r:KV kvs vs):kvs.length=vs.length:=Paired.length r
end
variable {P:Program} {w:World} {u:Value}
theorem rF{k:Key}(r:RelV (kV k) u):(fI P w).is k u=true:=by
 cases k with
 | inl i=>obtain ⟨t,e⟩:=(show ∃t,u=Value.int i t from r);subst e;exact Kr P w i t
 | inr x=>obtain ⟨t,e⟩:=(show ∃t,u=Value.str x t from r);subst e;exact Ks P w x t
theorem Gd{P:Program}{w:World}:∀{ks:List Key} {us:List Value},Vals (ks.map kV) us→ItemsAre (fI P w) ks us
 | [],_,r=>by rw [List.map_nil] at r;cases r;exact .nil
 | k::ks,_,r=>by
  rw [cT] at r;cases r with
  | cons h t=>exact .cons (rF h) (Gd t)
abbrev KT (H:Hp):List (List Key×V)→List (List Key×Addr×Value)→Prop:=Paired fun p q=>p.1=q.1∧H q.2.1=some (.tup (p.1.map kV))∧RelV p.2 q.2.2
variable {H:Hp} {kvs:List (List Key×V)} {xs:List (List Key×Addr×Value)}
theorem KT.val(r:KT H kvs xs)(k:List Key):jw (fg kvs k) ((atKey xs k).map (·.2)):=by
 induction r with
 | nil=>exact True.intro
 | @cons p q ps qs h t ih=>
  obtain ⟨h1,_,h2⟩:=h;by_cases e:p.1=k
  ·have e':q.1=k:=h1.symm.trans e
   have b:atKey (q::qs) k=some q.2:=by simp [atKey,nY,e']
   rw [yE e,b];exact h2
  ·have e':¬q.1=k:=fun z=>e (h1.trans z)
   have b:atKey (q::qs) k=atKey qs k:=by simp [atKey,nY,e']
   rw [yF e,b];exact ih
variable {y:V}
theorem KT.BU(r:KT H kvs xs)(k:List Key)(ry:RelV y u) :
  KT H (kvs.map fun kv=>if kv.1=k then (kv.1,y) else kv) (xs.map (putAt k u)):=by
 induction r with
 | nil=>exact .nil
 | @cons p q ps qs h t ih=>
  rw [cT,cT];refine .cons ?_ ih;obtain ⟨h1,h2,h3⟩:=h;unfold putAt;by_cases e:p.1=k;·rw [ae e,ae (h1.symm.trans e)];exact ⟨h1,h2,ry⟩
  ·rw [aa e,aa (fun z=>e (h1.trans z))];exact ⟨h1,h2,h3⟩
theorem KT.put(r:KT H kvs xs)(k:List Key){b:Addr}(hb:H b=some (.tup (k.map kV)))(ry:RelV y u) :
  KT H (putK kvs k y) (storedH xs k b u):=by
 have e:(kvs.any fun kv=>decide (kv.1=k))=(atKey xs k).isSome:=by rw [Gb,(r.val k).vE,uE]
 unfold putK storedH;rw [e];by_cases q:(atKey xs k).isSome=true;·rw [ae q,ae q];exact r.BU k ry
 ·rw [aa q,aa q];exact Paired.snoc r ⟨rfl,hb,ry⟩
theorem KT.keeps{H':Hp}(r:KT H kvs xs)(ht:∀b ys,H b=some (.tup ys)→H' b=some (.tup ys)):KT H' kvs xs:=
 Paired.AJ r fun _ _ z=>⟨z.1,ht _ _ z.2.1,z.2.2⟩
section
variable {P:Program} {w:World} {H:Hp} {h:Heap} {a:Addr}
theorem Ge{u:HO}(ok:bV P w H h)(e:Rd H a u):cf P w H h a u:=e.ok ok
theorem vF{kvs:List (Key×V)}(ok:bV P w H h)(e:Rd H a (.dK kvs)):kvs.length≤sizeLine∧(a == sysModules)=false∧∃vs,KV kvs vs∧h.DictOf (fI P w) a vs:=
 show cf P w H h a (.dK kvs) from Ge ok e
theorem Gf{kvs:List (Key×V)}(ok:bV P w H h)(e:H a=some (.dK kvs)):kvs.length≤sizeLine∧(a == sysModules)=false∧∃vs,KV kvs vs∧h.DictOf (fI P w) a vs:=vF ok (.inl e)
theorem vG{ks:List Key}(ok:bV P w H h)(e:H a=some (.tup (ks.map kV))):(tupleKind (fI P w)).is h ks a:=by obtain ⟨_,its,r,o,h1,h2,n,h3⟩:=(show cf P w H h a (.tup (ks.map kV)) from ok a _ e);exact ⟨o,its.toArray,n,h1,h2,h3,by simpa using Gd r⟩
theorem vH(ok:bV P w H h)(e:Rd H a (.dT kvs)):kvs.length≤sizeLine∧(a == sysModules)=false ∧
  ∃xs,KT H kvs xs∧h.DictOfH (tupleKind (fI P w)) a xs:=by
 obtain ⟨z,y,xs,r,o,es,ep,h1,h2,h3,h4,h5⟩:=(show cf P w H h a (.dT kvs) from Ge ok e);refine ⟨z,y,xs,r,o,es,ep,h1,h2,h3,h4,fun x hx=>?_,h5⟩;have all:∀{l:List (List Key×V)} {m:List (List Key×Addr×Value)},KT H l m→∀x∈m,(tupleKind (fI P w)).is h x.1 x.2.1:=by
  intro l m q
  induction q with
  | nil=>intro x hx;exact nomatch hx
  | @cons p q ps qs hq t ih=>
   intro x hx;rcases bb.mp hx with e | hx
   ·subst e
    exact vG ok (by rw [←hq.1];exact hq.2.1)
   ·exact ih x hx
 exact all r x hx
theorem Ou(ok:bV P w H h)(e:H a=some (.dT kvs)):kvs.length≤sizeLine∧(a == sysModules)=false ∧
  ∃xs,KT H kvs xs∧h.DictOfH (tupleKind (fI P w)) a xs:=vH ok (.inl e)
end
def oS(H:Hp)(a:Addr)(y:V)(r:Option V):Prop:=
 (∃kvs k,Rd H a (.dK kvs)∧y=kV k∧r=fg kvs k)∨∃kvs k b,Rd H a (.dT kvs)∧y=.ref b∧H b=some (.tup (k.map kV))∧r=fg kvs k
def BV(H:Hp)(a:Addr)(y v:V)(H':Hp):Prop:=
 (∃kvs k,H a=some (.dK kvs)∧y=kV k∧kvs.length<sizeLine∧H'=upd H a (.dK (putK kvs k v))) ∨
 ∃kvs k b,H a=some (.dT kvs)∧y=.ref b∧H b=some (.tup (k.map kV))∧kvs.length<sizeLine∧H'=upd H a (.dT (putK kvs k v))
section
variable {X:Cx} {pins:aI} {σ:St} {H:Hp} {s:Shared} {a:Addr} {y v:V} {u r:Value} {o:Option V} {A:Around} {E:aM}
theorem Inv.big(I:Inv X pins σ H s):sysModules<s.heap.objs.size:=by have h:mainGlobals<s.heap.objs.size:=(I.mod.glob.keeps I.bk).lt;exact Nat.lt_trans (by decide) h
variable {Q:aM}
theorem Ov(hu:A.units+1<cLine)(I:Inv X pins σ H s)(g:oS H a y (some v))(ry:RelV y u)(h:∀w' s',Inv X pins σ H s'→RelV v w'→Q w' s') :
  wpAny (model X.prog X.w) A (getItem (.ref a) u) Q E s:=by
 rcases g with ⟨kvs,k,e,ey,l⟩ | ⟨kvs,k,b,e,ey,eb,l⟩
 ·subst ey
  obtain ⟨z,hd,vs,rel,dd⟩:=vF I.aw e;obtain ⟨w',hw,ei⟩:=jw.some_of (v:=v) (o:=valueAt vs k) (by rw [l];exact rel.val k)
  exact wpAny_getItem_of (rF ry) dd.mapOf hw (h w' _ (I.tok _) ei)
 ·subst ey
  cases (show u=Value.ref b from ry);obtain ⟨z,hd,xs,rel,dd⟩:=vH I.aw e;obtain ⟨w',hw,ei⟩:=jw.some_of (v:=v) (o:=(atKey xs k).map (·.2)) (by rw [l];exact rel.val k)
  obtain ⟨p,hp,Ow⟩:=AA.mp hw;refine wpAny_getItem_heap (xh hu) (vG I.aw eb) dd hp ?_;rw [Ow];exact h w' _ (I.tok _) ei
theorem Ox(hu:A.units+1<cLine)(I:Inv X pins σ H s)(g:oS H a y o)(ry:RelV y u)(h:∀s',Inv X pins σ H s'→Q (.bool o.isSome) s') :
  wpAny (model X.prog X.w) A (compareOp .In u (.ref a)) Q E s:=by
 rcases g with ⟨kvs,k,e,ey,l⟩ | ⟨kvs,k,b,e,ey,eb,l⟩
 ·subst ey
  obtain ⟨z,hd,vs,rel,dd⟩:=vF I.aw e;refine wpAny_in_of (rF ry) hd dd.mapOf ?_;rw [←(rel.val k).vE,←l];exact h _ (I.tok _)
 ·subst ey
  cases (show u=Value.ref b from ry);obtain ⟨z,hd,xs,rel,dd⟩:=vH I.aw e;refine wpAny_in_heap (xh hu) (vG I.aw eb) hd dd ?_;have q:=(rel.val k).vE;rw [uE] at q;rw [←q,←l];exact h _ (I.tok _)
theorem Oy(hu:A.units+1<cLine)(I:Inv X pins σ H s)(g:oS H a y o)(ry:RelV y u)(h:∀s',Inv X pins σ H s'→Q (.bool (!o.isSome)) s') :
  wpAny (model X.prog X.w) A (compareOp .NotIn u (.ref a)) Q E s:=by
 rcases g with ⟨kvs,k,e,ey,l⟩ | ⟨kvs,k,b,e,ey,eb,l⟩
 ·subst ey
  obtain ⟨z,hd,vs,rel,dd⟩:=vF I.aw e;refine wpAny_notIn_of (rF ry) hd dd.mapOf ?_;rw [←(rel.val k).vE,←l];exact h _ (I.tok _)
 ·subst ey
  cases (show u=Value.ref b from ry);obtain ⟨z,hd,xs,rel,dd⟩:=vH I.aw e;refine wpAny_notIn_heap (xh hu) (vG I.aw eb) hd dd ?_;have q:=(rel.val k).vE;rw [uE] at q;rw [←q,←l];exact h _ (I.tok _)
variable {h':Heap}
theorem BW{t':Nat}{ob:HO}(I:Inv X pins σ H s)(mu:uL (H a))(hs:Heap.SameBut a s.heap h')(he:∃q,h'.get? a=some q)(new:cf X.prog X.w (upd H a ob) h' a ob) :
  Inv X pins σ (upd H a ob) {s with heap:=h',toks:=t'}:=
 I.write (x:=a) (e:=a) mu (.inl rfl) (fun b q hb z=>(hs.2 b hb).trans z) he new
variable {H':Hp}
theorem Gg{kvs:List (Key×V)}{vs:List (Key×Value)}(z:kvs.length≤sizeLine)(hd:(a == sysModules)=false)(rel:KV kvs vs)(dd:h'.DictOf (fI P w) a vs) :
  cf P w H' h' a (.dK kvs):=⟨z,hd,vs,rel,dd⟩
theorem Oz{Q:Unit→Shared→Prop}(hu:A.units+1<cLine)(I:Inv X pins σ H s)(g:BV H a y v H')(ry:RelV y u)(rv:RelV v r)(h:∀s',Inv X pins σ H' s'→Q () s') :
  wpAny (model X.prog X.w) A (setItem (.ref a) u r) Q E s:=by
 rcases g with ⟨kvs,k,e,ey,l,eH⟩ | ⟨kvs,k,b,e,ey,eb,l,eH⟩
 ·subst ey eH
  obtain ⟨z,hd,vs,rel,dd⟩:=Gf I.aw e;have hz:vs.length≤sizeLine:=by rw [←rel.length];exact z
  have hl:(putK kvs k v).length≤sizeLine:=by have:=BS kvs k v;omega
  refine wpAny_setItem_pairs (hsz:=hz) (rF ry) dd fun h' mO hs=>h _ ?_;have he:∃q,h'.get? a=some q:=let ⟨q,_,_,hq,_⟩:=mO;⟨q,hq⟩
  exact BW I (by rw [e];exact True.intro) hs he (Gg hl hd (rel.put k rv) mO)
 ·subst ey eH
  cases (show u=Value.ref b from ry);obtain ⟨z,hd,xs,rel,dd⟩:=Ou I.aw e;have hz:xs.length≤sizeLine:=by rw [←Paired.length rel];exact z
  have hl:(putK kvs k v).length≤sizeLine:=by have:=BS kvs k v;omega
  refine wpAny_setItem_heap (hsz:=hz) (xh hu) (vG I.aw eb) dd fun h' mO hs=>h _ ?_;obtain ⟨q,es,ep,hq,h2,h3,h4,_,h5⟩:=mO;refine BW I (by rw [e];exact True.intro) hs ⟨q,hq⟩ ⟨hl,hd,_,(rel.put k eb rv).keeps fun c ys ec=>?_,q,es,ep,hq,h2,h3,h4,h5⟩
  rw [aH (Kt ec e (fun z=>nomatch z))];exact ec
end
section
variable {X:Cx} {pins:aI} {σ:St} {H:Hp} {s:Shared} {a:Addr} {kvs:List (Key×V)} {k:Key} {u:Value} {A:Around} {E:aM}
end
def Gh(i:Expr):Prop:=∀ov iv,subscripted i false ov iv=operate [ov,iv] (getItem ov iv)
variable {s:Shared} {pos:Pos}
theorem OA{prog:Program}{A:Around}{E:aM}{env:Env}{value slice:Expr}{T id:String}{Q:aM}
  (hl:typeLookup (.type T) "__getitem__"=pure (some (.builtin id))) (hs:Gh slice)
  (h:wpAny (model prog w) A (eval value env) (fun o s₁=>wpAny (model prog w) A (eval slice env) (fun i s₂=>s₂.TypeIs o T∧wpAny (model prog w) A (getItem o i) Q E s₂) E s₁) E s) :
  wpAny (model prog w) A (eval (.Subscript value slice pos) env) Q E s:=by
 refine Subscript_ (bZ h (fun o s₁ h₁=>bZ h₁ (fun i s₂ h₂=>?_) fun _ _ x=>x) fun _ _ x=>x);obtain ⟨hT,h₂⟩:=h₂;unfold subscriptTail;refine a8 ?_;rw [getitemInPython_of_ne hT.not_modules];refine a8 (wpAny_specialOf hT hl ?_);have fin:wpAny (model prog w) A (subscripted slice false o i) (fun r s₃=>wpAny (model prog w) A (letTemporaryGo value o r >>= fun _=>pure r) Q E s₃) E s₂:=by rw [hs o i];exact wpAny_operating (bZ h₂ (fun r s₃ h₃=>a8 (wpAny_letTemporaryGo (cS h₃))) fun _ _ x=>x)
 first
  | exact cS (a8 fin)
  | exact a8 (cS (a8 fin))
  | exact a8 fin
variable {X:Cx}
theorem OB{pins:aI}{σ:St}{a:Addr}{o:Option V}(I:Inv X pins σ H s)(g:oS H a y o):s.TypeIs (.ref a) "dict":=by
 rcases g with ⟨kvs,k,e,_,_⟩ | ⟨kvs,k,b,e,_,_,_⟩
 ·obtain ⟨_,_,vs,_,dd⟩:=vF I.aw e
  exact dd.typeIs
 ·obtain ⟨_,_,xs,_,dd⟩:=vH I.aw e
  exact dd.typeIs
def OC(td ty:TE):TE:=fun σ H Q=>td σ H fun x H1=>ty σ H1 fun y H2=>∃a v,x=.ref a∧oS H2 a y (some v)∧Q v H2
def OD(ty td:TE):TE:=fun σ H Q=>ty σ H fun y H1=>td σ H1 fun x H2=>∃a o,x=.ref a∧oS H2 a y o∧Q (.bl o.isSome) H2
def OE(ty td:TE):TE:=fun σ H Q=>ty σ H fun y H1=>td σ H1 fun x H2=>∃a o,x=.ref a∧oS H2 a y o∧Q (.bl (!o.isSome)) H2
def OF(td ty tv:TE):TS:=fun D σ H=>tv σ H fun v H1=>td σ H1 fun x H2=>ty σ H2 fun y H3=>∃a H4,x=.ref a∧BV H3 a y v H4∧D.nx σ H4
section
variable {X:Cx} {o i e value:Expr} {pos pos' mF:Pos} {td ty tv:TE}
theorem OG(hu:X.A.units+1<cLine)(ho:PE X o td)(hi:PE X i ty)(hs:Gh i):PE X (.Subscript o i pos) (OC td ty):=by intro pins s σ H Q I h;refine OA PySem.F.slot_dict_getitem.lookup hs (aD (ho pins s σ H _ I h) fun u s1 ⟨x,H1,I1,rx,q1⟩=>aD (hi pins s1 σ H1 _ I1 q1) fun iv s2 ⟨y,H2,I2,ry,a,v,ex,g,q2⟩=>?_);subst ex;obtain rfl:u=Value.ref a:=rx;exact ⟨OB I2 g,Ov hu I2 g ry fun w' s3 I3 ei=>⟨v,H2,I3,ei,q2⟩⟩
theorem OH(hu:X.A.units+1<cLine)(hi:PE X i ty)(ho:PE X o td):PC X .In i o (OD ty td):=by intro pins s σ H Q I h;refine aD (hi pins s σ H _ I h) fun iv s1 ⟨y,H1,I1,ry,q1⟩=>aD (ho pins s1 σ H1 _ I1 q1) fun u s2 ⟨x,H2,I2,rx,a,ov,ex,g,q2⟩=>?_;subst ex;obtain rfl:u=Value.ref a:=rx;exact Ox hu I2 g ry fun s3 I3=>⟨.bl ov.isSome,H2,I3,rfl,q2⟩
theorem BX(hu:X.A.units+1<cLine)(hi:PE X i ty)(ho:PE X o td):PC X .NotIn i o (OE ty td):=by intro pins s σ H Q I h;refine aD (hi pins s σ H _ I h) fun iv s1 ⟨y,H1,I1,ry,q1⟩=>aD (ho pins s1 σ H1 _ I1 q1) fun u s2 ⟨x,H2,I2,rx,a,ov,ex,g,q2⟩=>?_;subst ex;obtain rfl:u=Value.ref a:=rx;exact Oy hu I2 g ry fun s3 I3=>⟨.bl (!ov.isSome),H2,I3,rfl,q2⟩
theorem yG(hu:X.A.units+1<cLine)(ho:PE X o td)(hi:PE X i ty)(hv:PE X value tv)(hs:swapsWith value (some (.Subscript o i pos')) pos.line X.env=pure false) :
  PS X (.Assign [.Subscript o i pos'] value pos) (OF td ty tv):=by
 intro pins s σ H D I h;refine wpAny_Assign_Subscript (aD (hv pins s σ H _ I h) fun r s1 ⟨v,H1,I1,rv,q1⟩=>aD (ho pins s1 σ H1 _ I1 q1) fun u s2 ⟨x,H2,I2,rx,q2⟩=>aD (hi pins s2 σ H2 _ I2 q2) fun iv s3 ⟨y,H3,I3,ry,a,H4,ex,g,q3⟩=>?_) hs;subst ex;obtain rfl:u=Value.ref a:=rx;exact Oz hu I3 g ry rv fun s4 I4=>⟨σ,H4,I4,q3⟩
end
theorem Gi(h:Heap)(hb:sysModules<h.objs.size):cf P w H (h.push {cls:=.type "dict",data:=.dict #[]}) h.objs.size (.dK []):=
 ⟨b7 _,beq_eq_false_iff_ne.mpr (Ne.symm (bX hb)),[],.nil,Heap.DictOf.new h⟩
def OI:TE:=fun _ H Q=>∀p,H p=none→Q (.ref p) (upd H p (.dK []))
section
variable {X:Cx} {pos:Pos}
theorem OJ:PE X (.Dict [] [] pos) OI:=fun pins s σ H Q I h=>wpAny_Dict_empty ⟨.ref s.heap.objs.size,_,I.laid (a:=s.heap.objs.size) (o:=.dK []) (t':=s.toks) (fun _ _ q=>ck _ q) (ax _) (Gi s.heap I.big),rfl,h _ (I.aw.fresh (ax _))⟩
end
def BY:List (TE×TE)→St→Hp→(List (V×V)→Hp→Prop)→Prop
 | [],_,H,Q=>Q [] H
 | (tk,tv)::r,σ,H,Q=>tk σ H fun x H1=>tv σ H1 fun y H2=>BY r σ H2 fun ps H3=>Q ((x,y)::ps) H3
abbrev VV:List (V×V)→List (Value×Value)→Prop:=Paired fun p q=>RelV p.1 q.1∧RelV p.2 q.2
def yH(X:Cx)(pos:Pos)(keys:List (Option Expr))(values:List Expr)(lS:List (TE×TE)):Prop:=
 ∀(pins:aI) (s:Shared) (σ:St) (H:Hp) (Q:List (V×V)→Hp→Prop),Inv X pins σ H s→BY lS σ H Q→
  wpAny (model X.prog X.w) X.A (evalPairs (pairTrees keys values X.env pos)) (fun vs s'=>∃ps H',Inv X pins σ H' s'∧VV ps vs∧Q ps H') X.xe s
theorem OK:yH X pos [] [] []:=fun pins s σ H Q I h=>pairTrees_nil_walk ⟨[],H,I,.nil,h⟩
variable {lS:List (TE×TE)}
theorem Gj{k v:Expr}{ks:List (Option Expr)}{vs:List Expr}{tk tv:TE}(hk:PE X k tk)(hv:PE X v tv)(hr:yH X pos ks vs lS) :
  yH X pos (some k::ks) (v::vs) ((tk,tv)::lS):=fun pins s σ H Q I h=>
 pairTrees_cons_walk (aD (hk pins s σ H _ I h) fun u s1 ⟨x,H1,I1,rx,q1⟩=>aD (hv pins s1 σ H1 _ I1 q1) fun w2 s2 ⟨y,H2,I2,ry,q2⟩=>aD (hr pins s2 σ H2 _ I2 q2) fun ws s3 ⟨ps,H3,I3,rel,q3⟩=>⟨(x,y)::ps,H3,I3,.cons ⟨rx,ry⟩ rel,q3⟩)
def mZ(kvs more:List (Key×V)):List (Key×V):=more.foldl (fun acc kv=>putK acc kv.1 kv.2) kvs
theorem KV.merge:∀{more:List (Key×V)} {rs:List (Key×Value)} {kvs:List (Key×V)} {vs:List (Key×Value)},KV more rs→KV kvs vs→KV (mZ kvs more) (merged vs rs):=by
 intro more rs kvs vs r;unfold KV at r
 induction r generalizing kvs vs with
 | nil=>intro q;exact q
 | @cons p q ps qs h t ih=>
  intro r0;have e:KV (putK kvs p.1 p.2) (stored vs q.1 q.2):=by have:=r0.put p.1 h.2;rw [←h.1];exact this
  exact ih e
theorem Gk:∀(more kvs:List (Key×V)),(mZ kvs more).length≤kvs.length+more.length
 | [],kvs=>by show kvs.length≤kvs.length+0;omega
 | p::r,kvs=>by have h1:=Gk r (putK kvs p.1 p.2);have h2:=BS kvs p.1 p.2;show (mZ (putK kvs p.1 p.2) r).length≤_;rw [dE];omega
theorem Gm{P:Program}{w:World}:∀{kvs:List (Key×V)} {ws:List (Value×Value)},VV (kvs.map fun kv=>(kV kv.1,kv.2)) ws→∃rs,Carries (fI P w) ws rs∧KV kvs rs
 | [],_,r=>by rw [List.map_nil] at r;cases r;exact ⟨[],True.intro,.nil⟩
 | p::kvs,_,r=>by
  rw [cT] at r;cases r with
  | @cons a b as bs h t=>obtain ⟨rs,c,q⟩:=Gm (P:=P) (w:=w) t;obtain ⟨b1,b2⟩:=b;exact ⟨(p.1,b2)::rs,⟨rF h.1,rfl,c⟩,.cons ⟨rfl,h.2⟩ q⟩
def OL(lS:List (TE×TE)):TE:=fun σ H Q=>∀p,H p=none→BY lS σ (upd H p (.dK [])) fun ps H2=>H2 p=some (.dK [])∧∃kvs:List (Key×V),ps=kvs.map (fun kv=>(kV kv.1,kv.2))∧kvs.length≤15∧Q (.ref p) (upd H2 p (.dK (mZ [] kvs)))
theorem OM{keys:List (Option Expr)}{values:List Expr}(h:yH X pos keys values lS)(Bf:keys.all (·.isSome)=true)(hl:keys.length=values.length)(h0:keys≠[])
  (ON:keys.length≤15):PE X (.Dict keys values pos) (OL lS):=by
 intro pins s σ H Q I q;have hn:=I.aw.fresh (ax s.heap.objs.size);have I1:=I.laid (a:=s.heap.objs.size) (o:=.dK []) (h':=s.heap.push {cls:=.type "dict",data:=.dict #[]}) (t':=s.toks) (fun _ _ q=>ck _ q) (ax _) (Gi s.heap I.big);refine wpAny_Dict_walk (knd:=fI X.prog X.w) Bf hl h0 ON (aD (h pins _ σ _ _ I1 (q _ hn)) fun ws s2 ⟨ps,H2,I2,rel,e,kvs,ep,lk,q2⟩=>?_);subst ep;obtain ⟨rs,c,rk⟩:=Gm (P:=X.prog) (w:=X.w) rel;obtain ⟨z,hd,Xy,r0,dd⟩:=Gf I2.aw e;cases r0;refine ⟨rs,c,dd,fun h' mO hs=>⟨.ref s.heap.objs.size,_,?_,rfl,q2⟩⟩;have hz:(mZ [] kvs).length≤sizeLine:=by have h1:=Gk kvs [];rw [List.length_nil] at h1;rw [md];omega
 have he:∃q,h'.get? s.heap.objs.size=some q:=let ⟨q,_,_,hq,_⟩:=mO;⟨q,hq⟩
 exact BW I2 (by rw [e];exact True.intro) hs he (Gg hz hd (rk.merge .nil) mO)
section
variable {X:Cx} {pins:aI} {σ:St} {H:Hp} {s:Shared} {a:Addr} {y d:V} {u r:Value} {o:Option V} {A:Around} {E:aM}
end
section
variable {X:Cx} {o e f:Expr} {apos iE:Pos} {td ty tx:TE}
end
section
variable {X:Cx} {pins:aI} {σ:St} {H:Hp} {s:Shared} {a:Addr} {kvs:List (Key×V)} {A:Around} {E:aM}
end
section
variable {X:Cx} {pins:aI} {σ:St} {H:Hp} {s:Shared} {a:Addr} {y:V} {u:Value} {A:Around} {E:aM}
end
end L2
namespace Att
open PySem PySem.W PySem.Calls PyProof.Rows
section
variable {prog:Program} {w:World} {A:Around} {E:aM} {s:Shared} {K:Frag}
end
end Att
namespace L2
open PySem PySem.Spec PyProof.Rows
section
variable {P:Program} {w:World} {K:aB} {mg:cy} {base:Heap}
end
section
variable {X:Cx}
end
section
variable {κ:Type} [DecidableEq κ]
end
def BZ(o:Obj):Nat:=match o.data with
 | .dict _ ep=>ep
 | _=>0
def gZ(a:Addr)(o:Obj)(kvs:List (Key×V)):It:=
 ⟨fun i H=>H a=some (.a9 o (.dK kvs))∧i<kvs.length,fun i H x H'=>H'=H∧∃kv,kvs[i]?=some kv∧x=kV kv.1,fun i H=>H a=some (.a9 o (.dK kvs))∧kvs.length≤i⟩
theorem OO{k:Key}{v:Value}(h:n8 k v=true):RelV (kV k) v:=by
 rcases j9 h with ⟨i,t,rfl,rfl⟩ | ⟨x,t,rfl,rfl⟩;·exact ⟨t,rfl⟩
 ·exact ⟨t,rfl⟩
theorem Gn{kvs:List (Key×V)}{vs:List (Key×Value)}:∀{i:Nat} {kv:Key×V},KV kvs vs→kvs[i]?=some kv→∃v,vs[i]?=some (kv.1,v)
 | _,_,.nil,h=>by simp at h
 | 0,kv,.cons (b:=b) r _,h=>by simp at h;subst h;obtain ⟨k,v⟩:=b;have e:_=k:=r.1;exact ⟨v,by rw [e];rfl⟩
 | i+1,kv,.cons _ t,h=>by simp at h;obtain ⟨v,e⟩:=Gn t h;exact ⟨v,by simpa using e⟩
section
variable {X:Cx} {pins:aI} {σ:St} {H:Hp} {s:Shared}
theorem Inv.B0{a:Addr}{o:Obj}{kvs:List (Key×V)}(I:Inv X pins σ H s)(h:H a=some (.a9 o (.dK kvs))):∃vs,KV kvs vs∧s.heap.DictAt (fI X.prog X.w) a vs (BZ o):=by obtain ⟨g,_,_,vs,r,o',es,ep,g',c,d,rest⟩:=(show cf X.prog X.w H s.heap a (.a9 o (.dK kvs)) from I.aw a _ h);rw [g] at g';cases g';refine ⟨vs,r,o,es,g,c,?_,rest⟩;rw [d];unfold BZ;rw [d]
end
theorem OP{P:Program}{w:World}{K:aB}{tg:Expr}(a it:Addr)(o:Obj)(kvs:List (Key×V)):Turn P w K tg (gZ a o kvs) [it] it (fun i h=>h.IsKeyIter it a i kvs.length (BZ o)) where
 mem:=by simp
 obj:=fun i h st b hb=>by
  have e:b=it:=by simpa using hb
  subst e;obtain ⟨o,e,c,d⟩:=st;exact ⟨o,e,fun v z=>by rw [d] at z;cases z⟩
 keep:=fun i h h' st k=>by obtain ⟨o,e,c,d⟩:=st;exact ⟨o,k it (by simp) o e,c,d⟩
 item:=by
  intro X hP hw hK hc i pins s σ H E I hf st hg;subst hP hw hK;obtain ⟨eH,hi⟩:=hg;obtain ⟨vs,r,hm⟩:=I.B0 eH;have lr:kvs.length=vs.length:=Paired.length r;have ek:kvs[i]?=some kvs[i]:=by simp [hi]
  obtain ⟨v,ev⟩:=Gn r ek;obtain ⟨f0,f1,f2,f3,f4,f5⟩:=hf it (by simp)
  rw [lr] at st;refine wpAny_pyNext_dict_item st hm ev fun key h' hk au sb=>?_;have I1:Inv X pins σ H {s with heap:=h'}:=I.turned (t':=s.toks) (fun b o hb e=>(sb.2 b hb).trans e) f0 f1 f3 f4 f5;obtain ⟨o',e,c,d⟩:=id au;rw [←lr] at au;exact ⟨key,rfl,xI (s:={s with heap:=h'}) e c d (by decide) ⟨kV kvs[i].1,H,I1,OO hk,⟨rfl,_,ek,rfl⟩,au,fun b hb=>(hf b hb).1⟩⟩
 done:=by
  intro X hP hw hK hc i pins s σ H E I hf st hg;subst hP hw hK;obtain ⟨eH,hi⟩:=hg;obtain ⟨vs,r,hm⟩:=I.B0 eH;have lr:kvs.length=vs.length:=Paired.length r;obtain ⟨f0,f1,f2,f3,f4,f5⟩:=hf it (by simp)
  rw [lr] at st;exact wpAny_pyNext_dict_end (I.ok.hd hc) st hm (by simp;omega) fun h' eb=>⟨rfl,I.turned (t':=s.toks) (fun b o hb e=>eb b o hb e) f0 f1 f3 f4 f5⟩
 self:=fun _ _ _ _ _ st h=>wpAny_pyIter_keyiter st h
section
variable {X:Cx} {tg:Expr}
def B1(tl:TE):TI:=fun σ H R=>tl σ H fun x H1=>∃a kvs,x=.ref a∧((H1 a=some (.dK kvs)∧∀o,R (gZ a o kvs) (upd H1 a (.a9 o (.dK kvs))))∨∃o,H1 a=some (.a9 o (.dK kvs))∧R (gZ a o kvs) H1)
theorem vI{l:Expr}{tl:TE}(hl:PE X l tl):PI X tg l (B1 tl):=by
 intro pins s σ H R I h;refine aD (hl pins s σ H _ I h) fun v s1 ⟨x,H1,I1,r1,q1⟩=>?_;obtain ⟨a,kvs,e,q⟩:=q1;subst e;cases r1;have main:∀{H2:Hp} {o:Obj},Inv X pins σ H2 s1→H2 a=some (.a9 o (.dK kvs))→R (gZ a o kvs) H2→wpAny (model X.prog X.w) X.A (pyIter (.ref a)) (AY X pins σ tg R) X.xe s1:=fun{H2 o} I2 eH q=>by
  obtain ⟨vs,r,hm⟩:=I2.B0 eH;obtain ⟨_,_,sys,_⟩:=(show cf X.prog X.w H2 s1.heap a (.a9 o (.dK kvs)) from I2.aw a _ eH);have lr:kvs.length=vs.length:=Paired.length r;refine wpAny_pyIter_dict sys hm ?_;refine ⟨s1.heap.objs.size,[s1.heap.objs.size],_,_,H2,rfl,I2.kept (t':=s1.toks) fun b o e=>ck _ e,OP a _ o kvs,⟨_,eI _ rfl,rfl,by rw [lr];rfl⟩,fun b hb=>?_,q⟩
  have e:b=s1.heap.objs.size:=by simpa using hb
  subst e;exact I2.qQ (ax _) (I2.aw.fresh (ax _))
 rcases q with ⟨eH,q⟩ | ⟨o,eH,q⟩
 ·obtain ⟨hz,sys,vs,r,o,es,ep,g,c,d,rest⟩:=(show cf X.prog X.w H1 s1.heap a (.dK kvs) from I1.aw a _ eH)
  refine main (H2:=upd H1 a (.a9 o (.dK kvs))) ?_ ay (q o);exact I1.write (t':=s1.toks) (x:=a) (e:=a) (by rw [eH];exact trivial) (.inl rfl) (fun b u _ e=>e) ⟨o,g⟩ ⟨g,hz,sys,vs,r,o,es,ep,g,c,d,rest⟩
 ·exact main I1 eH q
end
theorem Gp:∀{us:List Value} {ns:List Int},IntsAre us ns→Vals (ns.map V.int) us
 | _,_,.nil=>.nil
 | _,_,.cons a u r=>.cons ⟨u,rfl⟩ (Gp r)
def OQ:List V→Hp→VK→Prop:=fun xs H Q=>∃(a:Addr) (zs:List Int),xs=[.ref a]∧H a=some (.lst (zs.map V.int))∧zs.length<64∧∀(ws:List Int) (D:Addr),ws.Perm zs→ws.Pairwise (·≤·)→H D=none→Q (.ref D) (upd H D (.lst (ws.map V.int)))
theorem Gq{X:Cx}:fv X (.builtin "sorted") OQ:=by
 intro pins s σ H xs us Q I r h;obtain ⟨a,zs,rfl,ha,yC,k⟩:=h;obtain ⟨u,rfl,ru⟩:=vals1 r;cases ru;obtain ⟨its,rv,pl,hz⟩:=I.list (.of ha);have hl:=rv.length;rw [aG] at hl;refine sorted_ints pl.isList (intsAre_of rv) (by omega) fun out Gr a1 a2 a3=>?_
 obtain ⟨e,he⟩:=sortedAll_at s.heap its out;refine ⟨.ref (s.heap.objs.size+1),_,I.laid (t':=s.toks) (o:=.lst (Gr.map .int)) (fun _ _=>sortedAll_old) (qw _) ⟨?_,out.toList,e,Gp a1,?_⟩,rfl,k Gr _ a2 a3 (I.aw.fresh (qw _))⟩
 ·rw [aG,a2.length_eq]
  rw [md];omega
 ·simpa using he
end L2
namespace My
open PySem L2
def dk(ks:List Nat):List (Key×V):=ks.map fun k:Nat=>((Sum.inl (k:Int):Key),V.bl true)
def eE(ks:List Nat)(k:Nat):List Nat:=if k∈ks then ks else ks++[k]
theorem Gs{a b:Nat}:((Sum.inl (a:Int):Key)=Sum.inl (b:Int))↔a=b:=by
 constructor
 ·intro h
  have:=Sum.inl.inj h;omega
 ·rintro rfl;rfl
theorem B2(ks:List Nat):(dk ks).length=ks.length:=aG _
theorem OR(ks:List Nat)(k:Nat):((dk ks).any fun kv=>decide (kv.1=(Sum.inl (k:Int):Key)))=decide (k∈ks):=by
 rw [qt,xi,ie];constructor
 ·rintro ⟨kv,h1,h2⟩
  obtain ⟨j,hj,rfl⟩:=b_.mp h1;have:=Gs.mp (eY h2);subst this;exact hj
 ·intro h
  exact ⟨_,b_.mpr ⟨k,h,rfl⟩,a7 rfl⟩
theorem OS(ks:List Nat)(k:Nat):putK (dk ks) (Sum.inl (k:Int):Key) (V.bl true)=dk (eE ks k):=by
 unfold putK eE;rw [OR];by_cases h:k∈ks
 ·rw [ae (a7 h),ae h]
  unfold dk;rw [dF];refine h_ fun j _=>?_;show (if _ then _ else _)=_
  split <;> rfl
 ·rw [aa (by rw [ie];exact h),aa h]
  unfold dk;rw [fG];rfl
theorem Gu(ks:List Nat)(k:Nat):fg (dk ks) (Sum.inl (k:Int):Key)=if k∈ks then some (V.bl true) else none:=by
 induction ks with
 | nil=>simp [dk,fg]
 | cons j r ih=>
  by_cases h:j=k
  ·subst h
   rw [ae (cE ..)];exact yE rfl
  ·show fg ((Sum.inl (j:Int),V.bl true)::dk r) _=_
   rw [yF (fun e=>h (Gs.mp e)),ih];by_cases m:k∈r;·rw [ae m,ae (bP _ m)]
   ·rw [aa m,aa (fun x=>by rcases bb.mp x with e | e;exact h e.symm;exact m e)]
variable {ks:List Nat} {k j:Nat}
theorem yI:j∈eE ks k↔j∈ks∨j=k:=by
 unfold eE;by_cases h:k∈ks
 ·rw [ae h]
  constructor;·exact .inl
  ·rintro (e | rfl)
   ·exact e
   ·exact h
 ·rw [aa h,dI,dt]
theorem OT(h:ks.Nodup):(eE ks k).Nodup:=by
 unfold eE;by_cases m:k∈ks;·rw [ae m];exact h
 ·rw [aa m]
  refine jt.mpr ⟨h,(by simp),fun a ha b hb=>?_⟩
  rw [dt] at hb;subst hb;rintro rfl;exact m ha
def iL(n:Nat)(ks:List Nat):Prop:=ks.Nodup∧∀k∈ks,k<n
theorem iL.nil(n:Nat):iL n []:=⟨qB,fun _ h=>by cases h⟩
variable {n:Nat}
theorem iL.add(h:iL n ks)(hk:k<n):iL n (eE ks k):=⟨OT h.1,fun j hj=>by
 rcases yI.mp hj with e | rfl;·exact h.2 j e
 ·exact hk⟩
theorem B3:∀{n:Nat} {ks:List Nat},ks.Nodup→(∀k∈ks,k<n)→ks.length≤n
 | 0,ks,_,h=>by
  cases ks with
  | nil=>exact ax _
  | cons a r=>exact absurd (h a (cE ..)) (mf _)
 | n+1,ks,nd,h=>by
  have e:=B3 (n:=n) (ks:=ks.erase n) (nd.erase n) (fun k hk=>by have m:=(List.Nodup.mem_erase_iff nd).mp hk;have:=h k m.2;have:=m.1;omega)
  by_cases hm:n∈ks
  ·have:=xj hm
   omega
  ·rw [List.erase_of_not_mem hm] at e
   omega
theorem iL.len(h:iL n ks):ks.length≤n:=B3 h.1 h.2
structure dq (H:Hp) (D:Addr) (n:Nat) (ds:Nat→Addr) (un:Nat→Prop) (f:Nat→List Nat):Prop where
 lst:H D=some (.lst ((List.range n).map fun i=>V.ref (ds i)))
 inj:∀i j,i<n→j<n→ds i=ds j→i=j
 ne:∀i,i<n→ds i≠D
 at':∀i,i<n→un i→H (ds i)=some (.dK (dk (f i)))
 pl:∀i,i<n→iL n (f i)
def eR(f:Nat→List Nat)(i:Nat)(ks:List Nat):Nat→List Nat:=fun j=>if j=i then ks else f j
variable {H:Hp} {D:Addr} {ds:Nat→Addr} {f:Nat→List Nat} {i:Nat}
theorem dq.put{un:Nat→Prop}(h:dq H D n ds un f)(hi:i<n)(hj:j<n)(ui:un i)(hn:n≤1000) :
  BV H (ds i) (.int (j:Int)) (.bl true) (upd H (ds i) (.dK (dk (eE (f i) j))))∧dq (upd H (ds i) (.dK (dk (eE (f i) j)))) D n ds un (eR f i (eE (f i) j)):=by
 refine ⟨.inl ⟨dk (f i),Sum.inl (j:Int),h.at' i hi ui,rfl,?_,by rw [OS]⟩,?_,h.inj,h.ne,fun k hk uk=>?_,fun k hk=>?_⟩
 ·rw [B2]
  have:=(h.pl i hi).len;exact j6 this (j6 hn (by rw [md];decide))
 ·rw [aH (Ne.symm (h.ne i hi))]
  exact h.lst
 ·unfold eR
  by_cases e:k=i
  ·subst e
   rw [ae rfl,ay]
  ·rw [aa e,aH (fun z=>e (h.inj k i hk hi z))]
   exact h.at' k hk uk
 ·unfold eR
  by_cases e:k=i;·rw [ae e];exact (h.pl i hi).add hj
  ·rw [aa e];exact h.pl k hk
theorem dq.ix{un:Nat→Prop}(h:dq H D n ds un f)(hi:i<n):i4 ((List.range n).map fun i=>V.ref (ds i)) (i:Int)=some (V.ref (ds i)):=
 oB (by rw [bD,mj hi];rfl)
def g8(n:Nat)(L:av):Prop:=∀p∈L,0≤p.1∧p.1<(n:Int)∧0≤p.2∧p.2<(n:Int)
def jN(n:Nat)(L:av)(f:Nat→List Nat):Prop:=∀i j:Nat,i<n→(j∈f i↔((i:Int),(j:Int))∈L∨((j:Int),(i:Int))∈L)
theorem jN.nil(n:Nat):jN n [] (fun _=>[]):=fun i j _=>by simp
theorem jN.more{L:av}(h:jN n L f)(hi:i<n)(hj:j<n):jN n (L++[((i:Int),(j:Int))]) (eR (eR f i (eE (f i) j)) j (eE (eR f i (eE (f i) j) j) i)):=fun a b ha=>by
 have e1:∀x y:Nat,y∈eR f i (eE (f i) j) x↔y∈f x∨(x=i∧y=j):=fun x y=>by
  unfold eR;by_cases e:x=i
  ·subst e
   rw [ae rfl,yI];simp
  ·rw [aa e]
   simp [e]
 have e2:b∈eR (eR f i (eE (f i) j)) j (eE (eR f i (eE (f i) j) j) i) a↔b∈eR f i (eE (f i) j) a∨(a=j∧b=i):=by
  unfold eR;by_cases e:a=j
  ·subst e
   rw [ae rfl,yI];simp
  ·rw [aa e]
   simp [e]
 rw [e2,e1,h a b ha];simp only [dI,dt,Prod.mk.injEq];constructor
 ·rintro ((e | e) | ⟨rfl,rfl⟩)
  ·rcases e with e | e
   ·exact .inl (.inl e)
   ·exact .inr (.inl e)
  ·exact .inl (.inr ⟨by omega,by omega⟩)
  ·exact .inr (.inr ⟨rfl,rfl⟩)
 ·rintro ((e | ⟨e1,e2⟩) | (e | ⟨e1,e2⟩))
  ·exact .inl (.inl (.inl e))
  ·exact .inl (.inr ⟨by omega,by omega⟩)
  ·exact .inl (.inl (.inr e))
  ·exact .inr ⟨by omega,by omega⟩
def OU:Sp:=fun vs H Q _=>∃(t:Addr) (n:Nat) (L:av),vs=[.ref t]∧c_ H t n L∧g8 n L∧n≤1000 ∧
 ∀(H':Hp) (D:Addr) (ds:Nat→Addr) (f:Nat→List Nat),ak H H'→H D=none→(∀i,i<n→H (ds i)=none)→dq H' D n ds (fun _=>True) f→jN n L f→Q (.ref D) H'
end My
namespace L2
open PySem PySem.Spec PyProof.Rows
def OV(K:aB):R2:=fun x y H Q=>∃(a b:Addr) (xs ys:List Int),x=.ref a∧y=.ref b∧aO K H a (xs.map V.int)∧aO K H b (ys.map V.int)∧Q (.bl (decide (xs=ys))) H
theorem OW{X:Cx}(hu:X.A.units+64<cLine):cq X (compareOp .Eq) (OV X.K):=by
 intro pins s σ H x y v u Q I rx ry h;obtain ⟨a,b,xs,ys,rfl,rfl,h1,h2,q⟩:=h;cases rx;cases ry;obtain ⟨us,r1,t1,_⟩:=I.list h1;obtain ⟨vs,r2,t2,_⟩:=I.list h2;have l1:=r1.length;have l2:=r2.length;rw [aG] at l1 l2;by_cases hl:xs.length=ys.length
 ·refine SeqAt.RcAt.lists (e:=fun j=>dS (.int (xs.getD j 0)) (.int (ys.getD j 0))) t1.isList t2.isList (by simp;omega) (by omega) (fun j z1 z2=>?_) _ _ _ _ ?_
  ·have rA:j<us.length:=by simpa using z1
   have Gv:j<vs.length:=by simpa using z2
   have ex:(xs.map V.int)[j]?=some (.int (xs.getD j 0)):=by rw [bD,b9];simp [show j<xs.length by omega]
   have ey:(ys.map V.int)[j]?=some (.int (ys.getD j 0)):=by rw [bD,b9];simp [show j<ys.length by omega]
   obtain ⟨x',oh,rx⟩:=r1.get ex;obtain ⟨y',vJ,ry⟩:=r2.get ey;have e1:us.toArray[j]=x':=by simpa using (cp.mp oh).2
   have e2:vs.toArray[j]=y':=by simpa using (cp.mp vJ).2
   rw [e1,e2];exact uZ rx ry rfl rfl
  ·rw [show us.toArray.size=xs.length by simp;omega,Ny hl]
   exact ⟨.bl (decide (xs=ys)),H,I,rfl,q⟩
 ·rw [bt (fun e=>hl (by rw [e]))] at q
  refine SeqAt.RcAt.lists_lengths t1.isList t2.isList ?_ (by omega) _ _ _ _ ⟨.bl false,H,I,rfl,q⟩
  simp;omega
end L2
namespace My
open PySem L2
def iN(k:Nat):Int:=(k:Int)
def je(zs:List Int)(n:Nat):Prop:=zs.Perm ((List.range n).map iN)
instance (zs:List Int) (n:Nat):Decidable (je zs n):=by unfold je;exact inferInstance
theorem OX(n:Nat):((List.range n).map iN).Pairwise (·≤·):=by rw [uD];exact w_ (fun h=>by unfold iN;omega) AH
variable {ws zs:List Int} {n:Nat}
theorem OY(p:ws.Perm zs)(o:ws.Pairwise (·≤·)):decide (ws=(List.range n).map iN)=decide (je zs n):=by
 by_cases h:je zs n
 ·rw [a7 h]
  refine a7 ?_;exact (p.trans h).eq_of_pairwise (fun a b _ _ h1 h2=>by omega) o (OX n)
 ·rw [bt h]
  refine bt fun e=>h ?_;subst e;exact p.symm
def OZ:Sp:=fun vs H Q _=>∃(a:Addr) (zs:List Int) (n:Nat),vs=[.ref a,.int (n:Int)]∧H a=some (.lst (zs.map V.int))∧zs.length<64∧n≤1000∧(∀H',ak H H'→Q (.bl (decide (je zs n))) H')
def O0(N:Addr):Sp:=fun vs H Q E=>∃(a:Addr) (zs:List Int) (n:Nat),vs=[.ref a,.int (n:Int)]∧H a=some (.lst (zs.map V.int))∧zs.length<64∧n≤1000 ∧
 (¬je zs n→∀H',ak H H'→E (.ref N) none H')∧(je zs n→∀H',ak H H'→Q .aJ H')
def O1(H:Hp)(a:Addr)(n:Nat)(o:List Nat):Prop:=H a=some (.lst (o.map fun k:Nat=>V.int (k:Int)))∧o.Perm (List.range n)
def O2:Sp:=fun vs H Q _=>∃(a:Addr) (n:Nat) (o:List Nat),vs=[.ref a]∧O1 H a n o∧n≤1000 ∧
 ∀(r:Addr) (H':Hp),ak H H'→H r=none→H' r=some (.lst ((List.range n).map fun p=>V.int (o.idxOf p:Int)))→Q (.ref r) H'
variable {H H1:Hp} {D:Addr}
theorem O3(s:ak H H1)(e:H1 D=none):H D=none:=by
 cases z:H D with
 | none=>rfl
 | some o=>rw [s _ _ z] at e;cases e
theorem oT(s:ak H H1){o:HO}(e:H1 D=none):ak H (upd H1 D o):=fA s (O3 s e)
variable {k:Nat}
theorem Gw(h:k<n):kA n (k:Int)=some k:=by unfold kA;rw [ae (by omega),ae (by omega),dh]
def jf(o:List Nat)(k p:Nat):Int:=if o.idxOf p<k then (o.idxOf p:Int) else 0
variable {o:List Nat}
theorem m5(h:o.Perm (List.range n)):o.Nodup:=h.nodup_iff.mpr nW
theorem rG(h:o.Perm (List.range n)):o.length=n:=by rw [h.length_eq,eW]
variable {p:Nat}
theorem fE(h:o.Perm (List.range n)):p∈o↔p<n:=by rw [h.mem_iff,bY]
theorem yJ(nd:o.Nodup)(hk:k<o.length):o.idxOf o[k]=k:=nd.idxOf_getElem k hk
theorem vK(h:p∈o):∃hk:o.idxOf p<o.length,o[o.idxOf p]=p:=⟨mx h,List.getElem_idxOf _⟩
theorem O4(h:o.Perm (List.range n))(hk:k<o.length):((List.range n).map fun p=>V.int (jf o k p)).set o[k] (.int (k:Int))=(List.range n).map fun p=>V.int (jf o (k+1) p):=by
 have nd:=m5 h;refine fH (by simp) fun q h1 h2=>?_
 have hq:q<n:=by simpa using h2
 rw [List.getElem_set];by_cases e:o[k]=q
 ·rw [ae e]
  simp only [eJ,lh];unfold jf;rw [←e,yJ nd hk,ae (Nat.lt_succ_self k)]
 ·rw [aa e]
  simp only [eJ,lh];unfold jf;have ne:o.idxOf q≠k:=fun z=>by obtain ⟨hz,ez⟩:=vK ((fE h).mpr hq);subst z;exact e ez
  by_cases z:o.idxOf q<k;·rw [ae z,ae (by omega)]
  ·rw [aa z,aa (by omega)]
theorem O5(n:Nat)(o:List Nat):(List.replicate n [V.int 0]).flatten=(List.range n).map fun p=>V.int (jf o 0 p):=by
 have e:∀n:Nat,(List.replicate n [V.int 0]).flatten=List.replicate n (V.int 0):=fun n=>by
  induction n with
  | zero=>rfl
  | succ n ih=>rw [me,qv,ih];rfl
 rw [e];refine fH (by simp) fun q h1 h2=>?_
 simp [jf]
theorem O6(h:o.Perm (List.range n)):(List.range n).map (fun p=>V.int (jf o o.length p))=(List.range n).map fun p=>V.int (o.idxOf p:Int):=by refine h_ fun p hp=>?_;unfold jf;rw [ae (mx ((fE h).mpr (bY.mp hp)))]
def m6(n:Nat)(ds:Nat→Addr)(un:Nat→Prop)(H H':Hp):Prop:=∀b o,H b=some o→(∀i,i<n→un i→b≠ds i)→H' b=some o
variable {ds:Nat→Addr}
theorem m6.refl{un:Nat→Prop}:m6 n ds un H H:=fun _ _ h _=>h
variable {i:Nat}
theorem m6.put{un:Nat→Prop}(h:m6 n ds un H H1)(hi:i<n)(ui:un i){o:HO}:m6 n ds un H (upd H1 (ds i) o):=fun b u e k=>by rw [aH (k i hi ui)];exact h b u e k
theorem take_snoc{α:Type}{xs:List α}{x:α}(h:xs[i]?=some x):xs.take (i+1)=xs.take i++[x]:=by rw [mw,h];rfl
def fT(n:Nat)(f:Nat→List Nat)(ps:List Nat)(i j:Nat)(g:Nat→List Nat):Prop:=∀a b:Nat,a<n→(b∈g a↔b∈f a∨(a≠b∧(a∈ps.take i∧b∈ps∨ps[i]?=some a∧b∈ps.take j)))
theorem fT.start(n:Nat)(f:Nat→List Nat)(ps:List Nat):fT n f ps 0 0 f:=fun a b _=>by simp
variable {f g:Nat→List Nat} {ps:List Nat}
theorem fT.row(h:fT n f ps i ps.length g):fT n f ps (i+1) 0 g:=fun a b ha=>by
 rw [h a b ha,hW];cases e:ps[i]? with
 | none=>
  have:ps.length≤i:=Ay.mp e;rw [w6 this,w6 (by omega)]
  simp
 | some x=>
  rw [take_snoc e];simp only [dI,dt,qD,List.take_zero,iS,and_false,iT];constructor
  ·rintro (z | ⟨z,z1 | z1⟩)
   ·exact .inl z
   ·exact .inr ⟨z,.inl z1.1,z1.2⟩
   ·exact .inr ⟨z,.inr z1.1.symm,z1.2⟩
  ·rintro (z | ⟨z,z1 | z1,z2⟩)
   ·exact .inl z
   ·exact .inr ⟨z,.inl ⟨z1,z2⟩⟩
   ·exact .inr ⟨z,.inr ⟨z1.symm,z2⟩⟩
variable {j:Nat}
theorem fT.same{x:Nat}(h:fT n f ps i j g)(hi:ps[i]?=some x)(hj:ps[j]?=some x):fT n f ps i (j+1) g:=fun a b ha=>by
 rw [h a b ha,take_snoc hj];simp only [dI,dt,hi,qD];constructor
 ·rintro (z | ⟨z,z1 | z1⟩)
  ·exact .inl z
  ·exact .inr ⟨z,.inl z1⟩
  ·exact .inr ⟨z,.inr ⟨z1.1,.inl z1.2⟩⟩
 ·rintro (z | ⟨z,z1 | ⟨z1,z2 | z2⟩⟩)
  ·exact .inl z
  ·exact .inr ⟨z,.inl z1⟩
  ·exact .inr ⟨z,.inr ⟨z1,z2⟩⟩
  ·exact absurd (z1.symm.trans z2.symm) z
theorem fT.put{x y:Nat}(h:fT n f ps i j g)(hi:ps[i]?=some x)(hj:ps[j]?=some y)(ne:x≠y):fT n f ps i (j+1) (eR g x (eE (g x) y)):=fun a b ha=>by
 have e1:b∈eR g x (eE (g x) y) a↔b∈g a∨(a=x∧b=y):=by
  unfold eR;by_cases e:a=x
  ·subst e
   rw [ae rfl,yI];simp
  ·rw [aa e]
   simp [e]
 rw [e1,h a b ha,take_snoc hj];simp only [dI,dt,hi,qD];constructor
 ·rintro ((z | ⟨z,z1 | z1⟩) | ⟨rfl,rfl⟩)
  ·exact .inl z
  ·exact .inr ⟨z,.inl z1⟩
  ·exact .inr ⟨z,.inr ⟨z1.1,.inl z1.2⟩⟩
  ·exact .inr ⟨ne,.inr ⟨rfl,.inr rfl⟩⟩
 ·rintro (z | ⟨z,z1 | ⟨z1,z2 | z2⟩⟩)
  ·exact .inl (.inl z)
  ·exact .inl (.inr ⟨z,.inl z1⟩)
  ·exact .inl (.inr ⟨z,.inr ⟨z1,z2⟩⟩)
  ·exact .inr ⟨z1.symm,z2⟩
theorem fT.done(h:fT n f ps ps.length 0 g):∀a b:Nat,a<n→(b∈g a↔b∈f a∨(a≠b∧a∈ps∧b∈ps)):=fun a b ha=>by rw [h a b ha,hW];simp
def O7:Sp:=fun vs H Q _=>∃(D pl:Addr) (n:Nat) (ds:Nat→Addr) (un:Nat→Prop) (f:Nat→List Nat) (ps:List Nat),vs=[.ref D,.ref pl]∧dq H D n ds un f∧H pl=some (.lst (ps.map fun k:Nat=>V.int (k:Int)))∧(∀p∈ps,p<n∧un p)∧n≤1000 ∧
 ∀(H':Hp) (g:Nat→List Nat),m6 n ds un H H'→dq H' D n ds un g→(∀a b:Nat,a<n→(b∈g a↔b∈f a∨(a≠b∧a∈ps∧b∈ps)))→Q .aJ H'
theorem dq.mono{H':Hp}{un:Nat→Prop}(h:dq H D n ds un f)(s:ak H H'):dq H' D n ds un f:=⟨s _ _ h.lst,h.inj,h.ne,fun i hi ui=>s _ _ (h.at' i hi ui),h.pl⟩
theorem dq.less{un Gx:Nat→Prop}(h:dq H D n ds un f)(k:∀i,i<n→Gx i→un i):dq H D n ds Gx f:=⟨h.lst,h.inj,h.ne,fun i hi ui=>h.at' i hi (k i hi ui),h.pl⟩
variable {x:Addr}
theorem dq.upd{un:Nat→Prop}(h:dq H D n ds un f){o:HO}(n1:x≠D)(n2:∀i,i<n→un i→ds i≠x):dq (upd H x o) D n ds un f:=⟨by rw [aH (Ne.symm n1)];exact h.lst,h.inj,h.ne,fun i hi ui=>by rw [aH (n2 i hi ui)];exact h.at' i hi ui,h.pl⟩
variable {a:Addr}
theorem O8{o:Obj}{kvs:List (Key×V)}(h:H1 a=some (.a9 o (.dK kvs))):lI (gZ a o kvs) (kvs.map fun kv=>kV kv.1) H1 where
 go:=fun i Hc s hi=>⟨s _ _ h,by simpa using hi⟩
 dw:=fun i Hc x H' s y=>⟨y.1,fun _=>by obtain ⟨kv,e,rfl⟩:=y.2;rw [bD,e];rfl⟩
 stop:=fun i Hc s hi=>⟨s _ _ h,by simpa using hi⟩
theorem O9(ks:List Nat):(dk ks).map (fun kv=>kV kv.1)=ks.map fun k:Nat=>V.int (k:Int):=by unfold dk;rw [dF];rfl
theorem O_(ks:List Nat):(List.range ks.length).map (fun i=>ks.getD i 0)=ks:=by
 refine fH (by simp) fun i h1 h2=>?_
 simp [b9,h2]
theorem Pa(ks:List Nat)(pr:Nat→Bool):((List.range ks.length).filter fun i=>pr (ks.getD i 0)).map (fun i=>ks.getD i 0)=ks.filter pr:=by have e:=List.filter_map (f:=fun i=>ks.getD i 0) (l:=List.range ks.length) (p:=pr);rw [O_] at e;exact e.symm
variable {ρ:St→St} {tt:TT} {te:TE} {σ:St} {Q:VK} {ks:List Nat}
theorem B4{ob:Obj}(h:H a=some (.a9 ob (.dK (dk ks))))(pr:Nat→Bool)(hl:ks.length<sizeLine)
  (test:∀k∈ks,∀(Hc:Hp) (R:Bool→Hp→Prop),ak H Hc→R (pr k) Hc→tt (some (.int (k:Int))::ρ σ) Hc R)
  (step:∀k∈ks,∀(Hc:Hp) (R:VK),R (.int (k:Int)) Hc→te (some (.int (k:Int))::ρ σ) Hc R)
  (fin:∀D Hc,H D=none→ak H Hc→Hc D=some (.lst ((ks.filter pr).map fun k:Nat=>V.int (k:Int)))→Q (.ref D) Hc):i6 (fun _ H R=>R (gZ a ob (dk ks)) H) ρ tt te σ H Q:=by
 have at':∀{i:Nat} {x:V},(ks.map fun k:Nat=>V.int (k:Int))[i]?=some x→i<ks.length∧x=.int ((ks.getD i 0:Nat):Int)∧ks.getD i 0∈ks:=fun{i x} hx=>by
  have hi:i<ks.length:=by have:=(cp.mp hx).1;simpa using this
  rw [bD] at hx;simp [hi] at hx;rw [getD_at hi];exact ⟨hi,hx.symm,bJ hi⟩
 refine Oo (xs:=ks.map fun k:Nat=>V.int (k:Int)) (fun i=>pr (ks.getD i 0)) (fun R k=>k _ (by rw [←O9];exact O8 h)) (by rw [aG];exact hl) (fun _ i y _=>y=.int ((ks.getD i 0:Nat):Int)) (fun _ _ _ _ _ _ h _ _=>h) ?_ ?_ ?_
 ·intro i x hx Hc R sc hR
  obtain ⟨_,rfl,m⟩:=at' hx;exact test _ m Hc R sc hR
 ·intro D i x hx Hc R sc _ kc
  obtain ⟨_,rfl,m⟩:=at' hx;exact step _ m Hc R (kc _ Hc (ak.refl _) rfl)
 ·intro D ys Hc nD sc ly hP eD
  refine fin D Hc nD sc ?_;rw [eD,←Pa ks pr,dF];rw [aG] at ly hP
  congr 2
  refine fH (by simpa using ly) fun k h1 h2=>?_
  have h3:k<((List.range ks.length).filter fun i=>pr (ks.getD i 0)).length:=by simpa using h2
  rw [eJ];exact hP k _ _ (bU h1) (bU h3)
theorem Gy(p:ws.Perm (ks.map iN)):∃ms:List Nat,ws=ms.map iN∧ms.Perm ks:=by
 refine ⟨ws.map Int.toNat,?_,?_⟩
 ·rw [dF]
  conv=>lhs;rw [←nZ ws]
  refine h_ fun z hz=>?_
  obtain ⟨k,_,rfl⟩:=b_.mp (p.mem_iff.mp hz)
  show iN k=iN (Int.toNat (iN k))
  unfold iN
  rw [dh]
 ·have:=p.map Int.toNat
  rw [dF] at this
  have e:ks.map (Int.toNat ∘ iN)=ks:=by
   conv=>rhs;rw [←nZ ks]
   exact h_ fun k _=>dh k
  rw [e] at this
  exact this
structure jO (n:Nat) (o:List Nat) (p:Nat) (ms:List Nat):Prop where
 up:ms.Pairwise (· < ·)
 lt:∀q∈ms,q<n
 la:∀q∈ms,o.idxOf p<o.idxOf q
theorem Pb{ms:List Nat}(hk:iL n ks)(h:ms.Perm (ks.filter fun q=>decide (o.idxOf p<o.idxOf q)))(s:(ms.map iN).Pairwise (·≤·)):jO n o p ms:=by
 have m:∀q∈ms,q∈ks∧o.idxOf p<o.idxOf q:=fun q hq=>by have:=d6.mp (h.mem_iff.mp hq);exact ⟨this.1,by simpa using this.2⟩
 refine ⟨?_,fun q hq=>hk.2 q (m q hq).1,fun q hq=>(m q hq).2⟩;have nd:ms.Nodup:=h.nodup_iff.mpr (hk.1.filter _);rw [uD] at s;refine List.Pairwise.imp₂ (fun a b h1 h2=>?_) s nd;have h1:(a:Int)≤(b:Int):=h1;have h2:a≠b:=h2;omega
def Gz(H:Hp)(D:Addr)(n:Nat)(rs:Nat→Addr)(g:Nat→List Nat):Prop:=H D=some (.lst ((List.range n).map fun p=>V.ref (rs p)))∧∀p,p<n→H (rs p)=some (.lst ((g p).map fun k:Nat=>V.int (k:Int)))
theorem Pc(h:je zs n):∃o:List Nat,zs=o.map iN∧o.Perm (List.range n):=Gy h
def jg(rs:Nat→Addr)(p:Nat)(x:Addr):Nat→Addr:=fun q=>if q=p then x else rs q
theorem Pd(n:Nat)(rs:Nat→Addr)(p:Nat)(x:Addr):((List.range n).map fun q=>V.ref (rs q)).set p (.ref x)=(List.range n).map fun q=>V.ref (jg rs p x q):=by
 refine fH (by simp) fun q h1 h2=>?_
 rw [List.getElem_set,eJ,lh,eJ,lh];unfold jg;by_cases e:p=q
 ·subst e
  rw [ae rfl,ae rfl]
 ·rw [aa e,aa (Ne.symm e)]
variable {rs:Nat→Addr}
theorem GA:jg rs p x p=x:=ae rfl
variable {q:Nat}
theorem Pe(h:q≠p):jg rs p x q=rs q:=aa h
theorem Pf{x:List Nat}:eR f p x p=x:=ae rfl
theorem Pg{x:List Nat}(h:q≠p):eR f p x q=f q:=aa h
theorem kM{g:Nat→V}(h:p<n):i4 ((List.range n).map g) (p:Int)=some (g p):=oB (by rw [bD,mj h];rfl)
theorem Ph(o ks:List Nat)(p:Nat):(ks.filter fun q=>decide ((o.idxOf p:Int)<(o.idxOf q:Int)))=ks.filter fun q=>decide (o.idxOf p<o.idxOf q):=by refine List.filter_congr fun q _=>?_;rw [qt,ie,ie];omega
theorem gB(h:o.Perm (List.range n))(hp:p<n)(hq:q<n)(ne:p≠q):o.idxOf p≠o.idxOf q:=fun z=>by
 obtain ⟨h1,e1⟩:=vK ((fE h).mpr hp);obtain ⟨h2,e2⟩:=vK ((fE h).mpr hq);refine ne ?_;rw [←e1,←e2]
 congr 1
theorem yK{wi:TI}(h:wi σ H fun J H1=>i6 (fun _ H R=>R J H) ρ tt te σ H1 Q):i6 wi ρ tt te σ H Q:=h
end My
namespace L2
open PySem PySem.Spec PyProof.Rows
section
variable {X:Cx} {pins:aI} {σ:St} {H:Hp} {s:Shared}
end
end L2
namespace My
open PySem L2
variable {n p:Nat}
theorem B5{o:List Nat}(h:o.Perm (List.range n)){ms:List Nat}(k:jO n o p ms):ms.length≤n-1-o.idxOf p:=by
 have nd:(ms.map fun q=>o.idxOf q-(o.idxOf p+1)).Nodup:=by rw [List.nodup_iff_pairwise_ne,uD];refine xl (fun{a b} ha hb lt=>?_) k.up;have h1:=k.la a ha;have h2:=k.la b hb;have ne:=gB h (k.lt a ha) (k.lt b hb) (bX lt);omega
 have:=B3 (n:=n-1-o.idxOf p) nd (fun x hx=>by obtain ⟨q,hq,rfl⟩:=b_.mp hx;have h1:=k.la q hq;have h2:=(vK ((fE h).mpr (k.lt q hq))).1;rw [rG h] at h2;omega)
 rwa [aG] at this
theorem GB{f g:Nat→Nat}:∀{l:List Nat},(∀p∈l,f p≤g p)→(l.map f).sum≤(l.map g).sum
 | [],_=>ax _
 | a::r,h=>by have h1:=h a (cE ..);have h2:=GB (l:=r) fun p hp=>h p (bP _ hp);simp only [cT,eK];omega
def cC(p q:Nat):Int×Int:=(if (q:Int)<(p:Int) then (q:Int) else (p:Int),if (q:Int)>(p:Int) then (q:Int) else (p:Int))
theorem Pj{q:Nat}(hp:p<n)(hq:q<n):0≤(cC p q).2∧(cC p q).2<(n:Int):=by
 unfold cC;dsimp only
 split <;> omega
theorem aW.app{H:Hp}{xs ys:List V}{M N:av}(h:aW H xs M)(h':aW H ys N):aW H (xs++ys) (M++N):=by
 have l1:=h.1;have l2:=h'.1;refine ⟨by simp [l1,l2],fun k v p h1 h2=>?_⟩
 by_cases e:k<xs.length
 ·rw [gM e] at h1
  rw [gM (by omega)] at h2
  exact h.2 k v p h1 h2
 ·rw [gK (by omega)] at h1
  rw [gK (by omega),←l1] at h2
  exact h'.2 _ v p h1 h2
theorem Pl{g:Nat→Nat}{k:Nat}(h:k≤n):((List.range k).map g).sum≤((List.range n).map g).sum:=by
 induction n with
 | zero=>rw [Nat.le_zero.mp h];exact ax _
 | succ n ih=>
  by_cases e:k=n+1;·subst e;exact ax _
  ·have:=ih (by omega)
   rw [qx,fG,wZ];omega
end My
namespace L2
open PySem PySem.Spec PyProof.Rows
theorem Pm{X:Cx}{E:XK}(L:qZ X E):PassesOwn (model X.prog X.w) X.A X.env X.xe:=by rw [L.xe];exact PassesOwn.leaving
end L2
namespace My
open PySem L2
def Pn:Sp:=fun vs H Q _=>∃m:Nat,vs=[.int (m:Int)]∧m≤1000∧Q (.int ((m:Int)*m+3*m+1)) H
end My
namespace L2
open PySem PySem.Spec PyProof.Rows
end L2
namespace My
open PySem L2
end My
namespace L2
open PySem PySem.Spec PyProof.Rows
end L2
namespace My
open PySem L2
end My
namespace L2
open PySem PySem.Spec PyProof.Rows
theorem yL{X:Cx}{K:aB}(hk:X.K=K:=by rfl):cq X (compareOp .In) (E8 K false):=by subst hk;exact L6
end L2
namespace My
open PySem L2
def B6:V→Nat
 | .int i=>i.toNat
 | _=>0
theorem Po{ys:List V}{n:Nat}(p:ys.Perm (cV n)):∃o:List Nat,ys=o.map (fun k:Nat=>V.int (k:Int))∧o.Perm (List.range n):=by
 refine ⟨ys.map B6,?_,?_⟩
 ·rw [dF]
  conv=>lhs;rw [←nZ ys]
  refine h_ fun y hy=>?_
  obtain ⟨k,_,rfl⟩:=b_.mp (p.mem_iff.mp hy)
  show V.int (k:Int)=V.int (((k:Int).toNat:Nat):Int)
  rw [dh]
 ·have:=p.map B6
  unfold cV at this
  rw [dF] at this
  have e:(List.range n).map (B6 ∘ fun i:Nat=>V.int (i:Int))=List.range n:=by
   conv=>rhs;rw [←nZ (List.range n)]
   exact h_ fun k _=>dh k
  rw [e] at this
  exact this
theorem Xz(xs:List V)(k:Nat)(h:k≤xs.length):i3 xs none (some (k:Int))=xs.take k:=by
 unfold i3 HT.eN;simp only;rw [aa (by omega),dh,Nat.min_eq_left h,Nat.sub_zero]
 rfl
theorem Pp(xs:List V)(k:Nat)(h:k≤xs.length):i3 xs (some (k:Int)) none=xs.drop k:=by
 unfold i3 HT.eN;simp only;rw [aa (by omega),dh,Nat.min_eq_left h]
 exact w6 (by rw [wW];exact ax _)
variable {n:Nat} {dN:Nat→Nat→Prop} {dY:Nat→Prop} {s:Nat}
end My
namespace L2
open PySem PySem.Spec PyProof.Rows
end L2
namespace My
open PySem L2
variable {a:Addr} {σ:St} {H:Hp}
theorem GC{ob:Obj}{ks:List Nat}{g:TG}{tb:TS}{D:Ends}(Pv:Nat→St→Hp→Prop)(h0:Pv 0 σ H)(hl:∀i σ H,i≤ks.length→Pv i σ H→H a=some (.a9 ob (.dK (dk ks))))
  (hs:∀(i k:Nat) σ H,ks[i]?=some k→Pv i σ H→g (.int (k:Int)) σ H fun σ2 H2=>tb {D with nx:=Pv (i+1),ct:=Pv (i+1),bk:=D.nx} σ2 H2) (hd:∀σ H,Pv ks.length σ H→D.nx σ H) :
  ∃W:Nat→Nat→St→Hp→Prop,(∃m,W 0 m σ H)∧∀i m σ H,W i m σ H→
   ((gZ a ob (dk ks)).stop i H∧D.nx σ H)∨((gZ a ob (dk ks)).go i H∧∃N:St→Hp→Prop,(∀σ' H',N σ' H'→∃m',m'<m∧W (i+1) m' σ' H')∧∀x H',(gZ a ob (dk ks)).dw i H x H'→g x σ H' fun σ2 H2=>tb {D with nx:=N,ct:=N,bk:=D.nx} σ2 H2):=by
 refine ⟨fun i m σ H=>m=ks.length-i∧i≤ks.length∧Pv i σ H,⟨ks.length,by simp,b7 _,h0⟩,?_⟩
 rintro i m σ H ⟨rfl,hi,p⟩;have q:=hl i σ H hi p;by_cases a_:i<ks.length
 ·refine .inr ⟨⟨q,by rw [B2];exact a_⟩,Pv (i+1),fun σ' H' p'=>⟨ks.length-(i+1),by omega,rfl,a_,p'⟩,fun x H' y=>?_⟩
  obtain ⟨e,kv,ek,rfl⟩:=y;subst e;unfold dk at ek;rw [bD,bU a_] at ek;cases ek;exact hs i _ σ _ (bU a_) p
 ·have e:i=ks.length:=by omega
  subst e;exact .inl ⟨⟨q,by rw [B2];exact ax _⟩,hd σ H p⟩
structure dg (H:Hp) (D:Addr) (n:Nat) (ds:Nat→Addr) (f:Nat→List Nat):Prop where
 lst:H D=some (.lst ((List.range n).map fun i=>V.ref (ds i)))
 at':∀i,i<n→H (ds i)=some (.dK (dk (f i)))∨∃ob,H (ds i)=some (.a9 ob (.dK (dk (f i))))
variable {D:Addr} {n:Nat} {ds:Nat→Addr} {f:Nat→List Nat}
theorem dq.fr(h:dq H D n ds (fun _=>True) f):dg H D n ds f:=⟨h.lst,fun i hi=>.inl (h.at' i hi trivial)⟩
variable {kvs:List (Key×V)} {R:It→Hp→Prop}
theorem Pq(h:H a=some (.dK kvs)∨∃ob,H a=some (.a9 ob (.dK kvs)))(k:∀(ob:Obj) (Hf:Hp),Hf a=some (.a9 ob (.dK kvs))→(∀b u,b≠a→H b=some u→Hf b=some u)→R (gZ a ob kvs) Hf) :
  (H a=some (.dK kvs)∧∀o,R (gZ a o kvs) (upd H a (.a9 o (.dK kvs))))∨∃o,H a=some (.a9 o (.dK kvs))∧R (gZ a o kvs) H:=by
 rcases h with e | ⟨ob,e⟩;·exact .inl ⟨e,fun o=>k o _ ay fun b u ne hb=>by rw [aH ne];exact hb⟩
 ·exact .inr ⟨ob,e,k ob H e fun _ _ _ h=>h⟩
theorem dg.keep{H':Hp}(h:dg H D n ds f)(k:∀b u,b≠a→H b=some u→H' b=some u)(nD:a≠D)(nd:∀i,i<n→ds i≠a):dg H' D n ds f:=⟨k _ _ (Ne.symm nD) h.lst,fun i hi=>by
 rcases h.at' i hi with e | ⟨ob,e⟩;·exact .inl (k _ _ (nd i hi) e)
 ·exact .inr ⟨ob,k _ _ (nd i hi) e⟩⟩
theorem dg.a9{H H':Hp}{D:Addr}{n:Nat}{ds:Nat→Addr}{f:Nat→List Nat}(h:dg H D n ds f){j:Nat}{ob:Obj}(k:∀b u,b≠ds j→H b=some u→H' b=some u)(hj:j<n)(e:H' (ds j)=some (.a9 ob (.dK (dk (f j)))))(inj:∀i j,i<n→j<n→ds i=ds j→i=j)(nD:ds j≠D):dg H' D n ds f:=⟨k _ _ (Ne.symm nD) h.lst,fun i hi=>by
 by_cases z:i=j;·subst z;exact .inr ⟨ob,e⟩
 ·rcases h.at' i hi with e | ⟨ob,e⟩
  ·exact .inl (k _ _ (fun q=>z (inj i j hi hj q)) e)
  ·exact .inr ⟨ob,k _ _ (fun q=>z (inj i j hi hj q)) e⟩⟩
theorem GD{tl:TE}(hp:∀Q:VK,Q (.ref a) H→tl σ H Q)(h:H a=some (.dK kvs)∨∃ob,H a=some (.a9 ob (.dK kvs)))(k:∀(ob:Obj) (Hf:Hp),Hf a=some (.a9 ob (.dK kvs))→(∀b u,b≠a→H b=some u→Hf b=some u)→R (gZ a ob kvs) Hf):B1 tl σ H R:=hp _ ⟨a,kvs,rfl,Pq h k⟩
end My
namespace L2
open PySem PySem.Spec PyProof.Rows
theorem Pr(l:List Int):∀(i:Nat) (k:Int),i≤l.length→((firstMet (fun i=>l.getD i 0) i).any (· == k)=true↔k∈l.take i):=by
 intro i k hi;rw [firstMet_any,xi];constructor
 ·rintro ⟨x,hx,e⟩
  obtain ⟨j,hj,rfl⟩:=b_.mp hx;have dA:=bY.mp hj;have:=eq_of_beq e;subst this;rw [List.mem_take_iff_getElem];exact ⟨j,by omega,by simp [b9,show j<l.length by omega]⟩
 ·intro h
  obtain ⟨j,hj,rfl⟩:=List.mem_take_iff_getElem.mp h;exact ⟨_,b_.mpr ⟨j,bY.mpr (by omega),rfl⟩,by simp [b9,show j<l.length by omega]⟩
theorem GF(l:List Int):∀i:Nat,i≤l.length→((firstMet (fun i=>l.getD i 0) i).length=i↔(l.take i).Nodup)
 | 0,_=>by simp [firstMet_zero]
 | i+1,hi=>by
  have ih:=GF l i (by omega)
  have le:=firstMet_length_le (fun i=>l.getD i 0) i;rw [firstMet_succ,step_length];have tk:l.take (i+1)=l.take i++[l.getD i 0]:=by rw [mw,b9];simp [show i<l.length by omega]
  rw [tk,jt];have m:=Pr l i (l.getD i 0) (by omega)
  by_cases z:(firstMet (fun i=>l.getD i 0) i).any (· == l.getD i 0)=true
  ·rw [ae z]
   constructor;·intro h;omega
   ·rintro ⟨_,_,h⟩
    exact absurd rfl (h _ (m.mp z) _ (dt.mpr rfl))
  ·rw [aa z]
   constructor
   ·intro h
    refine ⟨ih.mp (by omega),by simp,fun a ha b hb e=>z (m.mpr ?_)⟩
    rw [dt] at hb;rw [←hb,←e];exact ha
   ·rintro ⟨h,_,_⟩
    have:=ih.mpr h;omega
theorem GG:∀{zs:List Int} {us:List Value},Vals (zs.map V.int) us→IntsAre us zs
 | [],_,r=>by cases r;exact .nil
 | z::zs,_,r=>by
  cases r with
  | cons h t=>obtain ⟨k,rfl⟩:=h;exact .cons _ _ (GG t)
def Pu(K:aB):List V→Hp→VK→Prop:=fun xs H Q=>∃(a:Addr) (zs:List Int),xs=[.ref a]∧aO K H a (zs.map V.int)∧zs.length<1000∧∀(l:Addr) (S:Int→Bool) (n:Nat),H l=none→n≤zs.length→(n=zs.length↔zs.Nodup)→Q (.ref l) (upd H l (.set S n))
variable {X:Cx}
theorem Pw{K:aB}(hc:X.calm=true)(hK:X.K=K:=by rfl):fv X (.type "set") (Pu K):=by
 intro pins s σ H xs us Q I r h;subst hK;obtain ⟨p,zs,rfl,hq,hz,q⟩:=h;obtain ⟨u,rfl,ru⟩:=vals1 r;cases ru;obtain ⟨its,rv,pl,_⟩:=I.list hq;have hl:its.length=zs.length:=by rw [←rv.length,aG]
 refine call_set_list (items:=its.toArray) (ns:=zs) (I.ok.hd hc) pl.isList (by simpa using GG rv) (by rw [b8];unfold scanBound;omega) fun h' tk hS hk=>?_
 have el:=b8 (as:=its);rw [el,hl] at hS;refine ⟨.ref s.heap.objs.size,_,I.laid (t':=tk) (o:=.set (fun k'=>(firstMet (fun i=>zs.getD i 0) zs.length).any (· == k')) (firstMet (fun i=>zs.getD i 0) zs.length).length) (fun b u e=>hk b u (aU e) e) (ax _) hS,rfl,q _ _ _ (I.aw.fresh (ax _)) (firstMet_length_le _ _) ?_⟩;have:=GF zs zs.length (ax _);rw [hW] at this;exact this
theorem Px:fv X (.builtin "len") (fun xs H Q=>∃p S n,xs=[.ref p]∧H p=some (.set S n)∧n<1000∧Q (.int (n:Int)) H):=by intro pins s σ H xs us Q I r h;obtain ⟨p,S,n,rfl,hq,n1,q⟩:=h;obtain ⟨u,rfl,rx⟩:=vals1 r;cases rx;have hS:s.heap.SetOf (intKind X.prog X.w) p S n:=I.aw p _ hq;obtain ⟨o,ho,Py⟩:=hS.objOf;obtain ⟨hex,es,ep,t,hd,_,_,hn,hf⟩:=Py;subst hn;exact call_len_set ho hex hd hf (Int.lt_of_lt_of_le (Int.ofNat_lt.mpr n1) (by decide)) ⟨.int (es.size:Int),H,I.tok _,⟨s.toks+1,rfl⟩,q⟩
theorem boot_set:bootBuiltins "set"=some (.type "set"):=by decide +kernel
end L2
namespace My
open PySem L2
def Pz(K:aB):R2:=fun x y H Q=>∃(a b:Addr) (us ws:List V) (L M:av),x=.ref a∧y=.ref b∧aO K H a us∧aO K H b ws∧aW H us L∧aW H ws M∧Q (.bl (decide (L=M))) H
variable {X:Cx}
theorem B7{pins:aI}{σ:St}{H:Hp}{s:Shared}(I:Inv X pins σ H s){A:Around}(hu:A.units<cLine){p q:Addr}{x y:Int×Int}(e:H p=some (.tup [.int x.1,.int x.2]))(e':H q=some (.tup [.int y.1,.int y.2])):SeqAt.EqAt A s (.ref p) (.ref q) (decide (x=y)):=by
 by_cases pq:p=q
 ·subst pq
  rw [e] at e';cases x;cases y;simp only [qD,HO.tup.injEq,List.cons.injEq,V.int.injEq,and_true] at e';rw [a7 (Prod.ext e'.1 e'.2)];exact SeqAt.EqAt.same _
 obtain ⟨us,r1,t1,_⟩:=I.tuple (.of e);obtain ⟨vs,r2,t2,_⟩:=I.tuple (.of e');obtain ⟨a1,a2,rfl,B8,B9⟩:=vals2 r1;obtain ⟨b1,b2,rfl,B_,Ca⟩:=vals2 r2;have z:=SeqAt.RcAt.tuples (A:=A) (e:=fun j=>if j=0 then dS (.int x.1) (.int y.1) else dS (.int x.2) (.int y.2)) t1 t2 hu (fun j z1 z2=>by
  have:j<2:=z1
  match j with
  | 0=>exact uZ B8 B_ rfl rfl
  | 1=>exact uZ B9 Ca rfl rfl)
 have ec:decide (x=y)=((List.range (min ([a1,a2]:List Value).toArray.size ([b1,b2]:List Value).toArray.size)).all (fun j=>if j=0 then dS (.int x.1) (.int y.1) else dS (.int x.2) (.int y.2)) && ([a1,a2]:List Value).toArray.size == ([b1,b2]:List Value).toArray.size):=by cases x;cases y;simp only [Prod.mk.injEq];show _=((List.range 2).all _ && true);simp [qx,dS];rfl
 rw [ec];exact SeqAt.EqAt.of_refs pq z
theorem PB(hu:X.A.units+64<cLine):cq X (compareOp .Eq) (Pz X.K):=by
 intro pins s σ H x y v u Q I rx ry h;obtain ⟨a,b,xs,ys,L,M,rfl,rfl,h1,h2,k1,k2,q⟩:=h;cases rx;cases ry;obtain ⟨us,r1,t1,_⟩:=I.list h1;obtain ⟨vs,r2,t2,_⟩:=I.list h2;have l1:=r1.length;have l2:=r2.length;have m1:=k1.1;have m2:=k2.1;by_cases hl:L.length=M.length
 ·refine SeqAt.RcAt.lists (e:=fun j=>decide (L.getD j (0,0)=M.getD j (0,0))) t1.isList t2.isList (by simp;omega) (by omega) (fun j z1 z2=>?_) _ _ _ _ ?_
  ·have rA:j<us.length:=by simpa using z1
   have Gv:j<vs.length:=by simpa using z2
   obtain ⟨p,ep,hp⟩:=k1.2 j xs[j] (L.getD j (0,0)) (by simp) (by simp [b9,show j<L.length by omega])
   obtain ⟨p',kf,kL⟩:=k2.2 j ys[j] (M.getD j (0,0)) (by simp) (by simp [b9,show j<M.length by omega])
   obtain ⟨x',oh,rx⟩:=r1.get (i:=j) (x:=xs[j]) (by simp)
   obtain ⟨y',vJ,ry⟩:=r2.get (i:=j) (x:=ys[j]) (by simp)
   have e1:us.toArray[j]=x':=by simpa using (cp.mp oh).2
   have e2:vs.toArray[j]=y':=by simpa using (cp.mp vJ).2
   rw [e1,e2];rw [ep] at rx;rw [kf] at ry;cases rx;cases ry;exact B7 I (by rw [uF];omega) hp kL
  ·have ea:(List.range us.toArray.size).all (fun j=>decide (L.getD j (0,0)=M.getD j (0,0)))=decide (L=M):=by
    rw [show us.toArray.size=L.length by simp;omega]
    by_cases e:L=M
    ·subst e
     simp
    ·rw [bt e,uu]
     intro h;rw [nQ] at h;refine e (fH hl fun j g1 g2=>?_);have:=h j (bY.mpr g1);simpa [b9,g1,g2] using this
   rw [ea];exact ⟨.bl (decide (L=M)),H,I,rfl,q⟩
 ·rw [bt (fun e=>hl (by rw [e]))] at q
  refine SeqAt.RcAt.lists_lengths t1.isList t2.isList ?_ (by omega) _ _ _ _ ⟨.bl false,H,I,rfl,q⟩
  simp;omega
def PD:Sp:=fun vs H Q _=>∃(z:Int) (n:Nat),vs=[.int z,.int (n:Int)]∧Q (.bl (decide (0≤z∧z<n))) H
def fU(zs:List Int):List (Int×Int):=(List.range zs.length).map fun k=>(min (zs.getD k 0) (zs.getD ((k+1) % zs.length) 0),max (zs.getD k 0) (zs.getD ((k+1) % zs.length) 0))
def lT(L:av)(zs:List Int):List (Int×Int):=L.filter fun p=>decide (p.1∈zs) && decide (p.2∈zs)
def GH(H H':Hp)(l:Addr)(L:av):Prop:=ak H H'∧H l=none∧∃us,H' l=some (.lst us)∧aW H' us L
def PF(K:aB):Sp:=fun vs H Q _=>∃(a:Addr) (zs:List Int),vs=[.ref a]∧aO K H a (zs.map V.int)∧1≤zs.length∧zs.length≤40∧∀H' l,GH H H' l (fU zs)→Q (.ref l) H'
def PH(K:aB):Sp:=fun vs H Q _=>∃(tp a:Addr) (n:Nat) (L:av) (zs:List Int),vs=[.ref tp,.ref a]∧c_ H tp n L∧L.length≤200∧aO K H a (zs.map V.int)∧∀H' l,GH H H' l (lT L zs)→Q (.ref l) H'
end My
namespace L2
open PySem PySem.Spec PyProof.Rows My
structure vL (J:It) (Z:av) (H1:Hp):Prop where
 go:∀i Hc,ak H1 Hc→i<Z.length→J.go i Hc
 dw:∀i Hc v H',ak H1 Hc→J.dw i Hc v H'→ak Hc H'∧∀z,Z[i]?=some z→∃T,v=.ref T∧H' T=some (.tup [.int z.1,.int z.2])
 stop:∀i Hc,ak H1 Hc→Z.length≤i→J.stop i Hc
variable {K:aB} {a:Addr} {Z:av} {H1:Hp}
theorem GI{us:List V}(h:H1 a=some (.tup us))(hZ:aW H1 us Z):vL (qR K a) Z H1 where
 go:=fun i Hc s hi=>⟨us,us[i]'(by rw [hZ.1];exact hi),.of (s _ _ h),by simp⟩
 dw:=fun i Hc v H' s y=>by obtain ⟨rfl,hy⟩:=y;refine ⟨ak.refl _,fun z hz=>?_⟩;obtain ⟨b,e,g⟩:=hZ.2 i v z (hy us (.of (s _ _ h))) hz;exact ⟨b,e,s _ _ g⟩
 stop:=fun i Hc s hi=>⟨us,.of (s _ _ h),by rw [hZ.1];exact hi⟩
theorem PJ{b:Addr}{xs ys:List Int}(h1:aO K H1 a (xs.map V.int))(h2:aO K H1 b (ys.map V.int)):vL (Bq K a b) (xs.zip ys) H1 where
 go:=fun i Hc s hi=>by
  have hi:i<min xs.length ys.length:=by simpa using hi
  exact ⟨_,_,.int xs[i],.int ys[i],s.seq h1,s.seq h2,by simp [show i<xs.length by omega],by simp [show i<ys.length by omega]⟩
 dw:=fun i Hc v H' s y=>by obtain ⟨T,x,y,nT,ev,rfl,hx⟩:=y;refine ⟨aY nT,fun z hz=>⟨T,ev,?_⟩⟩;obtain ⟨e1,e2⟩:=hx _ _ (s.seq h1) (s.seq h2);obtain ⟨g1,g2⟩:=List.getElem?_zip_eq_some.mp hz;rw [bD,g1] at e1;rw [bD,g2] at e2;cases e1;cases e2;exact ay
 stop:=fun i Hc s hi=>by
  have hi:min xs.length ys.length≤i:=by simpa using hi
  exact ⟨_,_,s.seq h1,s.seq h2,by rw [aG,aG];omega⟩
theorem GJ{wi:TI}{ρ:St→St}{tt:TT}{te:TE}{σ:St}{H:Hp}{Q:VK}(pr:Int×Int→Bool)(f:Int×Int→Int×Int)(iH:∀R:It→Hp→Prop,(∀J H1,ak H H1→vL J Z H1→R J H1)→wi σ H R)(hn:Z.length<sizeLine)
  (test:∀z∈Z,∀(Hc:Hp) (R:Bool→Hp→Prop),ak H Hc→R (pr z) Hc→tt (some (.int z.1)::some (.int z.2)::ρ σ) Hc R)
  (step:∀z∈Z,∀(Hc:Hp) (R:VK),ak H Hc→(∀T H3,ak Hc H3→H3 T=some (.tup [.int (f z).1,.int (f z).2])→R (.ref T) H3)→te (some (.int z.1)::some (.int z.2)::ρ σ) Hc R)
  (fin:∀D us Hc,H D=none→ak H Hc→aW Hc us ((Z.filter pr).map f)→Hc D=some (.lst us)→Q (.ref D) Hc):FC K wi ρ tt te σ H Q:=by
 refine iH _ fun J H1 s1 js=>?_;intro D nD;refine ⟨fun i m us Hc=>m=Z.length-i∧i≤Z.length∧Hc D=some (.lst us)∧ak H1 Hc∧us.length≤i∧aW Hc us (((Z.take i).filter pr).map f),⟨_,rfl,b7 _,ay,fA (ak.refl H1) nD,ax _,aW.nil _⟩,?_⟩;rintro i m us Hc ⟨rfl,hi,eD,sH,lu,hL⟩;refine ⟨eD,?_⟩;by_cases a_:i<Z.length
 ·refine .inr ⟨js.go i Hc sH a_,fun v H' hy=>?_⟩
  obtain ⟨s',k⟩:=js.dw i Hc v H' sH hy;obtain ⟨T,rfl,eT⟩:=k Z[i] (by simp [a_])
  have tk:Z.take (i+1)=Z.take i++[Z[i]]:=by rw [mw,bU a_];rfl
  have mz:Z[i]∈Z:=bJ a_;generalize Z[i]=z at eT tk mz;refine ⟨T,_,_,rfl,.of eT,test z mz _ _ (s1.trans (sH.trans s')) ?_⟩;cases e:pr z with
  | true=>
   rw [ae rfl];refine step z mz _ _ (s1.trans (sH.trans s')) fun w H3 s3 ew=>?_;have e3:=s3 _ _ (s' _ _ eD);refine ⟨e3,by omega,Z.length-(i+1),by omega,rfl,a_,ay,fA (sH.trans (s'.trans s3)) nD,by simp;omega,?_⟩
   rw [tk,qC,fG,show [z].filter pr=[z] by simp [e]]
   exact ((hL.mono (s'.trans s3)).push ew).bS e3 fun b o nb e=>by rw [aH nb];exact e
  | false=>
   rw [aa (by simp)]
   refine ⟨Z.length-(i+1),by omega,rfl,a_,s' _ _ eD,sH.trans s',by omega,?_⟩
   rw [tk,qC,show [z].filter pr=[] by simp [e],k4]
   exact hL.mono s'
 ·have e:i=Z.length:=by omega
  subst e;rw [hW] at hL;exact .inl ⟨js.stop _ Hc sH (ax _),fin D us Hc (none_of s1 nD) (s1.trans sH) hL eD⟩
end L2
namespace My
open PySem L2
def yM(z:Int×Int):Int×Int:=(if z.2<z.1 then z.2 else z.1,if z.2>z.1 then z.2 else z.1)
theorem PK(a b:Int):yM (a,b)=(min a b,max a b):=by
 unfold yM;refine Prod.ext ?_ ?_
 ·show (if b<a then b else a)=min a b
  split <;> omega
 ·show (if b>a then b else a)=max a b
  split <;> omega
variable {zs:List Int}
theorem PL(h:1≤zs.length):((zs.zip (zs.drop 1++zs.take 1)).filter fun _=>true).map yM=fU zs:=by
 rw [List.filter_eq_self.mpr (fun _ _=>rfl)];unfold fU;refine fH ?_ fun k h1 h2=>?_
 ·simp
  omega
 ·have hk:k<zs.length:=by simpa using h2
  rw [eJ,eJ,List.getElem_zip,lh,PK];have e1:zs.getD k 0=zs[k]:=by simp [b9,hk]
  have e2:zs.getD ((k+1) % zs.length) 0=(zs.drop 1++zs.take 1)[k]'(by simp;omega):=by
   by_cases z:k+1<zs.length
   ·rw [uG z,List.getElem_append_left (by simp;omega)]
    simp [b9,z,Nat.add_comm]
   ·have:k+1=zs.length:=by omega
    rw [this,uH,List.getElem_append_right (by simp;omega)]
    simp [b9,show 0<zs.length by omega,show k-(zs.length-1)=0 by omega]
  rw [e1,e2]
theorem rH(z:Int)(zs:List Int):xS (.int z) (zs.map V.int)=decide (z∈zs):=by
 unfold xS;rw [List.any_map];by_cases h:z∈zs
 ·rw [a7 h,xi]
  exact ⟨z,h,by simp [dS]⟩
 ·rw [bt h,wU]
  intro x hx e;have:x=z:=by simpa [dS] using e
  exact h (this▸hx)
theorem yN(zs:List Int):(zs.map V.int).all kB=true:=by rw [nQ];intro x hx;obtain ⟨z,_,rfl⟩:=b_.mp hx;rfl
theorem PM(zs:List Int)(k:Nat):i3 (zs.map V.int) none (some (k:Int))=(zs.take k).map V.int:=by rw [M1,List.map_take]
theorem PN(zs:List Int)(k:Nat)(h:k≤zs.length):i3 (zs.map V.int) (some (k:Int)) none=(zs.drop k).map V.int:=by rw [Pp _ _ (by rw [aG];exact h),List.map_drop]
def fV(L:av)(zs:List Int):Prop:=4≤zs.length∧zs.Nodup∧(fU zs).Perm (lT L zs)
instance (L:av) (zs:List Int):Decidable (fV L zs):=by unfold fV;exact inferInstance
theorem PQ(zs:List Int):(fU zs).length=zs.length:=by unfold fU;simp
theorem PR{p:Int×Int}(h:p∈fU zs):∃x y,x∈zs∧y∈zs∧p=(min x y,max x y)∧(zs.Nodup→2≤zs.length→x≠y):=by
 unfold fU at h;obtain ⟨k,hk,rfl⟩:=b_.mp h;have hk:=bY.mp hk;have hm:(k+1) % zs.length<zs.length:=Nat.mod_lt _ (by omega)
 have e1:zs.getD k 0=zs[k]:=by simp [b9,hk]
 have e2:zs.getD ((k+1) % zs.length) 0=zs[(k+1) % zs.length]:=by simp [b9,hm]
 refine ⟨zs.getD k 0,zs.getD ((k+1) % zs.length) 0,by rw [e1];exact bJ _,by rw [e2];exact bJ _,rfl,fun nd l2 e=>?_⟩
 rw [e1,e2] at e;have:=(nN nd).mp e;by_cases z:k+1<zs.length
 ·rw [uG z] at this
  omega
 ·rw [show k+1=zs.length by omega,uH] at this
  omega
theorem PU{z:Int}(h:z∈zs):∃p∈fU zs,p.1=z∨p.2=z:=by
 obtain ⟨k,hk,rfl⟩:=nS h;refine ⟨_,b_.mpr ⟨k,bY.mpr hk,rfl⟩,?_⟩;have e1:zs.getD k 0=zs[k]:=by simp [b9,hk]
 rw [e1];dsimp only;omega
variable {n:Nat} {L:av}
theorem fV.PV(h:fV L zs)(ok:g8 n L):∀z∈zs,0≤z∧z<n:=fun z hz=>by obtain ⟨p,hp,e⟩:=PU hz;have:=(d6.mp (h.2.2.mem_iff.mp hp)).1;have:=ok p this;omega
def m7(p q:Int×Int):Prop:=p.1*1000+p.2≤q.1*1000+q.2
variable {M:av}
theorem PX{p:Array Nat}(P:kH M.length p)(U:mU (fun i=>(M.getD i (0,0)).1*1000+(M.getD i (0,0)).2) p M.length) :
  (p.toList.map fun i=>M.getD i (0,0)).Perm M∧(p.toList.map fun i=>M.getD i (0,0)).Pairwise m7:=by
 have pm:p.toList.Perm (List.range M.length):=nV.mp P;have lt:∀i∈p.toList,i<M.length:=fun i hi=>bY.mp (pm.mem_iff.mp hi);refine ⟨?_,?_⟩
 ·have e:((List.range M.length).map fun i=>M.getD i (0,0))=M:=by
   refine fH (by simp) fun i h1 h2=>?_
   rw [eJ,lh,getD_at h2]
  have:=pm.map fun i=>M.getD i (0,0);rw [e] at this;exact this
 ·rw [uB]
  intro i j hi hj Bz;rw [aG] at hi hj;rw [eJ,eJ];have sz:=P.size;have u:=U i j (by omega) (by rw [←sz,←fF];exact hj)
  unfold vN at u;have gi:p.getD i 0=p.toList[i]:=by
   have:i<p.size:=by rw [←fF];exact hi
   simp [Array.getD,this]
  have gj:p.getD j 0=p.toList[j]:=by
   have:j<p.size:=by rw [←fF];exact hj
   simp [Array.getD,this]
  rw [gi,gj] at u;exact u
theorem PY{N R:av}(p:M.Perm R)(oM:M.Pairwise m7)(oN:N.Pairwise lexLt)(bR:∀q∈R,0≤q.2∧q.2<1000)(bN:∀q∈N,0≤q.2∧q.2<1000):decide (M=N)=decide (R.Perm N):=by
 by_cases h:R.Perm N
 ·rw [a7 h]
  refine a7 ?_;have PZ:N.Pairwise m7:=xl (fun{a b} ha hb l=>by have h1:=bN a ha;have h2:=bN b hb;unfold lexLt at l;unfold m7;omega) oN
  refine (p.trans h).eq_of_pairwise (fun a b ha hb h1 h2=>?_) oM PZ;have b1:=bR a (p.mem_iff.mp ha);have b2:=bN b hb;unfold m7 at h1 h2;exact Prod.ext (by omega) (by omega)
 ·rw [bt h]
  refine bt fun e=>h ?_;subst e;exact p.symm
theorem P1(ok:g8 n L)(n1:n≤1000):∀q∈lT L zs,0≤q.2∧q.2<1000:=fun q hq=>by have:=ok q (d6.mp hq).1;omega
theorem P2(h:L.Pairwise lexLt):(lT L zs).Pairwise lexLt:=h.filter _
def P4(K:aB):Sp:=fun vs H Q _=>∃(tp a:Addr) (n:Nat) (L:av) (zs:List Int),vs=[.ref tp,.ref a]∧c_ H tp n L∧g8 n L∧L.Pairwise lexLt∧n≤1000∧L.length≤200∧aO K H a (zs.map V.int)∧zs.length≤40∧(∀z∈zs,-1≤z∧z<1000)∧∀H',ak H H'→Q (.bl (decide (fV L zs))) H'
theorem GK{H:Hp}{l:Addr}{us:List V}{Q:VK}(el:H l=some (.lst us))(hM:aW H us M)(XA:M.length<1000)(b:∀q∈M,0≤q.2∧q.2<1000)
  (k:∀(l':Addr) (ws:List V) (N:av) (H':Hp),ak H H'→H l'=none→H' l'=some (.lst ws)→aW H' ws N→N.Perm M→N.Pairwise m7→Q (.ref l') H'):F2 [.ref l] H Q:=by
 have lX:=hM.1;refine ⟨l,us,fun i=>(M.getD i (0,0)).1,fun i=>(M.getD i (0,0)).2,rfl,el,by omega,fun i v hv=>?_,fun p l' hp hu oU=>?_⟩
 ·have hi:i<M.length:=by rw [←lX];exact (cp.mp hv).1
  obtain ⟨c,rfl,ec⟩:=hM.2 i v M[i] hv (by simp [hi])
  dsimp only;rw [getD_at hi];exact ⟨⟨c,rfl,ec⟩,b _ (bJ hi)⟩
 ·rw [lX] at hp hu
  obtain ⟨pm,pw⟩:=PX hp hu;have hP:aW H (p.toList.map fun i=>us.getD i .aJ) (p.toList.map fun i=>M.getD i (0,0)):=hM.pick _ fun i hi=>by have:p.toList.Perm (List.range M.length):=nV.mp hp;exact bY.mp (this.mem_iff.mp hi)
  exact k l' _ _ _ (aY oU) oU ay (hP.mono (aY oU)) pm pw
theorem GL(nd:zs.Nodup)(h2:2≤zs.length)(b:∀z∈zs,-1≤z∧z<1000):∀q∈fU zs,0≤q.2∧q.2<1000:=fun q hq=>by obtain ⟨x,y,hx,hy,rfl,ne⟩:=PR hq;have h1:=b x hx;have h3:=b y hy;have:=ne nd h2;dsimp only;omega
end My
namespace L2
open PySem PySem.Spec PyProof.Rows My
theorem GN{wi:TI}{ρ:St→St}{tt:TT}{te:TE}{σ:St}{H:Hp}{Q:VK}{Z:av}(pr:Int×Int→Bool)(iH:∀R:It→Hp→Prop,(∀J H1,ak H H1→vL J Z H1→R J H1)→wi σ H R)(hn:Z.length<sizeLine)
  (test:∀z∈Z,∀(T:Addr) (Hc:Hp) (R:Bool→Hp→Prop),ak H Hc→Hc T=some (.tup [.int z.1,.int z.2])→R (pr z) Hc→tt (some (.ref T)::ρ σ) Hc R)
  (step:∀(T:Addr) (Hc:Hp) (R:VK),R (.ref T) Hc→te (some (.ref T)::ρ σ) Hc R)
  (fin:∀D us Hc,H D=none→ak H Hc→aW Hc us (Z.filter pr)→Hc D=some (.lst us)→Q (.ref D) Hc):i6 wi ρ tt te σ H Q:=by
 refine iH _ fun J H1 s1 js=>?_;intro D nD;refine ⟨fun i m us Hc=>m=Z.length-i∧i≤Z.length∧Hc D=some (.lst us)∧ak H1 Hc∧us.length≤i∧aW Hc us ((Z.take i).filter pr),⟨_,rfl,b7 _,ay,fA (ak.refl H1) nD,ax _,aW.nil _⟩,?_⟩;rintro i m us Hc ⟨rfl,hi,eD,sH,lu,hL⟩;refine ⟨eD,?_⟩;by_cases a_:i<Z.length
 ·refine .inr ⟨js.go i Hc sH a_,fun v H' hy=>?_⟩
  obtain ⟨s',k⟩:=js.dw i Hc v H' sH hy;obtain ⟨T,rfl,eT⟩:=k Z[i] (by simp [a_])
  have tk:Z.take (i+1)=Z.take i++[Z[i]]:=by rw [mw,bU a_];rfl
  have mz:Z[i]∈Z:=bJ a_;generalize Z[i]=z at eT tk mz;refine test z mz T _ _ (s1.trans (sH.trans s')) eT ?_;cases e:pr z with
  | true=>
   rw [ae rfl];refine step T _ _ ?_;have e3:=s' _ _ eD;refine ⟨e3,by omega,Z.length-(i+1),by omega,rfl,a_,ay,fA (sH.trans s') nD,by simp;omega,?_⟩
   rw [tk,qC,show [z].filter pr=[z] by simp [e]]
   exact ((hL.mono s').push eT).bS e3 fun b o nb e=>by rw [aH nb];exact e
  | false=>
   rw [aa (by simp)]
   refine ⟨Z.length-(i+1),by omega,rfl,a_,s' _ _ eD,sH.trans s',by omega,?_⟩
   rw [tk,qC,show [z].filter pr=[] by simp [e],k4]
   exact hL.mono s'
 ·have e:i=Z.length:=by omega
  subst e;rw [hW] at hL;exact .inl ⟨js.stop _ Hc sH (ax _),fin D us Hc (none_of s1 nD) (s1.trans sH) hL eD⟩
end L2
namespace My
open PySem L2
inductive Wk (dN:Nat→Nat→Prop) (dY:Nat→Prop) (s:Nat):Nat→Prop where
 | one {b:Nat}:dN s b→Wk dN dY s b
 | more {a b:Nat}:Wk dN dY s a→dY a→dN a b→Wk dN dY s b
section
variable {dN:Nat→Nat→Prop} {dY vM:Nat→Prop} {s t:Nat}
theorem Wk.mono(h:Wk dN dY s t)(k:∀x,dY x→vM x):Wk dN vM s t:=by
 induction h with
 | one ab=>exact .one ab
 | more _ o ab ih=>exact .more ih (k _ o) ab
theorem Wk.cons{a:Nat}(ab:dN s a)(ta:dY a)(h:Wk dN dY a t):Wk dN dY s t:=by
 induction h with
 | one e=>exact .more (.one ab) ta e
 | more _ o e ih=>exact .more ih o e
theorem Wk.symm(sy:∀a b,dN a b→dN b a)(h:Wk dN dY s t):Wk dN dY t s:=by
 induction h with
 | one ab=>exact .one (sy _ _ ab)
 | more _ o ab ih=>exact ih.cons (sy _ _ ab) o
theorem Wk.trans{p:Nat}(h:Wk dN dY s p)(tp:dY p)(h':Wk dN dY p t):Wk dN dY s t:=by
 induction h' with
 | one ab=>exact .more h tp ab
 | more _ o ab ih=>exact .more ih o ab
theorem Wk.step{p:Nat}(k:∀x,vM x↔dY x∨x=p):Wk dN vM s t↔Wk dN dY s t∨(Wk dN dY s p∧Wk dN dY p t):=by
 constructor
 ·intro h
  induction h with
  | one ab=>exact .inl (.one ab)
  | more _ o ab ih=>
   rcases (k _).mp o with o | rfl
   ·rcases ih with ih | ⟨i1,i2⟩
    ·exact .inl (.more ih o ab)
    ·exact .inr ⟨i1,.more i2 o ab⟩
   ·rcases ih with ih | ⟨i1,_⟩
    ·exact .inr ⟨ih,.one ab⟩
    ·exact .inr ⟨i1,.one ab⟩
 ·have m:∀x,dY x→vM x:=fun x h=>(k x).mpr (.inl h)
  rintro (h | ⟨h,h'⟩);·exact h.mono m
  ·exact (h.mono m).trans ((k p).mpr (.inr rfl)) (h'.mono m)
end
def aL(n:Nat)(L:av)(a b:Nat):Prop:=a<n∧b<n∧(((a:Int),(b:Int))∈L∨((b:Int),(a:Int))∈L)
variable {n:Nat} {L:av}
theorem eS(a b:Nat)(h:aL n L a b):aL n L b a:=⟨h.2.1,h.1,h.2.2.symm⟩
def m8(L:av):Prop:=∀p∈L,p.1≠p.2
def fh(n:Nat)(o:List Nat)(k x:Nat):Prop:=x<n∧o.idxOf x<k
def oW(n:Nat)(L:av)(o:List Nat)(k:Nat)(f:Nat→List Nat):Prop:=∀a b:Nat,a<n→b<n→k≤o.idxOf a→k≤o.idxOf b→(b∈f a↔a≠b∧Wk (aL n L) (fh n o k) a b)
variable {o:List Nat}
theorem oW.start{f:Nat→List Nat}(nb:jN n L f)(ns:m8 L):oW n L o 0 f:=fun a b ha hb _ _=>by
 rw [nb a b ha];constructor
 ·intro h
  refine ⟨fun e=>?_,.one ⟨ha,hb,h⟩⟩;subst e;rcases h with h | h <;> exact ns _ h rfl
 ·rintro ⟨_,h⟩
  cases h with
  | one ab=>exact ab.2.2
  | more _ o _=>exact absurd o.2 (mf _)
theorem oW.step{n:Nat}{L:av}{o:List Nat}(ho:o.Perm (List.range n)){k p:Nat}{f g:Nat→List Nat}{ms:List Nat}(h:oW n L o k f)(hp:p<n)(ip:o.idxOf p=k)(hm:∀q,q∈ms↔q∈f p∧k<o.idxOf q)(ml:∀q∈ms,q<n)
  (con:∀a b:Nat,a<n→(b∈g a↔b∈f a∨(a≠b∧a∈ms∧b∈ms))):oW n L o (k+1) g:=fun a b ha hb ka kb=>by
 have th:∀x,fh n o (k+1) x↔fh n o k x∨x=p:=fun x=>by
  unfold fh;constructor
  ·rintro ⟨h1,h2⟩
   by_cases e:o.idxOf x=k
   ·right
    by_cases z:x=p;·exact z
    ·exact absurd (e.trans ip.symm) (gB ho h1 hp z)
   ·exact .inl ⟨h1,by omega⟩
  ·rintro (⟨h1,h2⟩ | rfl)
   ·exact ⟨h1,by omega⟩
   ·exact ⟨hp,by omega⟩
 have ap:a≠p:=fun e=>by subst e;omega
 have bp:b≠p:=fun e=>by subst e;omega
 have ea:=h p a hp ha (by omega) (by omega)
 have eb:=h p b hp hb (by omega) (by omega)
 rw [con a b ha,h a b ha hb (by omega) (by omega),hm a,hm b,ea,eb,Wk.step th]
 constructor
 ·rintro (⟨h1,h2⟩ | ⟨h1,⟨⟨_,h2⟩,_⟩,⟨_,h3⟩,_⟩)
  ·exact ⟨h1,.inl h2⟩
  ·exact ⟨h1,.inr ⟨h2.symm eS,h3⟩⟩
 ·rintro ⟨h1,h2 | ⟨h2,h3⟩⟩
  ·exact .inl ⟨h1,h2⟩
  ·exact .inr ⟨h1,⟨⟨Ne.symm ap,h2.symm eS⟩,by omega⟩,⟨Ne.symm bp,h3⟩,by omega⟩
def m9(n:Nat)(L:av)(o:List Nat)(p:Nat)(ms:List Nat):Prop:=∀q,q∈ms↔q<n∧o.idxOf p<o.idxOf q∧Wk (aL n L) (fh n o (o.idxOf p)) p q
def P5(N:Addr):Sp:=fun vs H Q E=>∃(t a:Addr) (n:Nat) (L:av) (zs:List Int),vs=[.ref t,.ref a]∧c_ H t n L∧g8 n L∧m8 L∧n≤60∧H a=some (.lst (zs.map V.int))∧zs.length<64 ∧
 (¬je zs n→∀H',ak H H'→E (.ref N) none H') ∧
 ∀o:List Nat,zs=o.map iN→o.Perm (List.range n)→∀(H':Hp) (D:Addr) (rs:Nat→Addr) (g:Nat→List Nat),ak H H'→H D=none→(∀p,p<n→H (rs p)=none)→Gz H' D n rs g→(∀p,p<n→jO n o p (g p)∧m9 n L o p (g p))→Q (.ref D) H'
theorem Cb{p q p' q':Nat}(h:cC p q=cC p' q'):(p=p'∧q=q')∨(p=q'∧q=p'):=by
 unfold cC at h;have h1:=cR Prod.fst h;have h2:=cR Prod.snd h;dsimp only at h1 h2
 split at h1 <;> split at h1 <;> split at h2 <;> split at h2 <;> omega
def cx(n:Nat)(L:av)(o:List Nat)(M:av):Prop:=M.Pairwise lexLt∧∀z,z∈M↔∃p q:Nat,p<n∧q<n∧o.idxOf p<o.idxOf q∧Wk (aL n L) (fh n o (o.idxOf p)) p q∧z=cC p q
variable {M N:av}
theorem cx.uniq(h:cx n L o M)(h':cx n L o N):M=N:=BR h.1 h'.1 fun z=>by rw [h.2 z,h'.2 z]
theorem cx.lt{n:Nat}{L:av}{o:List Nat}{M:av}(h:cx n L o M):∀z∈M,0≤z.1∧z.1<z.2∧z.2<(n:Int):=fun z hz=>by
 obtain ⟨p,q,hp,hq,hi,_,rfl⟩:=(h.2 z).mp hz;have ne:p≠q:=fun e=>by subst e;omega
 unfold cC;dsimp only
 split <;> split <;> omega
theorem P6(h:N.Pairwise m7)(nd:N.Nodup)(b:∀q∈N,0≤q.2∧q.2<1000):N.Pairwise lexLt:=by
 have:=List.Pairwise.and h nd;refine xl (fun{x y} hx hy P7=>?_) this;obtain ⟨h1,h2⟩:=P7;have b1:=b x hx;have b2:=b y hy;obtain ⟨x1,x2⟩:=x;obtain ⟨y1,y2⟩:=y;unfold m7 at h1;unfold lexLt;dsimp only at *;by_cases z:x1<y1;·exact .inl z
 ·right
  have e1:x1=y1:=by omega
  subst e1;refine ⟨rfl,?_⟩;by_cases y:x2=y2
  ·subst y
   exact absurd rfl h2
  ·omega
variable {g:Nat→List Nat}
theorem P8(h:o.Perm (List.range n))(n9:n≤30)(k:∀p,p<n→jO n o p (g p)):((List.range n).map fun p=>(g p).length).sum≤435:=by
 have a:=GB (l:=List.range n) (f:=fun p=>(g p).length) (g:=fun p=>n-1-o.idxOf p) fun p hp=>B5 h (k p (bY.mp hp));have b:((List.range n).map fun p=>n-1-o.idxOf p).sum=(o.map fun p=>n-1-o.idxOf p).sum:=((h.map _).symm).sum_nat;have c:(o.map fun p=>n-1-o.idxOf p)=(List.range n).map fun k=>n-1-k:=by
  have nd:=m5 h;refine fH (by simp [rG h]) fun i h1 h2=>?_
  rw [eJ,eJ,lh,yJ nd (by simpa using h1)]
 have d:∀n:Nat,n≤30→((List.range n).map fun k=>n-1-k).sum≤435:=by decide
 rw [c] at b;have:=d n n9;omega
structure yO (H:Hp) (g:Nat→List Nat) (k:Nat) (xs:List V) (M:av):Prop where
 at':aW H xs M
 len:M.length=((List.range k).map fun p=>(g p).length).sum
 mem:∀z,z∈M↔∃p q:Nat,p<k∧q∈g p∧z=cC p q
 nd:M.Nodup
variable {H:Hp} {xs ys:List V}
theorem yO.more{H':Hp}{k:Nat}(h:yO H g k xs M)(s:aW H xs M→aW H' xs M)(hk:k<n)(hg:∀p,p<n→jO n o p (g p))(hy:aW H' ys ((g k).map (cC k))):yO H' g (k+1) (xs++ys) (M++(g k).map (cC k)):=by
 have gk:=hg k hk;refine ⟨(s h.at').app hy,by rw [dP,h.len,aG,qx,fG,wZ];simp,fun z=>?_,?_⟩
 ·rw [dI,h.mem,b_]
  constructor
  ·rintro (⟨p,q,h1,h2,h3⟩ | ⟨q,h1,rfl⟩)
   ·exact ⟨p,q,by omega,h2,h3⟩
   ·exact ⟨k,q,by omega,h1,rfl⟩
  ·rintro ⟨p,q,h1,h2,rfl⟩
   by_cases e:p=k
   ·subst e
    exact .inr ⟨q,h2,rfl⟩
   ·exact .inl ⟨p,q,by omega,h2,rfl⟩
 ·refine jt.mpr ⟨h.nd,?_,fun a ha b hb e=>?_⟩
  ·refine vz (w_ (fun h=>bX h) gk.up) fun q q' hq yb e=>?_
   rcases Cb e with ⟨_,e⟩ | ⟨e1,e2⟩;·exact e
   ·omega
  ·subst e
   obtain ⟨p,q,h1,h2,rfl⟩:=(h.mem a).mp ha;obtain ⟨q',yb,e⟩:=b_.mp hb;rcases Cb e with ⟨e1,e2⟩ | ⟨e1,e2⟩;·omega
   ·have l1:=(hg p (by omega)).la q h2
    have l2:=gk.la q' yb;subst e1;subst e2;omega
def P9(N:Addr):Sp:=fun vs H Q E=>∃(t a:Addr) (n:Nat) (L:av) (zs:List Int),vs=[.ref t,.ref a]∧c_ H t n L∧g8 n L∧m8 L∧n≤30∧H a=some (.lst (zs.map V.int))∧zs.length<64 ∧
 (¬je zs n→∀H',ak H H'→E (.ref N) none H') ∧
 ∀o:List Nat,zs=o.map iN→o.Perm (List.range n)→∀(H':Hp) (t':Addr) (M:av),ak H H'→H t'=none→c_ H' t' n M→cx n L o M→M.length≤435→Q (.ref t') H'
def P_:R2:=fun x y H Q=>∃(a b:Addr) (n:Nat) (L M:av),x=.ref a∧y=.ref b∧c_ H a n L∧c_ H b n M∧Q (.bl (decide (L=M))) H
variable {X:Cx}
theorem Qa{pins:aI}{σ:St}{s:Shared}(I:L2.Inv X pins σ H s){A:Around}(hu:A.units<cLine){us vs:List Value}(k1:aW H xs L)(k2:aW H ys M)(r1:Vals xs us)(r2:Vals ys vs):∀j (z1:j<us.toArray.size) (z2:j<vs.toArray.size),SeqAt.EqAt A s us.toArray[j] vs.toArray[j] (decide (L.getD j (0,0)=M.getD j (0,0))):=fun j z1 z2=>by
 have l1:=r1.length;have l2:=r2.length;have m1:=k1.1;have m2:=k2.1;have rA:j<us.length:=by simpa using z1
 have Gv:j<vs.length:=by simpa using z2
 obtain ⟨p,ep,hp⟩:=k1.2 j xs[j] (L.getD j (0,0)) (by simp) (by simp [b9,show j<L.length by omega])
 obtain ⟨p',kf,kL⟩:=k2.2 j ys[j] (M.getD j (0,0)) (by simp) (by simp [b9,show j<M.length by omega])
 obtain ⟨x',oh,rx⟩:=r1.get (i:=j) (x:=xs[j]) (by simp)
 obtain ⟨y',vJ,ry⟩:=r2.get (i:=j) (x:=ys[j]) (by simp)
 have e1:us.toArray[j]=x':=by simpa using (cp.mp oh).2
 have e2:vs.toArray[j]=y':=by simpa using (cp.mp vJ).2
 rw [e1,e2];rw [ep] at rx;rw [kf] at ry;cases rx;cases ry;exact B7 I hu hp kL
theorem Qb:((List.range (min L.length M.length)).all (fun j=>decide (L.getD j (0,0)=M.getD j (0,0))) && L.length == M.length)=decide (L=M):=by
 by_cases e:L=M
 ·subst e
  simp
 ·rw [bt e,uu]
  intro h;rw [f9,nQ] at h;obtain ⟨h1,h2⟩:=h;have hl:L.length=M.length:=by simpa using h2
  refine e (fH hl fun j g1 g2=>?_);have:=h1 j (bY.mpr (by omega))
  simpa [b9,g1,g2] using this
theorem Qc(hu:X.A.units+64<cLine):cq X (compareOp .Eq) P_:=by
 intro pins s σ H x y v u Q I rx ry h;obtain ⟨a,b,n,L,M,rfl,rfl,⟨la,ua,Qd,GO,k1⟩,⟨lb,ub,Qe,Cc,k2⟩,q⟩:=h;cases rx;cases ry;obtain ⟨us,r1,t1,_⟩:=I.tuple (.of Qd);obtain ⟨vs,r2,t2,_⟩:=I.tuple (.of Qe);obtain ⟨a1,a2,rfl,B8,B9⟩:=vals2 r1;obtain ⟨b1,b2,rfl,B_,Ca⟩:=vals2 r2;cases B9;cases Ca;have inner:SeqAt.EqAt X.A.in1 s (.ref la) (.ref lb) (decide (L=M)):=by
  by_cases pq:la=lb
  ·subst pq
   rw [GO] at Cc;cases Cc;have:L=M:=by
    have m1:=k1.1;have m2:=k2.1;refine fH (by omega) fun j g1 g2=>?_
    obtain ⟨p,ep,hp⟩:=k1.2 j (ua[j]'(by omega)) L[j] (by simp) (by simp [g1])
    obtain ⟨p',kf,kL⟩:=k2.2 j (ua[j]'(by omega)) M[j] (by simp) (by simp [g2])
    rw [ep] at kf;cases kf;rw [hp] at kL;simp only [qD,HO.tup.injEq,List.cons.injEq,V.int.injEq,and_true] at kL;exact Prod.ext kL.1 kL.2
   rw [a7 this];exact SeqAt.EqAt.same _
  ·obtain ⟨us,r1,t1,_⟩:=I.tuple (.of GO)
   obtain ⟨vs,r2,t2,_⟩:=I.tuple (.of Cc);have z:=SeqAt.RcAt.tuples (A:=X.A.in1) t1 t2 (by rw [uF];omega) (Qa I (by rw [uF,uF];omega) k1 k2 r1 r2)
   have e1:us.toArray.size=L.length:=by rw [b8,←r1.length];exact k1.1
   have e2:vs.toArray.size=M.length:=by rw [b8,←r2.length];exact k2.1
   rw [e1,e2,Qb] at z;exact SeqAt.EqAt.of_refs pq z
 refine SeqAt.eq_tupleAt (e:=fun j=>if j=0 then dS (.int (n:Int)) (.int (n:Int)) else decide (L=M)) t1 t2 (by omega) (fun j z1 z2=>?_) ⟨.bl (decide (L=M)),H,I,?_,q⟩
 ·have:j<2:=z1
  match j with
  | 0=>exact uZ B8 B_ rfl rfl
  | 1=>exact inner
 ·show RelV _ _
  have e:((List.range 2).all (fun j=>if j=0 then dS (.int (n:Int)) (.int (n:Int)) else decide (L=M)) && true)=decide (L=M):=by simp [qx,dS]
  exact cR Value.bool e.symm▸rfl
def Qf(N:Addr):Sp:=fun vs H Q E=>∃(t a:Addr) (n:Nat) (L:av) (zs:List Int),vs=[.ref t,.ref a]∧c_ H t n L∧g8 n L∧m8 L∧n≤30∧H a=some (.lst (zs.map V.int))∧zs.length<64 ∧
 (¬je zs n→∀H',ak H H'→E (.ref N) none H') ∧
 ∀o:List Nat,zs=o.map iN→o.Perm (List.range n)→∀(H':Hp) (M:av),ak H H'→cx n L o M→Q (.bl (decide (M=L))) H'
end My
namespace L2
open PySem PySem.Spec PyProof.Rows
section
variable {X:Cx} {a b:Expr} {rest:List Expr} {pos:Pos} {ta tb:TE}
def Qg:V→List V→Hp→VK→Prop:=fun x vs H Q=>∃(l:Addr) (zs:List Int) (j:Nat) (z:Int),x=.ref l∧vs=[.int z]∧H l=some (.lst (zs.map V.int))∧zs[j]?=some z∧(∀m,m<j→zs[m]?≠some z)∧Q .aJ (upd H l (.lst ((zs.map V.int).eraseIdx j)))
theorem Qh:xT X "list.remove" Qg:=by
 intro pins s σ H x vs v us Q I rx rv h;obtain ⟨l,zs,j,z,rfl,rfl,hH,hj,Qi,q⟩:=h;cases rx;obtain ⟨u,rfl,ru⟩:=rv.one;obtain ⟨t,rfl⟩:=ru;obtain ⟨sz,its,n,r,hl,e⟩:=I.mL hH;have XB:j<zs.length:=(cp.mp hj).1;rw [aG] at hl sz;have at':∀m (hm:m<its.toArray.size),∃t',its.toArray[m]=.int (zs.getD m 0) t':=fun m hm=>by
  have d8:m<zs.length:=by simp at hm;omega
  obtain ⟨w,hw,ei⟩:=r.get (i:=m) (x:=.int (zs.getD m 0)) (by rw [bD,b9,bU d8];rfl)
  obtain ⟨t',rfl⟩:=ei;exact ⟨t',by simpa using (cp.mp hw).2⟩
 have zj:zs.getD j 0=z:=by rw [b9,hj];rfl
 refine call_meets F.slot_list_remove ⟨_,e,rfl⟩ F.entry_list_remove (F.args_list_remove_2 _ _) (MeetsSeq.list_remove l its.toArray n (.int z t) (fun v=>numOf v == z) (fun y hy=>?_) j (by rw [b8];omega) ?_ (fun m hm Qj=>?_) (by rw [b8];omega)) ⟨e,?_⟩
 ·obtain ⟨m,hm,rfl⟩:=Array.getElem_of_mem hy
  obtain ⟨t',e'⟩:=at' m hm;rw [e'];exact MeetsSeq.EqGives.int _ _ _ _
 ·obtain ⟨t',e'⟩:=at' j (by rw [b8];omega)
  rw [e',zj];exact beq_self_eq_true z
 ·obtain ⟨t',e'⟩:=at' m hm
  rw [e'];have d8:m<zs.length:=by simp at hm;omega
  have:=Qi m Qj;rw [bU d8] at this;have ne:zs.getD m 0≠z:=fun q=>this (by rw [←q,b9,bU d8];rfl)
  show (zs.getD m 0 == z)=false;simpa using ne
 ·refine ⟨.aJ,_,I.xU (its':=its.eraseIdx j) hH e ?_ (r.eraseIdx j) ?_,rfl,q⟩
  ·show its.toArray.eraseIdxIfInBounds j=(its.eraseIdx j).toArray
   rw [List.eraseIdxIfInBounds_toArray]
  ·have:=Ba (zs.map V.int) j
   rw [aG] at this;omega
end
end L2
namespace My
open PySem L2
theorem GP:∀{zs:List Nat} {j m:Nat},m<zs.idxOf j→zs[m]?≠some j
 | [],_,_,h=>by simp at h
 | z::zs,j,m,h=>by
  by_cases e:z=j
  ·subst e
   simp [uI] at h
  ·rw [List.idxOf_cons,show (z == j)=false by simpa using e] at h
   dsimp only [cond_false] at h;cases m with
   | zero=>simpa using e
   | succ m=>rw [List.getElem?_cons_succ];exact GP (by omega)
theorem GQ{α β:Type}(f:α→β):∀(l:List α) (i:Nat),(l.map f).eraseIdx i=(l.eraseIdx i).map f
 | [],_=>rfl
 | _::_,0=>rfl
 | x::l,i+1=>by show f x::(l.map f).eraseIdx i=f x::(l.eraseIdx i).map f;rw [GQ f l i]
end My
namespace L2
open PySem PySem.Spec PyProof.Rows
section
variable {prog:Program} {w:World} {A:Around} {E:aM} {s:Shared}
end
section
variable {prog:Program} {w:World} {A:Around} {E:aM} {s:Shared}
end
section
variable {X:Cx}
end
section
variable {prog:Program} {w:World} {A:Around} {E:aM} {s:Shared}
end
end L2
namespace My
open PySem L2
end My
namespace L2
open PySem PySem.Spec PyProof.Rows
end L2
namespace My
open PySem L2
end My
namespace L2
open PySem PySem.Spec PyProof.Rows
section
variable {X:Cx}
end
end L2
namespace My
open PySem L2
def p2(g:Nat→Nat→Nat):List Nat→Nat
 | []=>0
 | x::l=>(l.map (g x)).sum+p2 g l
def p3(f:Nat→Nat→Nat→Nat):List Nat→Nat
 | []=>0
 | x::l=>p2 (f x) l+p3 f l
variable {g:Nat→Nat→Nat} {l l':List Nat}
theorem Cd(sy:∀x y,g x y=g y x)(p:l.Perm l'):p2 g l=p2 g l':=by
 induction p with
 | nil=>rfl
 | cons x p ih=>simp only [p2,ih];rw [(p.map (g x)).sum_nat]
 | swap x y l=>simp only [p2,cT,eK];rw [sy x y];omega
 | trans _ _ h1 h2=>exact h1.trans h2
theorem Qk{f:Nat→Nat→Nat→Nat}(s1:∀x y z,f x y z=f y x z)(s2:∀x y z,f x y z=f x z y)(p:l.Perm l'):p3 f l=p3 f l':=by
 induction p with
 | nil=>rfl
 | cons x p ih=>simp only [p3,ih];rw [Cd (s2 x) p]
 | swap x y l=>simp only [p3,p2];rw [show l.map (f y x)=l.map (f x y) from h_ fun z _=>s1 y x z];omega
 | trans _ _ h1 h2=>exact h1.trans h2
variable {f:Nat→Nat}
theorem kO{g:Nat→Nat}(h:∀x∈l,f x=g x):(l.map f).sum=(l.map g).sum:=cR List.sum (h_ h)
theorem vO(h:∀x∈l,f x=0):(l.map f).sum=0:=by
 induction l with
 | nil=>rfl
 | cons x l ih=>rw [cT,eK,h x cE,ih fun y hy=>h y (bP _ hy)]
theorem Ql{g:Nat→Nat}(h:∀x∈l,f x≤g x):(l.map f).sum≤(l.map g).sum:=by
 induction l with
 | nil=>exact ax _
 | cons x l ih=>rw [cT,eK,cT,eK];have:=h x cE;have:=ih fun y hy=>h y (bP _ hy);omega
theorem Qm{g:Nat→Nat}:(l.map fun x=>f x+g x).sum=(l.map f).sum+(l.map g).sum:=by
 induction l with
 | nil=>rfl
 | cons x l ih=>simp only [cT,eK,ih];omega
variable {b c:Nat}
theorem Qn(nd:l.Nodup)(hb:b∈l):(l.map fun y=>if y=b then c else 0).sum=c:=by
 induction l with
 | nil=>cases hb
 | cons x l ih=>
  rw [cT,eK];obtain ⟨n1,n2⟩:=fk.mp nd;rcases bb.mp hb with rfl | h
  ·rw [ae rfl,vO fun y hy=>aa (fun e:y=b=>n1 (e▸hy))]
   omega
  ·rw [aa (fun e:x=b=>n1 (e▸h)),ih n2 h]
   omega
variable {g':Nat→Nat→Nat}
theorem Ce(nd:l.Nodup)(h:∀x∈l,∀y∈l,x≠y→g x y=g' x y):p2 g l=p2 g' l:=by
 induction l with
 | nil=>rfl
 | cons x l ih=>obtain ⟨n1,n2⟩:=fk.mp nd;show (l.map (g x)).sum+p2 g l=(l.map (g' x)).sum+p2 g' l;rw [kO fun y hy=>h x cE y (bP _ hy) fun e=>n1 (e▸hy),ih n2 fun a ha b hb=>h a (bP _ ha) b (bP _ hb)]
theorem yP(h:∀x∈l,∀y∈l,g x y≤g' x y):p2 g l≤p2 g' l:=by
 induction l with
 | nil=>exact ax _
 | cons x l ih=>show (l.map (g x)).sum+p2 g l≤(l.map (g' x)).sum+p2 g' l;exact Nat.add_le_add (Ql fun y hy=>h x cE y (bP _ hy)) (ih fun a ha b hb=>h a (bP _ ha) b (bP _ hb))
theorem GR{f f':Nat→Nat→Nat→Nat}(h:∀x∈l,∀y∈l,∀z∈l,f x y z≤f' x y z):p3 f l≤p3 f' l:=by
 induction l with
 | nil=>exact ax _
 | cons x l ih=>show p2 (f x) l+p3 f l≤p2 (f' x) l+p3 f' l;exact Nat.add_le_add (yP fun y hy z hz=>h x cE y (bP _ hy) z (bP _ hz)) (ih fun a ha b hb c hc=>h a (bP _ ha) b (bP _ hb) c (bP _ hc))
theorem Qo:p2 (fun x y=>g x y+g' x y) l=p2 g l+p2 g' l:=by
 induction l with
 | nil=>rfl
 | cons x l ih=>simp only [p2,ih,Qm];omega
theorem GS(h:∀x∈l,∀y,g x y=0):p2 g l=0:=by
 induction l with
 | nil=>rfl
 | cons x l ih=>show (l.map (g x)).sum+p2 g l=0;rw [vO fun y _=>h x cE y,ih fun a ha=>h a (bP _ ha)]
variable {a:Nat}
theorem Qp(pw:l.Pairwise (· < ·))(ha:a∈l)(hb:b∈l)(ab:a<b):p2 (fun i j=>if i=a∧j=b then c else 0) l=c:=by
 induction l with
 | nil=>cases ha
 | cons x l ih=>
  obtain ⟨n1,n2⟩:=nX.mp pw;have nd:l.Nodup:=n2.imp fun h=>bX h;show (l.map fun j=>if x=a∧j=b then c else 0).sum+p2 _ l=c
  rcases bb.mp ha with rfl | h
  ·have g9:b∈l:=by
    rcases bb.mp hb with rfl | h;·omega
    ·exact h
   rw [show (l.map fun j=>if a=a∧j=b then c else 0).sum=(l.map fun y=>if y=b then c else 0).sum from kO fun y _=>by simp,Qn nd g9,GS fun i hi j=>aa fun e=>by have:=n1 i hi;omega]
   omega
  ·have xa:=n1 a h
   have g9:b∈l:=by
    rcases bb.mp hb with rfl | h;·omega
    ·exact h
   rw [vO fun y _=>aa fun e=>by omega,ih n2 h g9]
   omega
theorem vP(pw:l.Pairwise (· < ·)):p2 g l=(l.map fun y=>(l.map fun z=>if y<z then g y z else 0).sum).sum:=by
 induction l with
 | nil=>rfl
 | cons x l ih=>
  obtain ⟨n1,n2⟩:=nX.mp pw;show (l.map (g x)).sum+p2 g l=_;rw [cT,eK,cT,eK,aa (eG x),ih n2];rw [show (l.map fun z=>if x<z then g x z else 0).sum=(l.map (g x)).sum from kO fun z hz=>ae (n1 z hz)]
  rw [show (l.map fun y=>((x::l).map fun z=>if y<z then g y z else 0).sum).sum=(l.map fun y=>(l.map fun z=>if y<z then g y z else 0).sum).sum from kO fun y hy=>by
   rw [cT,eK,aa (by have:=n1 y hy;omega)]
   omega]
  omega
theorem Qq{f:Nat→Nat→Nat→Nat}(pw:l.Pairwise (· < ·)):p3 f l=p2 (fun x y=>(l.map fun z=>if y<z then f x y z else 0).sum) l:=by
 induction l with
 | nil=>rfl
 | cons x l ih=>
  obtain ⟨n1,n2⟩:=nX.mp pw;have nd:l.Nodup:=n2.imp fun h=>bX h;have one:∀u,∀y∈l,((x::l).map fun z=>if y<z then f u y z else 0).sum=(l.map fun z=>if y<z then f u y z else 0).sum:=fun u y hy=>by
   rw [cT,eK,aa (by have:=n1 y hy;omega)]
   omega
  show p2 (f x) l+p3 f l=(l.map fun y=>((x::l).map fun z=>if y<z then f x y z else 0).sum).sum+p2 (fun u y=>((x::l).map fun z=>if y<z then f u y z else 0).sum) l
  rw [ih n2,vP n2,kO (one x),Ce nd fun u _ y hy _=>one u y hy]
theorem rJ(n:Nat):(List.range n).Pairwise (· < ·):=AH
theorem Cf{n:Nat}{W:Nat→Nat→Nat}:∀{M:av},M.Nodup→(∀z∈M,0≤z.1∧z.1<z.2∧z.2<(n:Int))→(M.map fun z=>W z.1.toNat z.2.toNat).sum=p2 (fun i j=>if ((i:Int),(j:Int))∈M then W i j else 0) (List.range n)
 | [],_,_=>by rw [GS fun i _ j=>aa fun h=>nomatch h];rfl
 | z::M,nd,lt=>by
  obtain ⟨n1,n2⟩:=fk.mp nd;obtain ⟨z0,z1,z2⟩:=lt z cE;rw [cT,eK,Cf n2 fun y hy=>lt y (bP _ hy)];have d:=Qp (c:=W z.1.toNat z.2.toNat) (rJ n) (a:=z.1.toNat) (b:=z.2.toNat) (bY.mpr (by omega)) (bY.mpr (by omega)) (by omega)
  rw [←d,←Qo];refine Ce nW fun i _ j _ _=>?_;by_cases e:i=z.1.toNat∧j=z.2.toNat
  ·have ez:((i:Int),(j:Int))=z:=by obtain ⟨e1,e2⟩:=e;subst e1;subst e2;rw [Int.toNat_of_nonneg z0,Int.toNat_of_nonneg (by omega)]
   obtain ⟨e1,e2⟩:=e;have hm:((i:Int),(j:Int))∈z::M:=ez.symm▸cE;have hn:¬((i:Int),(j:Int))∈M:=fun h=>n1 (ez▸h);rw [ae ⟨e1,e2⟩,ae hm,aa hn,←e1,←e2,uC]
  ·rw [aa e]
   have:((i:Int),(j:Int))≠z:=fun h=>e (by subst h;exact ⟨(dh i).symm,(dh j).symm⟩)
   by_cases h:((i:Int),(j:Int))∈M
   ·rw [ae h,ae (bP _ h)]
    omega
   ·rw [aa h,aa fun h'=>(bb.mp h').elim this h]
def rL(M:av)(a b:Nat):Bool:=decide (((a:Int),(b:Int))∈M) || decide (((b:Int),(a:Int))∈M)
variable {M:av}
theorem dZ:rL M a b=true↔((a:Int),(b:Int))∈M∨((b:Int),(a:Int))∈M:=by unfold rL;rw [Bool.or_eq_true,ie,ie]
theorem jP(M:av)(a b:Nat):rL M a b=rL M b a:=Bool.or_comm ..
def fW(r:Nat→Nat→Bool)(x y:Nat):Nat:=if r x y then 1 else 0
def fX(r:Nat→Nat→Bool)(x y z:Nat):Nat:=if r x y && r x z && r y z then 1 else 0
def jQ(n:Nat)(M:av):Nat:=p3 (fX (rL M)) (List.range n)
def gC(n:Nat)(M:av):Nat:=4*M.length+2*jQ n M+n
variable {n:Nat}
theorem oX(nd:M.Nodup)(lt:∀z∈M,0≤z.1∧z.1<z.2∧z.2<(n:Int)):M.length=p2 (fW (rL M)) (List.range n):=by
 have:=Cf (W:=fun _ _=>1) nd lt;rw [show (M.map fun z=>(fun _ _=>1:Nat→Nat→Nat) z.1.toNat z.2.toNat).sum=M.length from by
  clear this nd lt
  induction M with
  | nil=>rfl
  | cons z M ih=>rw [cT,eK,ih,dE];exact Nat.add_comm 1 _] at this
 rw [this,vP (rJ n),vP (rJ n)];refine kO fun i _=>kO fun j _=>?_;by_cases ij:i<j
 ·rw [ae ij,ae ij]
  unfold fW;by_cases h:((i:Int),(j:Int))∈M;·rw [ae h,ae (dZ.mpr (.inl h))]
  ·rw [aa h,aa fun h'=>by
    rcases dZ.mp h' with h' | h';·exact h h'
    ·have:=lt _ h'
     omega]
 ·rw [aa ij,aa ij]
theorem Qr(nd:M.Nodup)(lt:∀z∈M,0≤z.1∧z.1<z.2∧z.2<(n:Int)) :
  (M.map fun z=>((List.range n).filter fun k=>decide (z.2.toNat<k) && rL M z.1.toNat k && rL M z.2.toNat k).length).sum=jQ n M:=by
 have:=Cf (n:=n) (W:=fun i j=>((List.range n).filter fun k=>decide (j<k) && rL M i k && rL M j k).length) nd lt;rw [this];unfold jQ;rw [Qq (rJ n),vP (rJ n),vP (rJ n)];refine kO fun i _=>kO fun j _=>?_;by_cases ij:i<j
 ·rw [ae ij,ae ij]
  have fl:∀(l:List Nat) (c:Nat→Bool),(l.filter c).length=(l.map fun k=>if c k then 1 else 0).sum:=fun l c=>by
   induction l with
   | nil=>rfl
   | cons x l ih=>
    rw [qE,cT,eK];by_cases h:c x;·rw [ae h,ae h,dE,ih];omega
    ·rw [aa h,aa h,ih];omega
  by_cases h:((i:Int),(j:Int))∈M
  ·rw [ae h,fl]
   refine kO fun k _=>?_;unfold fX;by_cases jk:j<k;·rw [ae jk,a7 jk,dZ.mpr (.inl h)]
   ·rw [aa jk,bt jk]
    rfl
  ·rw [aa h,vO fun k _=>?_]
   by_cases jk:j<k
   ·rw [ae jk]
    unfold fX;rw [aa fun h'=>?_];rw [f9,f9] at h';rcases dZ.mp h'.1.1 with h' | h';·exact h h'
    ·have:=lt _ h'
     omega
   ·rw [aa jk]
 ·rw [aa ij,aa ij]
theorem Qs(M:av)(x y z:Nat):fX (rL M) x y z=fX (rL M) y x z:=by unfold fX;rw [jP M y x];cases rL M x y <;> cases rL M x z <;> cases rL M y z <;> rfl
theorem Qt(M:av)(x y z:Nat):fX (rL M) x y z=fX (rL M) x z y:=by unfold fX;rw [jP M z y];cases rL M x y <;> cases rL M x z <;> cases rL M y z <;> rfl
theorem GU(a:Nat→Bool):∀l:List Nat,2*p2 (fun y z=>if a y && a z then 1 else 0) l+(l.map fun y=>if a y then 1 else 0).sum=(l.map fun y=>if a y then 1 else 0).sum*(l.map fun y=>if a y then 1 else 0).sum
 | []=>rfl
 | x::l=>by
  have ih:=GU a l;simp only [p2,cT,eK];by_cases h:a x
  ·simp only [h,Bool.true_and,if_true]
   simp only [Nat.add_mul,Nat.mul_add];omega
  ·simp only [h,uh,Bool.false_eq_true,if_false]
   rw [vO fun _ _=>rfl,dQ,dQ];exact ih
def Good(r:Nat→Nat→Bool)(m:Nat→Nat):List Nat→Prop
 | []=>True
 | x::l=>m x=(l.map fun y=>if r x y then 1 else 0).sum∧(∀y∈l,∀z∈l,y≠z→r x y=true→r x z=true→r y z=true)∧Good r m l
theorem GV{r:Nat→Nat→Bool}{m:Nat→Nat}:∀{l:List Nat},l.Nodup→Good r m l→(l.map fun x=>m x*m x+3*m x+1).sum=4*p2 (fW r) l+2*p3 (fX r) l+l.length
 | [],_,_=>rfl
 | x::l,nd,⟨h1,h2,h3⟩=>by
  obtain ⟨n1,n2⟩:=fk.mp nd;have ih:=GV n2 h3;have e:p2 (fX r x) l=p2 (fun y z=>if r x y && r x z then 1 else 0) l:=Ce n2 fun y hy z hz yz=>by
   unfold fX;by_cases a:r x y <;> by_cases b:r x z;·simp [a,b,h2 y hy z hz yz a b]
   ·simp [a,b]
   ·simp [a,b]
   ·simp [a,b]
  have e2:(l.map (fW r x)).sum=m x:=h1.symm;have pk:=GU (r x) l;rw [←h1] at pk;show m x*m x+3*m x+1+(l.map fun x=>m x*m x+3*m x+1).sum=4*((l.map (fW r x)).sum+p2 (fW r) l)+2*(p2 (fX r x) l+p3 (fX r) l)+(l.length+1);rw [ih,e2,e];omega
variable {L:av} {o:List Nat}
theorem Qu(f:cx n L o M)(h:aL n M a b){k:Nat}(hk:o.idxOf a≤k∨o.idxOf b≤k):Wk (aL n L) (fh n o k) a b:=by
 have go:∀{a b:Nat},((a:Int),(b:Int))∈M→(o.idxOf a≤k∨o.idxOf b≤k)→Wk (aL n L) (fh n o k) a b:=fun{a b} hm hk=>by
  obtain ⟨p,q,hp,hq,pq,w,e⟩:=(f.2 _).mp hm;have e:cC a b=cC p q:=by rw [←e];have:=f.lt _ hm;unfold cC;rw [aa (by omega),ae (by omega)]
  rcases Cb e with ⟨rfl,rfl⟩ | ⟨rfl,rfl⟩;·exact w.mono fun x hx=>⟨hx.1,by have:=hx.2;omega⟩
  ·exact (w.symm eS).mono fun x hx=>⟨hx.1,by have:=hx.2;omega⟩
 rcases h.2.2 with h | h;·exact go h hk
 ·exact (go h hk.symm).symm eS
theorem fY(f:cx n L o M)(ha:a<n)(hb:b<n)(ab:o.idxOf a<o.idxOf b):rL M a b=true↔Wk (aL n L) (fh n o (o.idxOf a)) a b:=by
 constructor
 ·intro h
  exact Qu f ⟨ha,hb,dZ.mp h⟩ (.inl (ax _))
 ·intro w
  have hm:=(f.2 _).mpr ⟨a,b,ha,hb,ab,w,rfl⟩;rw [dZ];unfold cC at hm;by_cases h:(b:Int)<(a:Int)
  ·rw [ae h,aa (by omega)] at hm
   exact .inr hm
  ·by_cases h':(b:Int)>(a:Int)
   ·rw [aa h,ae h'] at hm
    exact .inl hm
   ·have e:a=b:=by omega
    subst e;omega
theorem Qv(l:List Nat)(c:Nat→Bool):(l.map fun k=>if c k then 1 else 0).sum=(l.filter c).length:=by
 induction l with
 | nil=>rfl
 | cons x l ih=>
  rw [qE,cT,eK];by_cases h:c x;·rw [ae h,ae h,dE,ih];omega
  ·rw [aa h,aa h,ih];omega
theorem Cg{n:Nat}{L M:av}{o:List Nat}(ho:o.Perm (List.range n))(f:cx n L o M){g:Nat→List Nat}(hg:∀p,p<n→jO n o p (g p)∧m9 n L o p (g p)):∀(l pre:List Nat),o=pre++l→Good (rL M) (fun x=>(g x).length) l
 | [],_,_=>trivial
 | x::l,pre,e=>by
  have nd:=m5 ho;have vQ:=nd;rw [e,jt] at vQ;obtain ⟨np,nx,dj⟩:=vQ;obtain ⟨Qw,nl⟩:=fk.mp nx;have hx:x<n:=(fE ho).mp (by rw [e];simp)
  have ix:o.idxOf x=pre.length:=by rw [e,lp,aa fun h=>dj x h x cE rfl,uI,dQ]
  have il:∀y,y∈l↔y<n∧o.idxOf x<o.idxOf y:=fun y=>by
   constructor
   ·intro h
    refine ⟨(fE ho).mp (by rw [e];simp [h]),?_⟩
    have yx:y≠x:=fun q=>Qw (q▸h);rw [ix,e,lp,aa fun h'=>dj y h' y (bP _ h) rfl,List.idxOf_cons,show (x == y)=false from by simpa using yx.symm]
    simp only [cond_false];omega
   ·rintro ⟨h,h'⟩
    have hm:=(fE ho).mpr h;rw [e,dI,bb] at hm;rcases hm with hm | rfl | hm
    ·rw [ix,e,lp,ae hm] at h'
     have:=mx hm;omega
    ·omega
    ·exact hm
  refine ⟨?_,?_,Cg ho f hg l (pre++[x]) (by rw [e];simp)⟩
  ·rw [Qv]
   obtain ⟨gk,gw⟩:=hg x hx;refine ((xm (gk.up.imp fun h=>bX h) (nl.filter _)).mpr fun q=>?_).length_eq;rw [gw q,d6,il q];constructor
   ·rintro ⟨h1,h2,h3⟩
    exact ⟨⟨h1,h2⟩,(fY f hx h1 h2).mpr h3⟩
   ·rintro ⟨⟨h1,h2⟩,h3⟩
    exact ⟨h1,h2,(fY f hx h1 h2).mp h3⟩
  ·intro y hy z hz yz ry rz
   obtain ⟨y1,y2⟩:=(il y).mp hy;obtain ⟨z1,z2⟩:=(il z).mp hz;have wy:=(fY f hx y1 y2).mp ry;have wz:=(fY f hx z1 z2).mp rz;have ne:=gB ho y1 z1 yz;have both:∀k,o.idxOf x<k→Wk (aL n L) (fh n o k) y z:=fun k hk=>by
    have m:∀t,fh n o (o.idxOf x) t→fh n o k t:=fun t ht=>⟨ht.1,by have:=ht.2;omega⟩
    exact ((wy.symm eS).mono m).trans ⟨hx,hk⟩ (wz.mono m)
   by_cases h:o.idxOf y<o.idxOf z;·exact (fY f y1 z1 h).mpr (both _ y2)
   ·rw [jP]
    exact (fY f z1 y1 (by omega)).mpr ((both _ z2).symm eS)
theorem Qx(ho:o.Perm (List.range n))(f:cx n L o M){g:Nat→List Nat}(hg:∀p,p<n→jO n o p (g p)∧m9 n L o p (g p)) :
  ((List.range n).map fun x=>(g x).length*(g x).length+3*(g x).length+1).sum=gC n M:=by
 have nd:M.Nodup:=f.1.imp fun h e=>by subst e;unfold lexLt at h;omega
 have gs:=GV (m5 ho) (Cg ho f hg o [] rfl);rw [←(ho.map fun x=>(g x).length*(g x).length+3*(g x).length+1).sum_nat,gs];unfold gC jQ;rw [oX nd f.lt,Cd (fun x y=>by unfold fW;rw [jP]) ho,Qk (Qs M) (Qt M) ho,ho.length_eq,eW]
theorem Qy(ho:o.Perm (List.range n))(f:cx n L o M)(nl:L.Nodup)(lt:∀z∈L,0≤z.1∧z.1<z.2∧z.2<(n:Int)):gC n L≤gC n M:=by
 have nd:M.Nodup:=f.1.imp fun h e=>by subst e;unfold lexLt at h;omega
 have sub:∀a b:Nat,rL L a b=true→rL M a b=true:=by
  have go:∀a b:Nat,((a:Int),(b:Int))∈L→rL M a b=true:=fun a b h=>by
   have:=lt _ h;have ha:a<n:=by omega
   have hb:b<n:=by omega
   have ne:=gB ho ha hb (by omega)
   by_cases ab:o.idxOf a<o.idxOf b;·exact (fY f ha hb ab).mpr (.one ⟨ha,hb,.inl h⟩)
   ·rw [jP]
    exact (fY f hb ha (by omega)).mpr (.one ⟨hb,ha,.inr h⟩)
  intro a b h;rcases dZ.mp h with h | h;·exact go a b h
  ·rw [jP]
   exact go b a h
 have h1:p2 (fW (rL L)) (List.range n)≤p2 (fW (rL M)) (List.range n):=yP fun x _ y _=>by
  unfold fW;by_cases h:rL L x y
  ·rw [ae h,ae (sub x y h)]
   exact ax _
  ·rw [aa h]
   exact b7 _
 have h2:jQ n L≤jQ n M:=GR fun x _ y _ z _=>by
  unfold fX;by_cases h:(rL L x y && rL L x z && rL L y z)=true
  ·rw [ae h]
   rw [f9,f9] at h;rw [sub x y h.1.1,sub x z h.1.2,sub y z h.2];exact ax _
  ·rw [aa h]
   exact b7 _
 unfold gC;rw [oX nl lt,oX nd f.lt];omega
def Qz(N:Addr):Sp:=fun vs H Q E=>∃(t a:Addr) (n:Nat) (L:av) (zs:List Int),vs=[.ref t,.ref a]∧c_ H t n L∧g8 n L∧m8 L∧n≤30∧H a=some (.lst (zs.map V.int))∧zs.length<64 ∧
 (¬je zs n→∀H',ak H H'→E (.ref N) none H') ∧
 ∀o:List Nat,zs=o.map iN→o.Perm (List.range n)→∀(H':Hp),ak H H'→∀d:Nat,(∀M,cx n L o M→d=gC n M)→Q (.int (d:Int)) H'
def QA:Sp:=fun vs H Q _=>∃(t:Addr) (n:Nat) (L:av),vs=[.ref t]∧c_ H t n L∧L.Nodup∧(∀z∈L,0≤z.1∧z.1<z.2∧z.2<(n:Int))∧n≤30∧L.length≤500 ∧
 ∀H':Hp,ak H H'→Q (.int (jQ n L:Int)) H'
end My
namespace L2
open PySem
section
variable {prog:Program} {w:World} {A:Around} {E:aM} {s:Shared}
end
end L2
namespace My
open PySem L2
end My
namespace L2
open PySem PySem.Spec PyProof.Rows My
end L2
namespace My
open PySem L2
def yQ(n:Nat)(L:av)(z:Int×Int):Nat:=((List.range n).filter fun k=>decide (z.2.toNat<k) && rL L z.1.toNat k && rL L z.2.toNat k).length
def GW(j:Nat)(m:List Nat):V→Bool
 | .int z=>decide ((j:Int)<z) && decide (z.toNat∈m)
 | _=>false
variable {n:Nat} {L:av}
theorem QB{g:Nat→List Nat}(nb:jN n L g)(gn:∀a,(g a).Nodup){i j:Nat}(hi:i<n)(hj:j<n)(gl:∀k∈g i,k<n):yQ n L ((i:Int),(j:Int))=(((g i).map fun k:Nat=>V.int (k:Int)).filter (GW j (g j))).length:=by
 rw [List.filter_map,aG];unfold yQ;refine ((xm (nW.filter _) ((gn i).filter _)).mpr fun k=>?_).length_eq;rw [d6,d6,bY];show (k<n∧(decide (((j:Nat):Int).toNat<k) && rL L ((i:Nat):Int).toNat k && rL L ((j:Nat):Int).toNat k)=true)↔k∈g i∧(decide ((j:Int)<(k:Int)) && decide (((k:Nat):Int).toNat∈g j))=true;rw [dh,dh,dh,f9,f9,f9,ie,ie,ie,dZ,dZ,nb i k hi,nb j k hj];constructor
 ·rintro ⟨h1,⟨h2,h3⟩,h4⟩
  exact ⟨h3,by omega,h4⟩
 ·rintro ⟨h1,h2,h3⟩
  exact ⟨gl k ((nb i k hi).mpr h1),⟨by omega,h1⟩,h3⟩
section
variable {P a d:Addr} {H Hc:Hp} {n m:Nat} {L:av}
end
variable {M:av} {o:List Nat}
theorem GX(f:cx n L o M):M.Nodup:=f.1.imp fun h e=>by subst e;unfold lexLt at h;omega
theorem GY(f:cx n L o M)(jR:n≤30):M.length≤435:=by
 rw [oX (GX f) f.lt];refine cj (yP (g':=fun _ _=>1) fun x _ y _=>?_) ?_
 ·unfold fW
  split <;> decide
 ·have:∀m:Fin 31,p2 (fun _ _=>1) (List.range m)≤435:=by decide +kernel
  exact this ⟨n,by omega⟩
section
variable {n:Nat} {E:Nat→Nat→Prop} {pos rk:Nat→Nat}
def oY(n:Nat)(E:Nat→Nat→Prop)(pos:Nat→Nat):Prop:=∀a b c,a<n→b<n→c<n→pos a<pos b→pos a<pos c→b≠c→E a b→E a c→E b c
structure Walk (n:Nat) (E:Nat→Nat→Prop) (p:Nat→Nat) (k:Nat):Prop where
 lt:∀i,i≤k→p i<n
 ne:∀i j,i<j→j≤k→p i≠p j
 ed:∀i j,i<j→j≤k→(E (p i) (p j)↔j=i+1)
theorem Walk.back{p:Nat→Nat}{k:Nat}(sy:∀a b,E a b→E b a)(h:Walk n E p k):Walk n E (fun i=>p (k-i)) k where
 lt:=fun i hi=>h.lt _ (by omega)
 ne:=fun i j ij jk=>(h.ne (k-j) (k-i) (by omega) (by omega)).symm
 ed:=fun i j ij jk=>by
  constructor
  ·intro e
   have:=(h.ed (k-j) (k-i) (by omega) (by omega)).mp (sy _ _ e)
   omega
  ·intro e
   exact sy _ _ ((h.ed (k-j) (k-i) (by omega) (by omega)).mpr (by omega))
theorem QC(cl:oY n E rk)(inj:∀a b,a<n→b<n→rk a=rk b→a=b)(sy:∀a b,E a b→E b a){c:Nat→Nat}{m:Nat}(m4:4≤m)(lt:∀i,i<m→c i<n)(ne:∀i j,i<j→j<m→c i≠c j)
  (ed:∀i j,i<j→j<m→(E (c i) (c j)↔j=i+1∨(i=0∧j=m-1))):False:=by
 have least:∀k,k<m→∃i,i≤k∧∀j,j≤k→rk (c i)≤rk (c j):=fun k=>by
  induction k with
  | zero=>exact fun _=>⟨0,ax _,fun j hj=>by rw [show j=0 by omega];exact ax _⟩
  | succ k ih=>
   intro hk;obtain ⟨i,hi,h⟩:=ih (by omega)
   by_cases q:rk (c i)≤rk (c (k+1))
   ·refine ⟨i,by omega,fun j hj=>?_⟩
    by_cases e:j=k+1;·rw [e];exact q
    ·exact h j (by omega)
   ·refine ⟨k+1,ax _,fun j hj=>?_⟩
    by_cases e:j=k+1;·rw [e];exact ax _
    ·have:=h j (by omega)
     omega
 obtain ⟨i,hi,h⟩:=least (m-1) (by omega)
 have less:∀j,j<m→j≠i→rk (c i)<rk (c j):=fun j hj ji=>by
  have h1:=h j (by omega)
  by_cases q:rk (c i)=rk (c j)
  ·have e:=inj _ _ (lt i (by omega)) (lt j hj) q
   rcases Nat.lt_or_gt_of_ne ji with z | z;·exact absurd e.symm (ne j i z (by omega))
   ·exact absurd e (ne i j z hj)
  ·omega
 have use:∀a b,a<b→b<m→a≠i→b≠i→E (c i) (c a)→E (c i) (c b)→b=a+1∨(a=0∧b=m-1):=fun a b ab bm ai bi e1 e2=>(ed a b ab bm).mp (cl (c i) (c a) (c b) (lt _ (by omega)) (lt _ (by omega)) (lt _ bm) (less a (by omega) ai) (less b bm bi) (ne a b ab bm) e1 e2)
 by_cases z:i=0
 ·subst z
  have:=use 1 (m-1) (by omega) (by omega) (by omega) (by omega) ((ed 0 1 (by omega) (by omega)).mpr (.inl rfl)) ((ed 0 (m-1) (by omega) (by omega)).mpr (.inr ⟨rfl,rfl⟩))
  omega
 ·by_cases z':i=m-1
  ·have e0:E (c i) (c 0):=sy _ _ ((ed 0 i (by omega) (by omega)).mpr (.inr ⟨rfl,z'⟩))
   have e1:E (c i) (c (m-2)):=sy _ _ ((ed (m-2) i (by omega) (by omega)).mpr (.inl (by omega)))
   have:=use 0 (m-2) (by omega) (by omega) (by omega) (by omega) e0 e1
   omega
  ·have e0:E (c i) (c (i-1)):=sy _ _ ((ed (i-1) i (by omega) (by omega)).mpr (.inl (by omega)))
   have e1:E (c i) (c (i+1)):=(ed i (i+1) (by omega) (by omega)).mpr (.inl rfl)
   have:=use (i-1) (i+1) (by omega) (by omega) (by omega) (by omega) e0 e1
   omega
def Ci(n:Nat)(E:Nat→Nat→Prop)(pos:Nat→Nat):Prop:=∀a b c,a<n→b<n→c<n→pos a<pos b→pos b<pos c→E a c→¬E b c→∃d,d<n∧pos b<pos d∧E b d∧¬E a d
theorem GZ{q:Nat→Prop}(h0:q 0):∀k,∃j,j≤k∧q j∧∀i,j<i→i≤k→¬q i
 | 0=>⟨0,ax _,h0,fun i h h'=>by omega⟩
 | k+1=>by
  obtain ⟨j,hj,hq,hn⟩:=GZ h0 k;by_cases z:q (k+1);·exact ⟨k+1,ax _,z,fun i h h'=>by omega⟩
  ·refine ⟨j,by omega,hq,fun i h h'=>?_⟩
   by_cases e:i=k+1;·rw [e];exact z
   ·exact hn i h (by omega)
theorem Cj(cl:oY n E rk)(inj:∀a b,a<n→b<n→rk a=rk b→a=b)(rK:∀a b,a<n→b<n→pos a=pos b→a=b)(sy:∀a b,E a b→E b a)(ir:∀a,¬E a a)(mo:Ci n E pos)(pn:∀a,a<n→pos a<n) :
  ∀(d:Nat) (p:Nat→Nat) (k:Nat),n-pos (p 0)≤d→2≤k→Walk n E p k→pos (p 0)<pos (p k)→(∀i,0<i→i<k→pos (p i)<pos (p 0))→False
 | 0,p,k,hd,k2,W,h0,hi=>by
  have:=pn _ (W.lt 0 (by omega))
  omega
 | d+1,p,k,hd,k2,W,h0,hi=>by
  obtain ⟨x,xn,xp,ex,nx⟩:=mo (p (k-1)) (p 0) (p k) (W.lt _ (by omega)) (W.lt _ (by omega)) (W.lt _ (ax _)) (hi _ (by omega) (by omega)) h0 ((W.ed _ _ (by omega) (ax _)).mpr (by omega)) (fun e=>by have:=(W.ed 0 k (by omega) (ax _)).mp e;omega)
  have G0:∀i,i<k→pos (p i)≤pos (p 0):=fun i ik=>by
   by_cases z:i=0;·rw [z];exact ax _
   ·exact kZ (hi i (by omega) ik)
  have Ck:∀i,i≤k→x≠p i:=fun i ik e=>by
   by_cases z:i=k
   ·subst z
    rw [e] at ex;have:=(W.ed 0 i (by omega) (ax _)).mp ex
    omega
   ·have:=G0 i (by omega)
    rw [e] at xp;omega
  obtain ⟨j,hj,ej,nj⟩:=GZ (q:=fun j=>E x (p j)) (sy _ _ ex) (k-1);have jk:j≤k-2:=by
   by_cases z:j=k-1
   ·rw [z] at ej
    exact absurd (sy _ _ ej) nx
   ·omega
  by_cases xk:E x (p k)
  ·
   refine QC cl inj sy (c:=fun i=>if i≤k-j then p (j+i) else x) (m:=k-j+2) (by omega) (fun i im=>?_) (fun i l il lm=>?_) (fun i l il lm=>?_)
   ·show (if i≤k-j then p (j+i) else x)<n
    split
    ·exact W.lt _ (by omega)
    ·exact xn
   ·show (if i≤k-j then p (j+i) else x)≠(if l≤k-j then p (j+l) else x)
    rw [ae (by omega)]
    split
    ·exact W.ne _ _ (by omega) (by omega)
    ·exact (Ck _ (by omega)).symm
   ·show E (if i≤k-j then p (j+i) else x) (if l≤k-j then p (j+l) else x)↔_
    rw [ae (show i≤k-j by omega)]
    by_cases z:l≤k-j
    ·rw [ae z,W.ed _ _ (by omega) (by omega)]
     omega
    ·rw [aa z]
     constructor
     ·intro e
      by_cases i0:i=0;·exact .inr ⟨i0,by omega⟩
      ·by_cases i1:i=k-j
       ·exact .inl (by omega)
       ·exact absurd (sy _ _ e) (nj (j+i) (by omega) (by omega))
     ·rintro (e | ⟨e,_⟩)
      ·rw [show j+i=k by omega]
       exact sy _ _ xk
      ·rw [e]
       exact sy _ _ ej
  ·
   have W':Walk n E (fun i=>if i=0 then x else p (j+i-1)) (k-j+1):=by
    refine ⟨fun i hi=>?_,fun i l il lk=>?_,fun i l il lk=>?_⟩
    ·show (if i=0 then x else p (j+i-1))<n
     split
     ·exact xn
     ·exact W.lt _ (by omega)
    ·show (if i=0 then x else p (j+i-1))≠(if l=0 then x else p (j+l-1))
     rw [aa (show ¬l=0 by omega)]
     split
     ·exact Ck _ (by omega)
     ·exact W.ne _ _ (by omega) (by omega)
    ·show E (if i=0 then x else p (j+i-1)) (if l=0 then x else p (j+l-1))↔_
     rw [aa (show ¬l=0 by omega)]
     by_cases z:i=0
     ·rw [ae z]
      constructor
      ·intro e
       by_cases l1:l=1;·omega
       ·by_cases QD:j+l-1=k
        ·rw [QD] at e
         exact absurd e xk
        ·exact absurd e (nj _ (by omega) (by omega))
      ·intro e
       rw [show j+l-1=j by omega]
       exact ej
     ·rw [aa z,W.ed _ _ (by omega) (by omega)]
      omega
   have e0:(fun i=>if i=0 then x else p (j+i-1)) 0=x:=rfl
   have ek:(fun i=>if i=0 then x else p (j+i-1)) (k-j+1)=p k:=by
    show (if k-j+1=0 then x else p (j+(k-j+1)-1))=p k
    rw [aa (by omega)]
    congr 1
    omega
   have inner:∀i,0<i→i<k-j+1→pos ((fun i=>if i=0 then x else p (j+i-1)) i)≤pos (p 0):=fun i i0 ik=>by
    show pos (if i=0 then x else p (j+i-1))≤_
    rw [aa (by omega)]
    exact G0 _ (by omega)
   have px:=pn x xn;have pk:=pn _ (W.lt k (ax _));generalize (fun i=>if i=0 then x else p (j+i-1))=q at W' e0 ek inner
   by_cases lt:pos x<pos (p k)
   ·refine Cj cl inj rK sy ir mo pn d q (k-j+1) (by rw [e0];omega) (by omega) W' (by rw [e0,ek];exact lt) (fun i i0 ik=>?_)
    have:=inner i i0 ik;rw [e0];omega
   ·have ne:pos x≠pos (p k):=fun e=>Ck k (ax _) (rK _ _ xn (W.lt _ (ax _)) e)
    have b0:(fun i=>q (k-j+1-i)) 0=p k:=ek;have bk:(fun i=>q (k-j+1-i)) (k-j+1)=x:=by show q (k-j+1-(k-j+1))=x;rw [uv];exact e0
    have Wb:=W'.back sy;have G1:∀i,0<i→i<k-j+1→pos ((fun i=>q (k-j+1-i)) i)≤pos (p 0):=fun i i0 ik=>inner (k-j+1-i) (by omega) (by omega)
    generalize (fun i=>q (k-j+1-i))=q' at Wb b0 bk G1;refine Cj cl inj rK sy ir mo pn d q' (k-j+1) (by rw [b0];omega) (by omega) Wb (by rw [b0,bk];omega) (fun i i0 ik=>?_)
    have:=G1 i i0 ik;rw [b0];omega
theorem QE(cl:oY n E rk)(inj:∀a b,a<n→b<n→rk a=rk b→a=b)(rK:∀a b,a<n→b<n→pos a=pos b→a=b)(sy:∀a b,E a b→E b a)(ir:∀a,¬E a a)(mo:Ci n E pos)(pn:∀a,a<n→pos a<n):oY n E pos:=by
 have go:∀a b c,a<n→b<n→c<n→pos a<pos b→pos b<pos c→E a b→E a c→E b c:=fun a b c an bn cn ab bc e1 e2=>by
  refine f_ fun no=>?_;refine Cj cl inj rK sy ir mo pn _ (fun i=>if i=0 then b else if i=1 then a else c) 2 (ax _) (ax _) ⟨fun i hi=>?_,fun i j ij j2=>?_,fun i j ij j2=>?_⟩ bc (fun i i0 i2=>?_)
  ·show (if i=0 then b else if i=1 then a else c)<n
   split
   ·exact bn
   ·split
    ·exact an
    ·exact cn
  ·show (if i=0 then b else if i=1 then a else c)≠(if j=0 then b else if j=1 then a else c)
   rw [aa (show ¬j=0 by omega)]
   by_cases z:i=0
   ·rw [ae z]
    split
    ·exact fun e=>by rw [e] at ab;omega
    ·exact fun e=>by rw [e] at bc;omega
   ·rw [aa z,ae (show i=1 by omega),aa (show ¬j=1 by omega)]
    exact fun e=>by rw [e] at ab;omega
  ·show E (if i=0 then b else if i=1 then a else c) (if j=0 then b else if j=1 then a else c)↔_
   rw [aa (show ¬j=0 by omega)]
   by_cases z:i=0
   ·rw [ae z]
    by_cases y:j=1
    ·rw [ae y]
     exact ⟨fun _=>by omega,fun _=>sy _ _ e1⟩
    ·rw [aa y]
     exact ⟨fun e=>absurd e no,fun e=>by omega⟩
   ·rw [aa z,ae (show i=1 by omega),aa (show ¬j=1 by omega)]
    exact ⟨fun _=>by omega,fun _=>e2⟩
  ·show pos (if i=0 then b else if i=1 then a else c)<pos b
   rw [aa (by omega),ae (by omega)]
   exact ab
 intro a b c an bn cn ab ac bc e1 e2;by_cases h:pos b<pos c;·exact go a b c an bn cn ab h e1 e2
 ·have:pos b≠pos c:=fun e=>bc (rK _ _ bn cn e)
  exact sy _ _ (go a c b an cn bn ac (by omega) e2 e1)
end
open PySem PySem.W PyProof.Rows Tm
section
variable {prog:Program} {w:World} {A:Around} {E:aM} {s:Shared}
end
open PySem PySem.W PyProof.Rows
section
variable {prog:Program} {w:World} {A:Around} {E:aM} {s:Shared}
end
end My
namespace L2
open PySem PySem.W PyProof.Rows My
end L2
namespace My
open PySem PySem.W PyProof.Rows
section
variable {prog:Program} {w:World} {A:Around} {E:aM} {s:Shared} {R:Result→Shared→Prop}
end
open PySem PySem.W PyProof.Rows L2
section
variable {prog:Program} {w:World} {A:Around} {s:Shared}
end
end My
namespace L2
open PySem PySem.W PyProof.Rows My
end L2
namespace My
open PySem L2
end My
namespace L2
open PySem PySem.Spec PyProof.Rows My
theorem QF{K:aB}{a:Addr}{us:List V}{Z:av}{H1:Hp}(h:H1 a=some (.lst us))(hZ:aW H1 us Z):vL (lC K a) Z H1:=by
 have js:lI (lC K a) us H1:=oF (.of h);refine ⟨fun i Hc s hi=>js.go i Hc s (by rw [hZ.1];exact hi),fun i Hc v H' s y=>?_,fun i Hc s hi=>js.stop i Hc s (by rw [hZ.1];exact hi)⟩
 obtain ⟨rfl,hx⟩:=js.dw i Hc v H' s y;refine ⟨ak.refl _,fun z hz=>?_⟩;have hi:i<us.length:=by rw [hZ.1];exact (cp.mp hz).1
 obtain ⟨b,e,g⟩:=hZ.2 i v z (hx hi) hz;exact ⟨b,e,s _ _ g⟩
end L2
namespace My
open PySem L2
end My
namespace L2
open PySem
section
variable {prog:Program} {w:World} {A:Around} {E:aM} {s:Shared}
end
open PySem PySem.Spec PyProof.Rows My
end L2
namespace My
open PySem L2
theorem yR{n:Nat}{L:av}{o:List Nat}(ho:o.Perm (List.range n))(cl:oY n (aL n L) (fun a=>o.idxOf a)):∀(k a b:Nat),a<n→b<n→k≤o.idxOf a→k≤o.idxOf b→a≠b→Wk (aL n L) (fh n o k) a b→aL n L a b
 | 0,a,b,_,_,_,_,_,w=>by
  cases w with
  | one ab=>exact ab
  | more _ t _=>exact absurd t.2 (mf _)
 | k+1,a,b,an,bn,ka,kb,ne,w=>by
  have lo:=rG ho;have ia:o.idxOf a<o.length:=mx ((fE ho).mpr an);have hk:k<o.length:=by omega
  have pn:o[k]<n:=(fE ho).mp (bJ hk);have ip:o.idxOf o[k]=k:=yJ (m5 ho) hk;generalize o[k]=p at pn ip;have th:∀x,fh n o (k+1) x↔fh n o k x∨x=p:=fun x=>by
   unfold fh;constructor
   ·rintro ⟨h1,h2⟩
    by_cases e:o.idxOf x=k
    ·right
     refine f_ fun z=>?_;exact absurd (e.trans ip.symm) (gB ho h1 pn z)
    ·exact .inl ⟨h1,by omega⟩
   ·rintro (⟨h1,h2⟩ | rfl)
    ·exact ⟨h1,by omega⟩
    ·exact ⟨pn,by omega⟩
  have ap:a≠p:=fun e=>by subst e;omega
  have bp:b≠p:=fun e=>by subst e;omega
  rcases (Wk.step th).mp w with h | ⟨h1,h2⟩;·exact yR ho cl k a b an bn (by omega) (by omega) ne h
  ·have e1:=yR ho cl k a p an pn (by omega) (by omega) ap h1
   have e2:=yR ho cl k p b pn bn (by omega) (by omega) bp.symm h2
   exact cl p a b pn an bn (show o.idxOf p<o.idxOf a by omega) (show o.idxOf p<o.idxOf b by omega) ne (eS _ _ e1) e2
variable {n:Nat} {L:av} {o:List Nat}
theorem G2(ho:o.Perm (List.range n))(pw:L.Pairwise lexLt)(lt:∀z∈L,0≤z.1∧z.1<z.2∧z.2<(n:Int))(cl:oY n (aL n L) (fun a=>o.idxOf a)):cx n L o L:=by
 refine ⟨pw,fun z=>⟨fun hz=>?_,?_⟩⟩
 ·obtain ⟨z0,z1,z2⟩:=lt z hz
  obtain ⟨i,j⟩:=z;dsimp only at z0 z1 z2;obtain ⟨a,rfl⟩:=ft z0;obtain ⟨b,rfl⟩:=ft (show 0≤j by omega)
  have an:a<n:=by omega
  have bn:b<n:=by omega
  have ne:=gB ho an bn (by omega)
  by_cases h:o.idxOf a<o.idxOf b
  ·refine ⟨a,b,an,bn,h,.one ⟨an,bn,.inl hz⟩,?_⟩
   unfold cC;rw [aa (by omega),ae (by omega)]
  ·refine ⟨b,a,bn,an,by omega,.one ⟨bn,an,.inr hz⟩,?_⟩
   unfold cC;rw [ae (by omega),aa (by omega)]
 ·rintro ⟨p,q,pn,qn,pq,w,rfl⟩
  have ne:p≠q:=fun e=>by subst e;omega
  have h:=yR ho cl (o.idxOf p) p q pn qn (ax _) (kZ pq) ne w;unfold cC;rcases h.2.2 with e | e
  ·have:=lt _ e
   rw [aa (by omega),ae (by omega)]
   exact e
  ·have:=lt _ e
   rw [ae (by omega),aa (by omega)]
   exact e
theorem QG(ho:o.Perm (List.range n))(f:cx n L o L):oY n (aL n L) (fun a=>o.idxOf a):=fun a b c an bn cn ab ac bc e1 e2=>by
 have ne:=gB ho bn cn bc;have both:∀k,o.idxOf a<k→Wk (aL n L) (fh n o k) b c:=fun k hk=>(Wk.one (eS _ _ e1)).more ⟨an,hk⟩ e2;by_cases h:o.idxOf b<o.idxOf c;·exact ⟨bn,cn,dZ.mp ((fY f bn cn h).mpr (both _ ab))⟩
 ·exact eS _ _ ⟨cn,bn,dZ.mp ((fY f cn bn (by omega)).mpr ((both _ ac).symm eS))⟩
def kP(n:Nat)(r:Nat→Nat→Bool)(P:List Nat):Prop:=∀A b B,P=A++b::B→∀a,a<n→a∉A→(A.filter (r a)).length≤(A.filter (r b)).length
theorem G3{r s:Nat→Bool}:∀{l:List Nat},(∀d∈l,s d=true→r d=true)→∀{c},c∈l→r c=true→s c=false→(l.filter s).length<(l.filter r).length
 | [],_,_,h,_,_=>by cases h
 | x::l,h,c,hc,rc,vR=>by
  have le:(l.filter s).length≤(l.filter r).length:=by
   clear hc rc vR;have h':∀d∈l,s d=true→r d=true:=fun d hd=>h d (bP _ hd);clear h
   induction l with
   | nil=>exact ax _
   | cons y l ih=>
    have ih:=ih fun d hd=>h' d (bP _ hd);have hy:=h' y cE;rw [qE,qE];by_cases sy:s y=true
    ·rw [ae sy,ae (hy sy),dE,dE]
     omega
    ·rw [aa sy]
     split
     ·rw [dE]
      omega
     ·exact ih
  rw [qE,qE];rcases bb.mp hc with rfl | hc
  ·rw [vR,aa (by decide),ae rc,dE]
   omega
  ·have ih:=G3 (fun d hd=>h d (bP _ hd)) hc rc vR
   by_cases sx:s x=true
   ·rw [ae sx,ae (h x cE sx),dE,dE]
    omega
   ·rw [aa sx]
    split
    ·rw [dE]
     omega
    ·exact ih
variable {P:List Nat}
theorem QH(pm:P.Perm (List.range n))(h:kP n (rL L) P):Ci n (aL n L) (fun a=>P.reverse.idxOf a):=fun a b c an bn cn ab bc e1 e2=>by
 have po:P.reverse.Perm (List.range n):=(k_ P).trans pm;obtain ⟨A,B,e⟩:=List.append_of_mem (pm.mem_iff.mpr (bY.mpr bn));have er:P.reverse=B.reverse++b::A.reverse:=by rw [e];simp
 have nd:=m5 po;rw [er,jt] at nd;obtain ⟨_,nx,dj⟩:=nd;obtain ⟨nb,_⟩:=fk.mp nx;have ib:P.reverse.idxOf b=B.reverse.length:=by rw [er,lp,aa fun h=>dj b h b cE rfl,uI,dQ]
 have iA:∀d,d∈A→P.reverse.idxOf b<P.reverse.idxOf d:=fun d hd=>by
  have hr:d∈A.reverse:=j8.mpr hd;have db:d≠b:=fun z=>nb (z▸hr);rw [ib,er,lp,aa fun h=>dj d h d (bP _ hr) rfl,List.idxOf_cons,show (b == d)=false from by simpa using db.symm]
  simp only [cond_false];omega
 have iB:∀d,d<n→P.reverse.idxOf b<P.reverse.idxOf d→d∈A:=fun d dn lt=>by
  have hm:=(fE po).mpr dn;rw [er,dI,bb] at hm;rcases hm with hm | rfl | hm
  ·rw [ib,er,lp,ae hm] at lt
   have:=mx hm;omega
  ·omega
  ·exact j8.mp hm
 refine f_ fun no=>?_;have cA:=iB c cn bc;have aA:a∉A:=fun z=>by have:=iA a z;have ab:P.reverse.idxOf a<P.reverse.idxOf b:=ab;omega
 have le:=h A b B e a an aA;have Al:∀d∈A,d<n:=fun d hd=>bY.mp (pm.mem_iff.mp (by rw [e];simp [hd]))
 have lt:=G3 (r:=rL L a) (s:=rL L b) (l:=A) (fun d hd sd=>by
  refine f_ fun nr=>no ⟨d,Al d hd,iA d hd,⟨bn,Al d hd,dZ.mp sd⟩,fun z=>nr (dZ.mpr z.2.2)⟩) cA (dZ.mpr e1.2.2) (by
  cases z:rL L b c with
  | false=>rfl
  | true=>exact absurd ⟨bn,cn,dZ.mp z⟩ e2)
 omega
theorem QI(pw:L.Pairwise lexLt)(lt:∀z∈L,0≤z.1∧z.1<z.2∧z.2<(n:Int))(ho:o.Perm (List.range n))(f:cx n L o L)(pm:P.Perm (List.range n))(h:kP n (rL L) P):cx n L P.reverse L:=by
 have po:P.reverse.Perm (List.range n):=(k_ P).trans pm;refine G2 po pw lt (QE (QG ho f) (fun a b an bn e=>f_ fun z=>gB ho an bn z e) (fun a b an bn e=>f_ fun z=>gB po an bn z e) eS (fun a h=>?_) (QH pm h) fun a an=>?_);·rcases h.2.2 with e | e <;> (have:=lt _ e;omega)
 ·have:=mx ((fE po).mpr an)
  rw [rG po] at this;exact this
end My
namespace L2
open PySem PySem.W PyProof.Rows
section
variable {prog:Program} {w:World} {A:Around} {E:aM} {s:Shared}
end
open AutoSeq1 (wpAny_loadPart')
section
variable {prog:Program} {w:World} {A:Around} {E:aM} {s:Shared}
end
end L2
namespace My
open PySem L2
end My
namespace L2
open PySem PySem.Spec PyProof.Rows My
end L2
namespace My
open PySem L2
open PySem L2 Classical
theorem QJ(n:Nat)(L:av)(o:List Nat):∃M,cx n L o M:=by
 let f:Nat→Nat→Bool:=fun i j=>decide (∃p q:Nat,p<n∧q<n∧o.idxOf p<o.idxOf q∧Wk (aL n L) (fh n o (o.idxOf p)) p q∧((i:Int),(j:Int))=cC p q)
 refine ⟨vD n f n,F_ n,fun z=>⟨fun h=>?_,?_⟩⟩
 ·obtain ⟨i,j,_,_,_,hf,rfl⟩:=mem_of h
  exact eY hf
 ·rintro ⟨p,q,hp,hq,Cm,hw,rfl⟩
  have ne:p≠q:=fun e=>by rw [e] at Cm;exact absurd Cm (eG _)
  obtain ⟨i,j,ij,jn,e⟩:∃i j:Nat,i<j∧j<n∧cC p q=((i:Int),(j:Int)):=by
   by_cases h:q<p
   ·refine ⟨q,p,h,hp,?_⟩
    unfold cC;rw [ae (by omega),aa (by omega)]
   ·refine ⟨p,q,by omega,hq,?_⟩
    unfold cC;rw [aa (by omega),ae (by omega)]
  rw [e];exact F9 ij jn (a7 ⟨p,q,hp,hq,Cm,hw,e.symm⟩) (by omega)
theorem gD{a b:TS}{D:Ends}{σ:St}{H:Hp}(h:∀R:St→Hp→Prop,(∀σ H,b D σ H→R σ H)→a {D with nx:=R} σ H):AS a b D σ H:=h _ fun _ _ h=>h
end My
namespace L2
open PySem PySem.Spec PyProof.Rows
def G4(ps:Array Value):Obj:={cls:=.none,data:=.fields ps}
def G5(Pt:Addr)(H:Hp):Prop:=∀b,H b=none∨(∃o xs,H b=some (.a9 o (.lst xs)))∨(b=Pt∧H b=some (.cK #[]))
def jS(base:Heap)(mg:cy):Prop:=
 ∃bm o,mg "__builtins__"=some (.ref bm)∧bm≠builtinsNs∧base.get? bm=some o∧o.cls=.type "module"∧o.dict=some builtinsNs∧o.data=.plain
variable {P:Program} {w:World} {K:aB} {mg:cy} {k:Nat} {Pt:Addr} {fd:FuncData} {x:Str} {sp:Sp}
theorem QK{mb:cy}{CX:gO}{fa a:Addr}{s₁:Shared}{vs:List Value}{ns:List Int}
  (KX:K.In s₁.heap) (yS:s₁.heap.Ns mainGlobals mg) (hb:s₁.heap.Ns builtinsNs mb) (oO:∀x:Str,x ≠ "__name__"→mb x=bootBuiltins x) (QL:s₁.heap.NoLimit) (hg:s₁.gens = #[])
  (hT:s₁.heap.get? Pt=some (G4 #[])) (Cn:K.lookup Pt=none) (Co:isCodeTable s₁.heap Pt)
  (ha:s₁.heap.get? a=some {cls:=.type "list",data:=.seq vs.toArray}) (hi:IntsAre vs ns) (hl:ns.length≤sizeLine) (hr:dm k callerA)
  (QM:jS s₁.heap mg) (F:∀base:Heap,K.In base→base.Ns mainGlobals mg→jS base mg→bH P w K mg base CX k fa fd [x] sp) (oZ:∀(s:Shared) (u:Value),BindsTo s fd ⟨[u],[]⟩ [(x,u)])
  (ky:∀H:Hp,G5 Pt H→H Pt=some (.cK #[])→aO K H a (ns.map V.int)→sp [.ref a] H (fun v _=>v=.bl true) fun _ _ _=>False)
  (QN:∀H e s',CX [] H s₁ (fun _ _ _=>False) e s'→False) :
  codeAny (model P w) callerA (.call (.ref fa) ⟨[.ref a],[]⟩) (fun r s'=>r=.ok (.ret (.bool true))∧OldK s₁.heap s'.heap∧s'.os=s₁.os∧AllBare s'.gens) s₁:=by
 have rv:=Fg hi;have QO:=hi.length;have aT:a≠Pt:=fun z=>by rw [z,hT] at ha;cases ha
 have core:∀H:Hp,G5 Pt H→H Pt=some (.cK #[])→aO K H a (ns.map V.int)→bV P w H s₁.heap→(∀b,H b≠none→b=a∨b=Pt)→(H a≠none→K.lookup a=none)→
   codeAny (model P w) callerA (.call (.ref fa) ⟨[.ref a],[]⟩) (fun r s'=>r=.ok (.ret (.bool true))∧OldK s₁.heap s'.heap∧s'.os=s₁.os∧AllBare s'.gens) s₁:=by
  intro H hO hP hS aw hA hK;have Cp:∀{b:Addr} {o:Obj},s₁.heap.get? b=some o→H b=none→(j_ s₁.heap H).get? b=some o:=fun e n=>Kw e n;have uY:∀{b:Addr} {o:Obj} {es:Array DictEntry} {ep:Nat},s₁.heap.get? b=some o→o.data=.dict es ep→H b=none:=fun{b o es ep} e d=>by
   cases q:H b with
   | none=>rfl
   | some u=>
    rcases hA b (by rw [q];simp) with e' | e'
    ·subst e'
     rw [ha] at e;cases e;have d':Data.seq vs.toArray _=Data.dict es ep:=d;cases d'
    ·subst e'
     rw [hT] at e;cases e;have d':Data.fields _=Data.dict es ep:=d;cases d'
  have yT:∀{b:Addr} {m:cy},s₁.heap.Ns b m→(j_ s₁.heap H).Ns b m:=fun{b m} ⟨o,es,ep,e,d,r⟩=>⟨o,es,ep,Cp e (uY e d),d,r⟩;have G6:K.In (j_ s₁.heap H):=fun b o e=>Cp (KX b o e) (by
   cases q:H b with
   | none=>rfl
   | some u=>
    rcases hA b (by rw [q];simp) with e' | e'
    ·subst e'
     rw [hK (by rw [q];simp)] at e;cases e
    ·subst e'
     rw [Cn] at e;cases e)
  have hM:Mod K mg (j_ s₁.heap H):=⟨G6,yT yS,⟨mb,yT hb,oO⟩,let ⟨mc,h1,h2⟩:=QL;⟨mc,yT h1,h2⟩⟩
  have e0:xR P w K mg (j_ s₁.heap H) callerA [] s₁ H:=⟨rfl,hM,fun b o e=>Kx e,Nat.le_of_eq (Kv _ _),trivial,fun b hb=>absurd (show b∈([]:List Addr) from hb) (by simp),aw,.of_eq hg⟩
  have QP:jS (j_ s₁.heap H) mg:=by
   obtain ⟨bm,o,b1,b2,b3,b4,b5,b6⟩:=QM;refine ⟨bm,o,b1,b2,Cp b3 ?_,b4,b5,b6⟩;cases q:H bm with
   | none=>rfl
   | some u=>
    rcases hA bm (by rw [q];simp) with e' | e'
    ·subst e'
     rw [ha] at b3;cases b3;cases b6
    ·subst e'
     rw [hT] at b3;cases b3;cases b6
  refine codeAny_mono ((F _ G6 (yT yS) QP).run callerA [] s₁ H ⟨[.ref a],[]⟩ [.ref a] [.ref a] _ _ hr e0 (oZ s₁ (.ref a)) (.cons rfl .nil) (ky H hO hP hS)) fun r s' h=>?_;cases r with
  | error e=>exact (QN H e s' h).elim
  | ok fl=>
   cases fl with
   | next=>exact False.elim h
   | brk=>exact False.elim h
   | cont=>exact False.elim h
   | ret u=>
    obtain ⟨v,H',os,bare,un,G7,r',q⟩:=h;have q':v=.bl true:=q;subst q';obtain rfl:u=Value.bool true:=r';have tab:∃more:Array Value,s'.heap.get? Pt=some (G4 (#[]++more)):=by obtain ⟨more,e⟩:=un.fN Pt _ hP;exact ⟨more,(show cf P w H' s'.heap Pt (.cK (#[]++more)) from G7 Pt _ e)⟩
    refine ⟨rfl,⟨fun b o e=>?_,fun b o e=>?_⟩,os,bare⟩
    ·by_cases G8:b=Pt
     ·subst G8
      rw [hT] at e;cases e;obtain ⟨more,e⟩:=tab;exact .inr (.inl ⟨Co,rfl,#[],more,rfl,e⟩)
     ·refine .inl ?_
      cases q:H b with
      | none=>exact un.keep b o e q (by intro z;exact absurd (show b∈([]:List Addr) from z) (by simp)) (by simp)
      | some u=>
       rcases hO b with z | ⟨ob,xs,z⟩ | ⟨z,_⟩;·rw [q] at z;cases z
       ·have z2:=un.fK b ob _ z
        obtain ⟨e1,_⟩:=aw b _ z;obtain ⟨e2,_⟩:=G7 b _ z2;rw [e] at e1;cases e1;exact e2
       ·exact absurd z G8
    ·exact un.there b o e (by simp)
 have yU:∀H:Hp,cf P w H s₁.heap Pt (.cK #[]):=fun H=>hT;cases hk:K.lookup a with
 | some o=>
  have e:=KX a o hk;rw [ha] at e;cases e;refine core (fun b=>if b=Pt then some (.cK #[]) else none) (fun b=>?_) (ae rfl) (.inr ⟨_,vs.toArray,_,hk,rfl,rfl,rfl,by rw [b8,QO];exact hl,by simpa using rv⟩) (fun b u z=>?_) (fun b z=>?_) fun z=>absurd (aa aT) z
  ·by_cases h:b=Pt
   ·exact .inr (.inr ⟨h,ae h⟩)
   ·exact .inl (aa h)
  ·by_cases h:b=Pt
   ·have z':=(ae h).symm.trans z
    cases z';subst h;exact yU _
   ·have z':=(aa h).symm.trans z
    cases z'
  ·by_cases h:b=Pt
   ·exact .inr h
   ·exact absurd (aa h) z
 | none=>
  refine core (fun b=>if b=a then some (.a9 {cls:=.type "list",data:=.seq vs.toArray} (.lst (ns.map V.int))) else if b=Pt then some (.cK #[]) else none) (fun b=>?_) ((aa (Ne.symm aT)).trans (ae rfl)) (.inl (.inr ⟨{cls:=.type "list",data:=.seq vs.toArray},ae rfl⟩)) (fun b u z=>?_) (fun b z=>?_) fun _=>hk
  ·by_cases hb:b=a
   ·exact .inr (.inl ⟨_,_,ae hb⟩)
   ·by_cases h:b=Pt
    ·exact .inr (.inr ⟨h,(aa hb).trans (ae h)⟩)
    ·exact .inl ((aa hb).trans (aa h))
  ·by_cases hb:b=a
   ·have z':=(ae hb).symm.trans z
    cases z';subst hb;exact ⟨ha,by rw [aG];exact hl,vs,_,rv,ha⟩
   ·have z1:=(aa hb).symm.trans z
    by_cases h:b=Pt
    ·have z':=(ae h).symm.trans z1
     cases z';subst h;exact yU _
    ·have z':=(aa h).symm.trans z1
     cases z'
  ·by_cases hb:b=a
   ·exact .inl hb
   ·by_cases h:b=Pt
    ·exact .inr h
    ·exact absurd ((aa hb).trans (aa h)) z
open PySem PySem.Spec PyProof.Rows PySem.W
def tabIn(K:aB)(fd:FuncData)(P:Addr):Bool:=match fd.code with | .ref c=>PySem.W.codeHdIn K c P | _=>false
def vS(c:Addr)(q:Str):HO:=.ext fun h=>h.CodeRec (.ref c) q
def cW(Pt:Addr)(pl:Pos)(q:Str)(H:Hp):Prop:=
 H Pt=some (.cK #[])∨∃c,c≠Pt∧H Pt=some (.cK #[rawInt pl.line,rawInt pl.col,.ref c])∧H c=some (vS c q)
def dO(Pt:Addr)(H H':Hp):Prop:=∀b o,b≠Pt→H b=some o→H' b=some o
variable {H:Hp} {c:Addr} {q:Str}
theorem vS.ok{h:Heap}(x:h.CodeRec (.ref c) q):cf P w H h c (vS c q):=by
 refine ⟨x,?_,fun h1 h2 y k=>?_⟩
 ·obtain ⟨c',o,vs,t,e,g,_⟩:=x
  cases e;exact ⟨o,g⟩
 ·obtain ⟨c',o,vs,t,e,g,r⟩:=y
  cases e;exact ⟨c,o,vs,t,rfl,k o g,r⟩
def jh(x:Str)(p:Pos):Arguments:={posonlyargs:=[],args:=[{arg:=x,annotation:=none,pos:=p}],vararg:=none,kwonlyargs:=[],kw_defaults:=[],kwarg:=none,defaults:=[]}
def gE(x c:Str):Scope:={kind:=.function,names:=[(x,.local),(c,.free)],isGenerator:=false,isCoroutine:=false,more:=[]}
def jj(x c:Str)(p1 p2 p3:Pos):Expr:=.Subscript (.Name c p1) (.Name x p2) p3
variable {cc:Addr}
theorem QQ{c:Str}{env:Env}(h:env.cells.lookup c=some cc):closureFor (gE x c) env=pure [(c,cc)]:=by unfold closureFor gE cellOf;simp [h]
variable {s:Shared} {f c' cnt:Addr} {m:cy} {name cn:Str} {p p1:Pos} {pm fi:Value}
theorem QR{prog:Program}{A:Around}{h₀:Heap}{L:Addr}{news:aI}{p2 p3:Pos}{items:Array Value}{k z:Int}{u t:Tok}
  (QS:A.depth<recursionLimit) (F:Fr h₀ L s.heap m) (N:News h₀ L s.heap news)
  (hf:s.heap.get? f=some (kla_obj name q (jh x p) (jj x cn p1 p2 p3) (gE x cn) [(cn,cc)] pm c' fi)) (dR:s.heap.CodeRec (.ref c') q)
  (jy:s.heap.IsCell cc (some (.ref cnt))) (hl:s.heap.IsList cnt items) (lim:s.heap.NoLimit) (h0:0≤k) (Bd:k<2 ^ 63) (hx:items[k.toNat]?=some (.int z t))
  (oZ:bindArgs (kla_fn name q (jh x p) (jj x cn p1 p2 p3) (gE x cn) [(cn,cc)] pm (.ref c') fi) ⟨[.int k u],[]⟩=pure [(x,.int k u)])
  (fw:(cn == x)=false) (vT:(x == ("__debug__":Str))=false) (hd2:(cn == ("__debug__":Str))=false) (vU:(cn == ("__classdict__":Str))=false) :
  wpAny (model prog w) A (call (.ref f) [.int k u]) (KskEnd h₀ L m news z s) (fun _ _=>False) s:=by
 refine wpAny_call (kla_callFunE QS hf rfl rfl rfl rfl dR ?_);rw [oZ];refine cS (wY ?_ ?_ (fun h₁ yS rh=>?_) rfl)
 ·intro y hy
  rcases bb.mp hy with rfl | hy;·intro z;cases z
  ·rcases bb.mp hy with rfl | hy
   ·intro z;cases z
   ·cases hy
 ·intro y hy
  obtain rfl:y=(x,Value.int k u):=dt.mp hy;show List.lookup x [(x,NameKind.local),(cn,NameKind.free)]=_;simp [List.lookup]
 ·have vV:∀b o,s.heap.get? b=some o→h₁.get? b=some o:=fun b o e=>rh.extBut b o (bX (aU e)) (ck _ e)
  refine ⟨lim.fresh _ rh,kla_codeExpr ?_⟩;refine Subscript_ (wpAny_Name (wpAny_loadName_free (c:=cc) (v:=.ref cnt) rfl ?_ ?_ ?_ ?_ vU) hd2)
  ·show List.lookup cn [(x,NameKind.local),(cn,NameKind.free)]=_
   simp [List.lookup,fw]
  ·show List.lookup cn [(cn,cc)]=_
   simp [List.lookup]
  ·obtain ⟨o,ho,hd⟩:=jy
   exact ⟨o,vV _ _ ho,hd⟩
  ·refine wpAny_Name (wpAny_loadName_local (v:=.int k u) rfl ?_ yS ?_ ?_) vT
   ·show List.lookup x [(x,NameKind.local),(cn,NameKind.free)]=_
    simp [List.lookup]
   ·show List.lookup x [(x,Value.int k u)]=_
    simp [List.lookup]
   ·refine item_listR (x:=.int z t) ?_ h0 Bd hx ?_
    ·obtain ⟨o,ho,r⟩:=hl
     exact ⟨o,vV _ _ ho,r⟩
    ·exact ⟨h₁,_,t,rfl,rfl,⟨by obtain ⟨o,es,ep,ho,r⟩:=F.ns;exact ⟨o,es,ep,vV _ _ ho,r⟩,fun b o e=>vV b o (F.keep b o e),F.above⟩,fun p hp=>⟨vV _ _ (N p hp).1,(N p hp).2⟩⟩
open PySem PySem.Spec PyProof.Rows PySem.W Att
variable {X:Cx} {pins:aI} {σ:St} {h':Heap}
theorem Inv.QT{t':Nat}(I:Inv X pins σ H s)(hm:s.heap.Ns X.env.locals m)(d8:h'.Ns X.env.locals m)
  (k:∀b o,b≠X.env.locals→s.heap.get? b=some o→h'.get? b=some o):Inv X pins σ H {s with heap:=h',toks:=t'}:=by
 have ke:∀b u,H b=some u→b≠X.env.locals:=fun b u e z=>by rw [z,I.free] at e;cases e
 refine I.step (g':=s.gens) (d':=s.drawn) (ch:=[]) (fun _ z=>nomatch z) (fun b o n _ _ e _=>k b o n e) (fun b o n _ _ e _=>⟨o.slots,k b o n e⟩) (fun _ _ _ _ n=>n) (fun b o _ e=>?_) (fun _ _ e=>e) (fun _ _ _ e=>e) (fun b ps e=>⟨#[],by rw [e];simp⟩) (fun m2 rM=>?_) (fun b u e=>?_) I.bare
 ·by_cases n:b=X.env.locals
  ·obtain ⟨o',_,_,ho,_⟩:=d8
   exact ⟨o',by rw [n];exact ho⟩
  ·exact ⟨o,k b o n e⟩
 ·obtain ⟨o,es,ep,ho,hd,hs,r⟩:=hm
  obtain ⟨o2,XC,XD,rN,hd2,ki,r2⟩:=rM;rw [ho] at rN;cases rN;rw [hd] at hd2;cases hd2;have:m2=m:=funext fun x=>(r2 x).symm.trans (r x);rw [this];exact d8
 ·refine (I.aw b u e).gb (fun c v hc q=>k c v ?_ q) (fun _ q=>q) fun _ _ q=>q
  rcases hc with z | z;·rw [z];exact ke b u e
  ·exact ke c _ z
theorem Inv.ke(I:Inv X pins σ H s){b:Addr}{o:Obj}(e:s.heap.get? b=some o)(hd:∀es ep,o.data≠.dict es ep):b≠X.env.locals:=fun z=>by obtain ⟨m,⟨o',es,ep,iV,AL,_⟩,_⟩:=I.loc;rw [z,iV] at e;cases e;exact hd es ep AL
def G9(xs:List Nat)(cs:List Int)(m:Nat):Prop:=m∈xs∧∀y∈xs,cs.getD y 0≤cs.getD m 0
variable {l:Addr}
theorem QU{p2 p3:Pos}{xs:List Nat}{cs:List Int}{Q:aM}
  (I:Inv X pins σ H s) (hr:dm 1 X.A)
  (hf:s.heap.get? f=some (kla_obj name q (jh x p) (jj x cn p1 p2 p3) (gE x cn) [(cn,cc)] pm c' fi)) (dR:s.heap.CodeRec (.ref c') q)
  (jy:s.heap.IsCell cc (some (.ref cnt))) (hl:aO X.K H l (xs.map fun(k:Nat)=>V.int (k:Int))) (fw:xs≠[]) (hc:aO X.K H cnt (cs.map V.int)) (Cq:∀y∈xs,y<cs.length)
  (oZ:∀(k:Int) (u:Tok),bindArgs (kla_fn name q (jh x p) (jj x cn p1 p2 p3) (gE x cn) [(cn,cc)] pm (.ref c') fi) ⟨[.int k u],[]⟩=pure [(x,.int k u)])
  (Cr:(cn == x)=false) (vT:(x == ("__debug__":Str))=false) (hd2:(cn == ("__debug__":Str))=false) (vU:(cn == ("__classdict__":Str))=false)
  (hQ:∀(k:Nat) (t:Tok) (s':Shared),G9 xs cs k→Inv X pins σ H s'→Q (.int k t) s') :
  wpAny (model X.prog X.w) X.A (call (.builtin "max") [.ref l] [(Str.ofString "key",.ref f)]) Q X.xe s:=by
 obtain ⟨m,hm,_⟩:=id I.loc;obtain ⟨its,rv,pl,hz⟩:=I.list hl;obtain ⟨QV,rc,pc,G_⟩:=I.list hc;have vW:its.length=xs.length:=by have:=rv.length;rw [aG] at this;exact this.symm
 have XE:QV.length=cs.length:=by have:=rc.length;rw [aG] at this;exact this.symm
 have fL:f≠X.env.locals:=I.ke hf fun _ _ z=>by cases z
 have at':∀{h:Heap} {own:aI},News (oC s.heap) X.env.locals h (([]++(f,kla_obj name q (jh x p) (jj x cn p1 p2 p3) (gE x cn) [(cn,cc)] pm c' fi)::ledger s.heap X.env.locals f)++own)→
   ∀b o,b≠X.env.locals→s.heap.get? b=some o→h.get? b=some o:=fun{h own} N b o n e=>by
  by_cases hb:b=f
  ·subst hb
   rw [hf] at e;cases e;exact (N _ (l_ _ (cE))).1
  ·exact (N (b,o) (l_ _ (bP _ (Ff.mpr ⟨n,hb,e⟩)))).1
 have Hi:∀{h:Heap},News (oC s.heap) X.env.locals h ([]++(f,kla_obj name q (jh x p) (jj x cn p1 p2 p3) (gE x cn) [(cn,cc)] pm c' fi)::ledger s.heap X.env.locals f)→
   ∀b o,b≠X.env.locals→s.heap.get? b=some o→h.get? b=some o:=fun{h} N=>at' (own:=[]) (by rw [k4];exact N)
 have listAt:∀{h:Heap} {a:Addr} {vs:Array Value},(∀b o,b≠X.env.locals→s.heap.get? b=some o→h.get? b=some o)→PlainL s.heap a vs→h.IsList a vs:=fun{h a vs} k pl=>by obtain ⟨o,n,e,c,d,dd⟩:=pl;exact PlainL.isList ⟨o,n,k a o (I.ke e fun _ _ z=>by rw [dd] at z;cases z) e,c,d,dd⟩
 have kn:∀i,i<xs.length→∃t,its[i]?=some (.int ((xs.getD i 0:Nat):Int) t):=fun i hi=>by
  have e:(xs.map fun(k:Nat)=>V.int (k:Int))[i]?=some (.int ((xs.getD i 0:Nat):Int)):=by rw [bD,bU hi,b9,bU hi];rfl
  obtain ⟨u,eu,ru⟩:=rv.get e;obtain ⟨t,rfl⟩:=ru;exact ⟨t,eu⟩
 have Hj:∀i,i<xs.length→xs.getD i 0∈xs:=fun i hi=>by rw [b9,bU hi];exact bJ hi
 refine kmk_max (h₀:=oC s.heap) (L:=X.env.locals) (m:=m) (vs:=its) (fun i=>cs.getD (xs.getD i 0) 0) hr.hd (Mt hm) (Ms fL hf) (fun h F N=>listAt (Hi N) pl) (by rw [vW];exact List.length_pos_iff.mpr fw) (fun i v hv h tk own F N=>?_) fun i v h' Ft hv hb F N=>?_
 ·have hi:i<xs.length:=by rw [←vW];exact (cp.mp hv).1
  obtain ⟨t,et⟩:=kn i hi;rw [et] at hv;cases hv;have a_:=Cq _ (Hj i hi);have ec:(cs.map V.int)[xs.getD i 0]?=some (.int (cs.getD (xs.getD i 0) 0)):=by rw [bD,bU a_,b9 (l:=cs),bU a_];rfl
  obtain ⟨u,eu,ru⟩:=rc.get ec;obtain ⟨t2,rfl⟩:=ru;have k:=at' N;refine QR (A:=X.A.in1) (by have:=hr.dp;show X.A.depth<_;omega) F N (k _ _ fL hf) ?_ ?_ (listAt k pc) ?_ (Int.natCast_nonneg _) ?_ (by simpa using eu) (oZ _ _) Cr vT hd2 vU
  ·obtain ⟨c2,o,vs,tt,e,g,dd,r⟩:=dR
   exact ⟨c2,o,vs,tt,e,k _ _ (I.ke g fun _ _ z=>by rw [dd] at z;cases z) g,dd,r⟩
  ·obtain ⟨o,ho,hd⟩:=jy
   exact ⟨o,k _ _ (I.ke ho fun _ _ z=>by rw [hd] at z;cases z) ho,hd⟩
  ·exact I.ok.mod.nolimit.keeps fun b o e=>k b o (fun z=>by have:=aU e;have h1:=I.ok.iu;have h2:=I.ok.above;rw [z] at this;exact absurd (dD this (cj h1 h2)) (eG _)) (I.bk b o e)
  ·have h1:cs.length≤sizeLine:=by rw [aG] at G_;exact G_
   have h2:=qX;omega
 ·have hi:i<xs.length:=by rw [←vW];exact (cp.mp hv).1
  obtain ⟨t,et⟩:=kn i hi;rw [et] at hv;cases hv;refine hQ (xs.getD i 0) t _ ⟨Hj i hi,fun y hy=>?_⟩ (I.QT hm F.ns (Hi N));obtain ⟨j,hj,ej⟩:=nS hy;have Hk:=(hb j (by rw [vW];exact hj)).1
  have e2:xs.getD j 0=y:=by rw [←ej,b9,bU hj];rfl
  simp only [e2] at Hk;exact Hk
variable {ps:Array Value}
theorem Inv.Hl(I:Inv X pins σ H s)(hB:jS X.base X.mg)(hP:H Pt=some (.cK ps)):s.heap.BuiltinsAt X.mg Pt∧mainGlobals≠Pt:=by
 obtain ⟨bm,o,e1,e2,e3,e4,e5,e6⟩:=hB;refine ⟨⟨bm,o,e1,e2,fun z=>?_,fun z=>?_,I.bk _ _ e3,e4,e5,e6⟩,fun z=>?_⟩
 ·obtain ⟨o',es,ep,ho,hd,_⟩:=I.ok.mod.glob
  rw [z,ho] at e3;cases e3;rw [hd] at e6;cases e6
 ·have:=(I.bs _ _ e3).2
  rw [z,hP] at this;cases this
 ·obtain ⟨o',es,ep,ho,hd,_⟩:=I.ok.mod.glob
  have:=(I.bs _ _ ho).2;rw [z,hP] at this;cases this
variable {pl:Pos}
theorem Inv.grown{fo:Obj}{tk:Nat}(I:Inv X pins σ H s)(hP:H Pt=some (.cK #[]))(hx:Heap.ExtBut Pt s.heap h')(vX:s.heap.objs.size≤c')(rO:h'.CodeRec (.ref c') q)
  (Cs:h'.get? Pt=some (tabObj #[rawInt pl.line,rawInt pl.col,.ref c'])) :
  ∃H',dO Pt H H'∧cW Pt pl q H'∧Inv X pins σ H' {s with heap:=h'.push fo,toks:=tk}:=by
 have cP:c'≠Pt:=fun z=>by have e:s.heap.get? Pt=some (tabObj #[]):=I.aw Pt _ hP;have:=aU e;rw [←z] at this;exact absurd (dD this vX) (eG _)
 have cN:H c'=none:=I.aw.fresh vX;have kp:∀b o,b≠Pt→s.heap.get? b=some o→(h'.push fo).get? b=some o:=fun b o n e=>ck _ (hx b o n e);have QW:(h'.push fo).CodeRec (.ref c') q:=rO.push _;have Hm:(h'.push fo).get? Pt=some (tabObj #[rawInt pl.line,rawInt pl.col,.ref c']):=ck _ Cs;refine ⟨upd (upd H Pt (.cK #[rawInt pl.line,rawInt pl.col,.ref c'])) c' (vS c' q),fun b o n e=>?_,.inr ⟨c',cP,by rw [aH (Ne.symm cP),ay],ay⟩,I.un ⟨fun b o e n _ _=>?_,fun b o e n hb _=>?_,fun b o e n _=>?_,fun b o e _=>?_,fun b xs e=>?_,fun b o u e=>?_,fun b ps e=>?_⟩ fun b u e=>?_⟩
 ·rw [aH (fu e cN),aH n];exact e
 ·exact kp b o (fun z=>by rw [z,hP] at n;cases n) e
 ·exact ⟨o.slots,kp b o (fun z=>by rw [z,hP] at n;cases n) e⟩
 ·rw [aH (bX (dD (aU e) vX)),aH (fun z=>by rw [z,hP] at n;cases n)];exact n
 ·by_cases n:b=Pt
  ·exact ⟨_,by rw [n];exact Hm⟩
  ·exact ⟨o,kp b o n e⟩
 ·rw [aH (fu e cN),aH (fun z=>by rw [z,hP] at e;cases e)];exact e
 ·rw [aH (fu e cN),aH (fun z=>by rw [z,hP] at e;cases e)];exact e
 ·by_cases n:b=Pt
  ·subst n
   rw [hP] at e;cases e;exact ⟨#[rawInt pl.line,rawInt pl.col,.ref c'],by rw [aH (Ne.symm cP),ay];simp⟩
  ·exact ⟨#[],by rw [aH (fu e cN),aH n,e];simp⟩
 ·by_cases hc:b=c'
  ·subst hc
   rw [ay] at e;cases e;exact vS.ok QW
  ·rw [aH hc] at e
   by_cases n:b=Pt
   ·subst n
    rw [ay] at e;cases e;exact Hm
   ·rw [aH n] at e
    refine (I.aw b u e).gb (fun d v hd g=>kp d v ?_ g) (fun d g=>?_) fun d xs g=>?_
    ·rcases hd with z | z
     ·rw [z];exact n
     ·intro y;rw [y,hP] at z;cases z
    ·rw [aH (fu g cN),aH (fun z=>by rw [z,hP] at g;cases g)];exact g
    ·rw [aH (fu g cN),aH (fun z=>by rw [z,hP] at g;cases g)];exact g
def QX(K:aB)(t:TA)(i:Nat)(Pt:Addr)(pl:Pos)(q:Str):TE:=fun σ H Q=>t σ H fun vs H1=>
 ∃(l cnt:Addr) (xs:List Nat) (cs:List Int),vs=[.ref l]∧aO K H1 l (xs.map fun(k:Nat)=>V.int (k:Int))∧xs≠[]∧σ[i]?=some (some (.ref cnt))∧aO K H1 cnt (cs.map V.int)∧(∀y∈xs,y<cs.length) ∧
  cW Pt pl q H1∧∀(k:Nat) (H2:Hp),G9 xs cs k→dO Pt H1 H2→cW Pt pl q H2→Q (.int k) H2
theorem aO.st{H':Hp}{xs:List V}(h:aO K H l xs)(hP:H Pt=some (.cK ps))(s:dO Pt H H'):aO K H' l xs:=by
 have ne:∀o,H l=some o→(∀QY,o≠.cK QY)→l≠Pt:=fun o e n z=>by rw [z,hP] at e;exact n ps (Option.some.inj e).symm
 rcases h with (h | ⟨o,h⟩) | h;·exact .inl (.inl (s _ _ (ne _ h fun _ z=>by cases z) h))
 ·exact .inl (.inr ⟨o,s _ _ (ne _ h fun _ z=>by cases z) h⟩)
 ·exact .inr h
theorem QZ{e:Expr}{t:TA}{i:Nat}{pos kp pa p2 p3:Pos}(ha:PA X [e] t)(hg:Gl X (Str.ofString "max"))(hm:X.mg (Str.ofString "max")=none)(hv:bootBuiltins (Str.ofString "max")=some (.builtin "max"))
  (hr:dm 1 X.A) (hB:jS X.base X.mg) (Hn:X.env.code=.ref c) (hC:codeHdIn X.K c Pt=true) (hN:X.N[i]?=some cn) (Ct:X.env.kindOf cn=some .cell)
  (oZ:∀(cc c':Addr) (q:Str) (pm fi:Value) (k:Int) (u:Tok),bindArgs (kla_fn "<lambda>" q (jh x pa) (jj x cn p1 p2 p3) (gE x cn) [(cn,cc)] pm (.ref c') fi) ⟨[.int k u],[]⟩=pure [(x,.int k u)])
  (Cr:(cn == x)=false) (vT:(x == ("__debug__":Str))=false) (hd2:(cn == ("__debug__":Str))=false) (vU:(cn == ("__classdict__":Str))=false)
  (he:backTo pos (starEach [e] X.env)=(false,eval e X.env)::backTo pos (starEach [] X.env):=by rfl) (kr:(backTo pos (starEach [e] X.env)).any (·.1)=false:=by rfl) :
  PE X (.Call (.Name (Str.ofString "max") p) [e] [⟨some (Str.ofString "key"),.Lambda (jh x pa) (jj x cn p1 p2 p3) (gE x cn) pl,kp⟩] pos) (QX X.K t i Pt pl (X.env.qual ++ "<lambda>")):=by
 intro pins s σ H Q I h
 refine wV (kg I hg hm hv ?_)
 refine callWith_kw (aD (ha pos pins s σ H _ I h) fun us s1 ⟨xs,H1,I1,r1,q1⟩=>?_) he kr
 obtain ⟨l,cnt,xs,cs,rfl,hl,fw,hσ,hc,Cq,hT,k⟩:=q1
 obtain ⟨u,rfl,ru⟩:=vals1 r1
 cases ru
 show wpAny _ _ (evalAll [(do let v ←eval (.Lambda (jh x pa) (jj x cn p1 p2 p3) (gE x cn) pl) X.env;standAt pos;pure v)]) _ _ s1
 obtain ⟨cc,uQ⟩:=I1.ok.has cn (.inl Ct)
 have jy:s1.heap.IsCell cc (some (.ref cnt)):=by
  obtain ⟨m,_,hl⟩:=I1.loc
  obtain ⟨u,ru,lk⟩:=hl i cn _ hN hσ (.inr (.inl Ct))
  cases ru
  rcases lk with ⟨z,_⟩ | ⟨_,c2,z,g⟩
  ·rw [Ct] at z;cases z
  ·rw [uQ] at z;cases z;exact g
 have Ho:closureFor (gE x cn) X.env=pure [(cn,cc)]:=QQ uQ
 have Hq:s1.heap.Ns mainGlobals X.mg:=I1.mod.glob.keeps I1.bk
 have Hr:CodeHd s1.heap c Pt:=codeHd_of_K I1.ee hC
 refine wpAny_evalAll_cons (a8 (kla_eval rfl ?_))
 have fin:∀(f c':Addr) (pm fi:Value) (s2:Shared) (H2:Hp),dO Pt H1 H2→cW Pt pl (X.env.qual ++ "<lambda>") H2→Inv X pins σ H2 s2→s2.heap.IsCell cc (some (.ref cnt))→(∃ps,H1 Pt=some (.cK ps))→
   s2.heap.get? f=some (kla_obj "<lambda>" (X.env.qual ++ "<lambda>") (jh x pa) (jj x cn p1 p2 p3) (gE x cn) [(cn,cc)] pm c' fi)→s2.heap.CodeRec (.ref c') (X.env.qual ++ "<lambda>")→
   wpAny (model X.prog X.w) X.A (call (.builtin "max") [.ref l] [(Str.ofString "key",.ref f)]) (EP X pins σ Q) X.xe s2:=fun f c' pm fi s2 H2 sm st I2 Q0 rQ hf dR=>by
  obtain ⟨ps,rQ⟩:=rQ
  exact QU I2 hr hf dR Q0 (hl.st rQ sm) fw (hc.st rQ sm) Cq (fun k u=>oZ _ _ _ _ _ k u) Cr vT hd2 vU fun k' t s' mk I3=>⟨.int k',H2,I3,⟨_,rfl⟩,k k' H2 mk sm st⟩
 have Q1:∀{b:Addr} {o:Obj} {v:Option Value},s1.heap.get? b=some o→o.data=.cell v→∀ps,H1 Pt=some (.cK ps)→b≠Pt:=fun{b o v} g d ps hP z=>by
  have:s1.heap.get? Pt=some (tabObj ps):=I1.aw Pt _ hP
  rw [z,this] at g;cases g;cases d
 rcases hT with hP | ⟨c',cP,hP,Hs⟩
 ·obtain ⟨hb,Ht⟩:=I1.Hl hB hP
  refine kla_makeFunction (ps:=#[]) (mg:=X.mg) Ho I1.ok.glob Hq Hn Hr (I1.aw Pt _ hP) trivial rfl Ht hb fun c' fi h' tk hx vX a_ rO Cs=>?_
  refine a8 (ug (cS (wpAny_evalAll_nil ?_)))
  obtain ⟨H2,sm,st,I2⟩:=I1.grown (fo:=kla_obj "<lambda>" (X.env.qual ++ "<lambda>") (jh x pa) (jj x cn p1 p2 p3) (gE x cn) [(cn,cc)] ((X.mg "__name__").getD .none) c' fi) (tk:=tk) hP hx vX rO Cs
  refine fin h'.objs.size c' _ fi _ H2 sm st I2 ?_ ⟨_,hP⟩ (eI _ rfl) (rO.push _)
  obtain ⟨o,ho,hd⟩:=jy
  exact ⟨o,ck _ (hx cc o (Q1 ho hd _ hP) ho),hd⟩
 ·obtain ⟨hb,Ht⟩:=I1.Hl hB hP
  refine kla_makeFunctionHit (cv:=.ref c') (ps:=#[rawInt pl.line,rawInt pl.col,.ref c']) (mg:=X.mg) Ho I1.ok.glob Hq Hn Hr (I1.aw Pt _ hP) trivial ?_ hb fun fi h' tk hk hsz=>?_
  ·show codeAmong pl [rawInt pl.line,rawInt pl.col,.ref c']=_
   simp [codeAmong,rawInt]
  refine a8 (ug (cS (wpAny_evalAll_nil ?_)))
  have kp:∀b o,s1.heap.get? b=some o→(h'.push {cls:=.type "function",data:=.func (kla_fn "<lambda>" (X.env.qual ++ "<lambda>") (jh x pa) (jj x cn p1 p2 p3) (gE x cn) [(cn,cc)] ((X.mg "__name__").getD .none) (.ref c') fi)}).get? b=some o:=fun b o e=>ck _ (hk b o e)
  have rO:s1.heap.CodeRec (.ref c') (X.env.qual ++ "<lambda>"):=(I1.aw c' _ Hs).1
  refine fin h'.objs.size c' _ fi _ H1 (fun _ _ _ e=>e) (.inr ⟨c',cP,hP,Hs⟩) (I1.kept (t':=tk) kp) ?_ ⟨_,hP⟩ (eI _ rfl) (rO.keeps kp)
  obtain ⟨o,ho,hd⟩:=jy
  exact ⟨o,kp _ _ ho,hd⟩
section
variable {prog:Program} {w:World} {A:Around} {E:aM} {s:Shared}
theorem Q2:typeLookup (.type "list_reverseiterator") "__len__"=pure none:=by rw [typeLookup_type,builtinLookup_eq_fast];kernel_rfl
theorem Q3:typeLookup (.type "list_reverseiterator") "__length_hint__"=pure (some (.builtin "list_reverseiterator.__length_hint__")):=by rw [typeLookup_type,builtinLookup_eq_fast];kernel_rfl
theorem Q4{r:Addr}{Q:Bool→Shared→Prop}(hT:s.TypeIs (.ref r) "list_reverseiterator")(h:Q false s):wpAny (model prog w) A (Builtin.List.listLengthHint (.ref r)) Q E s:=by
 unfold Builtin.List.listLengthHint;refine a8 (wpAny_specialOf hT Q2 ?_);refine qF (fun jT=>absurd jT (by decide)) (fun _=>?_)
 refine qF (fun jT=>absurd jT (by decide)) (fun _=>?_)
 refine a8 (wpAny_specialOf hT Q3 ?_);generalize Hu:("list_reverseiterator.__length_hint__":String)=Q5
 wp_delta
 rw [show splitId Q5=some ("list_reverseiterator","__length_hint__") from by subst Hu;decide +kernel]
 subst Hu;refine a8 (wpAny_isInstance (T:="list_reverseiterator") (b:=true) hT (by rw [isSubtype_type];kernel_rfl) ?_)
 refine qF (fun jT=>absurd jT (by decide)) (fun _=>?_)
 refine qF (fun _=>?_) (fun jT=>absurd (by decide +kernel) jT)
 refine qF (fun jT=>absurd jT (by decide +kernel)) (fun _=>?_)
 exact cS h
def yW(its acc:Array Value):Prop:=acc.toList=its.toList.reverse
variable {its:Array Value}
theorem Q6{acc:Array Value}(h:ItemsOf (fun i v=>its[its.size-1-i]?=some v) acc its.size):yW its acc:=by
 refine uA fun i=>?_;have ha:=h.1;by_cases hi:i<acc.size
 ·have e1:=h.2 i _ (Array.getElem?_eq_getElem hi)
  rw [wX,Array.getElem?_eq_getElem hi,List.getElem?_reverse (by simpa using (by omega:i<its.size)),fF,wX,e1]
 ·rw [wX,Array.getElem?_eq_none (by omega),w5 (by rw [List.length_reverse,fF];omega)]
variable {R:Result→Shared→Prop} {it:Addr}
theorem Q7(hh:A.handled=none)(hit:s.heap.IsRevIter it l ((its.size:Int)-1))(hl:s.heap.IsList l its)(fw:l≠it)(hlen:its.size≤2 ^ 24)(S:Addr)(res:Value)(c₀:Nat)
  (hS:s.heap.get? S=some {cls:=.type "list",data:=.seq #[] c₀}) (rR:S≠l)
  (hR:∀h' tk g_ c',(∀b o,b≠S→b≠it→s.heap.get? b=some o→h'.get? b=some o)→h'.get? S=some {cls:=.type "list",dict:=none,data:=.seq g_ c',slots:=#[]}→yW its g_→R (.ok (.ret res)) {s with heap:=h',toks:=tk}) :
  wpAny (model prog w) A.in1 (Builtin.List.listExtendWith (.ref S) (.ref it) res)
   (fun fin s'=>match fin with | .done f=>R (.ok f) s' | .again c'=>c'.quiet=true∧codeAny (model prog w) A c' R s') (fun e s'=>R (.error e) s') s:=by
 have hT:=hit.typeIs;have yX:S≠it:=fun e=>by obtain ⟨o,ho,hc,Cu⟩:=hit;rw [e,ho] at hS;cases hS;cases Cu
 have Q8:S∉[it,l]:=fun Q9=>by
  rcases bb.mp Q9 with e | e;·exact yX e
  ·exact rR (dt.mp e)
 have W:=(Walks.listRev (prog:=prog) (w:=w) (A:=A.in1) hh it l fw its).toS
 have key:∀(h:Heap) (c₁ tk:Nat),h.IsRevIter it l ((its.size:Int)-1-((0:Nat):Int))∧h.IsList l its→(∀b o,b≠S→s.heap.get? b=some o→h.get? b=some o)→
   h.get? S=some {cls:=.type "list",data:=.seq #[] c₁}→codeAny (model prog w) A (.builtin "list.extend.loop" ⟨[.ref S,.ref it,res],[]⟩) R {s with heap:=h,toks:=tk}:=by
  intro h c₁ tk hit hk Q_;refine codeAny_extend_loopS W (by rw [md];omega) S Q8 res its.size 0 _ #[] c₁ rfl (b7 _) ⟨b7 _,hit⟩ Q_ (ItemsOf.nil _) fun s' g_ c' HA kS o1=>?_
  rw [Moved.eq_with HA];refine hR s'.heap s'.toks g_ c' (fun b o hb m_ e=>HA.heap b o (fun Cv=>?_) (hk b o hb e)) kS (Q6 o1);rcases bb.mp Cv with e' | Cv;·exact hb e'
  ·exact m_ (dt.mp Cv)
 have Ra:s.heap.IsRevIter it l ((its.size:Int)-1-((0:Nat):Int)):=by
  have e:(its.size:Int)-1-((0:Nat):Int)=(its.size:Int)-1:=by omega
  rw [e];exact hit
 unfold Builtin.List.listExtendWith;refine a8 (wpAny_typeOf (T:="list_reverseiterator") hT ?_);simp only [show Builtin.List.listSameRef (.ref S) (.ref it)=false from by simp [Builtin.List.listSameRef,yX],show (Value.type "list_reverseiterator" == Value.type "list")=false from by decide,show (Value.type "list_reverseiterator" == Value.type "tuple")=false from by decide,Bool.or_false,Bool.false_eq_true,if_false]
 refine a8 (wpAny_pyIter_revIter hit ?_);refine a8 (qq (Q4 hT ?_));refine qF (fun jT=>absurd jT (by decide)) (fun _=>cS ⟨plainId_quiet F.plain_extend_loop _,key _ c₀ _ ⟨Ra,hl⟩ (fun b o _ e=>e) hS⟩)
theorem Rb(hh:A.handled=none)(hit:s.heap.IsRevIter it l ((its.size:Int)-1))(hl:s.heap.IsList l its)(fw:l≠it)(hlen:its.size≤2 ^ 24)(S:Addr)
  (hS:s.heap.get? S=some {cls:=.type "list",data:=.seq #[]}) (rR:S≠l)
  (hR:∀h' tk g_ c',(∀b o,b≠S→b≠it→s.heap.get? b=some o→h'.get? b=some o)→h'.get? S=some {cls:=.type "list",dict:=none,data:=.seq g_ c',slots:=#[]}→yW its g_→R (.ok (.ret .none)) {s with heap:=h',toks:=tk}) :
  wpAny (model prog w) A.in1 (Builtin.«list.__init__» ⟨[.ref S,.ref it],[]⟩)
   (fun fin s'=>match fin with | .done f=>R (.ok f) s' | .again c'=>c'.quiet=true∧codeAny (model prog w) A c' R s') (fun e s'=>R (.error e) s') s:=by
 have yX:S≠it:=fun e=>by
  obtain ⟨o,ho,hc,Cu⟩:=hit
  rw [e,ho] at hS
  cases hS
  cases Cu
 show wpAny _ _ (do let old ←Builtin.List.listItems (.ref S);Builtin.List.listUpdate (.ref S) (fun _=>#[]);letGo old.toList.reverse;Builtin.List.listExtendWith (.ref S) (.ref it) .none) _ _ s
 refine a8 ?_
 unfold Builtin.List.listItems
 refine a8 (wpAny_seqItems hS rfl (cS ?_))
 show wpAny _ _ (updateSeq S (fun _=>#[]) >>= fun _=>letGo (#[]:Array Value).toList.reverse >>= fun _=>Builtin.List.listExtendWith (.ref S) (.ref it) .none) _ _ s
 refine a8 (wpAny_updateSeq hS rfl ?_)
 have Rc:=Heap.get?_update_self (Obj.mapSeq (fun _=>(#[]:Array Value))) hS rfl
 have Cw:∀b o,b≠S→s.heap.get? b=some o→(s.heap.update S (Obj.mapSeq (fun _=>(#[]:Array Value)))).get? b=some o:=fun b o hb e=>(Az _ _ (Ne.symm hb)).trans e
 refine a8 (wpAny_letGo ?_)
 exact Q7 (s:={s with heap:=s.heap.update S (Obj.mapSeq (fun _=>(#[]:Array Value)))}) hh (hit.at fun o e=>Cw it o (Ne.symm yX) e) (hl.at fun o e=>Cw l o (Ne.symm rR) e) fw hlen S .none _ Rc rR fun h' tk g_ c' hk kS o1=>hR h' tk g_ c' (fun b o hb m_ e=>hk b o hb m_ (Cw b o hb e)) kS o1
theorem Rf{Q:aM}(hh:A.handled=none)(hit:s.heap.IsRevIter it l ((its.size:Int)-1))(hl:s.heap.IsList l its)(fw:l≠it)(hlen:its.size≤2 ^ 24)
  (hQ:∀h' tk g_ c',(∀b o,b≠it→s.heap.get? b=some o→h'.get? b=some o)→h'.get? s.heap.objs.size=some {cls:=.type "list",dict:=none,data:=.seq g_ c',slots:=#[]}→yW its g_→Q (.ref s.heap.objs.size) {s with heap:=h',toks:=tk}) :
  wpAny (model prog w) A (call (.type "list") [.ref it]) Q E s:=by
 refine callType_codes (Q₁:=fun obj s₁=>obj=.ref s.heap.objs.size∧s₁={s with heap:=s.heap.push {cls:=.type "list",data:=.seq #[]}}) F.called_list (F.typeCall_list_1 _) F.entry_list_init (code_list_new _ ⟨rfl,rfl⟩) fun obj s₁ h₁=>?_;obtain ⟨rfl,rfl⟩:=h₁;have hS:(s.heap.push {cls:=.type "list",data:=.seq #[]}).get? s.heap.objs.size=some {cls:=.type "list",data:=.seq #[]}:=eI _ rfl;have rR:s.heap.objs.size≠l:=fun e=>by obtain ⟨o,ho,_⟩:=hl;exact eG _ (e▸aU ho)
 refine ⟨⟨_,hS,rfl⟩,F.args_list_init_2 _ _,Rb (s:={s with heap:=s.heap.push {cls:=.type "list",data:=.seq #[]}}) (A:=A.in1) hh (hit.at fun o e=>ck _ e) (hl.at fun o e=>ck _ e) fw hlen _ hS rR fun h' tk g_ c' hk kS o1=>?_⟩;exact ⟨rfl,hQ h' tk g_ c' (fun b o hb e=>hk b o (bX (aU e)) hb (ck _ e)) kS o1⟩
end
section
variable {X:Cx}
def Rg(K:aB)(ta:TA):TE:=fun σ H Q=>ta σ H fun vs H1=>∃(l:Addr) (xs:List V),vs=[.ref l]∧aO K H1 l xs∧xs.length≤10000∧∀D,H1 D=none→Q (.ref D) (upd H1 D (.lst xs.reverse))
theorem Rh{a:Expr}{ta:TA}{pos p2 yY:Pos}(hc:X.calm=true)(hg:Gl X "list")(hm:X.mg "list"=none)(Ri:Gl X "reversed")(rM:X.mg "reversed"=none)(ha:PA X [a] ta)(hs:starEach [a] X.env=[(false,eval a X.env)]:=by rfl)
  (ki:starEach [.Call (.Name "reversed" p2) [a] [] yY] X.env=[(false,eval (.Call (.Name "reversed" p2) [a] [] yY) X.env)]:=by rfl):PE X (.Call (.Name "list" p) [.Call (.Name "reversed" p2) [a] [] yY] [] pos) (Rg X.K ta):=by
 intro pins s σ H Q I h;refine PyProof.Rows.Call_Name1 (kg I hg hm boot_list (callWith_type1 ?_)) ki;refine Call_ (kg I Ri rM boot_reversed (qr (aD (ha yY pins s σ H _ I h) fun us s1 ⟨vs,H1,I1,r1,q1⟩=>?_) hs rfl));obtain ⟨l,xs,e,hq,hx,q⟩:=q1;subst e;cases r1 with
 | cons r rr=>
  cases rr;cases r;obtain ⟨its,rv,pl,hz⟩:=I1.list hq;have vW:=rv.length;obtain ⟨o,n,go,c1,c2,c3⟩:=id pl;refine call_reversed_list pl.isList ?_;refine Rf (its:=its.toArray) (l:=l) (I1.ok.hd hc) ⟨_,eI _ rfl,rfl,rfl⟩ ?_ (bX (aU go)) (by rw [b8];omega) fun h' tk acc c hk hD o1=>?_
  ·exact (show PlainL _ l _ from ⟨o,n,ck _ go,c1,c2,c3⟩).isList
  ·have I2:Inv X pins σ H1 {s1 with heap:=s1.heap.push (revObj l ((its.toArray.size:Int)-1))}:=I1.kept (t':=s1.toks) fun b o e=>ck _ e
   have kp:∀b o,s1.heap.get? b=some o→h'.get? b=some o:=fun b o e=>hk b o (bX (aU e)) (ck _ e);have hsz:s1.heap.objs.size≤(s1.heap.push (revObj l ((its.toArray.size:Int)-1))).objs.size:=by rw [Heap.size_push];exact qw _
   refine ⟨.ref _,_,I1.laid (o:=.lst xs.reverse) kp hsz ⟨?_,acc.toList,c,?_,?_⟩,rfl,q _ (I1.aw.fresh hsz)⟩
   ·rw [List.length_reverse]
    exact cj hx (by decide)
   ·have e:acc.toList=its.reverse:=by rw [o1]
    rw [e];exact rv.reverse
   ·rw [hD]
end
theorem fO.yU{base:Heap}{qual:Str}{st:Stmt}{N ps:List Str}(F:fO K x qual st f fd)(HB:tabIn K fd Pt=true)(S:bQ N ps (bj st))(len:∀vs H Q E,sp vs H Q E→vs.length=ps.length)
  (jB:∀(c:Addr) (A:Around) (outer:List Env) (s:Shared) (H:Hp) (vs:List V) (Q:VK) (E:XK),codeHdIn K c Pt=true→dm k (A.deeper (envOfC qual (bj st) s.heap.objs.size f (.ref c)))→sp vs H Q E→
   ∃t,eL (iY cm P w K mg base N qual (bj st) f (.ref c) A outer s H E).lA (kD st) t∧t {nx:=fun _ H'=>Q .aJ H',rt:=Q} (start N vs) H):bH P w K mg base cm (k+1) f fd ps sp:=by
 obtain ⟨oc,od,kV,doc,pm,an,bK,ct,jA,rfl,lk,dR⟩:=F.ex;cases bK with
 | ref c=>have h2:codeHdIn K c Pt=true:=HB;refine A6 lk dR S len fun A outer s H vs Q E hr ky=>?_;obtain ⟨t,h,q⟩:=jB c A outer s H vs Q E h2 hr ky;exact ⟨t,h.lA,q⟩
 | _=>cases HB
def yZ(K:aB)(Pt:Addr):Sp:=fun vs H Q E=>H Pt=some (.cK #[])∧My.M0 K vs H Q E
theorem Rj{l:PySem.W.OpenLaw}{q:Program}{loose:List Str}{XP:(Str→Option Value)→Heap→Prop}{YP:World→Heap→Prop}{d:DefRec}{K:Params→PySem.W.Frag}(hn:l.most=some 63)(u0:d.params.defaults=[])(hr:dm k callerA)
  (hY:∀(w:World) (h:Heap),YP w h→(K w.params).In h) (hP:∀(w:World) (h:Heap),YP w h→h.get? Pt=some (tabObj #[]))
  (F:∀(w:World) (mg:cy) (fa:Addr) (h:Heap),(K w.params).In h→h.Ns mainGlobals mg→mg d.name=some (.ref fa)→
   (K w.params).lookup Pt=none∧(∃rS,tabIn (K w.params) rS Pt=true)∧∃fd:FuncData,(∀(s:Shared) (u:Value),BindsTo s fd ⟨[u],[]⟩ [("script",u)])∧∀base:Heap,(K w.params).In base→base.Ns mainGlobals mg→jS base mg→bH l.prog w (K w.params) mg base cm k fa fd ["script"] (yZ (K w.params) Pt)) :
  PySem.W.WalkO q loose XP YP l.row.toRowW d [] (fun f vs=>PySem.call f vs):=by
 refine Att.Mr hn u0 fun w s₀ s₁ mg mb fa o pm cd doc a vs ns G Y ho hd dR u4 Bg hints hlen hg=>?_;have KX:=hY w _ Y;obtain ⟨Cn,⟨rS,y4⟩,fd,hb,hF⟩:=F w mg fa _ KX G.T.g u4;have hT:=hP w _ Y;have Co:isCodeTable s₁.heap Pt:=by
  unfold tabIn at y4
  split at y4
  ·exact ((codeHd_of_K KX y4).tab hT).isCodeTable
  ·cases y4
 obtain ⟨bm,ob,b1,b2,b3,b4,b5,b6⟩:=G.T.bmain;exact QK KX G.T.g G.T.b G.T.builtins G.T.nolimit hg hT Cn Co Bg hints (cj hlen (by decide)) hr ⟨bm,ob,b1,b2,b3,b4,b5,b6⟩ hF hb (fun H hO hP hS=>⟨hP,a,ns,rfl,hS,hlen,fun _=>rfl⟩) fun H e s' z=>z
end L2
namespace My
open PySem L2
abbrev jl:Str:=(Str.ofString "likely_order"++Str.ofString ".<locals>.")++Str.ofString "<lambda>"
def eF(L:av)(P:List Nat)(a:Nat):Nat:=(P.filter (rL L a)).length
variable {P:List Nat}
theorem Rk{L:av}{a b:Nat}:eF L (P++[b]) a=eF L P a+if rL L a b=true then 1 else 0:=by
 unfold eF;rw [qC,dP]
 congr 1
 by_cases h:rL L a b=true;·rw [ae h,List.filter_cons_of_pos h];rfl
 ·rw [aa h,List.filter_cons_of_neg h];rfl
variable {n:Nat} {r:Nat→Nat→Bool}
theorem kP.nil:kP n r []:=fun A b B e=>by have:=cR List.length e;simp at this
theorem kP.snoc{p:Nat}(h:kP n r P)(hp:∀a,a<n→a∉P→(P.filter (r a)).length≤(P.filter (r p)).length):kP n r (P++[p]):=fun A b B e a an aA=>by
 rcases List.eq_nil_or_concat B with rfl | ⟨B',x,rfl⟩
 ·have e2:P++[p]=A++[b]:=e
  obtain ⟨rfl,e3⟩:=List.append_inj' e2 rfl;cases e3;exact hp a an aA
 ·have e2:P++[p]=(A++b::B')++[x]:=by rw [e];simp
  obtain ⟨e3,_⟩:=List.append_inj' e2 rfl;exact h A b B' e3 a an aA
theorem Rm{α:Type}{j:Nat}{g:Nat→α}{v:α}:((List.range n).map g).set j v=(List.range n).map fun a=>if a=j then v else g a:=by
 refine uA fun i=>?_;rw [List.getElem?_set,aG,eW,bD,bD];by_cases hi:i<n
 ·rw [mj hi]
  by_cases e:j=i
  ·subst e
   simp [hi]
  ·rw [aa e]
   simp [Ne.symm e]
 ·rw [w5 (by rw [eW];omega)]
  by_cases e:j=i
  ·subst e
   simp [hi]
  ·rw [aa e]
   rfl
theorem getD_map{y:Nat}{g:Nat→Int}(h:y<n):((List.range n).map g).getD y 0=g y:=by rw [b9,bD,mj h];rfl
def Rn(Pt:Addr)(pl:Pos):Sp:=fun vs H Q _=>∃(tp:Addr) (n:Nat) (L:av),vs=[.ref tp]∧c_ H tp n L∧g8 n L∧n≤1000∧cW Pt pl jl H ∧
 ∀(H':Hp) (D:Addr) (Pk:List Nat),dO Pt H H'→cW Pt pl jl H'→H D=none→H' D=some (.lst (Pk.reverse.map fun k:Nat=>V.int (k:Int)))→Pk.Perm (List.range n)→kP n (rL L) Pk→Q (.ref D) H'
end My
namespace L2
open PySem
variable {Pt:Addr} {pl:Pos} {q:Str} {H H':Hp}
theorem cW.mono(h:cW Pt pl q H)(s:ak H H'):cW Pt pl q H':=by
 rcases h with h | ⟨c,n,h1,h2⟩;·exact .inl (s _ _ h)
 ·exact .inr ⟨c,n,s _ _ h1,s _ _ h2⟩
theorem cW.at(h:cW Pt pl q H):∃ps,H Pt=some (.cK ps):=by
 rcases h with h | ⟨c,n,h1,h2⟩;·exact ⟨_,h⟩
 ·exact ⟨_,h1⟩
theorem cW.off{a:Addr}{u:HO}(h:cW Pt pl q H)(ea:H a=some u)(n1:∀ps,u≠.cK ps)(n2:∀φ,u≠.ext φ)(s:∀b o,b≠a→H b=some o→H' b=some o):cW Pt pl q H':=by
 have nP:∀ps,H Pt=some (.cK ps)→Pt≠a:=fun ps e z=>by rw [z,ea] at e;exact n1 ps (Option.some.inj e)
 rcases h with h | ⟨c,n,h1,h2⟩;·exact .inl (s _ _ (nP _ h) h)
 ·exact .inr ⟨c,n,s _ _ (nP _ h1) h1,s _ _ (fun z=>by rw [z,ea] at h2;exact n2 _ (Option.some.inj h2)) h2⟩
end L2
namespace My
open PySem L2
variable {n:Nat} {L:av}
theorem HC{Pt t:Addr}{H H':Hp}{ps:Array Value}(h:c_ H t n L)(hP:H Pt=some (.cK ps))(s:dO Pt H H'):c_ H' t n L:=by
 have at':∀{b:Addr} {xs:List V},H b=some (.tup xs)→H' b=some (.tup xs):=fun{b xs} e=>s b _ (fun z=>by rw [z,hP] at e;cases e) e
 obtain ⟨lt,us,e1,e2,e3,e4⟩:=h;exact ⟨lt,us,at' e1,at' e2,e3,fun k x p h1 h2=>let ⟨b,q1,q2⟩:=e4 k x p h1 h2;⟨b,q1,at' q2⟩⟩
theorem HD{r:Nat→Nat→Bool}{m:Nat→Nat}:∀{l:List Nat},Good r m l→(l.map m).sum=p2 (fW r) l
 | [],_=>rfl
 | x::l,⟨h1,_,h3⟩=>by rw [cT,eK,HD h3,h1];rfl
variable {M:av} {o:List Nat}
theorem XF(ho:o.Perm (List.range n))(f:cx n L o M){g:Nat→List Nat}(hg:∀p,p<n→jO n o p (g p)∧m9 n L o p (g p)) :
  ((List.range n).map fun x=>(g x).length).sum=M.length:=by
 have nd:M.Nodup:=f.1.imp fun h e=>by subst e;unfold lexLt at h;omega
 have gs:=HD (Cg ho f hg o [] rfl);rw [←(ho.map fun x=>(g x).length).sum_nat,gs,oX nd f.lt,Cd (fun x y=>by unfold fW;rw [jP]) ho]
theorem Ro(ho:o.Perm (List.range n))(f:cx n L o M)(nl:L.Nodup)(lt:∀z∈L,0≤z.1∧z.1<z.2∧z.2<(n:Int)):L.length≤M.length:=by
 have nd:M.Nodup:=f.1.imp fun h e=>by subst e;unfold lexLt at h;omega
 have sub:∀a b:Nat,rL L a b=true→rL M a b=true:=by
  have go:∀a b:Nat,((a:Int),(b:Int))∈L→rL M a b=true:=fun a b h=>by
   have:=lt _ h;have ha:a<n:=by omega
   have hb:b<n:=by omega
   have ne:=gB ho ha hb (by omega)
   by_cases ab:o.idxOf a<o.idxOf b;·exact (fY f ha hb ab).mpr (.one ⟨ha,hb,.inl h⟩)
   ·rw [jP]
    exact (fY f hb ha (by omega)).mpr (.one ⟨hb,ha,.inr h⟩)
  intro a b h;rcases dZ.mp h with h | h;·exact go a b h
  ·rw [jP]
   exact go b a h
 have h1:p2 (fW (rL L)) (List.range n)≤p2 (fW (rL M)) (List.range n):=yP fun x _ y _=>by
  unfold fW;by_cases h:rL L x y
  ·rw [ae h,ae (sub x y h)]
   exact ax _
  ·rw [aa h]
   exact b7 _
 rw [oX nl lt,oX nd f.lt];exact h1
end My
namespace L2
open PySem My
variable {Pt P a:Addr} {pl:Pos} {q:Str} {H H':Hp}
theorem cW.HE(h:cW Pt pl q H)(p:bT H P a)(s:aN P H H'):cW Pt pl q H':=by
 obtain ⟨x,y,eP,_⟩:=p;have ne:∀{b:Addr} {o:HO},H b=some o→(∀xs,o≠.lst xs)→b≠P:=fun{b o} e n z=>by rw [z,eP] at e;exact n _ (Option.some.inj e).symm
 rcases h with h | ⟨c,n,h1,h2⟩;·exact .inl (s.at (ne h fun _ z=>by cases z) h)
 ·exact .inr ⟨c,n,s.at (ne h1 fun _ z=>by cases z) h1,s.at (ne h2 fun _ z=>by cases z) h2⟩
theorem cW.Rp(h:cW Pt pl q H)(p:bT H P a):P≠Pt:=fun z=>by obtain ⟨x,y,eP,_⟩:=p;obtain ⟨ps,e⟩:=h.at;rw [z,e] at eP;cases eP
theorem dO.i7(s:dO Pt H H')(n:P≠Pt)(p:bT H P a):bT H' P a:=by obtain ⟨x,y,eP,r⟩:=p;exact ⟨x,y,s _ _ n eP,r⟩
theorem dO.er(s:dO Pt H H'):dO Pt (My.er P H) (My.er P H'):=fun b o n e=>by
 unfold My.er at e ⊢;by_cases z:b=P;·rw [ae z] at e;cases e
 ·rw [aa z] at e ⊢
  exact s b o n e
end L2
namespace My
open PySem L2
section
variable {E:Nat→Nat→Prop}
def ng(E:Nat→Nat→Prop)(V:List Nat)(x c:Nat):Prop:=c∈V∧c≠x∧¬E x c
structure kT (E:Nat→Nat→Prop) (V:List Nat) (x y z:Nat):Prop where
 xV:x∈V
 yV:y∈V
 zV:z∈V
 xy:E x y
 xz:E x z
 ne:y≠z
 no:¬E y z
 wk:Wk E (ng E V x) y z
def Simp(E:Nat→Nat→Prop)(V:List Nat)(s:Nat):Prop:=∀b c,b∈V→c∈V→b≠c→E s b→E s c→E b c
open Classical in
theorem Cy(sy:∀a b,E a b→E b a)(ir:∀a,¬E a a):∀(m:Nat) (V:List Nat),V.length≤m→(∀x y z,¬kT E V x y z)→∀x v,x∈V→v∈V→v≠x→¬E x v→∃s,ng E V x s∧Simp E V s
 | 0,V,hm,_,x,_,hx,_,_,_=>by
  cases V with
  | nil=>cases hx
  | cons=>simp at hm
 | m+1,V,hm,nh,x,v,hx,hv,vx,nv=>by
  have tv:ng E V x v:=⟨hv,vx,nv⟩
  let C:Nat→Prop:=fun c=>ng E V x c∧(c=v∨Wk E (ng E V x) v c)
  let S:Nat→Prop:=fun y=>y∈V∧E x y∧∃c,C c∧E c y
  have toV:∀y c,C c→E c y→Wk E (ng E V x) y v:=fun y c hc e=>by
   rcases hc.2 with rfl | h;·exact .one (sy _ _ e)
   ·exact (Wk.one (sy _ _ e)).trans hc.1 (h.symm sy)
  have Sc:∀y z,S y→S z→y≠z→E y z:=fun y z hy hz ne=>by refine f_ fun no=>?_;obtain ⟨c,hc,ec⟩:=hy.2.2;obtain ⟨d,hd,ed⟩:=hz.2.2;exact nh x y z ⟨hx,hy.1,hz.1,hy.2.1,hz.2.1,ne,no,(toV y c hc ec).trans tv ((toV z d hd ed).symm sy)⟩
  have HF:∀t b,C t→b∈V→E t b→C b∨S b:=fun t b ht hb e=>by
   by_cases h:E x b;·exact .inr ⟨hb,h,t,ht,e⟩
   ·have bx:b≠x:=fun z=>ht.1.2.2 (by rw [←z];exact sy _ _ e)
    refine .inl ⟨⟨hb,bx,h⟩,.inr ?_⟩;rcases ht.2 with rfl | w;·exact .one e
    ·exact .more w ht.1 e
  have XG:∀s,C s→¬S s:=fun s hc hs=>hc.1.2.2 hs.2.1
  let V':=V.filter fun c=>decide (C c∨S c)
  have hE:∀c,c∈V'↔c∈V∧(C c∨S c):=fun c=>by show c∈V.filter _↔_;rw [d6,ie]
  have CV:∀c,C c→c∈V':=fun c h=>(hE c).mpr ⟨h.1.1,.inl h⟩;have SV:∀c,S c→c∈V':=fun c h=>(hE c).mpr ⟨h.1,.inr h⟩;have Rq:x∉V':=fun h=>by
   rcases ((hE x).mp h).2 with h | h;·exact h.1.2.1 rfl
   ·exact ir x h.2.1
  have lt:V'.length≤m:=by
   have h1:V'.length<V.length:=by
    have h2:=List.length_filter_lt_length_iff_exists (l:=V) (p:=fun c=>decide (C c∨S c)) |>.mpr ⟨x,hx,by rw [ie];intro h;exact Rq ((hE x).mpr ⟨hx,h⟩)⟩
    exact h2
   omega
  have HG:∀x y z,¬kT E V' x y z:=fun a b c h=>nh a b c ⟨((hE _).mp h.xV).1,((hE _).mp h.yV).1,((hE _).mp h.zV).1,h.xy,h.xz,h.ne,h.no,h.wk.mono fun d hd=>⟨((hE _).mp hd.1).1,hd.2⟩⟩;have fin:∀t,C t→Simp E V' t→∃s,ng E V x s∧Simp E V s:=fun t ht hs=>by
   refine ⟨t,ht.1,fun b c hb hc ne eb ec=>hs b c ?_ ?_ ne eb ec⟩;·exact (hE b).mpr ⟨hb,HF t b ht hb eb⟩
   ·exact (hE c).mpr ⟨hc,HF t c ht hc ec⟩
  by_cases ha:∃s u,S s∧u∈V'∧u≠s∧¬E s u
  ·obtain ⟨s,u,hs,hu,us,nu⟩:=ha
   obtain ⟨t,ht,st⟩:=Cy sy ir m V' lt HG s u (SV s hs) hu us nu;refine fin t ?_ st;rcases ((hE t).mp ht.1).2 with h | h;·exact h
   ·exact absurd (Sc s t hs h (Ne.symm ht.2.1)) ht.2.2
  ·have full:∀s u,S s→u∈V'→u≠s→E s u:=fun s u hs hu us=>f_ fun z=>ha ⟨s,u,hs,hu,us,z⟩
   by_cases hb:∃u w,C u∧C w∧w≠u∧¬E u w
   ·obtain ⟨u,w,hu,hw,uw,nu⟩:=hb
    obtain ⟨t,ht,st⟩:=Cy sy ir m V' lt HG u w (CV u hu) (CV w hw) uw nu;refine fin t ?_ st;rcases ((hE t).mp ht.1).2 with h | h;·exact h
    ·exact absurd (sy _ _ (full t u h (CV u hu) (Ne.symm ht.2.1))) ht.2.2
   ·have vC:C v:=⟨tv,.inl rfl⟩
    refine fin v vC fun b c g9 du ne eb ec=>?_;rcases ((hE b).mp g9).2 with h | h
    ·rcases ((hE c).mp du).2 with h2 | h2
     ·exact f_ fun z=>hb ⟨b,c,h,h2,Ne.symm ne,z⟩
     ·exact sy _ _ (full c b h2 g9 ne)
    ·exact full b c h du (Ne.symm ne)
theorem Rr(sy:∀a b,E a b→E b a)(ir:∀a,¬E a a){V:List Nat}(hV:V≠[])(nh:∀x y z,¬kT E V x y z):∃s,s∈V∧Simp E V s:=by
 by_cases h:∃x v,x∈V∧v∈V∧v≠x∧¬E x v
 ·obtain ⟨x,v,hx,hv,vx,nv⟩:=h
  obtain ⟨s,hs,ss⟩:=Cy sy ir _ V (ax _) nh x v hx hv vx nv;exact ⟨s,hs.1,ss⟩
 ·cases V with
  | nil=>exact absurd rfl hV
  | cons a V=>exact ⟨a,cE,fun b c hb hc ne _ _=>f_ fun z=>h ⟨b,c,hb,hc,Ne.symm ne,z⟩⟩
theorem HH(sy:∀a b,E a b→E b a)(ir:∀a,¬E a a):∀(m:Nat) (V:List Nat),V.length=m→(∀x y z,¬kT E V x y z)→∃o:List Nat,o.Perm V∧∀A x B,o=A++x::B→∀b c,b∈B→c∈B→b≠c→E x b→E x c→E b c
 | 0,V,hm,_=>by
  cases V with
  | nil=>exact ⟨[],List.Perm.refl _,fun A x B e=>by simp at e⟩
  | cons=>simp at hm
 | m+1,V,hm,nh=>by
  have hV:V≠[]:=fun z=>by rw [z] at hm;simp at hm
  obtain ⟨s,hs,ss⟩:=Rr sy ir hV nh;have sub:∀c,c∈V.erase s→c∈V:=fun c h=>List.mem_of_mem_erase h;obtain ⟨o,po,ho⟩:=HH sy ir m (V.erase s) (by rw [xj hs];omega) fun a b c h=>nh a b c ⟨sub _ h.xV,sub _ h.yV,sub _ h.zV,h.xy,h.xz,h.ne,h.no,h.wk.mono fun d hd=>⟨sub _ hd.1,hd.2⟩⟩
  refine ⟨s::o,(po.cons s).trans (List.perm_cons_erase hs).symm,fun A x B e b c hb hc ne eb ec=>?_⟩;cases A with
  | nil=>injection e with e1 e2;subst e1;subst e2;exact ss b c (sub _ (po.mem_iff.mp hb)) (sub _ (po.mem_iff.mp hc)) ne eb ec
  | cons a A=>injection e with e1 e2;exact ho A x B e2 b c hb hc ne eb ec
end
variable {n:Nat} {L:av}
theorem Rt(pw:L.Pairwise lexLt)(lt:∀z∈L,0≤z.1∧z.1<z.2∧z.2<(n:Int))(no:∀o:List Nat,o.Perm (List.range n)→¬cx n L o L):∃x y z,kT (aL n L) (List.range n) x y z:=by
 refine f_ fun nh=>?_;have ir:∀a,¬aL n L a a:=fun a h=>by rcases h.2.2 with e | e <;> (have:=lt _ e;omega)
 obtain ⟨o,po,ho⟩:=HH eS ir _ (List.range n) rfl fun x y z h=>nh ⟨x,y,z,h⟩;refine no o po (G2 po pw lt fun a b c an bn cn ab ac ne e1 e2=>?_);obtain ⟨A,B,e⟩:=List.append_of_mem ((fE po).mpr an);have nd:=m5 po;have HI:∀d,d<n→o.idxOf a<o.idxOf d→d∈B:=fun d dn lt=>by
  have hm:=(fE po).mpr dn;rw [e] at hm lt nd;rw [jt] at nd;have aA:a∉A:=fun z=>nd.2.2 a z a cE rfl;rw [lp,aa aA,uI] at lt;rcases dI.mp hm with h | h
  ·rw [lp,ae h] at lt
   have:=mx h;omega
  ·rcases bb.mp h with rfl | h
   ·rw [lp,aa aA,uI] at lt
    omega
   ·exact h
 exact ho A a B e b c (HI b bn ab) (HI c cn ac) ne e1 e2
def vY(E:Nat→Nat→Prop):List Nat→Prop
 | []=>True
 | a::r=>(∀b,r.head?=some b→E a b)∧(∀d∈r.drop 1,¬E a d)∧vY E r
theorem vY.at{E:Nat→Nat→Prop}:∀{p:List Nat},vY E p→∀(i j:Nat) (hi:i<p.length) (hj:j<p.length),i<j→(E p[i] p[j]↔j=i+1)
 | [],_,i,_,hi,_,_=>by simp at hi
 | a::r,⟨h1,h2,h3⟩,0,j,_,hj,ij=>by
  obtain ⟨j,rfl⟩:∃k,j=k+1:=⟨j-1,by omega⟩
  have dA:j<r.length:=by simpa using hj
  simp only [AI,qG];constructor
  ·intro e
   refine f_ fun z=>h2 r[j] ?_ e;rw [List.mem_iff_getElem];exact ⟨j-1,by rw [wW];omega,by rw [List.getElem_drop];congr 1;omega⟩
  ·intro e
   have:j=0:=by omega
   subst this;exact h1 _ (by rw [List.head?_eq_getElem?,bU dA])
 | a::r,⟨h1,h2,h3⟩,i+1,j,hi,hj,ij=>by
  obtain ⟨j,rfl⟩:∃k,j=k+1:=⟨j-1,by omega⟩
  simp only [qG];rw [h3.at i j (by simpa using hi) (by simpa using hj) (by omega)]
  omega
theorem Ru(pw:L.Pairwise lexLt)(lt:∀z∈L,0≤z.1∧z.1<z.2∧z.2<(n:Int)){r:List Nat}(m4:4≤r.length)(nd:r.Nodup)(rn:∀d∈r,d<n)
  (h:∀(i j:Nat) (hi:i<r.length) (hj:j<r.length),i<j→(aL n L r[i] r[j]↔j=i+1∨(i=0∧j=r.length-1))):fV L (r.map iN):=by
 have lm:(r.map iN).length=r.length:=aG ..;have gz:∀(k:Nat) (hk:k<r.length),(r.map iN).getD k 0=((r[k]:Nat):Int):=fun k hk=>by rw [b9,bD,bU hk];rfl
 have inj:∀(i j:Nat) (hi:i<r.length) (hj:j<r.length),r[i]=r[j]→i=j:=fun i j hi hj e=>(nN nd).mp e;have nx:∀k,k<r.length→(k+1) % r.length<r.length:=fun k _=>Nat.mod_lt _ (by omega)
 have jU:∀k,k<r.length→(k+1<r.length∧(k+1) % r.length=k+1)∨(k=r.length-1∧(k+1) % r.length=0):=fun k hk=>by
  by_cases z:k+1<r.length;·exact .inl ⟨z,uG z⟩
  ·exact .inr ⟨by omega,by rw [show k+1=r.length by omega,uH]⟩
 have lk:∀(i j:Nat) (hi:i<r.length) (hj:j<r.length),i≠j→(aL n L r[i] r[j]↔j=(i+1) % r.length∨i=(j+1) % r.length):=fun i j hi hj ne=>by
  by_cases ij:i<j
  ·rw [h i j hi hj ij]
   rcases jU i hi with ⟨a1,a2⟩ | ⟨a1,a2⟩ <;> rcases jU j hj with ⟨b1,b2⟩ | ⟨b1,b2⟩ <;> omega
  ·have:aL n L r[i] r[j]↔aL n L r[j] r[i]:=⟨eS _ _,eS _ _⟩
   rw [this,h j i hj hi (by omega)]
   rcases jU i hi with ⟨a1,a2⟩ | ⟨a1,a2⟩ <;> rcases jU j hj with ⟨b1,b2⟩ | ⟨b1,b2⟩ <;> omega
 have Rv:(r.map iN).Nodup:=nd.map (f:=iN) fun a b ne e=>ne (by have:(a:Int)=(b:Int):=e;omega)
 refine ⟨by rw [lm];exact m4,Rv,?_⟩
 have Rw:L.Nodup:=pw.imp fun h e=>by subst e;unfold lexLt at h;omega
 have Rx:(fU (r.map iN)).Nodup:=by
  unfold fU;rw [lm];refine uD.mpr (xl (fun{a b} ha hb ab=>?_) (nW (n:=r.length)));have ha:=bY.mp ha;have hb:=bY.mp hb;intro e;rw [gz a ha,gz b hb,gz _ (nx a ha),gz _ (nx b hb)] at e;injection e with e1 e2;have key:(r[a]=r[b]∧r[(a+1) % r.length]'(nx a ha)=r[(b+1) % r.length]'(nx b hb))∨(r[a]=r[(b+1) % r.length]'(nx b hb)∧r[(a+1) % r.length]'(nx a ha)=r[b]):=by omega
  rcases key with ⟨k1,_⟩ | ⟨k1,k2⟩;·exact ab (inj a b ha hb k1)
  ·have q1:=inj _ _ ha (nx b hb) k1
   have q2:=inj _ _ (nx a ha) hb k2;rcases jU a ha with ⟨a1,a2⟩ | ⟨a1,a2⟩ <;> rcases jU b hb with ⟨b1,b2⟩ | ⟨b1,b2⟩ <;> omega
 refine (xm Rx (Rw.filter _)).mpr fun p=>?_;constructor
 ·intro hp
  unfold fU at hp;rw [lm] at hp;obtain ⟨k,hk,rfl⟩:=b_.mp hp;have hk:=bY.mp hk;rw [gz k hk,gz _ (nx k hk)];have ne:k≠(k+1) % r.length:=by rcases jU k hk with ⟨a1,a2⟩ | ⟨a1,a2⟩ <;> omega
  have e:=(lk k _ hk (nx k hk) ne).mpr (.inl rfl);have mz:∀(i:Nat) (hi:i<r.length),((r[i]:Nat):Int)∈r.map iN:=fun i hi=>b_.mpr ⟨r[i],bJ hi,rfl⟩;have m1:=mz k hk;have m2:=mz _ (nx k hk);rcases e.2.2 with q | q
  ·have l:=lt _ q
   dsimp only at l;rw [xq (by omega),xr (by omega)]
   exact d6.mpr ⟨q,by simp only [m1,m2,decide_true,Bool.and_self]⟩
  ·have l:=lt _ q
   dsimp only at l;rw [xt (by omega),xu (by omega)]
   exact d6.mpr ⟨q,by simp only [m1,m2,decide_true,Bool.and_self]⟩
 ·intro hp
  obtain ⟨hL,hz⟩:=d6.mp hp;rw [f9] at hz;obtain ⟨i',hi,e1⟩:=nS (b_.mp (eY hz.1)).choose_spec.1;obtain ⟨j',hj,e2⟩:=nS (b_.mp (eY hz.2)).choose_spec.1;have f1:=(b_.mp (eY hz.1)).choose_spec.2;have f2:=(b_.mp (eY hz.2)).choose_spec.2;rw [←e1] at f1;rw [←e2] at f2;have f1:((r[i']:Nat):Int)=p.1:=f1;have f2:((r[j']:Nat):Int)=p.2:=f2;have l:=lt _ hL;have ne:i'≠j':=fun z=>by subst z;omega
  have ep:(((r[i']:Nat):Int),((r[j']:Nat):Int))=p:=Prod.ext f1 f2;have e:aL n L r[i'] r[j']:=⟨rn _ (bJ hi),rn _ (bJ hj),.inl (by rw [ep];exact hL)⟩
  unfold fU;rw [lm];rcases (lk i' j' hi hj ne).mp e with q | q
  ·refine b_.mpr ⟨i',bY.mpr hi,?_⟩
   subst q;rw [gz i' hi,gz _ hj,xq (by omega),xr (by omega)]
   exact ep
  ·refine b_.mpr ⟨j',bY.mpr hj,?_⟩
   subst q;rw [gz j' hj,gz _ hi,xt (by omega),xu (by omega)]
   exact ep
def oV:Option Nat→V
 | none=>.aJ
 | some p=>.int (p:Int)
def cX(wl:List (Nat×Option Nat)):List (Key×V):=wl.map fun q=>((Sum.inl (q.1:Int):Key),oV q.2)
def bE(wl:List (Nat×Option Nat)):List Nat:=wl.map (·.1)
theorem Ry(wl:List (Nat×Option Nat)):(cX wl).length=wl.length:=aG ..
theorem kys_len(wl:List (Nat×Option Nat)):(bE wl).length=wl.length:=aG ..
variable {wl:List (Nat×Option Nat)} {k:Nat}
theorem lookup_mem:(wl.lookup k).isSome=true↔k∈bE wl:=by
 induction wl with
 | nil=>simp [bE]
 | cons q r ih=>
  obtain ⟨a,b⟩:=q;unfold bE at ih ⊢;rw [cT,bb,List.lookup_cons];by_cases e:k=a;·subst e;simp
  ·rw [show (k == a)=false from by simpa using e,←ih]
   simp [e]
theorem y6(wl:List (Nat×Option Nat))(k:Nat):fg (cX wl) (Sum.inl (k:Int):Key)=(wl.lookup k).map oV:=by
 induction wl with
 | nil=>rfl
 | cons q r ih=>
  obtain ⟨a,b⟩:=q;unfold fg cX at ih ⊢;rw [cT,nY,List.lookup_cons];by_cases e:k=a;·subst e;simp
  ·rw [show (k == a)=false from by simpa using e,show decide ((Sum.inl (a:Int):Key)=Sum.inl (k:Int))=false from bt (by simp;omega)]
   exact ih
variable {p:Option Nat}
theorem Cz(h:k∉bE wl):putK (cX wl) (Sum.inl (k:Int):Key) (oV p)=cX (wl++[(k,p)]):=by
 have ha:((cX wl).any fun kv=>decide (kv.1=(Sum.inl (k:Int):Key)))=false:=by
  rw [wU];intro x hx e;obtain ⟨q,hq,rfl⟩:=b_.mp hx;have e:=eY e;simp at e;have:q.1=k:=by omega
  exact h (b_.mpr ⟨q,hq,this⟩)
 unfold putK;rw [aa (by rw [ha];decide)]
 unfold cX;rw [fG];rfl
theorem HJ{v:Nat}{o:Option Nat}(h:wl.lookup v=some o):(wl++[(k,p)]).lookup v=some o:=by rw [List.lookup_append,h];rfl
theorem HK(h:k∉bE wl):(wl++[(k,p)]).lookup k=some p:=by
 have:wl.lookup k=none:=by
  cases e:wl.lookup k with
  | none=>rfl
  | some o=>exact absurd (lookup_mem.mp (by rw [e];rfl)) h
 rw [List.lookup_append,this];simp [List.lookup]
inductive Back (wl:List (Nat×Option Nat)):Nat→List Nat→Prop where
 | last {v:Nat}:wl.lookup v=some none→Back wl v [v]
 | step {v p:Nat} {ws:List Nat}:wl.lookup v=some (some p)→Back wl p ws→Back wl v (v::ws)
variable {ws:List Nat}
theorem Back.more{v:Nat}(h:Back wl v ws):Back (wl++[(k,p)]) v ws:=by
 induction h with
 | last h=>exact .last (HJ h)
 | step h _ ih=>exact .step (HJ h) ih
def kU(E:Nat→Nat→Prop)(wl:List (Nat×Option Nat))(d:Nat):Prop:=∀u,E d u→u∈bE wl
variable {E:Nat→Nat→Prop}
theorem kU.more{q:Nat×Option Nat}{d:Nat}(h:kU E wl d):kU E (wl++[q]) d:=fun u e=>by unfold bE;rw [fG];exact l_ _ (h u e)
structure fj (n:Nat) (E:Nat→Nat→Prop) (wl:List (Nat×Option Nat)) (x s:Nat) (c:Option Nat) (h:Nat) (ws:List Nat):Prop where
 bk:Back wl h (h::ws)
 ind:vY E (h::ws)
 nd:(h::ws).Nodup
 away:∀d∈h::ws,d=s∨¬E x d
 nx:x∉h::ws
 lt:∀d∈h::ws,d<n
 lst:(h::ws).getLast?=some s
 sh:∀d∈ws,some d=c∨kU E wl d
variable {x s h:Nat}
theorem fj.more{c:Option Nat}(w:fj n E wl x s c h ws)(q:Nat×Option Nat):fj n E (wl++[q]) x s c h ws:=
 ⟨w.bk.more,w.ind,w.nd,w.away,w.nx,w.lt,w.lst,fun d hd=>(w.sh d hd).imp id kU.more⟩
theorem fj.CA{c:Nat}(w:fj n E wl x s (some c) h ws)(sc:kU E wl c)(c':Option Nat):fj n E wl x s c' h ws:=
 ⟨w.bk,w.ind,w.nd,w.away,w.nx,w.lt,w.lst,fun d hd=>.inr ((w.sh d hd).elim (fun e=>by cases e;exact sc) id)⟩
theorem fj.Rz(w:fj n E wl x s none h ws)(c':Option Nat):fj n E wl x s c' h ws:=
 ⟨w.bk,w.ind,w.nd,w.away,w.nx,w.lt,w.lst,fun d hd=>.inr ((w.sh d hd).elim (fun e=>by cases e) id)⟩
theorem Back.keys{v:Nat}(h:Back wl v ws):∀d∈ws,d∈bE wl:=by
 induction h with
 | last h=>intro d hd;rw [dt.mp hd];exact lookup_mem.mp (by rw [h];rfl)
 | step h _ ih=>
  intro d hd;rcases bb.mp hd with rfl | hd;·exact lookup_mem.mp (by rw [h];rfl)
  ·exact ih d hd
variable {o:Nat}
theorem fj.fresh(sy:∀a b,E a b→E b a)(w:fj n E wl x s none h ws)(ho:o∉bE wl):(∀d∈ws,¬E o d)∧o∉h::ws:=by
 refine ⟨fun d hd e=>?_,fun z=>ho (w.bk.keys o z)⟩;rcases w.sh d hd with e' | e';·cases e'
 ·exact ho (e' o (sy _ _ e))
structure eU (n:Nat) (E:Nat→Nat→Prop) (wl:List (Nat×Option Nat)) (x s:Nat) (pend:List Nat) (c:Option Nat):Prop where
 xk:x∈bE wl
 sk:s∈bE wl
 nd:(bE wl).Nodup
 lt:∀k∈bE wl,k<n
 near:∀u∈bE wl,u≠x→u≠s→E x u→E s u
 walk:∀u∈bE wl,u≠x→(u=s∨¬E x u)→some u=c∨kU E wl u∨u∈pend
 way:∀h∈pend,∃ws,fj n E wl x s c h ws
theorem CB{ks:List Nat}(nd:ks.Nodup)(lt:∀k∈ks,k<n):ks.length≤n:=iL.len ⟨nd,lt⟩
section
variable {n:Nat} {E:Nat→Nat→Prop} {wl:List (Nat×Option Nat)} {x s:Nat} {pend:List Nat} {c:Option Nat}
theorem eU.len(b:eU n E wl x s pend c):wl.length≤n:=by rw [←kys_len];exact CB b.nd b.lt
theorem eU.start(xs:x≠s)(xn:x<n)(sn:s<n):eU n E [(x,none),(s,none)] x s [s] none:=by
 have ks:bE [(x,none),(s,none)]=[x,s]:=rfl;refine ⟨by rw [ks];simp,by rw [ks];simp,by rw [ks];simp [xs],fun k hk=>?_,fun u hu ux us=>?_,fun u hu ux h=>?_,fun h hh=>?_⟩
 ·rw [ks] at hk
  simp at hk;rcases hk with rfl | rfl <;> assumption
 ·rw [ks] at hu
  simp at hu;rcases hu with rfl | rfl;·exact absurd rfl ux
  ·exact absurd rfl us
 ·rw [ks] at hu
  simp at hu;rcases hu with rfl | rfl;·exact absurd rfl ux
  ·exact .inr (.inr (by simp))
 ·rw [dt.mp hh]
  refine ⟨[],.last ?_,⟨(fun b e=>by cases e),(fun d hd=>by simp at hd),trivial⟩,by simp,fun d hd=>.inl (dt.mp hd),fun z=>xs (dt.mp z),fun d hd=>by rw [dt.mp hd];exact sn,rfl,fun d hd=>nomatch hd⟩
  rw [List.lookup_cons,show (s == x)=false from by simpa using Ne.symm xs]
  simp [List.lookup]
theorem eU.opened(b:eU n E wl x s (h::pend) none):eU n E wl x s pend (some h):=
 ⟨b.xk,b.sk,b.nd,b.lt,b.near,fun u hu ux q=>by
  rcases b.walk u hu ux q with e | e | e;·cases e
  ·exact .inr (.inl e)
  ·rcases bb.mp e with rfl | e
   ·exact .inl rfl
   ·exact .inr (.inr e),fun g hg=>let ⟨ws,w⟩:=b.way g (bP _ hg);⟨ws,w.Rz _⟩⟩
theorem eU.CA(b:eU n E wl x s pend (some h))(sc:kU E wl h):eU n E wl x s pend none:=
 ⟨b.xk,b.sk,b.nd,b.lt,b.near,fun u hu ux q=>by
  rcases b.walk u hu ux q with e | e | e
  ·cases e
   exact .inr (.inl sc)
  ·exact .inr (.inl e)
  ·exact .inr (.inr e),fun g hg=>let ⟨ws,w⟩:=b.way g hg;⟨ws,w.CA sc _⟩⟩
theorem vZ{q:Nat×Option Nat}{u:Nat}:u∈bE (wl++[q])↔u∈bE wl∨u=q.1:=by unfold bE;rw [fG,dI];simp
theorem eU.met(b:eU n E wl x s pend (some h))(ho:o∉bE wl)(on:o<n)(eo:E x o→E s o)(wo:¬E x o→∃ws,fj n E (wl++[(o,some h)]) x s (some h) o ws){rE:List Nat}(hp:∀u,u∈rE↔u∈pend∨(u=o∧¬E x o)):eU n E (wl++[(o,some h)]) x s rE (some h):=by
 refine ⟨vZ.mpr (.inl b.xk),vZ.mpr (.inl b.sk),?_,fun k hk=>?_,fun u hu ux us e=>?_,fun u hu ux q=>?_,fun g hg=>?_⟩
 ·unfold bE
  rw [fG,jt];refine ⟨b.nd,by simp,fun a ha b' g9 e=>?_⟩
  have:b'=o:=by simpa using g9
  subst this;subst e;exact ho ha
 ·rcases vZ.mp hk with h | rfl
  ·exact b.lt k h
  ·exact on
 ·rcases vZ.mp hu with h | rfl
  ·exact b.near u h ux us e
  ·exact eo e
 ·rcases vZ.mp hu with h | rfl
  ·rcases b.walk u h ux q with e | e | e
   ·exact .inl e
   ·exact .inr (.inl e.more)
   ·exact .inr (.inr ((hp u).mpr (.inl e)))
  ·rcases q with q | q
   ·exact absurd b.sk (by rw [←q];exact ho)
   ·exact .inr (.inr ((hp _).mpr (.inr ⟨rfl,q⟩)))
 ·rcases (hp g).mp hg with h | ⟨rfl,h⟩
  ·obtain ⟨ws,w⟩:=b.way g h
   exact ⟨ws,w.more _⟩
  ·exact wo h
theorem fj.next(sy:∀a b,E a b→E b a)(w:fj n E wl x s none h ws)(ho:o∉bE wl)(on:o<n)(xk:x∈bE wl)(e:E h o)(nx:¬E x o):fj n E (wl++[(o,some h)]) x s (some h) o (h::ws):=by
 obtain ⟨f1,f2⟩:=w.fresh sy ho;refine ⟨.step (HK ho) w.bk.more,⟨fun b eb=>?_,fun d hd=>?_,w.ind⟩,fk.mpr ⟨f2,w.nd⟩,fun d hd=>?_,fun hx=>?_,fun d hd=>?_,?_,fun d hd=>?_⟩
 ·have:h=b:=Option.some.inj eb
  rw [←this];exact sy _ _ e
 ·exact f1 d (by simpa using hd)
 ·rcases bb.mp hd with rfl | hd
  ·exact .inr nx
  ·exact w.away d hd
 ·rcases bb.mp hx with rfl | hx
  ·exact ho xk
  ·exact w.nx hx
 ·rcases bb.mp hd with rfl | hd
  ·exact on
  ·exact w.lt d hd
 ·rw [List.getLast?_cons_cons]
  exact w.lst
 ·rcases bb.mp hd with rfl | hd
  ·exact .inl rfl
  ·rcases w.sh d hd with e | e
   ·cases e
   ·exact .inr e.more
theorem eU.no(ir:∀a,¬E a a)(b:eU n E wl x s [] none)(V:List Nat)(z:Nat):¬kT E V x s z:=fun h=>by
 have sx:s≠x:=fun e=>ir x (by have:=h.xy;rw [e] at this;exact this)
 have sh:∀u∈bE wl,u≠x→(u=s∨¬E x u)→kU E wl u:=fun u hu ux q=>by
  rcases b.walk u hu ux q with e | e | e;·cases e
  ·exact e
  ·cases e
 have all:∀u,Wk E (ng E V x) s u→u∈bE wl:=fun u w=>by
  induction w with
  | one e=>exact sh s b.sk sx (.inl rfl) _ e
  | more _ t e ih=>exact sh _ ih t.2.1 (.inr t.2.2) _ e
 exact h.no (b.near z (all z h.wk) (fun e=>ir x (by have:=h.xz;rw [e] at this;exact this)) (Ne.symm h.ne) h.xz)
end
theorem RA(pw:L.Pairwise lexLt)(lt:∀z∈L,0≤z.1∧z.1<z.2∧z.2<(n:Int))(w:fj n (aL n L) wl x s none h ws)(ho:o∉bE wl)(xk:x∈bE wl)(xs:aL n L x s)(xo:aL n L x o)(so:¬aL n L s o)(e:aL n L h o) :
  fV L ((x::o::h::ws).map iN)∧(x::o::h::ws).Nodup∧∀d∈x::o::h::ws,d<n:=by
 obtain ⟨f1,f2⟩:=w.fresh eS ho;have hs:h≠s:=fun z=>so (by rw [←z];exact e)
 have CD:ws≠[]:=fun z=>by have:=w.lst;rw [z] at this;exact hs (Option.some.inj this)
 have nd:(x::o::h::ws).Nodup:=fk.mpr ⟨fun hx=>by
  rcases bb.mp hx with rfl | hx;·exact ho xk
  ·exact w.nx hx,fk.mpr ⟨f2,w.nd⟩⟩
 have rn:∀d∈x::o::h::ws,d<n:=fun d hd=>by
  rcases bb.mp hd with rfl | hd;·exact xs.1
  ·rcases bb.mp hd with rfl | hd
   ·exact xo.2.1
   ·exact w.lt d hd
 have ind:vY (aL n L) (o::h::ws):=⟨fun b eb=>by have:h=b:=Option.some.inj eb;rw [←this];exact eS _ _ e,fun d hd=>f1 d (by simpa using hd),w.ind⟩
 have lw:1≤ws.length:=Nat.pos_of_ne_zero fun z=>CD (List.eq_nil_of_length_eq_zero z);refine ⟨Ru pw lt (by simp;omega) nd rn fun i j hi hj ij=>?_,nd,rn⟩
 have ls:(h::ws)[ws.length]?=some s:=by have:=w.lst;rw [List.getLast?_eq_getElem?] at this;simpa using this
 cases i with
 | zero=>
  obtain ⟨j,rfl⟩:∃k,j=k+1:=⟨j-1,by omega⟩
  simp only [AI,qG];have dA:j<(o::h::ws).length:=by simpa using hj
  have hl:(x::o::h::ws).length-1=ws.length+2:=by simp
  rw [hl];cases j with
  | zero=>simp only [AI];simp [xo]
  | succ j=>
   simp only [qG];have v9:j<(h::ws).length:=by simpa using dA
   have lj:j≤ws.length:=by simp at v9;omega
   constructor
   ·intro q
    refine .inr ⟨trivial,?_⟩;rcases w.away _ (bJ v9) with z | z
    ·have e1:(h::ws)[j]?=some s:=by rw [bU v9,z]
     have:j=ws.length:=(List.getElem?_inj v9 w.nd).mp (e1.trans ls.symm);omega
    ·exact absurd q z
   ·rintro (q | ⟨_,q⟩)
    ·omega
    ·have:j=ws.length:=by omega
     subst this;rw [bU v9] at ls;rw [Option.some.inj ls];exact xs
 | succ i=>
  obtain ⟨j,rfl⟩:∃k,j=k+1:=⟨j-1,by omega⟩
  simp only [qG];rw [ind.at i j (by simpa using hi) (by simpa using hj) (by omega)]
  omega
structure CF (n:Nat) (L:av) (D:Addr) (ds:Nat→Addr) (f:Nat→List Nat):Prop where
 inj:∀i j,i<n→j<n→ds i=ds j→i=j
 ne:∀i,i<n→ds i≠D
 pl:∀i,i<n→iL n (f i)
 nb:jN n L f
def gF(n:Nat)(ds:Nat→Addr)(H H':Hp):Prop:=∀b o,H b=some o→((∀i,i<n→b≠ds i)∨∃ob u,o=.a9 ob u)→H' b=some o
theorem HL{tl:TE}{σ:St}{H:Hp}{R:It→Hp→Prop}{a:Addr}{kvs:List (Key×V)}(hp:∀Q:VK,Q (.ref a) H→tl σ H Q)(h:H a=some (.dK kvs)∨∃ob,H a=some (.a9 ob (.dK kvs)))
  (k:∀(ob:Obj) (Hf:Hp),Hf a=some (.a9 ob (.dK kvs))→(∀b u,b≠a→H b=some u→Hf b=some u)→(∀jV u,H a=some (.a9 jV u)→Hf a=some (.a9 jV u))→R (gZ a ob kvs) Hf):B1 tl σ H R:=hp _ ⟨a,kvs,rfl,by
 rcases h with e | ⟨ob,e⟩;·exact .inl ⟨e,fun o=>k o _ ay (fun b u ne hb=>by rw [aH ne];exact hb) fun jV u e'=>by rw [e] at e';cases e'⟩
 ·exact .inr ⟨ob,e,k ob H e (fun _ _ _ h=>h) fun _ _ h=>h⟩⟩
def RB:Sp:=fun vs H Q _=>∃(D wd:Addr) (n:Nat) (L:av) (ds:Nat→Addr) (f:Nat→List Nat) (wl:List (Nat×Option Nat)) (p:Nat),vs=[.ref D,.ref wd,.int (p:Int)]∧CF n L D ds f∧dg H D n ds f∧H wd=some (.dK (cX wl))∧(∀i,i<n→wd≠ds i)∧p<n∧n≤900 ∧
 ∀(H':Hp) (r:Addr),gF n ds H H'→dg H' D n ds f→H r=none→H' r=some (.lst (((f p).filter fun q=>!decide (q∈bE wl)).map fun k:Nat=>V.int (k:Int)))→Q (.ref r) H'
def RC:Sp:=fun vs H Q _=>∃(wd:Addr) (wl:List (Nat×Option Nat)) (v:Nat) (ws:List Nat),vs=[.ref wd,.int (v:Int)]∧H wd=some (.dK (cX wl))∧Back wl v ws∧ws.length≤900 ∧
 ∀(H':Hp) (r:Addr),ak H H'→H r=none→H' r=some (.lst (ws.map fun k:Nat=>V.int (k:Int)))→Q (.ref r) H'
def RD:Sp:=fun vs H Q _=>∃(D:Addr) (n:Nat) (L:av) (ds:Nat→Addr) (f:Nat→List Nat) (x s:Nat),vs=[.ref D,.int (x:Int),.int (s:Int)]∧CF n L D ds f∧dg H D n ds f∧L.Pairwise lexLt∧(∀z∈L,0≤z.1∧z.1<z.2∧z.2<(n:Int))∧aL n L x s∧n≤900 ∧
 (∀H',gF n ds H H'→dg H' D n ds f→(∀V z,¬kT (aL n L) V x s z)→Q .aJ H') ∧
 ∀(H':Hp) (r:Addr) (zs:List Nat),gF n ds H H'→H r=none→H' r=some (.lst (zs.map fun k:Nat=>V.int (k:Int)))→fV L (zs.map iN)→zs.Nodup→(∀d∈zs,d<n)→Q (.ref r) H'
def RE:Sp:=fun vs H Q _=>∃(tp:Addr) (n:Nat) (L:av),vs=[.ref tp]∧c_ H tp n L∧L.Pairwise lexLt∧(∀z∈L,0≤z.1∧z.1<z.2∧z.2<(n:Int))∧n≤900 ∧
 (∀H',ak H H'→(∀x y z,¬kT (aL n L) (List.range n) x y z)→Q .aJ H') ∧
 ∀(H':Hp) (r:Addr) (zs:List Nat),ak H H'→H r=none→H' r=some (.lst (zs.map fun k:Nat=>V.int (k:Int)))→fV L (zs.map iN)→zs.Nodup→(∀d∈zs,d<n)→Q (.ref r) H'
def RF(Pt:Addr)(pl:Pos):Sp:=fun vs H Q _=>∃(tp:Addr) (n:Nat) (L:av),vs=[.ref tp]∧c_ H tp n L∧L.Pairwise lexLt∧(∀z∈L,0≤z.1∧z.1<z.2∧z.2<(n:Int))∧n≤30∧cW Pt pl jl H ∧
 (∀(H':Hp) (T D:Addr) (o:List Nat),dO Pt H H'→cW Pt pl jl H'→H T=none→H D=none→H' T=some (.tup [.str "order",.ref D])→H' D=some (.lst (o.map fun k:Nat=>V.int (k:Int)))→o.Perm (List.range n)→cx n L o L→Q (.ref T) H') ∧
 ∀(H':Hp) (T D:Addr) (zs:List Nat),dO Pt H H'→cW Pt pl jl H'→H T=none→H D=none→H' T=some (.tup [.str "ring",.ref D])→H' D=some (.lst (zs.map fun k:Nat=>V.int (k:Int)))→fV L (zs.map iN)→zs.Nodup→(∀d∈zs,d<n)→(∀o:List Nat,o.Perm (List.range n)→¬cx n L o L)→Q (.ref T) H'
end My
namespace L2
open PySem PySem.Spec PyProof.Rows
end L2
namespace My
open PySem L2 Classical
open PySem L2
end My
namespace L2
open PySem PySem.Spec PyProof.Rows My
section
variable {X:Cx}
end
end L2
namespace My
open PySem L2
end My
namespace L2
open PySem PySem.Spec PyProof.Rows My
end L2
namespace My
open PySem L2
end My
namespace L2
open PySem PySem.W PyProof.Rows My
section
variable {prog:Program} {w:World} {A:Around} {E:aM} {s:Shared}
end
end L2
namespace My
open PySem L2 Classical
open PySem L2
theorem RG{n:Nat}{f:List Nat}(h:iL n f):f.length≤n:=by
 have h1:((List.range n).filter fun p=>decide (p∈f)).Perm f:=(xm (nW.filter _) h.1).mpr fun x=>by rw [d6,bY,ie];exact ⟨fun h=>h.2,fun hx=>⟨h.2 x hx,hx⟩⟩
 rw [←h1.length_eq];exact cj (xg ..) (by simp)
end My
namespace L2
open PySem PySem.Spec PyProof.Rows
end L2
namespace My
open PySem L2
open PySem L2 Classical
def HM:R2:=fun x y H Q=>∃(b lt:Addr) (us:List V) (L:av) (p:Int×Int),x=.ref b∧y=.ref lt∧H b=some (.tup [.int p.1,.int p.2])∧H lt=some (.tup us)∧aW H us L∧Q (.bl (!decide (p∈L))) H
variable {X:Cx}
theorem RH(hu:X.A.units+64<cLine):cq X (compareOp .NotIn) HM:=by
 intro pins s σ H x y v u Q I rx ry h;obtain ⟨b,lt,us,L,p,rfl,rfl,hb,hl,hL,q⟩:=h;cases rx;cases ry;obtain ⟨its,rv,t1,_⟩:=I.tuple (.of hl);have at':∀(i:Nat) (v:Value),its[i]?=some v→∃b' q',v=.ref b'∧H b'=some (.tup [.int (q':Int×Int).1,.int q'.2])∧L[i]?=some q':=fun i v hi=>by
  have hlen:=rv.length;have bg:=(cp.mp hi).1;have CG:i<L.length:=by rw [←hL.1];omega
  have ni:us[i]?=some us[i]:=bU (by omega)
  obtain ⟨b',e1,e2⟩:=hL.2 i us[i] L[i] ni (bU CG);obtain ⟨w',ew,ei⟩:=rv.get ni;rw [hi] at ew;cases ew;rw [e1] at ei;exact ⟨b',L[i],ei,e2,bU CG⟩
 let e:Value→Bool:=fun v=>decide (∃b',v=.ref b'∧H b'=some (.tup [.int p.1,.int p.2]))
 have ev:∀{b':Addr} {q':Int×Int},H b'=some (.tup [.int q'.1,.int q'.2])→e (.ref b')=decide (q'=p):=fun{b' q'} h=>by
  show decide _=decide _;refine qz.mpr ⟨fun⟨b2,e1,e2⟩=>?_,fun h'=>⟨b',rfl,by rw [h,h']⟩⟩
  cases e1;rw [h] at e2;simp only [qD,HO.tup.injEq,List.cons.injEq,V.int.injEq,and_true] at e2;exact Prod.ext e2.1 e2.2
 refine SeqAt.notIn_tupleAt e t1 (fun y hy=>?_) ?_
 ·obtain ⟨i,hi⟩:=List.getElem?_of_mem (by simpa using hy)
  obtain ⟨b',q',rfl,e2,_⟩:=at' i y hi;rw [ev e2];exact B7 I (by rw [uF];omega) e2 hb
 ·have:its.toArray.any e=decide (p∈L):=by
   rw [List.any_toArray];cases hd:decide (p∈L) with
   | true=>
    obtain ⟨i,hi⟩:=List.getElem?_of_mem (eY hd);have CG:=(cp.mp hi).1;have HN:i<its.length:=by have:=rv.length;have:=hL.1;omega
    obtain ⟨b',q',e1,e2,e3⟩:=at' i its[i] (bU HN);rw [hi] at e3;cases e3;refine xi.mpr ⟨its[i],bJ HN,?_⟩;rw [e1,ev e2];exact a7 rfl
   | false=>rw [wU];intro v hv;obtain ⟨i,hi⟩:=List.getElem?_of_mem hv;obtain ⟨b',q',rfl,e2,e3⟩:=at' i v hi;rw [ev e2];intro h;have:=eY h;subst this;exact of_decide_eq_false hd (uj e3)
  rw [this];exact ⟨.bl _,H,I,rfl,q⟩
theorem RI{K:aB}(hu:X.A.units+64<cLine)(XH:X.K=K:=by rfl):cq X (compareOp .NotIn) HM:=RH hu
variable {n:Nat} {L M:av} {o:List Nat}
theorem RJ(ho:o.Perm (List.range n))(f:cx n L o M)(lt:∀z∈L,0≤z.1∧z.1<z.2∧z.2<(n:Int)):∀z∈L,z∈M:=fun z hz=>by
 have h:=lt z hz;obtain ⟨i,j⟩:=z;obtain ⟨a,rfl⟩:=ft h.1;obtain ⟨b,rfl⟩:=ft (show 0≤j by have:=h.2;simp only at this;omega)
 simp only at h;have ha:a<n:=by omega
 have hb:b<n:=by omega
 have ne:=gB ho ha hb (by omega)
 have:rL M a b=true:=by
  by_cases ab:o.idxOf a<o.idxOf b;·exact (fY f ha hb ab).mpr (.one ⟨ha,hb,.inl hz⟩)
  ·rw [jP]
   exact (fY f hb ha (by omega)).mpr (.one ⟨hb,ha,.inr hz⟩)
 rcases dZ.mp this with h' | h';·exact h'
 ·have:=f.lt _ h'
  simp only at this;omega
theorem len_sub{α:Type}[DecidableEq α]:∀{l m:List α},l.Nodup→(∀z∈l,z∈m)→l.length≤m.length
 | [],_,_,_=>b7 _
 | x::l,m,nd,h=>by
  have hx:=h x cE;have vQ:=fk.mp nd;have:=len_sub (l:=l) (m:=m.erase x) vQ.2 fun z hz=>(List.mem_erase_of_ne (fun e=>vQ.1 (by rw [←e];exact hz))).mpr (h z (bP _ hz))
  rw [xj hx] at this;have:=List.length_pos_of_mem hx;rw [dE];omega
theorem RK(ho:o.Perm (List.range n))(f:cx n L o M)(pw:L.Pairwise lexLt)(lt:∀z∈L,0≤z.1∧z.1<z.2∧z.2<(n:Int)):gC n M=gC n L↔M=L:=by
 refine ⟨fun e=>?_,fun e=>by rw [e]⟩
 have nl:L.Nodup:=pw.imp fun h e=>by subst e;unfold lexLt at h;omega
 have nd:M.Nodup:=GX f;have sub:=RJ ho f lt;have sr:∀a b:Nat,rL L a b=true→rL M a b=true:=fun a b h=>by
  rcases dZ.mp h with h | h;·exact dZ.mpr (.inl (sub _ h))
  ·exact dZ.mpr (.inr (sub _ h))
 have h1:=Ro ho f nl lt;have h2:jQ n L≤jQ n M:=GR fun x _ y _ z _=>by
  unfold fX;by_cases h:(rL L x y && rL L x z && rL L y z)=true
  ·rw [ae h]
   rw [f9,f9] at h;rw [sr x y h.1.1,sr x z h.1.2,sr y z h.2];exact ax _
  ·rw [aa h]
   exact b7 _
 unfold gC at e;have hl:M.length≤L.length:=by omega
 refine BR f.1 pw fun z=>⟨fun h=>f_ fun c=>?_,fun h=>sub z h⟩;have:=len_sub (l:=z::L) (m:=M) (fk.mpr ⟨c,nl⟩) fun y hy=>by
  rcases bb.mp hy with rfl | hy;·exact h
  ·exact sub y hy
 rw [dE] at this;omega
variable {a b:Nat}
theorem HP(h:a<b):cC a b=((a:Int),(b:Int)):=by unfold cC;rw [aa (by omega),ae (by omega)]
theorem HQ(h:b<a):cC a b=((b:Int),(a:Int)):=by unfold cC;rw [ae (by omega),aa (by omega)]
theorem CH(a b:Nat):cC a b=((a:Int),(b:Int))∨cC a b=((b:Int),(a:Int)):=by
 rcases Nat.lt_trichotomy a b with h | h | h;·exact .inl (HP h)
 ·subst h
  left;unfold cC;rw [aa (by omega)]
 ·exact .inr (HQ h)
theorem HR{f:Nat→Nat}:∀{l:List Nat},l≠[]→∃(k:Nat) (hk:k<l.length),∀d∈l,f l[k]≤f d
 | [],h=>absurd rfl h
 | [x],_=>⟨0,by simp,fun d hd=>by simp at hd;subst hd;exact ax _⟩
 | x::y::l,_=>by
  obtain ⟨k,hk,h⟩:=HR (f:=f) (l:=y::l) (by simp)
  by_cases c:f x≤f (y::l)[k]
  ·refine ⟨0,by simp,fun d hd=>?_⟩
   rcases bb.mp hd with rfl | hd;·exact ax _
   ·exact cj c (h d hd)
  ·refine ⟨k+1,by simp at hk ⊢;omega,fun d hd=>?_⟩
   rcases bb.mp hd with rfl | hd;·simp only [qG];omega
   ·exact h d hd
theorem RL(ho:o.Perm (List.range n))(f:cx n L o M)(lt:∀z∈L,0≤z.1∧z.1<z.2∧z.2<(n:Int)){r:List Nat}(bare:fV L (r.map iN))(nd:r.Nodup)(rn:∀d∈r,d<n) :
  ∃z∈M,z∉L∧z.1∈r.map iN∧z.2∈r.map iN:=by
 obtain ⟨m4,_,pm⟩:=bare;have lm:(r.map iN).length=r.length:=aG ..;rw [lm] at m4;have gz:∀(k:Nat) (hk:k<r.length),(r.map iN).getD k 0=((r[k]:Nat):Int):=fun k hk=>by rw [b9,bD,bU hk];rfl
 have inj:∀(i j:Nat) (hi:i<r.length) (hj:j<r.length),r[i]=r[j]→i=j:=fun i j hi hj e=>(nN nd).mp e;have nx:∀k,k<r.length→(k+1) % r.length<r.length:=fun k _=>Nat.mod_lt _ (by omega)
 have jU:∀k,k<r.length→(k+1<r.length∧(k+1) % r.length=k+1)∨(k=r.length-1∧(k+1) % r.length=0):=fun k hk=>by
  by_cases z:k+1<r.length;·exact .inl ⟨z,uG z⟩
  ·exact .inr ⟨by omega,by rw [show k+1=r.length by omega,uH]⟩
 have mem:∀z,z∈lT L (r.map iN)↔∃k,∃hk:k<r.length,z=(min ((r[k]:Nat):Int) ((r[(k+1) % r.length]'(nx k hk):Nat):Int),max ((r[k]:Nat):Int) ((r[(k+1) % r.length]'(nx k hk):Nat):Int)):=fun z=>by
  rw [←pm.mem_iff];unfold fU;rw [lm,b_];constructor
  ·rintro ⟨k,hk,rfl⟩
   have hk:=bY.mp hk;exact ⟨k,hk,by rw [gz k hk,gz _ (nx k hk)]⟩
  ·rintro ⟨k,hk,rfl⟩
   exact ⟨k,bY.mpr hk,by rw [gz k hk,gz _ (nx k hk)]⟩
 have CI:∀z,z∈lT L (r.map iN)↔z∈L∧z.1∈r.map iN∧z.2∈r.map iN:=fun z=>by unfold lT;rw [d6,f9,decide_eq_true_eq,decide_eq_true_eq]
 obtain ⟨k0,jm,least⟩:=HR (f:=fun d=>o.idxOf d) (l:=r) (fun z=>by rw [z] at m4;simp at m4)
 obtain ⟨kp,lU,CJ⟩:∃k,k<r.length∧(k+1) % r.length=k0:=by
  by_cases z:k0=0;·exact ⟨r.length-1,by omega,by rw [show r.length-1+1=r.length by omega,uH,z]⟩
  ·exact ⟨k0-1,by omega,by rw [show k0-1+1=k0 by omega,uG jm]⟩
 have l1:aL n L r[k0] (r[(k0+1) % r.length]'(nx k0 jm)):=by
  have h:=((CI _).mp ((mem _).mpr ⟨k0,jm,rfl⟩)).1;refine ⟨rn _ (bJ jm),rn _ (bJ (nx k0 jm)),?_⟩;generalize r[(k0+1) % r.length]'(nx k0 jm)=y at h ⊢;generalize r[k0]=x at h ⊢;by_cases c:(x:Int)≤(y:Int)
  ·rw [xq c,xr c] at h
   exact .inl h
  ·rw [xt (by omega),xu (by omega)] at h
   exact .inr h
 have l2:aL n L r[kp] r[k0]:=by
  have h:=((CI _).mp ((mem _).mpr ⟨kp,lU,rfl⟩)).1;refine ⟨rn _ (bJ lU),rn _ (bJ jm),?_⟩;simp only [CJ] at h;generalize r[k0]=y at h ⊢;generalize r[kp]=x at h ⊢;by_cases c:(x:Int)≤(y:Int)
  ·rw [xq c,xr c] at h
   exact .inl h
  ·rw [xt (by omega),xu (by omega)] at h
   exact .inr h
 obtain ⟨k1,e1⟩:∃k1,(k0+1) % r.length=k1:=⟨_,rfl⟩;have o9:k1<r.length:=e1▸nx k0 jm;have l1:aL n L r[k0] r[k1]:=by subst e1;exact l1
 have n1:=jU k0 jm;have n2:=jU kp lU;rw [e1] at n1;rw [CJ] at n2;have d1:k1≠k0:=by omega
 have d2:kp≠k0:=by omega
 have d3:kp≠k1:=by omega
 have no:∀(i j:Nat) (hi:i<r.length) (hj:j<r.length),i≠(j+1) % r.length→j≠(i+1) % r.length→i≠j→cC r[i] r[j]∉L:=fun i j hi hj h1 h2 h3 h=>by
  have m1:((r[i]:Nat):Int)∈r.map iN:=b_.mpr ⟨_,bJ hi,rfl⟩;have m2:((r[j]:Nat):Int)∈r.map iN:=b_.mpr ⟨_,bJ hj,rfl⟩;have hm:cC r[i] r[j]∈lT L (r.map iN):=(CI _).mpr ⟨h,by
   rcases CH r[i] r[j] with e | e <;> rw [e] <;> assumption,by
   rcases CH r[i] r[j] with e | e <;> rw [e] <;> assumption⟩
  obtain ⟨k,hk,e⟩:=(mem _).mp hm;have key:(r[i]=r[k]∧r[j]=r[(k+1) % r.length]'(nx k hk))∨(r[j]=r[k]∧r[i]=r[(k+1) % r.length]'(nx k hk)):=by rcases CH r[i] r[j] with e' | e' <;> (rw [e'] at e;injection e with e1 e2;omega)
  rcases key with ⟨a,b⟩ | ⟨a,b⟩
  ·have a':=inj _ _ hi hk a
   have b':=inj _ _ hj (nx k hk) b;subst a';exact h2 b'
  ·have a':=inj _ _ hj hk a
   have b':=inj _ _ hi (nx k hk) b;subst a';exact h1 b'
 have n3:=jU k1 o9;have nn:=no kp k1 lU o9 (by omega) (by rw [CJ];omega) d3
 have i1:=least r[kp] (bJ lU);have i2:=least r[k1] (bJ o9);have b0:=rn _ (bJ jm);have bp:=rn _ (bJ lU);have b1:=rn _ (bJ o9);have j1:=gB ho bp b0 (fun z=>d2 (inj _ _ lU jm z));have j2:=gB ho b1 b0 (fun z=>d1 (inj _ _ o9 jm z));have j3:=gB ho bp b1 (fun z=>d3 (inj _ _ lU o9 z));have hM:rL M r[kp] r[k1]=true:=by
  by_cases ab:o.idxOf r[kp]<o.idxOf r[k1];·exact (fY f bp b1 ab).mpr (.more (.one l2) ⟨b0,by omega⟩ l1)
  ·rw [jP]
   exact (fY f b1 bp (by omega)).mpr (.more (.one (eS _ _ l1)) ⟨b0,by omega⟩ (eS _ _ l2))
 have m1:(r[kp]:Int)∈r.map iN:=b_.mpr ⟨_,bJ lU,rfl⟩;have m2:(r[k1]:Int)∈r.map iN:=b_.mpr ⟨_,bJ o9,rfl⟩;rcases dZ.mp hM with h | h
 ·refine ⟨_,h,fun z=>nn ?_,m1,m2⟩
  have:=f.lt _ h;simp only at this;rw [HP (by omega)]
  exact z
 ·refine ⟨_,h,fun z=>nn ?_,m2,m1⟩
  have:=f.lt _ h;simp only at this;rw [HQ (by omega)]
  exact z
def RM:Sp:=fun vs H Q _=>∃(tp T D a:Addr) (n:Nat) (L:av) (o:List Nat) (wd:String),vs=[.ref tp,.ref T,.ref a]∧c_ H tp n L∧L.Pairwise lexLt∧(∀z∈L,0≤z.1∧z.1<z.2∧z.2<(n:Int))∧n≤30∧L.length≤450∧H a=some (.lst (o.map fun k:Nat=>V.int (k:Int)))∧o.Perm (List.range n)∧H T=some (.tup [.str wd,.ref D]) ∧
 (wd="order"∨wd="ring"∧∃zs:List Nat,H D=some (.lst (zs.map fun k:Nat=>V.int (k:Int)))∧fV L (zs.map iN)∧zs.Nodup∧∀d∈zs,d<n)∧∀H',ak H H'→Q (.bl true) H'
theorem v_{o':List Nat}(e':o.map iN=o'.map iN):o'=o:=by
 have:=cR (List.map Int.toNat) e'
 rw [dF,dF] at this
 have HS:∀l:List Nat,l.map (Int.toNat ∘ iN)=l:=fun l=>by
  conv=>rhs;rw [←nZ l]
  exact h_ fun k _=>dh k
 rw [HS,HS] at this
 exact this.symm
end My
set_option maxRecDepth 100000
set_option maxHeartbeats 4000000
namespace My
open PySem L2
def top(i:Nat):Stmt:=PySem.Challenge.pw_bandwright_k23_whole_rings_are_filled.main.body.getD i (.Pass ⟨0,0,0,0⟩)
abbrev y7:Stmt:=top 4
abbrev y8:Stmt:=top 6
abbrev y9:Stmt:=top 7
abbrev y_:Stmt:=top 8
abbrev za:Stmt:=top 10
abbrev zb:Stmt:=top 11
abbrev zc:Stmt:=top 12
abbrev zd:Stmt:=top 13
abbrev ze:Stmt:=top 14
abbrev zf:Stmt:=top 15
abbrev zg:Stmt:=top 16
abbrev zh:Stmt:=top 17
abbrev zi:Stmt:=top 19
abbrev zo:Stmt:=top 20
abbrev zp:Stmt:=top 21
abbrev zq:Stmt:=top 22
abbrev zr:Stmt:=top 23
abbrev zt:Stmt:=top 24
abbrev zu:Stmt:=top 25
abbrev zw:Stmt:=top 26
abbrev zA:Stmt:=top 27
abbrev zB:Stmt:=top 28
abbrev zC:Stmt:=top 30
abbrev zD:Stmt:=top 31
abbrev zE:Stmt:=top 32
abbrev zF:Stmt:=top 33
abbrev zG:Stmt:=top 34
abbrev zH:Stmt:=top 35
abbrev zI:Stmt:=top 36
abbrev zJ:Stmt:=top 37
abbrev zK:Stmt:=top 38
set_option genInjectivity false in
set_option genSizeOf false in
structure CK where
 o_:Addr
 rT:FuncData
 pb:Addr
 rU:FuncData
 ph:Addr
 rV:FuncData
 pj:Addr
 rW:FuncData
 pA:Addr
 rX:FuncData
 pB:Addr
 rY:FuncData
 pC:Addr
 rZ:FuncData
 pD:Addr
 r6:FuncData
 pE:Addr
 r_:FuncData
 pF:Addr
 si:FuncData
 pG:Addr
 sj:FuncData
 pH:Addr
 sq:FuncData
 pI:Addr
 su:FuncData
 pJ:Addr
 nk:FuncData
 pK:Addr
 sC:FuncData
 pL:Addr
 sD:FuncData
 pM:Addr
 sE:FuncData
 pO:Addr
 sF:FuncData
 pP:Addr
 sG:FuncData
 pQ:Addr
 sI:FuncData
 pR:Addr
 sJ:FuncData
 pS:Addr
 sL:FuncData
 pU:Addr
 sM:FuncData
 pV:Addr
 sN:FuncData
 pW:Addr
 sO:FuncData
 pX:Addr
 sP:FuncData
 pY:Addr
 sQ:FuncData
 pZ:Addr
 sS:FuncData
 p9:Addr
 sU:FuncData
 p_:Addr
 sV:FuncData
 nz:Addr
 qa:FuncData
 jW:Addr
abbrev cJ (mg:cy) (x:Str) (f:Addr):Prop:=mg x=some (.ref f)
abbrev RN (K:aB) (a:Addr):Prop:=PySem.W.excIn K a [.type "ValueError",.type "Exception",.type "BaseException",.type "object"] "ValueError.__new__"=true
structure Txt (K:aB) (mg:cy) (t:CK):Prop where
 qb:aV K "is_whole" y7 t.o_ t.rT
 CL:Binds K t.rT ["thing"] []
 CM:cJ mg "is_whole" t.o_
 sW:aV K "is_place" y8 t.pb t.rU
 HU:Binds K t.rU ["thing","n"] []
 HV:cJ mg "is_place" t.pb
 lW:aV K "neighbours" y9 t.ph t.rV
 wa:Binds K t.rV ["shape"] []
 wb:cJ mg "neighbours" t.ph
 sX:aV K "triangles" y_ t.pj t.rW
 HW:Binds K t.rW ["shape"] []
 HX:cJ mg "triangles" t.pj
 sY:aV K "is_order" za t.pA t.rX
 HY:Binds K t.rX ["thing","n"] []
 HZ:cJ mg "is_order" t.pA
 sZ:aV K "check_order" zb t.pB t.rY
 H_:Binds K t.rY ["order","n"] []
 Ia:cJ mg "check_order" t.pB
 s_:aV K "turns_of" zc t.pC t.rZ
 Ib:Binds K t.rZ ["order"] []
 Ic:cJ mg "turns_of" t.pC
 tj:aV K "link_all" zd t.pD t.r6
 Ie:Binds K t.r6 ["linked","places"] []
 Ig:cJ mg "link_all" t.pD
 qc:aV K "later" ze t.pE t.r_
 CN:Binds K t.r_ ["shape","order"] []
 CO:cJ mg "later" t.pE
 qd:aV K "filled" zf t.pF t.si
 CP:Binds K t.si ["shape","order"] []
 CQ:cJ mg "filled" t.pF
 tm:aV K "place_deeds" zg t.pG t.sj
 Ih:Binds K t.sj ["many"] []
 Ii:cJ mg "place_deeds" t.pG
 tu:aV K "deeds" zh t.pH t.sq
 Ij:Binds K t.sq ["shape","order"] []
 Ik:cJ mg "deeds" t.pH
 lY:aV K "is_perfect" zi t.pI t.su
 wc:Binds K t.su ["shape","order"] []
 we:cJ mg "is_perfect" t.pI
 tw:aV K "likely_order" zo t.pJ t.nk
 Il:Binds K t.nk ["shape"] []
 Im:cJ mg "likely_order" t.pJ
 tD:aV K "walk_back" zp t.pK t.sC
 Io:Binds K t.sC ["whence","place"] []
 Ip:cJ mg "walk_back" t.pK
 tE:aV K "unmet" zq t.pL t.sD
 Iq:Binds K t.sD ["linked","whence","place"] []
 Ir:cJ mg "unmet" t.pL
 tF:aV K "ring_over" zr t.pM t.sE
 Iu:Binds K t.sE ["linked","place","start"] []
 Iv:cJ mg "ring_over" t.pM
 tG:aV K "bare_ring" zt t.pO t.sF
 Iw:Binds K t.sF ["shape"] []
 Iy:cJ mg "bare_ring" t.pO
 tH:aV K "perfect" zu t.pP t.sG
 Iz:Binds K t.sG ["shape"] []
 IA:cJ mg "perfect" t.pP
 tI:aV K "ring_links" zw t.pQ t.sI
 IC:Binds K t.sI ["places"] []
 ID:cJ mg "ring_links" t.pQ
 tJ:aV K "links_among" zA t.pR t.sJ
 IE:Binds K t.sJ ["shape","places"] []
 IF:cJ mg "links_among" t.pR
 tK:aV K "is_bare_ring" zB t.pS t.sL
 IG:Binds K t.sL ["shape","places"] []
 IH:cJ mg "is_bare_ring" t.pS
 tL:aV K "_law_fill" zC t.pU t.sM
 II:Binds K t.sM ["_law_cell","_law_at"] []
 IJ:cJ mg "_law_fill" t.pU
 gG:aV K "_law_next" zD t.pV t.sN
 jX:Binds K t.sN ["_law_pen","_law_many"] []
 jY:cJ mg "_law_next" t.pV
 qe:aV K "_law_turned" zE t.pW t.sO
 CS:Binds K t.sO ["_law_pen","_law_some"] []
 CT:cJ mg "_law_turned" t.pW
 tM:aV K "_law_tied_by" zF t.pX t.sP
 IK:Binds K t.sP ["_law_pen","_law_way","_law_size","_law_wide","_law_i","_law_j"] []
 IL:cJ mg "_law_tied_by" t.pX
 tN:aV K "_law_grown_links" zG t.pY t.sQ
 IM:Binds K t.sQ ["_law_pen","_law_size"] []
 IP:cJ mg "_law_grown_links" t.pY
 tO:aV K "_law_drawn" zH t.pZ t.sS
 IQ:Binds K t.sS ["_law_pen","_law_most"] []
 IS:cJ mg "_law_drawn" t.pZ
 tP:aV K "_law_named" zI t.p9 t.sU
 IT:Binds K t.sU ["_law_size","_law_links","_law_names"] []
 IU:cJ mg "_law_named" t.p9
 qf:aV K "_law_right" zJ t.p_ t.sV
 CU:Binds K t.sV ["_law_shape","_law_told","_law_order"] []
 CW:cJ mg "_law_right" t.p_
 tQ:aV K "law" zK t.nz t.qa
 RO:Binds K t.qa ["script"] []
 IV:cJ mg "law" t.nz
 IW:cJ mg "NoOrder" t.jW
 RP:mg "ValueError"=none
 CY:mg "all"=none
 RQ:mg "any"=none
 IY:mg "bool"=none
 CZ:mg "enumerate"=none
 IZ:mg "int"=none
 zN:mg "isinstance"=none
 hG:mg "len"=none
 nB:mg "list"=none
 wg:mg "max"=none
 zO:mg "min"=none
 jo:mg "range"=none
 I0:mg "reversed"=none
 I_:mg "set"=none
 tR:mg "sorted"=none
 Ja:mg "sum"=none
 C0:mg "tuple"=none
 Jb:mg "zip"=none
 Jc:RN K t.jW
 tab:L2.tabIn K t.nk 120=true
 Jd:K.lookup 120=none
section
variable {P:Program} {w:World} {K:aB} {mg:cy} {base:Heap} {t:CK}
theorem RR:bQ ["thing"] ["thing"] (bj y7):=cL
theorem Je(T:Txt K mg t):bH P w K mg base cm 1 t.o_ t.rT ["thing"] MZ:=by
 have S:=RR;refine T.qb.dy S (fun _ _ _ _ H _ Q _ hr h=>?_);obtain ⟨v,rfl,ha,k⟩:=h;refine ⟨_,(aK (bF (uT (cQ (Bj (K:=K)) rfl T.zN boot_isinstance (aj (pv 0) (aj (AQ (v:=.ty "int") rfl T.IZ boot_int rfl) ar))) (uS (KS (cQ (Bj (K:=K)) rfl T.zN boot_isinstance (aj (pv 0) (aj (AQ (v:=.ty "bool") rfl T.IY boot_bool rfl) ar)))))))),?_⟩;obtain ⟨Ty,ty,k1,k2,_⟩:=ha.Bi (K:=K);refine ⟨_,rfl,_,_,_,_,rfl,rfl,ty,k1,_,rfl,de (fun h1=>?_) (fun h1=>?_)⟩
 ·refine ⟨_,rfl,_,_,_,_,rfl,rfl,ty,k2,_,rfl,?_⟩
  have e:(!rf v)=rb v:=by
   cases h2:rf v with
   | true=>rw [MY h2];rfl
   | false=>rw [h2,Bool.or_false] at h1;rw [h1];rfl
  show Q (.bl (!rf v)) H;rw [e];exact k
 ·have e:rb v=false:=by
   cases h2:rb v with
   | true=>rw [h2] at h1;exact absurd rfl h1
   | false=>rfl
  rw [e] at k;exact k
theorem RS:bQ ["thing","n"] ["thing","n"] (bj y8):=cL
theorem RT(T:Txt K mg t):bH P w K mg base cm 2 t.pb t.rU ["thing","n"] PD:=by
 have S:=RS;refine T.sW.dy S (fun _ _ _ _ H _ _ _ hr h=>?_);obtain ⟨z,n,rfl,k⟩:=h;refine ⟨_,(aK (bF (uT (bw (Je T) hr T.CM T.qb.kp T.CL bL (aj (pv 0) ar)) (uS (Ly EG xO aC (pv 0) (pv 1)))))),?_⟩;refine ⟨_,rfl,.int z,rfl,.int z,true,rfl,kF ?_⟩;refine ⟨_,rfl,0,z,rfl,rfl,_,rfl,de (fun h1=>?_) (fun h1=>?_)⟩
 ·refine ⟨_,rfl,z,(n:Int),rfl,rfl,?_⟩
  have C1:=eY h1;rw [show decide (0≤z∧z<(n:Int))=decide (z<(n:Int)) by simp [C1]] at k
  exact k
 ·have C1:¬(0≤z):=fun e=>h1 (a7 e)
  rw [show decide (0≤z∧z<(n:Int))=false by simp [C1]] at k
  exact k
theorem RU:bQ ["shape","linked","i","j"] ["shape"] (bj y9):=cL
theorem zP(T:Txt K mg t):bH P w K mg base cm 1 t.ph t.rV ["shape"] OU:=by
 have S:=RU;refine T.lW.dy S (fun _ _ _ _ H _ _ _ hr h=>?_);obtain ⟨tp,n,L,rfl,⟨lt,us,dr,elt,hL⟩,ok,n9,kk⟩:=h;have hu:=j6 (qH (show 1≤64 by decide) _) hr.units
 have RV:((List.range n).map fun i:Nat=>V.int (0+(i:Int))).length=n:=by rw [aG,eW]
 refine ⟨_,(aF (yg (i0:=1) (N:=["place"]) (ρ:=(fun σ=>[])) (iG [] rfl) rfl S.nd rfl (Or.inl rfl) (qS rfl T.jo (aj (ba en (pv 0) aC) ar)) (fun _ _ _=>.nil) (fun _ _ _=>OJ))
  (aF (e9 d7 rfl (xJ (ba en (pv 0) aC)) (qP rfl (iX (dc (i:=2) S.nd rfl (Or.inl rfl)) (iX (dc (i:=3) S.nd rfl (Or.inl rfl)) qO)))
   (aF (yG hu (ba cZ (pv 1) (pv 2)) (pv 3) iw rfl)
  (aK (yG hu (ba cZ (pv 1) (pv 3)) (pv 2) iw rfl))))
  (aK (bF (pv 1))))),?_⟩
 refine bO (rg (FK (xs:=(List.range n).map fun i:Nat=>V.int (0+(i:Int))) (n:=n) RV (fun R h=>⟨_,rfl,tp,_,_,_,rfl,rfl,.of dr,rfl,(n:Int),rfl,by omega,by omega,h _ _ (ak.refl _) (by rw [dh];exact M4)⟩) (dz (by omega)) (fun _ i y Hx=>Hx y=some (.dK (dk []))∧H y=none) ?_ ?_ ?_))
 ·intro D i y Ha Hb ys ⟨h1,h2⟩ hy e f
  exact ⟨f y _ hy h1,h2⟩
 ·intro D i x hx Hc R sc _ kc
  refine fun p np=>kc p _ (fA (ak.refl _) np) np ⟨_,ay⟩ ⟨ay,?_⟩;cases e:H p with
  | none=>rfl
  | some o=>rw [sc _ _ e] at np;cases np
 ·intro D ds H1 nD s1 inj hA eD
  have K0:dq H1 D n ds (fun _=>True) (fun _=>[]):=⟨eD,inj,fun i hi=>(hA i hi).2,fun i hi _=>(hA i hi).1.1,fun i _=>iL.nil n⟩;have fr:∀i,i<n→H (ds i)=none:=fun i hi=>(hA i hi).1.2;dsimp only [aX];refine bO ⟨_,rfl,tp,_,_,_,rfl,rfl,.of (s1 _ _ dr),rfl,lt,rfl,⟨_,.of (s1 _ _ elt)⟩,?_⟩;refine Ey (K:=K) (a:=lt) (xs:=us) (fun k σ Hc=>∃(f:Nat→List Nat) (v2 v3:Option V),σ=[some (.ref tp),some (.ref D),v2,v3]∧ak H Hc∧dq Hc D n ds (fun _=>True) f∧jN n (L.take k) f) ⟨_,_,_,rfl,s1,K0,jN.nil n⟩ (fun k σ Hc _ ⟨_,_,_,_,sc,_⟩=>.of (sc _ _ elt)) ?_ ?_
  ·rintro k x σ Hc hx ⟨f,v2,v3,rfl,sc,KL,nb⟩
   have hk:k<L.length:=by rw [←hL.1];exact (cp.mp hx).1
   obtain ⟨b,rfl,eb⟩:=hL.2 k x L[k] hx (by simp [hk])
   have pk:=ok L[k] (bJ hk);have tk:L.take (k+1)=L.take k++[L[k]]:=by rw [mw,bU hk];rfl
   generalize L[k]=p at eb pk tk;obtain ⟨p1,p2⟩:=p;dsimp only at pk eb;obtain ⟨i,rfl⟩:=ft pk.1;obtain ⟨j,rfl⟩:=ft pk.2.2.1;have hi:i<n:=by omega
   have hj:j<n:=by omega
   refine ⟨b,_,rfl,.of (sc _ _ eb),rfl,_,_,rfl,_,_,rfl,rfl,?_⟩;obtain ⟨q1,K1⟩:=KL.put hi hj trivial n9;obtain ⟨q2,K2⟩:=K1.put hj hi trivial n9;refine ⟨_,rfl,_,rfl,D,_,_,_,rfl,rfl,.of KL.lst,KL.ix hi,_,rfl,_,_,rfl,q1,?_⟩;refine ⟨_,rfl,_,rfl,D,_,_,_,rfl,rfl,.of K1.lst,K1.ix hj,_,rfl,_,_,rfl,q2,?_⟩;have off:∀(Hx:Hp) (i:Nat) (o:HO),i<n→ak H Hx→ak H (upd Hx (ds i) o):=fun Hx i o hi sx a u e=>by
    rw [aH (fun z=>by rw [z,fr i hi] at e;cases e)]
    exact sx _ _ e
   exact ⟨_,_,_,rfl,off _ _ _ hj (off _ _ _ hi sc),K2,by rw [tk];exact nb.more hi hj⟩
  ·rintro σ Hc ⟨f,v2,v3,rfl,sc,KL,nb⟩
   rw [hL.1,hW] at nb;exact ⟨_,rfl,kk _ _ _ _ sc nD fr KL nb⟩
theorem RW:bQ ["many"] ["many"] (bj zg):=cL
theorem RX(T:Txt K mg t):bH P w K mg base cm 1 t.pG t.sj ["many"] Pn:=by have S:=RW;refine T.tm.dy S (fun _ _ _ _ H _ _ _ hr h=>?_);obtain ⟨m,rfl,m1,k⟩:=h;refine ⟨_,(aK (bF (bG iz (bG iz (bG iC (pv 0) (pv 0)) (bG iC aC (pv 0))) aC))),?_⟩;exact ⟨_,rfl,_,rfl,_,_,rfl,rfl,.inl ⟨by omega,by omega⟩,_,rfl,_,_,rfl,rfl,.inl ⟨by omega,by omega⟩,_,_,rfl,rfl,_,_,rfl,rfl,k⟩
theorem RY:bQ ["thing","n"] ["thing","n"] (bj za):=cL
theorem RZ(T:Txt K mg t):bH P w K mg base cm 2 t.pA t.rX ["thing","n"] OZ:=by
 have S:=RY;refine T.sY.dy S (fun _ _ _ _ H _ _ _ hr h=>?_);obtain ⟨a,zs,n,rfl,ea,jZ,n1,k⟩:=h;have iM:=hr.units
 refine ⟨_,(aF (dv (PW.pt (pw_or (qM (mD (cQ (Bj (K:=K)) rfl T.zN boot_isinstance (aj (pv 0) (aj (AQ (v:=.ty "list") rfl T.nB boot_list rfl) ar))))) (pw_or1 (qM (mD (cQ (Fq (K:=K) rfl) rfl T.CY boot_all (aj (lF (N:=["place"]) (ρ:=(fun σ=>[])) (iG [] rfl) rfl (gN (pv 0)) (fun _ _ _=>.nil) (fun _ _ _=>(bw (Je T) hr T.CM T.qb.kp T.CL bL (aj (pv 0) ar)))) ar))))))) (aK (bF iw)) dG)
  (aK (bF (gm (OW iM) (cQ Gq rfl T.tR uJ (aj (pv 0) ar)) (iZ (yd rfl) rfl T.nB boot_list (aj (iZ yc rfl T.jo ye (aj (pv 1) ar)) ar)))))),?_⟩
 refine ⟨_,rfl,_,_,_,true,rfl,rfl,.of (.lst ea),MX,true,rfl,iF ?_⟩;unfold AR tB;refine vg (Fy (xs:=zs.map V.int) (fun R h=>⟨_,rfl,a,rfl,⟨_,.of ea⟩,h _ _ (ak.refl _) (oF (.of ea))⟩) (by rw [aG];exact dz (by omega)) (fun _ i y _=>y=.bl true) (fun _ _ _ _ _ _ h _ _=>h) ?_ ?_)
 ·intro D i v hi Hc R sc _ kc
  obtain ⟨z,rfl⟩:∃z:Int,v=.int z:=by
   rw [bD] at hi;cases e:zs[i]? with
   | none=>rw [e] at hi;cases hi
   | some z=>rw [e] at hi;exact ⟨z,(Option.some.inj hi).symm⟩
  exact ⟨_,rfl,.int z,rfl,.int z,kc _ Hc (ak.refl _) rfl⟩
 ·intro D ys Hc sc qg hP eD
  refine ⟨D,List.replicate ys.length true,rfl,.of (by rw [eD];exact cR _ (cR _ (Nm hP))),?_⟩
  rw [Nn];refine ⟨true,rfl,iF ?_⟩;dsimp only [jz];have R0:=sc _ _ ea;refine ⟨_,rfl,a,zs,rfl,R0,jZ,fun ws D2 p o n2=>?_⟩;refine ⟨_,rfl,(n:Int),rfl,fun p1 C2=>⟨p1,n,rfl,ay,by omega,fun l nl=>?_⟩⟩
  have d1:D2≠p1:=fun z=>by rw [←z,ay] at C2;cases C2
  have d2:D2≠l:=fun z=>by rw [←z,aH d1,ay] at nl;cases nl
  refine ⟨D2,l,ws,(List.range n).map iN,rfl,rfl,.of ?_,.of ?_,?_⟩;·rw [aH d2,aH d1,ay]
  ·rw [ay]
   unfold cV;rw [dF];rfl
  ·rw [OY p o]
   exact k _ (oT (oT (oT sc n2) C2) nl)
theorem R5:bQ ["order","n"] ["order","n"] (bj zb):=cL
theorem R6(T:Txt K mg t):bH P w K mg base (gp P w) 3 t.pB t.rY ["order","n"] (O0 t.jW):=by
 have S:=R5;refine T.sZ.gP S (fun _ _ _ _ H _ _ _ hr h L=>?_);obtain ⟨a,zs,n,rfl,ea,jZ,n1,kE,k⟩:=h;refine ⟨_,(aK (dv (qM (mD (bw (RZ T) hr T.HZ T.sY.kp T.HY bL (aj (pv 0) (aj (pv 1) ar))))) (aK (MD L rfl PySem.F.excBase_ValueError T.Jc rfl T.IW (aj qL ar))) dG)),?_⟩;refine ⟨_,rfl,_,rfl,a,zs,n,rfl,ea,jZ,n1,fun H1 s1=>⟨_,rfl,de (fun hb=>?_) (fun hb=>?_)⟩⟩;·exact ⟨by show 1≤sizeLine;decide,kE (by simpa using hb) _ s1⟩
 ·exact k (by simpa using hb) _ s1
theorem R7:bQ ["order","turns","turn","place"] ["order"] (bj zc):=cL
theorem R8(T:Txt K mg t):bH P w K mg base cm 1 t.pC t.rZ ["order"] O2:=by
 have S:=R7;refine T.s_.dy S (fun _ _ _ _ H _ _ _ hr h=>?_);obtain ⟨a,n,o,rfl,⟨ea,ho⟩,n1,kk⟩:=h;have lo:=rG ho;have lm:(o.map fun k:Nat=>V.int (k:Int)).length=n:=by rw [aG,lo]
 refine ⟨_,(aF (putL 1 S.nd (bG Fe (eh (aj aC ar)) (cQ i5 rfl T.hG ig (aj (pv 0) ar))))
  (aF (e9 d7 rfl (FI rfl T.CZ (aj (pv 0) ar)) (qP rfl (iX (dc (i:=2) S.nd rfl (Or.inl rfl)) (iX (dc (i:=3) S.nd rfl (Or.inl rfl)) qO)))
   (aK (@uW _ _ _ _ _ _ (pv 2) (uV (pv 1) (pv 3) set_list) (by rfl) (by rfl) (by rfl))))
  (aK (bF (pv 1))))),?_⟩
 refine ⟨by show 1≤sizeLine;decide,fun l nl=>?_⟩
 have al:a≠l:=fun z=>by rw [z,nl] at ea;cases ea
 refine ⟨_,rfl,a,_,rfl,.inl (.of (by rw [aH al];exact ea)),l,_,_,rfl,rfl,ay,by omega,by rw [lm];omega,?_,fun c nc=>?_⟩
 ·rw [lm,dh]
  show 1*n≤sizeLine;rw [md];omega
 rw [lm,dh,O5 n o];have Jf:H c=none:=none_of (aY nl) nc;have s0:ak H (upd (upd H l (.lst [.int 0])) c (.lst ((List.range n).map fun p=>V.int (jf o 0 p)))):=(aY nl).trans (aY nc);have e0:upd (upd H l (.lst [.int 0])) c (.lst ((List.range n).map fun p=>V.int (jf o 0 p))) c=_:=ay;generalize upd (upd H l (.lst [.int 0])) c (.lst ((List.range n).map fun p=>V.int (jf o 0 p)))=H0 at s0 e0 ⊢;dsimp only [aX];refine bO ⟨_,rfl,a,rfl,⟨_,.of (s0 _ _ ea)⟩,?_⟩
 refine FJ (K:=K) (l:=a) (xs:=o.map fun k:Nat=>V.int (k:Int)) (fun i σ Hc=>ak H Hc∧∃(v2 v3:Option V),σ=[some (.ref a),some (.ref c),v2,v3]∧Hc c=some (.lst ((List.range n).map fun p=>V.int (jf o i p))))
  ⟨s0,_,_,rfl,e0⟩ (fun i σ Hc ⟨z,_⟩=>.of (z _ _ ea)) ?_ ?_
 ·rintro i x σ Hc Tt hx ⟨sc,v2,v3,rfl,ec⟩ nT
  have hi:i<o.length:=by have:=(cp.mp hx).1;simpa using this
  have ex:x=.int ((o[i]:Nat):Int):=by rw [bD] at hx;simp [hi] at hx;exact hx.symm
  subst ex;have hp:o[i]<n:=(fE ho).mp (bJ hi);have sT:ak Hc (upd Hc Tt (.tup [.int (i:Int),.int ((o[i]:Nat):Int)])):=aY nT;have eT:upd Hc Tt (.tup [.int (i:Int),.int ((o[i]:Nat):Int)]) Tt=_:=ay;generalize upd Hc Tt (.tup [.int (i:Int),.int ((o[i]:Nat):Int)])=H1 at sT eT ⊢;refine ⟨Tt,_,rfl,.of eT,rfl,_,_,rfl,_,_,rfl,rfl,?_⟩;refine ⟨_,rfl,_,rfl,_,rfl,c,_,_,o[i],rfl,rfl,sT _ _ ec,by rw [aG,eW];exact Gw hp,?_⟩
  exact ⟨fA (sc.trans sT) Jf,_,_,rfl,by rw [ay,O4 ho hi]⟩
 ·rintro σ Hc ⟨sc,v2,v3,rfl,ec⟩
  rw [aG,O6 ho] at ec;exact ⟨_,rfl,kk c Hc sc Jf ec⟩
theorem R9:bQ ["linked","places","one","other"] ["linked","places"] (bj zd):=cL
theorem R_(T:Txt K mg t):bH P w K mg base cm 1 t.pD t.r6 ["linked","places"] O7:=by
 have S:=R9;refine T.tj.dy S (fun _ _ _ _ H _ _ _ hr h=>?_);obtain ⟨D,pl,n,ds,un,f,ps,rfl,KL,tS,Sa,n9,kk⟩:=h;have hu:=j6 (qH (show 1≤64 by decide) _) hr.units
 have bS:∀i,i<n→un i→pl≠ds i:=fun i hi ui z=>by rw [z,KL.at' i hi ui] at tS;cases tS
 have Jg:∀{i:Nat} {x:V},(ps.map fun k:Nat=>V.int (k:Int))[i]?=some x→∃p:Nat,ps[i]?=some p∧x=.int (p:Int)∧p<n∧un p:=fun{i x} hx=>by
  rw [bD] at hx;cases e:ps[i]? with
  | none=>rw [e] at hx;cases hx
  | some p=>rw [e] at hx;exact ⟨p,rfl,(Option.some.inj hx).symm,Sa p (uj e)⟩
 refine ⟨_,(aK (e9 d7 rfl (gN (pv 1)) (dc (i:=2) S.nd rfl (Or.inl rfl))
   (aK (e9 d7 rfl (gN (pv 1)) (dc (i:=3) S.nd rfl (Or.inl rfl))
   (aK (dv (di EF (pv 2) (pv 3)) (aK (yG hu (ba cZ (pv 0) (pv 2)) (pv 3) iw rfl)) dG)))))),?_⟩
 refine ⟨_,rfl,pl,rfl,⟨_,.of tS⟩,?_⟩;refine qU (K:=K) (a:=pl) (xs:=ps.map fun k:Nat=>V.int (k:Int)) (fun i σ Hc=>∃(g:Nat→List Nat) (v2 v3:Option V),σ=[some (.ref D),some (.ref pl),v2,v3]∧m6 n ds un H Hc∧dq Hc D n ds un g∧fT n f ps i 0 g) ⟨f,_,_,rfl,.refl,KL,fT.start n f ps⟩ (fun i σ Hc _ ⟨_,_,_,_,oc,_⟩=>.of (oc _ _ tS bS)) ?_ ?_
 ·rintro i x σ Hc hx ⟨g,v2,v3,rfl,oc,Kc,la⟩
  obtain ⟨p,hp,rfl,pn,up⟩:=Jg hx;refine ⟨_,rfl,pl,rfl,⟨_,.of (oc _ _ tS bS)⟩,?_⟩;refine qU (K:=K) (a:=pl) (xs:=ps.map fun k:Nat=>V.int (k:Int)) (fun j σ Hd=>∃(g:Nat→List Nat) (v3:Option V),σ=[some (.ref D),some (.ref pl),some (.int (p:Int)),v3]∧m6 n ds un H Hd∧dq Hd D n ds un g∧fT n f ps i j g) ⟨g,_,rfl,oc,Kc,la⟩ (fun i σ Hc _ ⟨_,_,_,oc,_⟩=>.of (oc _ _ tS bS)) ?_ ?_
  ·rintro j y σ Hd hy ⟨g,v3,rfl,od,Kd,la⟩
   obtain ⟨q,hq,rfl,qn,uq⟩:=Jg hy;refine ⟨_,rfl,_,rfl,rfl,_,rfl,de (fun hb=>?_) (fun hb=>?_)⟩
   ·have ne:p≠q:=fun z=>by subst z;rw [vd,a7 rfl] at hb;cases hb
    obtain ⟨q1,K1⟩:=Kd.put pn qn up n9;exact ⟨_,rfl,_,rfl,D,_,_,_,rfl,rfl,.of Kd.lst,Kd.ix pn,_,rfl,_,_,rfl,q1,_,_,rfl,od.put pn up,K1,la.put hp hq ne⟩
   ·have e:p=q:=by
     by_cases z:(p:Int)=(q:Int);·omega
     ·exact absurd (by rw [vd,bt z];rfl) hb
    subst e;exact ⟨_,_,rfl,od,Kd,la.same hp hq⟩
  ·rintro σ Hd ⟨g,v3,rfl,od,Kd,la⟩
   rw [aG] at la;exact ⟨g,_,_,rfl,od,Kd,la.row⟩
 ·rintro σ Hc ⟨g,v2,v3,rfl,oc,Kc,la⟩
  rw [aG] at la;exact kk _ g oc Kc la.done
theorem Sb:bQ ["shape","order","linked","turns","told","place"] ["shape","order"] (bj ze):=cL
theorem Jh(T:Txt K mg t):bH P w K mg base (gp P w) 4 t.pE t.r_ ["shape","order"] (P5 t.jW):=by
 have S:=Sb;refine T.qc.gP S (fun _ _ _ _ H _ _ _ hr h L=>?_);obtain ⟨tp,a,n,Lk,zs,rfl,hS,hL,ns,XI,ea,jZ,kE,kk⟩:=h;obtain ⟨lt,us,dr,elt,ni⟩:=id hS
 refine ⟨_,(aF (iW (bw (R6 T) hr T.Ia T.sZ.kp T.H_ (xZ L) (aj (pv 1) (aj (ba en (pv 0) aC) ar))))
  (eL.lA (aF (putL 2 S.nd (bw (zP T) hr T.wb T.lW.kp T.wa bL (aj (pv 0) ar)))
  (aF (Bn 3 S.nd (bw (R8 T) hr T.Ic T.s_.kp T.Ib bL (aj (pv 1) ar)))
  (aF (yg (i0:=4) (N:=["place"]) (ρ:=(fun σ=>[])) (iG [] rfl) rfl S.nd rfl (Or.inl rfl) (gN (pv 1)) (fun _ _ _=>.nil) (fun _ _ _=>(eh ar)))
  (aF (e9 d7 rfl (gN (pv 1)) (dc (i:=5) S.nd rfl (Or.inr rfl))
   (aF (@uW _ _ _ _ _ _ (cQ Gq rfl T.tR uJ (aj (lF (N:=["other","turns","place"]) (ρ:=(fun σ=>[σ[3]?.join,σ[5]?.join])) (iG [3,5] rfl) rfl (vI (ba cZ (pv 2) (pv 5))) (fun _ _ _=>(.one (di mK (ba (Bt (K:=K)) (pv 1) (pv 0)) (ba (Bt (K:=K)) (pv 1) (pv 2))))) (fun _ _ _=>(pv 0))) ar)) (uV (pv 4) (pv 5) set_list) (by rfl) (by rfl) (by rfl))
  (aK (iW (bw (R_ T) hr T.Ig T.tj.kp T.Ie bL (aj (pv 2) (aj (ba cZ (pv 4) (pv 5)) ar)))))))
  (aK (bF (pv 4))))))))),?_⟩
 refine ⟨_,rfl,_,rfl,tp,_,_,_,rfl,rfl,.of dr,rfl,a,zs,n,rfl,ea,jZ,by omega,fun no H1 s1=>kE no H1 s1,fun yes H1 s1=>?_⟩
 obtain ⟨o,rfl,ho⟩:=Pc yes;have kk:=kk o rfl ho;have lo:=rG ho;have nd:=m5 ho;have nC:H a=some (.lst (o.map fun k:Nat=>V.int (k:Int))):=by rw [ea,dF];rfl
 have lm:(o.map fun k:Nat=>V.int (k:Int)).length=n:=by rw [aG,lo]
 refine ⟨_,rfl,tp,n,Lk,rfl,⟨lt,us,s1 _ _ dr,s1 _ _ elt,ni.mono s1⟩,hL,by omega,fun H2 D ds f s2 nD nE KL nb=>?_⟩
 have XJ:=none_of s1 nD;have Ji:∀i,i<n→H (ds i)=none:=fun i hi=>none_of s1 (nE i hi);have fZ:=s1.trans s2;dsimp only [aX];refine ⟨_,rfl,a,n,o,rfl,⟨fZ _ _ nC,ho⟩,by omega,fun tr H3 s3 Sd e3=>?_⟩
 have iO:=fZ.trans s3;have XM:=none_of fZ Sd;have K3:=KL.mono s3;dsimp only [aX];refine bO (rg (FK (xs:=o.map fun k:Nat=>V.int (k:Int)) (n:=n) lm (fun R h=>⟨_,rfl,a,rfl,⟨_,.of (iO _ _ nC)⟩,h _ _ (ak.refl _) (oF (.of (iO _ _ nC)))⟩) (dz (by omega)) (fun _ i y Hx=>H3 y=none) (fun _ _ _ _ _ _ h _ _ _=>h) ?_ ?_))
 ·intro D' i x hx Hc R sc _ kc
  refine ⟨by show 0≤sizeLine;exact b7 _,fun p np=>kc p _ (aY np) np ⟨_,ay⟩ (none_of sc np)⟩
 ·intro c Se H4 nc s4 _ hA ec
  have j4:=iO.trans s4;have Jj:=none_of iO nc;have K4:=K3.mono s4;have e4:=s4 _ _ e3;have cD:c≠D:=fun z=>by rw [z,K3.lst] at nc;cases nc
  have Sf:c≠tr:=fun z=>by rw [z,e3] at nc;cases nc
  dsimp only [aX];refine bO ⟨_,rfl,a,rfl,⟨_,.of (j4 _ _ nC)⟩,?_⟩
  refine qU (K:=K) (a:=a) (xs:=o.map fun k:Nat=>V.int (k:Int)) (fun k σ Hc=>∃(rs:Nat→Addr) (f g:Nat→List Nat) (v5:Option V),σ=[some (.ref tp),some (.ref a),some (.ref D),some (.ref tr),some (.ref c),v5]∧ak H Hc∧dq Hc D n ds (fun p=>k≤o.idxOf p) f∧Hc tr=some (.lst ((List.range n).map fun p=>V.int (o.idxOf p:Int)))∧Hc c=some (.lst ((List.range n).map fun p=>V.ref (rs p))) ∧
    (∀p,p<n→o.idxOf p<k→H (rs p)=none∧rs p≠c∧Hc (rs p)=some (.lst ((g p).map fun k:Nat=>V.int (k:Int)))∧jO n o p (g p)∧m9 n Lk o p (g p))∧oW n Lk o k f) ⟨Se,f,fun _=>[],_,rfl,j4,K4.less (fun _ _ _=>trivial),e4,ec,fun p _ h=>absurd h (mf _),oW.start nb ns⟩ (fun k σ Hc _ ⟨_,_,_,_,_,sc,_⟩=>.of (sc _ _ nC)) ?_ ?_
  ·rintro k x σ Hc hx ⟨rs,f,g,v5,rfl,sc,Kc,C3,zQ,done,C4⟩
   have hk:k<o.length:=by have:=(cp.mp hx).1;simpa using this
   have ex:x=.int ((o[k]:Nat):Int):=by rw [bD] at hx;simp [hk] at hx;exact hx.symm
   subst ex;have hp:o[k]<n:=(fE ho).mp (bJ hk);have ip:o.idxOf o[k]=k:=yJ nd hk;generalize o[k]=p at hp ip ⊢;dsimp only [aX];have zR:=Kc.at' p hp (by omega)
   refine bO (rg (vg (yK ⟨_,rfl,_,rfl,D,_,_,_,rfl,rfl,.of Kc.lst,Kc.ix hp,ds p,dk (f p),rfl,.inl ⟨zR,fun ob=>?_⟩⟩)));have Kf:dq (upd Hc (ds p) (.a9 ob (.dK (dk (f p))))) D n ds (fun q=>k+1≤o.idxOf q) f:=(Kc.less (fun i hi (ui:k+1≤o.idxOf i)=>show k≤o.idxOf i by omega)).upd (Kc.ne p hp) (fun i hi (ui:k+1≤o.idxOf i) z=>by have:=Kc.inj i p hi hp z;subst this;omega)
   have C5:∀{b:Addr} {xs:List V},Hc b=some (.lst xs)→b≠ds p:=fun{b xs} e z=>by rw [z,zR] at e;cases e
   have zS:upd Hc (ds p) (.a9 ob (.dK (dk (f p)))) tr=_:=(aH (C5 C3)).trans C3;have tT:upd Hc (ds p) (.a9 ob (.dK (dk (f p)))) c=_:=(aH (C5 zQ)).trans zQ;have sf:ak H (upd Hc (ds p) (.a9 ob (.dK (dk (f p))))):=fun b u e=>by
    rw [aH (fun z=>by rw [z,Ji p hp] at e;cases e)]
    exact sc _ _ e
   have C6:∀q,q<n→o.idxOf q<k→H (rs q)=none∧rs q≠c∧upd Hc (ds p) (.a9 ob (.dK (dk (f p)))) (rs q)=some (.lst ((g q).map fun k:Nat=>V.int (k:Int)))∧jO n o q (g q)∧m9 n Lk o q (g q):=fun q hq zT=>by obtain ⟨d1,d2,d3,d4⟩:=done q hq zT;exact ⟨d1,d2,(aH (C5 d3)).trans d3,d4⟩
   have gH:upd Hc (ds p) (.a9 ob (.dK (dk (f p)))) (ds p)=some (.a9 ob (.dK (dk (f p)))):=ay;generalize upd Hc (ds p) (.a9 ob (.dK (dk (f p))))=Hf at Kf zS tT sf C6 gH ⊢;have tU:=Kc.pl p hp;refine B4 gH (fun q=>decide ((o.idxOf p:Int)<(o.idxOf q:Int))) (j6 tU.len (dz (by omega))) ?_ ?_ ?_
   ·intro q hq Hx R sx hR
    have qn:=tU.2 q hq;exact ⟨_,rfl,_,rfl,tr,_,_,_,rfl,rfl,.of (sx _ _ zS),kM qn,_,rfl,_,rfl,tr,_,_,_,rfl,rfl,.of (sx _ _ zS),kM hp,_,_,rfl,rfl,_,rfl,hR⟩
   ·intro q hq Hx R hR
    exact ⟨_,rfl,hR⟩
   ·intro D1 H1 Sg Jk wj
    rw [Ph] at wj;have fl:((f p).filter fun q=>decide (o.idxOf p<o.idxOf q)).length≤n:=cj (xg _ _) tU.len;refine ⟨D1,((f p).filter fun q=>decide (o.idxOf p<o.idxOf q)).map iN,rfl,by rw [wj,dF];rfl,by rw [aG];omega,fun ws D2 pw so zU=>?_⟩
    obtain ⟨ms,rfl,pm⟩:=Gy pw;have zW:=Pb tU pm so;have hm:∀q,q∈ms↔q∈f p∧k<o.idxOf q:=fun q=>by rw [pm.mem_iff,d6,ie,ip]
    have Sh:m9 n Lk o p ms:=fun q=>by
     rw [hm q,ip];constructor
     ·rintro ⟨h1,h2⟩
      have qn:=tU.2 q h1;exact ⟨qn,h2,((C4 p q hp qn (by omega) (by omega)).mp h1).2⟩
     ·rintro ⟨h1,h2,h3⟩
      exact ⟨(C4 p q hp h1 (by omega) (by omega)).mpr ⟨fun e=>by subst e;omega,h3⟩,h2⟩
    have qh:ak Hf (upd H1 D2 (.lst ((ms.map iN).map V.int))):=oT Jk zU;have nF:upd H1 D2 (.lst ((ms.map iN).map V.int)) D2=some (.lst (ms.map fun k:Nat=>V.int (k:Int))):=by rw [ay,dF];rfl
    have C7:Hf D2=none:=none_of Jk zU;have Si:H D2=none:=none_of sf C7;generalize upd H1 D2 (.lst ((ms.map iN).map V.int))=Hg at qh nF ⊢;have Jl:D2≠c:=fun z=>by rw [z,tT] at C7;cases C7
    refine ⟨_,rfl,_,rfl,c,_,_,p,rfl,rfl,qh _ _ tT,by rw [aG,eW];exact Gw hp,?_⟩
    rw [Pd];have Kg:=Kf.mono qh;have Kh:dq (upd Hg c (.lst ((List.range n).map fun q=>V.ref (jg rs p D2 q)))) D n ds (fun q=>k+1≤o.idxOf q) f:=Kg.upd cD (fun i hi ui z=>by have:=Kg.at' i hi ui;rw [z,qh _ _ tT] at this;cases this)
    have sh:ak H (upd Hg c (.lst ((List.range n).map fun q=>V.ref (jg rs p D2 q)))):=fA (sf.trans qh) Jj;have C8:upd Hg c (.lst ((List.range n).map fun q=>V.ref (jg rs p D2 q))) c=_:=ay;have Jm:upd Hg c (.lst ((List.range n).map fun q=>V.ref (jg rs p D2 q))) tr=_:=(aH (Ne.symm Sf)).trans (qh _ _ zS);have C9:upd Hg c (.lst ((List.range n).map fun q=>V.ref (jg rs p D2 q))) D2=_:=(aH Jl).trans nF;have Jn:∀q,q<n→o.idxOf q<k→upd Hg c (.lst ((List.range n).map fun q=>V.ref (jg rs p D2 q))) (rs q)=some (.lst ((g q).map fun k:Nat=>V.int (k:Int))):=fun q hq zT=>by obtain ⟨d1,d2,d3,d4⟩:=C6 q hq zT;exact (aH d2).trans (qh _ _ d3)
    generalize upd Hg c (.lst ((List.range n).map fun q=>V.ref (jg rs p D2 q)))=Hh at Kh sh C8 Jm C9 Jn ⊢;refine ⟨_,rfl,_,rfl,_,rfl,c,_,_,_,rfl,rfl,.of C8,kM hp,?_⟩;rw [GA];refine ⟨D,D2,n,ds,_,f,ms,rfl,Kh,C9,fun q hq=>⟨zW.lt q hq,by have:=zW.la q hq;omega⟩,by omega,fun H5 g5 off K5 con=>?_⟩
    have bS:∀{b:Addr} {xs:List V},Hh b=some (.lst xs)→H5 b=some (.lst xs):=fun{b xs} e=>off _ _ e fun i hi ui z=>by rw [z,Kh.at' i hi ui] at e;cases e
    refine ⟨jg rs p D2,g5,eR g p ms,_,rfl,fun b u e=>off _ _ (sh _ _ e) (fun i hi _ z=>by rw [z,Ji i hi] at e;cases e),K5,bS Jm,bS C8,fun q hq zT=>?_,C4.step ho hp ip hm zW.lt con⟩
    by_cases e:q=p
    ·subst e
     rw [GA,Pf];exact ⟨Si,Jl,bS C9,zW,Sh⟩
    ·rw [Pe e,Pg e]
     have ne:=gB ho hq hp e;have Jo:o.idxOf q<k:=by omega
     obtain ⟨d1,d2,d3,d4⟩:=C6 q hq Jo;exact ⟨d1,d2,bS (Jn q hq Jo),d4⟩
  ·rintro σ Hc ⟨rs,f,g,v5,rfl,sc,Kc,C3,zQ,done,_⟩
   rw [lm] at done;have lt:∀p,p<n→o.idxOf p<n:=fun p hp=>by have:=(vK ((fE ho).mpr hp)).1;omega
   exact ⟨_,rfl,kk Hc c rs g sc Jj (fun p hp=>(done p hp (lt p hp)).1) ⟨zQ,fun p hp=>(done p hp (lt p hp)).2.2.1⟩ fun p hp=>(done p hp (lt p hp)).2.2.2⟩
theorem Sj:bQ ["shape","order","links","place","others"] ["shape","order"] (bj zf):=cL
theorem Jp(T:Txt K mg t):bH P w K mg base (gp P w) 5 t.pF t.si ["shape","order"] (P9 t.jW):=by
 have S:=Sj;refine T.qd.gP S (fun _ _ _ _ H _ _ _ hr h L=>?_);obtain ⟨tp,a,n,Lk,zs,rfl,hS,hL,ns,n9,ea,jZ,kE,kk⟩:=h;obtain ⟨lt,us,dr,elt,ni⟩:=id hS
 refine ⟨_,(aF (putL 2 S.nd (eh ar))
  (aF (e9 (Pm L) rfl (FI rfl T.CZ (aj (bw (Jh T) hr T.CO T.qc.kp T.CN (xZ L) (aj (pv 0) (aj (pv 1) ar))) ar)) (qP rfl (iX (dc (i:=3) S.nd rfl (Or.inr rfl)) (iX (dc (i:=4) S.nd rfl (Or.inl rfl)) qO)))
   (aK (iW (jC ju PySem.F.slot_list_extend PySem.F.type_list_extend Fd (pv 2) (aj (lF (N:=["other","place"]) (ρ:=(fun σ=>[σ[3]?.join])) (iG [3] rfl) rfl (gN (pv 4)) (fun _ _ _=>.nil) (fun _ _ _=>(ko (aj (cQ (A3 rfl) rfl T.zO boot_min (aj (pv 1) (aj (pv 0) ar))) (aj (cQ (A2 rfl) rfl T.wg boot_max (aj (pv 1) (aj (pv 0) ar))) ar))))) ar)))))
  (aK (bF (ko (aj (ba en (pv 0) aC) (aj (iZ E9 rfl T.C0 boot_tuple (aj (cQ BM rfl T.tR uJ (aj (pv 2) ar)) ar)) ar))))))),?_⟩
 refine ⟨b7 _,fun l nl=>?_⟩;have s0:ak H (upd H l (.lst [])):=aY nl;have el:upd H l (.lst []) l=some (.lst []):=ay;generalize upd H l (.lst [])=H0 at s0 el ⊢;dsimp only [aX];refine bO ⟨_,rfl,_,rfl,tp,a,n,Lk,zs,rfl,hS.mono s0,hL,ns,by omega,s0 _ _ ea,jZ,fun no H1 s1=>kE no H1 (s0.trans s1),fun o ez ho H1 D rs g s1 nD Jq la ok=>?_⟩
 have kk:=kk o ez ho;have jc:∀p,p<n→m9 n Lk o p (g p):=fun p hp=>(ok p hp).2;have ok:∀p,p<n→jO n o p (g p):=fun p hp=>(ok p hp).1;have dC:=P8 ho n9 ok;have tV:∀p,p<n→rs p≠l:=fun p hp z=>by have:=Jq p hp;rw [z,el] at this;cases this
 have Sk:D≠l:=fun z=>by rw [z,el] at nD;cases nD
 have tW:((List.range n).map fun p=>V.ref (rs p)).length=n:=by rw [aG,eW]
 refine ⟨D,rfl,⟨_,.of la.1⟩,?_⟩
 refine FJ (K:=K) (l:=D) (xs:=(List.range n).map fun p=>V.ref (rs p)) (fun k σ Hc=>∃(xs:List V) (M:av) (v3 v4:Option V),σ=[some (.ref tp),some (.ref a),some (.ref l),v3,v4]∧ak H Hc∧Gz Hc D n rs g∧Hc l=some (.lst xs)∧yO Hc g k xs M)
  ⟨[],[],_,_,rfl,s0.trans s1,la,s1 _ _ el,⟨⟨rfl,fun k v p h=>by cases h⟩,rfl,fun z=>⟨(fun h=>by cases h),fun⟨p,q,h,_⟩=>absurd h (mf _)⟩,qB⟩⟩ (fun k σ Hc ⟨_,_,_,_,_,_,z,_⟩=>.of z.1) ?_ ?_
 ·rintro k x σ Hc Tt hx ⟨xs,M,v3,v4,rfl,sc,lc,kW,so⟩ nT
  have hk:k<n:=by have:=(cp.mp hx).1;rw [tW] at this;exact this
  have ex:x=.ref (rs k):=by rw [bD,mj hk] at hx;exact (Option.some.inj hx).symm
  subst ex;have sT:ak Hc (upd Hc Tt (.tup [.int (k:Int),.ref (rs k)])):=aY nT;have eT:upd Hc Tt (.tup [.int (k:Int),.ref (rs k)]) Tt=_:=ay;generalize upd Hc Tt (.tup [.int (k:Int),.ref (rs k)])=H2 at sT eT ⊢;have ek:=ok k hk;have lg:(g k).length≤30:=cj (B5 ho ek) (by omega)
  have e2:=sT _ _ (lc.2 k hk);refine ⟨Tt,_,rfl,.of eT,rfl,_,_,rfl,_,_,rfl,rfl,?_⟩;refine ⟨_,rfl,.inl ⟨rfl,_,.of (sT _ _ kW)⟩,Bs (xs:=(g k).map fun k:Nat=>V.int (k:Int)) (fun R h=>⟨_,rfl,rs k,rfl,⟨_,.of e2⟩,h _ _ (ak.refl _) (oF (.of e2))⟩) (by rw [aG];exact dz (by omega)) (fun _ i y Hz=>∃(b:Addr) (q:Nat),y=.ref b∧(g k)[i]?=some q∧Hz b=some (.tup [.int (cC k q).1,.int (cC k q).2])) (fun Dd i y Ha Hb ys ⟨b,x,h1,h2,h3⟩ e f=>⟨b,x,h1,h2,f b _ (fun z=>by rw [z,e] at h3;cases h3) h3⟩) ?_ ?_⟩
  ·intro Dd i x hx Hz R sz _ kz
   obtain ⟨q,hq,rfl⟩:∃q:Nat,(g k)[i]?=some q∧x=.int (q:Int):=by
    rw [bD] at hx;cases e:(g k)[i]? with
    | none=>rw [e] at hx;cases hx
    | some q=>rw [e] at hx;exact ⟨q,rfl,(Option.some.inj hx).symm⟩
   refine ⟨_,rfl,_,rfl,_,_,rfl,_,rfl,_,rfl,_,_,rfl,by show 2≤sizeLine;decide,fun tp gI=>?_⟩
   exact kz _ _ (aY gI) ⟨tp,q,rfl,hq,ay⟩
  ·intro Dd ys H3 Sl s3 tX qg tY
   rw [aG] at tX;have lM:M.length≤435:=by rw [so.len];exact cj (Pl (g:=fun p=>(g p).length) (kZ hk)) dC
   have lx:=so.at'.1;have kX:=s3 _ _ (sT _ _ kW);refine ⟨l,Dd,xs,ys,rfl,rfl,kX,tY,cj (show _≤900 by omega) (by decide),?_⟩
   have k9:∀b o,b≠l→H3 b=some o→upd H3 l (.lst (xs++ys)) b=some o:=fun b o nb e=>by rw [aH nb];exact e
   have zX:=sc.trans (sT.trans s3);refine ⟨xs++ys,M++(g k).map (cC k),_,_,rfl,fun b u e=>k9 b u (fun z=>by rw [z,nl] at e;cases e) (zX _ _ e),⟨k9 _ _ Sk (s3 _ _ (sT _ _ lc.1)),fun p hp=>k9 _ _ (tV p hp) (s3 _ _ (sT _ _ (lc.2 p hp)))⟩,ay,so.more (fun h=>((h.mono sT).mono s3).bS kX k9) hk ok ?_⟩
   refine aW.bS (H:=H3) ⟨by rw [tX,aG],fun i v p h1 h2=>?_⟩ kX k9
   obtain ⟨b,q,rfl,hq,e⟩:=qg i v h1;rw [bD,hq] at h2;cases h2;exact ⟨b,rfl,e⟩
 ·rintro σ Hc ⟨xs,M,v3,v4,rfl,sc,lc,kW,so⟩
  rw [tW] at so;have lM:M.length≤435:=by rw [so.len];exact dC
  have lx:=so.at'.1;have bM:∀z∈M,0≤z.2∧z.2<1000:=fun z hz=>by obtain ⟨p,q,h1,h2,rfl⟩:=(so.mem z).mp hz;have:=Pj h1 ((ok p h1).lt q h2);omega
  refine ⟨_,rfl,tp,_,_,_,rfl,rfl,.of (sc _ _ dr),rfl,_,rfl,?_⟩;dsimp only [xP];refine GK kW so.at' (by omega) bM fun l' ws N H3 s3 oU oR hN pN oN=>?_
  have s4:=sc.trans s3;refine ⟨l',ws,rfl,.inl ⟨.of oR,fun lt C_=>?_⟩⟩;have lZ:ak H3 (upd H3 lt (.tup ws)):=aY C_;have Jr:upd H3 lt (.tup ws) lt=some (.tup ws):=ay;generalize upd H3 lt (.tup ws)=Hd at lZ Jr ⊢;refine ⟨by show 2≤sizeLine;decide,fun tq Js=>?_⟩
  have st:ak Hd (upd Hd tq (.tup [.int (n:Int),.ref lt])):=aY Js;have s5:=s4.trans (lZ.trans st);have bN:∀z∈N,0≤z.2∧z.2<1000:=fun z hz=>bM z (pN.mem_iff.mp hz);refine kk _ tq N s5 (none_of (s4.trans lZ) Js) ⟨lt,ws,ay,st _ _ Jr,(hN.mono lZ).mono st⟩ ⟨P6 oN (pN.nodup_iff.mpr so.nd) bN,fun z=>?_⟩ (by rw [pN.length_eq];omega)
  rw [pN.mem_iff,so.mem];constructor
  ·rintro ⟨p,q,h1,h2,h3⟩
   obtain ⟨w1,w2,w3⟩:=(jc p h1 q).mp h2;exact ⟨p,q,h1,w1,w2,w3,h3⟩
  ·rintro ⟨p,q,h1,w1,w2,w3,h3⟩
   exact ⟨p,q,h1,(jc p h1 q).mpr ⟨w1,w2,w3⟩,h3⟩
theorem Sm:bQ ["shape","order"] ["shape","order"] (bj zi):=cL
theorem zY(T:Txt K mg t):bH P w K mg base (gp P w) 6 t.pI t.su ["shape","order"] (Qf t.jW):=by have S:=Sm;refine T.lY.gP S (fun _ _ _ _ H _ _ _ hr h L=>?_);obtain ⟨tp,a,n,Lk,zs,rfl,hS,hL,ns,n9,ea,jZ,kE,kk⟩:=h;have iM:=hr.units;refine ⟨_,(aK (bF (gm (Qc iM) (bw (Jp T) hr T.CQ T.qd.kp T.CP (xZ L) (aj (pv 0) (aj (pv 1) ar))) (pv 0)))),?_⟩;refine ⟨_,rfl,_,rfl,tp,a,n,Lk,zs,rfl,hS,hL,ns,n9,ea,jZ,kE,fun o ez ho H1 t1 M s1 _ h1 fs _=>?_⟩;exact ⟨_,rfl,t1,tp,n,M,Lk,rfl,rfl,h1,hS.mono s1,kk o ez ho _ _ s1 fs⟩
theorem Sn:bQ ["shape","order"] ["shape","order"] (bj zh):=cL
theorem So(T:Txt K mg t):bH P w K mg base (gp P w) 5 t.pH t.sq ["shape","order"] (Qz t.jW):=by
 have S:=Sn;refine T.tu.gP S (fun _ _ _ _ H _ _ _ hr h L=>?_);obtain ⟨tp,a,n,Lk,zs,rfl,hS,hL,ns,n9,ea,jZ,kE,kk⟩:=h
 refine ⟨_,(aF (bF (cQ (Ni (K:=K) rfl) rfl T.Ja boot_sum (aj (lF (N:=["others"]) (ρ:=(fun σ=>[])) (iG [] rfl) rfl (gN (bw (Jh T) hr T.CO T.qc.kp T.CN (xZ L) (aj (pv 0) (aj (pv 1) ar)))) (fun _ _ _=>.nil) (fun _ _ _=>(bw (RX T) hr T.Ii T.tm.kp T.Ih bL (aj (cQ (Nl (K:=K)) rfl T.hG ig (aj (pv 0) ar)) ar)))) ar)))
  (eL.lA dG)),?_⟩
 refine rm (vg (yK ⟨_,rfl,_,rfl,tp,a,n,Lk,zs,rfl,hS,hL,ns,by omega,ea,jZ,kE,fun o ez ho H1 D rs g s1 nD Jq la ok=>⟨D,rfl,⟨_,.of la.1⟩,?_⟩⟩))
 have tW:((List.range n).map fun p=>V.ref (rs p)).length=n:=by rw [aG,eW]
 refine Bs (xs:=(List.range n).map fun p=>V.ref (rs p)) (fun R h=>h _ _ (ak.refl _) (oF (.of la.1))) (by rw [tW];exact dz (by omega)) (fun _ i y _=>y=.int (((g i).length:Int)*(g i).length+3*(g i).length+1)) (fun _ _ _ _ _ _ h _ _=>h) ?_ ?_
 ·intro D' k x hx Hc R sc _ kc
  have hk:k<n:=by have:=(cp.mp hx).1;rw [tW] at this;exact this
  have ex:x=.ref (rs k):=by rw [bD,mj hk] at hx;exact (Option.some.inj hx).symm
  subst ex;have lg:(g k).length≤30:=cj (B5 ho (ok k hk).1) (by omega)
  refine ⟨_,rfl,rs k,_,rfl,.inl (.of (sc _ _ (la.2 k hk))),(g k).length,by rw [aG];rfl,by omega,kc _ Hc (ak.refl _) rfl⟩
 ·intro D' ys Hc Sq sc tX qg Dc
  rw [tW] at tX;have ey:ys=((List.range n).map fun i=>((g i).length:Int)*(g i).length+3*(g i).length+1).map V.int:=by
   refine fH (by simp [tX]) fun i h1 h2=>?_
   rw [eJ,eJ,lh];exact qg i _ (bU h1)
  have es:((List.range n).map fun i=>((g i).length:Int)*(g i).length+3*(g i).length+1).sum=((((List.range n).map fun i=>(g i).length*(g i).length+3*(g i).length+1).sum:Nat):Int):=by
   generalize List.range n=l;clear ey qg tX kk
   induction l with
   | nil=>rfl
   | cons x l ih=>rw [cT,eK,cT,eK,ih];push_cast;rfl
  refine ⟨D',_,rfl,.of (by rw [Dc,ey]),?_⟩
  rw [es];exact kk o ez ho _ (s1.trans sc) _ fun M fs=>Qx ho fs ok
abbrev l6:Pos:=(⟨69,30,69,55⟩:Pos)
theorem Sr:bQ ["shape","linked","left","counts","picked","place","other"] ["shape"] (bj zo):=cL
theorem Ss(T:Txt K mg t)(hB:jS base mg):bH P w K mg base cm 3 t.pJ t.nk ["shape"] (Rn 120 l6):=by
 have S:=Sr;refine T.tw.yU T.tab S (fun vs H Q E h=>?_) (fun c A outer s H vs Q E hC hr h=>?_)
 ·obtain ⟨tp,n,L,rfl,_⟩:=h
  rfl
 ·obtain ⟨tp,n,L,rfl,dH,eV,n9,tab,kk⟩:=h
  have iM:=hr.units;obtain ⟨lt,us,dr,elt,ni⟩:=id dH
  refine ⟨_,(aF (putL 1 S.nd (bw (zP T) hr T.wb T.lW.kp T.wa bL (aj (pv 0) ar)))
   (aF (putL 2 S.nd (iZ (yd rfl) rfl T.nB boot_list (aj (iZ yc rfl T.jo ye (aj (ba en (pv 0) aC) ar)) ar)))
   (aF (Bn 3 S.nd (bG Fe (eh (aj aC ar)) (ba en (pv 0) aC)))
   (aF (putL 4 S.nd (eh ar))
   (aF (xH d7 (di mK (cQ i5 rfl T.hG ig (aj (pv 2) ar)) aC) (aF (putL 5 S.nd (QZ (i:=3) (aj (pv 2) ar) rfl T.wg rfl (hr.mono (by decide)) hB rfl hC rfl rfl (fun _ _ _ _ _ _ _=>rfl) rfl rfl rfl rfl))
   (aF (iW (jC ju PySem.F.slot_list_remove PySem.F.type_list_remove Qh (pv 2) (aj (pv 5) ar)))
   (aF (iW (jC ju n4 n5 kC (pv 4) (aj (pv 5) ar)))
   (aK (e9 d7 rfl (vI (ba cZ (pv 1) (pv 5))) (dc (i:=6) S.nd rfl (Or.inl rfl))
    (aK (@Ld _ _ _ _ _ _ _ _ _ _ _ _ _ (pv 3) (pv 6) Nw aC Et set_list (by intros;rfl)))))))))
   (aK (bF (Rh rfl rfl T.nB rfl T.I0 (aj (pv 4) ar))))))))),?_⟩
  refine bO ⟨_,rfl,tp,n,L,rfl,dH,eV,n9,fun H1 D ds f s1 nD nE KL nb=>?_⟩;have Jt:=s1 _ _ dr;have XN:=tab.mono s1;dsimp only [aX];refine bO ⟨_,rfl,tp,_,_,_,rfl,rfl,.of Jt,rfl,(n:Int),rfl,fun q1 wm=>⟨q1,n,rfl,ay,by omega,fun l1 zZ=>?_⟩⟩
  have s2:ak H1 (upd (upd H1 q1 (.fJ 0 (n:Int))) l1 (.lst (cV n))):=(aY wm).trans (aY zZ);have e1:upd (upd H1 q1 (.fJ 0 (n:Int))) l1 (.lst (cV n)) l1=some (.lst ((List.range n).map fun k:Nat=>V.int (k:Int))):=by rw [ay];rfl
  have De:H1 l1=none:=none_of (aY wm) zZ;generalize upd (upd H1 q1 (.fJ 0 (n:Int))) l1 (.lst (cV n))=H2 at s2 e1 ⊢;dsimp only [aX];refine bO ⟨by show 1≤sizeLine;decide,fun l nl=>?_⟩
  refine ⟨_,rfl,tp,_,_,_,rfl,rfl,.of ((aY nl) _ _ (s2 _ _ Jt)),rfl,l,(n:Int),[.int 0],rfl,rfl,ay,by omega,by omega,?_,fun l2 Df=>?_⟩
  ·rw [dh]
   exact cj (show [V.int 0].length*n≤1000 by simp;omega) (by decide)
  have e0:(List.replicate ((n:Int).toNat) [V.int 0]).flatten=((List.range n).map fun a=>(eF L [] a:Int)).map V.int:=by
   rw [Nx n];refine uA fun i=>?_;rw [bD,bD,bD,List.getElem?_replicate];by_cases hi:i<n;·simp [hi,eF]
   ·simp [hi]
  rw [e0];have s3:ak H2 (upd (upd H2 l (.lst [.int 0])) l2 (.lst (((List.range n).map fun a=>(eF L [] a:Int)).map V.int))):=(aY nl).trans (aY Df);have e2:upd (upd H2 l (.lst [.int 0])) l2 (.lst (((List.range n).map fun a=>(eF L [] a:Int)).map V.int)) l2=some (.lst (((List.range n).map fun a=>(eF L [] a:Int)).map V.int)):=ay;have z8:H2 l2=none:=none_of (aY nl) Df;generalize upd (upd H2 l (.lst [.int 0])) l2 (.lst (((List.range n).map fun a=>(eF L [] a:Int)).map V.int))=H3 at s3 e2 ⊢;dsimp only [aX];refine bO ⟨b7 _,fun l3 jq=>?_⟩;have s4:ak H3 (upd H3 l3 (.lst [])):=aY jq;have e3:upd H3 l3 (.lst []) l3=some (.lst (([]:List Nat).map fun k:Nat=>V.int (k:Int))):=ay;generalize upd H3 l3 (.lst [])=H4 at s4 e3 ⊢;have j4:ak H1 H4:=(s2.trans s3).trans s4;have Ju:=s1.trans j4;have m1:H l1=none:=none_of s1 De;have m2:H l2=none:=none_of s1 (none_of s2 z8);have m3:H l3=none:=none_of s1 (none_of (s2.trans s3) jq);have Jv:l1≠l2:=fun z=>by rw [z,z8] at e1;cases e1
  have Jw:l1≠l3:=fun z=>by rw [←z,s3 _ _ e1] at jq;cases jq
  have Jx:l2≠l3:=fun z=>by rw [←z,e2] at jq;cases jq
  have KF:=KL.fr;have y1:l1≠D:=fun z=>absurd KL.lst (by rw [←z,De];exact fun h=>by cases h)
  have y2:l2≠D:=fun z=>absurd (s2 _ _ KL.lst) (by rw [←z,z8];exact fun h=>by cases h)
  have y3:l3≠D:=fun z=>absurd ((s2.trans s3) _ _ KL.lst) (by rw [←z,jq];exact fun h=>by cases h)
  have z1:∀i,i<n→ds i≠l1:=fun i hi z=>absurd (KL.at' i hi trivial) (by rw [z,De];exact fun h=>by cases h)
  have z2:∀i,i<n→ds i≠l2:=fun i hi z=>absurd (s2 _ _ (KL.at' i hi trivial)) (by rw [z,z8];exact fun h=>by cases h)
  have z3:∀i,i<n→ds i≠l3:=fun i hi z=>absurd ((s2.trans s3) _ _ (KL.at' i hi trivial)) (by rw [z,jq];exact fun h=>by cases h)
  obtain ⟨XO,eP⟩:=tab.at;have pt:∀{b:Addr},H b=none→b≠120:=fun h z=>by rw [z,eP] at h;cases h
  have K4:dg H4 D n ds f:=⟨j4 _ _ KF.lst,fun i hi=>(KF.at' i hi).imp (fun e=>j4 _ _ e) fun⟨ob,e⟩=>⟨ob,j4 _ _ e⟩⟩;dsimp only [aX];refine bO ⟨fun m σ Hc=>∃(zs Pk:List Nat) (v5 v6:Option V),σ=[some (.ref tp),some (.ref D),some (.ref l1),some (.ref l2),some (.ref l3),v5,v6]∧m=zs.length∧dO 120 H Hc∧cW 120 l6 jl Hc∧dg Hc D n ds f∧Hc l1=some (.lst (zs.map fun k:Nat=>V.int (k:Int)))∧Hc l2=some (.lst (((List.range n).map fun a=>(eF L Pk a:Int)).map V.int))∧Hc l3=some (.lst (Pk.map fun k:Nat=>V.int (k:Int)))∧(zs++Pk).Perm (List.range n)∧kP n (rL L) Pk,⟨_,List.range n,[],_,_,rfl,rfl,fun b o _ e=>Ju _ _ e,tab.mono Ju,K4,(s3.trans s4) _ _ e1,s4 _ _ e2,e3,by rw [k4],kP.nil⟩,?_⟩
  rintro m σ Hc ⟨zs,Pk,v5,v6,rfl,rfl,sc,tc,Kc,ez,ec,ep,pm,pk⟩;have ll:=pm.length_eq;rw [dP,eW] at ll;have zn:∀z∈zs,z<n:=fun z hz=>bY.mp (pm.mem_iff.mp (l_ _ hz));refine ⟨_,rfl,l1,_,rfl,.inl (.of ez),_,_,rfl,rfl,_,rfl,de (fun hb=>?_) (fun hb=>?_)⟩
  ·have z0:zs≠[]:=fun z=>by subst z;have:=eY hb;simp at this
   refine ⟨_,fun _ _ h=>h,?_⟩;refine bO ⟨_,rfl,l1,l2,zs,_,rfl,.of ez,z0,rfl,.of ec,fun y hy=>by rw [aG,eW];exact zn y hy,tc,fun h H5 mk s5 t5=>?_⟩
   have hz:=mk.1;have hn:=zn h hz;have most:∀a,a<n→a∉Pk→(Pk.filter (rL L a)).length≤(Pk.filter (rL L h)).length:=fun a an aP=>by
    have az:a∈zs:=by
     have:=pm.mem_iff.mpr (bY.mpr an);rcases dI.mp this with h | h;·exact h
     ·exact absurd h aP
    have:=mk.2 a az;rw [getD_map an,getD_map hn] at this;unfold eF at this;omega
   have z9:dO 120 H H5:=fun b o n e=>s5 b o n (sc b o n e);have K5:=Kc.keep (a:=120) (fun b u n e=>s5 b u n e) (fun z=>pt nD z.symm) (fun i hi=>pt (nE i hi));have Dg:=s5 _ _ (pt m1) ez;have Su:=s5 _ _ (pt m2) ec;have Sv:=s5 _ _ (pt m3) ep;dsimp only [aX];have ix:zs.idxOf h<zs.length:=mx hz;have Sw:((zs.map fun k:Nat=>(k:Int)).map V.int).eraseIdx (zs.idxOf h)=(zs.erase h).map fun k:Nat=>V.int (k:Int):=by rw [dF,GQ,List.erase_eq_eraseIdx_of_idxOf rfl];rfl
   refine bO ⟨_,rfl,.inl ⟨rfl,_,.of Dg⟩,_,rfl,l1,zs.map fun k:Nat=>(k:Int),zs.idxOf h,(h:Int),rfl,rfl,by rw [Dg,dF];rfl,?_,fun m' d8 e=>?_,?_⟩
   ·rw [bD,bU ix,List.getElem_idxOf]
    rfl
   ·have rM:m'<zs.length:=by omega
    rw [bD,bU rM] at e;have e':((zs[m']:Nat):Int)=(h:Int):=Option.some.inj e;have:=GP d8;rw [bU rM] at this;exact this (cR some (by omega))
   rw [Sw];have o6:∀b u,b≠l1→H5 b=some u→upd H5 l1 (.lst ((zs.erase h).map fun k:Nat=>V.int (k:Int))) b=some u:=fun b u ne e=>by rw [aH ne];exact e
   have Jy:upd H5 l1 (.lst ((zs.erase h).map fun k:Nat=>V.int (k:Int))) l1=some (.lst ((zs.erase h).map fun k:Nat=>V.int (k:Int))):=ay;generalize upd H5 l1 (.lst ((zs.erase h).map fun k:Nat=>V.int (k:Int)))=H6 at o6 Jy ⊢;have z_:dO 120 H H6:=fun b o n e=>o6 b o (fun z=>by rw [z,m1] at e;cases e) (z9 b o n e)
   have t6:=t5.off Dg (fun _ z=>by cases z) (fun _ z=>by cases z) o6
   have K6:=K5.keep o6 y1 z1;have Sx:=o6 _ _ (Ne.symm Jv) Su;have Dh:=o6 _ _ (Ne.symm Jw) Sv;dsimp only;refine bO ⟨_,rfl,.inl ⟨rfl,_,.of Dh⟩,_,rfl,l3,_,_,rfl,rfl,Dh,dz (by rw [aG];omega),?_⟩
   have wq:(Pk.map fun k:Nat=>V.int (k:Int))++[V.int (h:Int)]=(Pk++[h]).map fun k:Nat=>V.int (k:Int):=by rw [fG];rfl
   rw [wq];have o7:∀b u,b≠l3→H6 b=some u→upd H6 l3 (.lst ((Pk++[h]).map fun k:Nat=>V.int (k:Int))) b=some u:=fun b u ne e=>by rw [aH ne];exact e
   have Jz:upd H6 l3 (.lst ((Pk++[h]).map fun k:Nat=>V.int (k:Int))) l3=some (.lst ((Pk++[h]).map fun k:Nat=>V.int (k:Int))):=ay;generalize upd H6 l3 (.lst ((Pk++[h]).map fun k:Nat=>V.int (k:Int)))=H7 at o7 Jz ⊢;have Aa:dO 120 H H7:=fun b o n e=>o7 b o (fun z=>by rw [z,m3] at e;cases e) (z_ b o n e)
   have t7:=t6.off Dh (fun _ z=>by cases z) (fun _ z=>by cases z) o7
   have K7:=K6.keep o7 y3 z3;have Sy:=o7 _ _ Jx Sx;have Sz:=o7 _ _ Jw Jy;dsimp only;refine GD (a:=ds h) (kvs:=dk (f h)) (fun Q q=>⟨_,rfl,_,rfl,D,_,_,_,rfl,rfl,.of K7.lst,kM hn,q⟩) (K7.at' h hn) fun ob Hf gH off=>?_;have Kf:=K7.a9 off hn gH KL.inj (KL.ne h hn);have vR:dO 120 H Hf:=fun b o n e=>off b o (fun z=>by rw [z,nE h hn] at e;cases e) (Aa b o n e)
   have tf:cW 120 l6 jl Hf:=by
    rcases K7.at' h hn with e | ⟨ob,e⟩;·exact t7.off e (fun _ z=>by cases z) (fun _ z=>by cases z) off
    ·exact t7.off e (fun _ z=>by cases z) (fun _ z=>by cases z) off
   have SA:=off _ _ (Ne.symm (z1 h hn)) Sz;have tT:=off _ _ (Ne.symm (z2 h hn)) Sy;have zR:=off _ _ (Ne.symm (z3 h hn)) Jz;have JA:=KL.pl h hn;refine GC (fun i σ He=>∃(v6:Option V),σ=[some (.ref tp),some (.ref D),some (.ref l1),some (.ref l2),some (.ref l3),some (.int (h:Int)),v6]∧dO 120 H He∧cW 120 l6 jl He∧dg He D n ds f∧He (ds h)=some (.a9 ob (.dK (dk (f h))))∧He l1=some (.lst ((zs.erase h).map fun k:Nat=>V.int (k:Int)))∧He l3=some (.lst ((Pk++[h]).map fun k:Nat=>V.int (k:Int)))∧He l2=some (.lst (((List.range n).map fun a=>(eF L Pk a:Int)+if a∈(f h).take i then 1 else 0).map V.int))) ⟨_,rfl,vR,tf,Kf,gH,SA,zR,by rw [tT];simp⟩ (fun i σ He _ ⟨_,_,_,_,_,e,_⟩=>e) ?_ ?_
   ·rintro i k σ He hk ⟨v6,rfl,se,te,Ke,wt,Di,Dj,qi⟩
    have km:k∈f h:=uj hk;have kn:k<n:=JA.2 k km;have tk:=take_snoc hk;have kt:k∉(f h).take i:=fun z=>by have nd:=JA.1;rw [←mq (i+1) (f h),tk,fm,jt] at nd;exact nd.2.2 k z k (by simp) rfl
    dsimp only [aX];refine ⟨_,rfl,_,rfl,l2,_,(k:Int),.int ((eF L Pk k:Int)+0),rfl,rfl,Int.natCast_nonneg _,.of qi,?_,_,_,rfl,rfl,l2,_,(k:Int),k,rfl,rfl,qi,?_,?_⟩
    ·refine oB ?_
     rw [bD,bD,mj kn,Option.map_some,Option.map_some,aa kt]
    ·have lr:((List.map (fun a=>(eF L Pk a:Int)+if a∈(f h).take i then 1 else 0) (List.range n)).map V.int).length=n:=by rw [aG,aG,eW]
     rw [lr];unfold kA;rw [ae (Int.natCast_nonneg _),ae (by omega),dh]
    have SD:(((List.range n).map fun a=>(eF L Pk a:Int)+if a∈(f h).take i then 1 else 0).map V.int).set k (.int ((eF L Pk k:Int)+0+1))=((List.range n).map fun a=>(eF L Pk a:Int)+if a∈(f h).take (i+1) then 1 else 0).map V.int:=by
     rw [dF,dF,Rm];refine h_ fun a _=>?_;by_cases e:a=k
     ·subst e
      rw [ae rfl];show V.int _=V.int (_+if a∈(f h).take (i+1) then 1 else 0)
      rw [ae (by rw [tk];simp)]
      congr 1
     ·rw [aa e]
      show V.int (_+if a∈(f h).take i then 1 else 0)=V.int (_+if a∈(f h).take (i+1) then 1 else 0)
      have:a∈(f h).take (i+1)↔a∈(f h).take i:=by rw [tk];simp [e]
      simp only [this]
    rw [SD];have o8:∀b u,b≠l2→He b=some u→upd He l2 (.lst (((List.range n).map fun a=>(eF L Pk a:Int)+if a∈(f h).take (i+1) then 1 else 0).map V.int)) b=some u:=fun b u ne e=>by rw [aH ne];exact e
    exact ⟨_,rfl,fun b o n e=>o8 b o (fun z=>by rw [z,m2] at e;cases e) (se b o n e),te.off qi (fun _ z=>by cases z) (fun _ z=>by cases z) o8,Ke.keep o8 y2 z2,o8 _ _ (z2 h hn) wt,o8 _ _ Jv Di,o8 _ _ (Ne.symm Jx) Dj,ay⟩
   ·rintro σ He ⟨v6,rfl,se,te,Ke,wt,Di,Dj,qi⟩
    rw [hW] at qi;have SE:((List.range n).map fun a=>(eF L Pk a:Int)+if a∈f h then 1 else 0)=(List.range n).map fun a=>(eF L (Pk++[h]) a:Int):=by
     refine h_ fun a ha=>?_;rw [Rk];have e:a∈f h↔rL L a h=true:=by rw [nb h a hn,dZ];exact or_comm
     by_cases q:a∈f h;·rw [ae q,ae (e.mp q)];rfl
     ·rw [aa q,aa fun z=>q (e.mpr z)];rfl
    rw [SE] at qi;refine ⟨_,?_,zs.erase h,Pk++[h],_,_,rfl,rfl,se,te,Ke,Di,qi,Dj,?_,pk.snoc most⟩
    ·rw [xj hz]
     exact Nat.sub_lt (Nat.pos_of_ne_zero fun z=>z0 (List.eq_nil_of_length_eq_zero z)) Nat.one_pos
    ·refine List.Perm.trans ?_ pm
     have h1:=List.perm_cons_erase hz;refine List.Perm.trans ?_ (h1.symm.append_right Pk);rw [←fm];exact qy
  ·have z0:zs=[]:=by
    cases zs with
    | nil=>rfl
    | cons x r=>refine absurd (a7 ?_) hb;show (0:Int)<_;simp
   subst z0;dsimp only;refine ⟨_,rfl,l3,_,rfl,.of ep,?_,fun R nR=>?_⟩
   ·rw [aG]
    simp at ll;omega
   rw [←List.map_reverse];have sR:ak Hc (upd Hc R (.lst (Pk.reverse.map fun k:Nat=>V.int (k:Int)))):=aY nR;rw [List.nil_append] at pm;refine kk _ R Pk (fun b o n e=>sR _ _ (sc b o n e)) (tc.mono sR) ?_ ay pm pk;cases e:H R with
   | none=>rfl
   | some o=>
    by_cases z:R=120
    ·obtain ⟨ps,e2⟩:=tc.at
     rw [z,e2] at nR;cases nR
    ·rw [sc R o z e] at nR;cases nR
theorem SF:bQ ["linked","whence","place"] ["linked","whence","place"] (bj zq):=cL
theorem SG(T:Txt K mg t):bH P w K mg base cm 1 t.pL t.sD ["linked","whence","place"] RB:=by
 have S:=SF;refine T.tE.dy S (fun _ _ _ _ H _ Q _ hr h=>?_);obtain ⟨D,wd,n,L,ds,f,wl,p,rfl,ls,lf,ew,CD,pn,n9,kk⟩:=h;have hu:=j6 (qH (show 1≤64 by decide) _) hr.units
 refine ⟨_,(aK (bF (lF (N:=["other","whence"]) (ρ:=(fun σ=>[σ[1]?.join])) (iG [1] rfl) rfl (vI (ba cZ (pv 0) (pv 2))) (fun _ _ _=>(.one (xB (BX hu (pv 0) (pv 1)) rfl))) (fun _ _ _=>(pv 0))))),?_⟩;refine rm (yK (HL (a:=ds p) (kvs:=dk (f p)) (fun Q q=>⟨_,rfl,_,rfl,D,_,_,_,rfl,rfl,.of lf.lst,kM pn,q⟩) (lf.at' p pn) fun ob Hf gH off fz=>?_));have SH:=off _ _ (CD p pn) ew;have Kf:=lf.a9 off pn gH ls.inj (ls.ne p pn);have tU:=(ls.pl p pn).len;refine B4 gH (fun q=>!decide (q∈bE wl)) (dz (by omega)) ?_ ?_ ?_
 ·intro q hq Hx R sx hR
  refine ⟨_,rfl,_,rfl,wd,_,rfl,.inl ⟨cX wl,Sum.inl (q:Int),.inl (sx _ _ SH),rfl,rfl⟩,_,rfl,?_⟩;have e:(fg (cX wl) (Sum.inl (q:Int):Key)).isSome=decide (q∈bE wl):=by
   rw [y6,uE];by_cases h:q∈bE wl;·rw [a7 h,lookup_mem.mpr h]
   ·rw [bt h]
    cases z:wl.lookup q with
    | none=>rfl
    | some o=>exact absurd (lookup_mem.mp (by rw [z];rfl)) h
  rw [e];exact hR
 ·intro q hq Hx R hR
  exact ⟨_,rfl,hR⟩
 ·intro r Hg nr sg eg
  have SI:gF n ds H Hg:=fun b u e ne=>by
   refine sg _ _ ?_;by_cases z:b=ds p
   ·rcases ne with h | ⟨jV,u',rfl⟩
    ·exact absurd z (h p pn)
    ·rw [z] at e ⊢
     exact fz _ _ e
   ·exact off _ _ z e
  refine kk Hg r SI ⟨sg _ _ Kf.lst,fun i hi=>(Kf.at' i hi).imp (fun e=>sg _ _ e) fun⟨ob,e⟩=>⟨ob,sg _ _ e⟩⟩ ?_ eg;cases e:H r with
  | none=>rfl
  | some o=>
   by_cases z:r=ds p;·rw [z,gH] at nr;cases nr
   ·rw [off r o z e] at nr;cases nr
theorem SJ:bQ ["whence","place","walk"] ["whence","place"] (bj zp):=cL
theorem SK(T:Txt K mg t):bH P w K mg base cm 1 t.pK t.sC ["whence","place"] RC:=by
 have S:=SJ;refine T.tD.dy S (fun _ _ _ _ H _ _ _ hr h=>?_);obtain ⟨wd,wl,v,ws,rfl,ew,bk,w9,kk⟩:=h;have hu:=j6 (qH (show 1≤64 by decide) _) hr.units
 refine ⟨_,(aF (putL 2 S.nd (eh ar))
  (aF (xH d7 (di EI (pv 1) qK) (aF (iW (jC ju n4 n5 kC (pv 2) (aj (pv 1) ar)))
  (aK (putL 1 S.nd (OG hu (pv 0) (pv 1) (fun _ _=>rfl))))))
  (aK (bF (pv 2))))),?_⟩
 refine bO ⟨b7 _,fun l nl=>?_⟩;have s0:ak H (upd H l (.lst [])):=aY nl;have el:upd H l (.lst []) l=some (.lst (([]:List Nat).map fun k:Nat=>V.int (k:Int))):=ay;generalize upd H l (.lst [])=H0 at s0 el ⊢;dsimp only [aX];refine bO ⟨fun m σ Hc=>∃(as rs:List Nat) (po:Option Nat),σ=[some (.ref wd),some (oV po),some (.ref l)]∧m=rs.length∧ws=as++rs∧(match po with | none=>rs=[] | some p=>Back wl p rs)∧ak H Hc∧Hc l=some (.lst (as.map fun k:Nat=>V.int (k:Int))),⟨_,[],ws,some v,rfl,rfl,rfl,bk,s0,el⟩,?_⟩
 rintro m σ Hc ⟨as,rs,po,rfl,rfl,wu,hp,sc,kW⟩;refine ⟨_,rfl,rfl,_,rfl,de (fun hb=>?_) (fun hb=>?_)⟩
 ·cases po with
  | none=>exact absurd hb (by decide)
  | some p=>
   have hp:Back wl p rs:=hp;have XQ:as.length+rs.length=ws.length:=by rw [wu,dP]
   refine ⟨_,fun _ _ h=>h,?_⟩;refine bO ⟨_,rfl,.inl ⟨rfl,_,.of kW⟩,_,rfl,l,_,_,rfl,rfl,kW,dz (by rw [aG];omega),?_⟩
   have wq:(as.map fun k:Nat=>V.int (k:Int))++[oV (some p)]=(as++[p]).map fun k:Nat=>V.int (k:Int):=by rw [fG];rfl
   rw [wq];have SM:H l=none:=nl;have s1:ak H (upd Hc l (.lst ((as++[p]).map fun k:Nat=>V.int (k:Int)))):=fA sc SM;have tZ:upd Hc l (.lst ((as++[p]).map fun k:Nat=>V.int (k:Int))) l=some (.lst ((as++[p]).map fun k:Nat=>V.int (k:Int))):=ay;generalize upd Hc l (.lst ((as++[p]).map fun k:Nat=>V.int (k:Int)))=H1 at s1 tZ ⊢;dsimp only [aX];cases hp with
   | last h1=>
    refine ⟨_,rfl,_,rfl,wd,oV none,rfl,.inl ⟨cX wl,Sum.inl (p:Int),.inl (s1 _ _ ew),rfl,by rw [y6,h1];rfl⟩,?_⟩
    exact ⟨0,Nat.one_pos,as++[p],[],none,rfl,rfl,by rw [wu];simp,rfl,s1,tZ⟩
   | @step _ p2 JB h1 h2=>
    refine ⟨_,rfl,_,rfl,wd,oV (some p2),rfl,.inl ⟨cX wl,Sum.inl (p:Int),.inl (s1 _ _ ew),rfl,by rw [y6,h1];rfl⟩,?_⟩
    exact ⟨JB.length,Nat.lt_succ_self _,as++[p],JB,some p2,rfl,rfl,by rw [wu];simp,h2,s1,tZ⟩
 ·cases po with
  | some p=>exact absurd (by rfl) hb
  | none=>have hp:rs=[]:=hp;subst hp;rw [k4] at wu;subst wu;exact ⟨_,rfl,kk _ _ sc nl kW⟩
theorem SN:bQ ["linked","place","start","whence","heads","reached","head","fresh","other"] ["linked","place","start"] (bj zr):=cL
theorem SO(T:Txt K mg t):bH P w K mg base cm 2 t.pM t.sE ["linked","place","start"] RD:=by
 have S:=SN;refine T.tF.dy S (fun _ _ _ _ H _ _ _ hr h=>?_);obtain ⟨D,n,L,ds,f,x,st,rfl,ls,lf,pw,lt,xs,n9,kN,kk⟩:=h;have hu:=j6 (qH (show 1≤64 by decide) _) hr.units
 refine ⟨_,(aF (putL 3 S.nd (OM (Gj (pv 1) qK (Gj (pv 2) qK OK)) rfl rfl (fun h=>by cases h) (by decide)))
  (aF (putL 4 S.nd (eh (aj (pv 2) ar)))
  (aF (xH d7 (di mK (cQ i5 rfl T.hG ig (aj (pv 4) ar)) aC) (aF (putL 5 S.nd (eh ar))
  (aF (e9 d7 rfl (gN (pv 4)) (dc (i:=6) S.nd rfl (Or.inl rfl))
   (aF (putL 7 S.nd (bw (SG T) hr T.Ir T.tE.kp T.Iq bL (aj (pv 0) (aj (pv 3) (aj (pv 6) ar)))))
  (aK (e9 d7 rfl (gN (pv 7)) (dc (i:=8) S.nd rfl (Or.inl rfl))
   (aF (yG hu (pv 3) (pv 8) (pv 6) rfl)
  (aK (dv (xB (BX hu (pv 8) (ba cZ (pv 0) (pv 1))) rfl) (aK (iW (jC ju n4 n5 kC (pv 5) (aj (pv 8) ar)))) (aK (dv (xB (BX hu (pv 8) (ba cZ (pv 0) (pv 2))) rfl) (aK (bF (bG Bc (eh (aj (pv 1) ar)) (bw (SK T) hr T.Ip T.tD.kp T.Io bL (aj (pv 3) (aj (pv 8) ar)))))) dG)))))))))
  (aK (putL 4 S.nd (pv 5))))))
  (aK (bF qK))))),?_⟩
 have xn:x<n:=xs.1;have sn:st<n:=xs.2.1;have l7:∀i j,i<n→(j∈f i↔aL n L i j):=fun i j hi=>by
  constructor
  ·intro h
   exact ⟨hi,(ls.pl i hi).2 j h,(ls.nb i j hi).mp h⟩
  ·intro h
   exact (ls.nb i j hi).mpr h.2.2
 have ir:∀a,¬aL n L a a:=fun a h=>by rcases h.2.2 with e | e <;> (have:=lt _ e;omega)
 have JD:x≠st:=fun z=>ir x (by have:=xs;rw [←z] at this;exact this)
 have XR:∀(wl:List (Nat×Option Nat)) (q:Nat),(fg (cX wl) (Sum.inl (q:Int):Key)).isSome=decide (q∈bE wl):=fun wl q=>by
  rw [y6,uE];by_cases h:q∈bE wl;·rw [a7 h,lookup_mem.mpr h]
  ·rw [bt h]
   cases z:wl.lookup q with
   | none=>rfl
   | some o=>exact absurd (lookup_mem.mp (by rw [z];rfl)) h
 have inD:∀(i q:Nat),(fg (dk (f i)) (Sum.inl (q:Int):Key)).isSome=decide (q∈f i):=fun i q=>by
  rw [Gu];by_cases h:q∈f i;·rw [ae h,a7 h];rfl
  ·rw [aa h,bt h];rfl
 have wx:∀{Hx:Hp},dg Hx D n ds f→∀{b:Addr},(Hx b=none∨∃xs,Hx b=some (.lst xs))→∀i,i<n→b≠ds i:=fun{Hx} k {b} hb i hi z=>by subst z;rcases k.at' i hi with e | ⟨ob,e⟩ <;> rcases hb with h | ⟨xs,h⟩ <;> (rw [e] at h;cases h)
 refine bO (rg fun wd t8=>⟨_,rfl,_,rfl,ay,[((Sum.inl (x:Int):Key),V.aJ),((Sum.inl (st:Int):Key),V.aJ)],rfl,by show 2≤15;decide,?_⟩)
 have JE:upd (upd H wd (.dK [])) wd (.dK (mZ [] [((Sum.inl (x:Int):Key),V.aJ),((Sum.inl (st:Int):Key),V.aJ)])) wd=some (.dK (cX [(x,none),(st,none)])):=by
  rw [ay];have e1:putK (cX []) (Sum.inl (x:Int):Key) (oV none)=cX ([]++[(x,none)]):=Cz (by simp [bE])
  have e2:putK (cX [(x,none)]) (Sum.inl (st:Int):Key) (oV none)=cX ([(x,none)]++[(st,none)]):=Cz (by simp [bE];exact Ne.symm JD)
  show some (HO.dK (putK (putK (cX []) (Sum.inl (x:Int):Key) (oV none)) (Sum.inl (st:Int):Key) (oV none)))=_;rw [e1];exact cR (fun z=>some (HO.dK z)) e2
 have s0:ak H (upd (upd H wd (.dK [])) wd (.dK (mZ [] [((Sum.inl (x:Int):Key),V.aJ),((Sum.inl (st:Int):Key),V.aJ)]))):=fA (aY t8) t8;generalize upd (upd H wd (.dK [])) wd (.dK (mZ [] [((Sum.inl (x:Int):Key),V.aJ),((Sum.inl (st:Int):Key),V.aJ)]))=H0 at JE s0 ⊢;have Dk:∀i,i<n→wd≠ds i:=wx lf (.inl t8);have wD:wd≠D:=fun z=>by rw [z,lf.lst] at t8;cases t8
 dsimp only [aX];refine bO ⟨_,rfl,by show 1≤sizeLine;decide,fun h0 SQ=>?_⟩
 have s1:ak H0 (upd H0 h0 (.lst [V.int (st:Int)])):=aY SQ;have JF:upd H0 h0 (.lst [V.int (st:Int)]) h0=some (.lst (([st]:List Nat).map fun k:Nat=>V.int (k:Int))):=ay;generalize upd H0 h0 (.lst [V.int (st:Int)])=H1 at s1 JF ⊢;have Ab:=s0.trans s1;have SR:dg H1 D n ds f:=⟨Ab _ _ lf.lst,fun i hi=>(lf.at' i hi).imp (fun e=>Ab _ _ e) fun⟨ob,e⟩=>⟨ob,Ab _ _ e⟩⟩;dsimp only [aX];refine bO ⟨fun m σ Hc=>∃(hl:Addr) (hs:List Nat) (wl:List (Nat×Option Nat)) (v5 v6 v7 v8:Option V),σ=[some (.ref D),some (.int (x:Int)),some (.int (st:Int)),some (.ref wd),some (.ref hl),v5,v6,v7,v8]∧m=2*(n-wl.length)+hs.length∧gF n ds H Hc∧dg Hc D n ds f∧Hc wd=some (.dK (cX wl))∧Hc hl=some (.lst (hs.map fun k:Nat=>V.int (k:Int)))∧eU n (aL n L) wl x st hs none,⟨_,h0,[st],[(x,none),(st,none)],_,_,_,_,rfl,rfl,fun b u e _=>Ab _ _ e,SR,s1 _ _ JE,JF,eU.start JD xn sn⟩,?_⟩;rintro m σ Hc ⟨hl,hs,wl,v5,v6,v7,v8,rfl,rfl,oc,lc,Dl,t9,bf⟩;have qj:∀{Hx:Hp},gF n ds H Hx→dg Hx D n ds f→∀{b:Addr},Hx b=none→H b=none:=fun{Hx} o k {b} hb=>by
  cases e:H b with
  | none=>rfl
  | some u=>rw [o b u e (.inl (wx k (.inl hb)))] at hb;cases hb
 refine ⟨_,rfl,hl,_,rfl,.inl (.of t9),_,_,rfl,rfl,_,rfl,de (fun hb=>?_) (fun hb=>?_)⟩
 ·have h1:1≤hs.length:=by have:=eY hb;rw [aG] at this;omega
  refine ⟨_,fun _ _ h=>h,?_⟩;refine bO ⟨b7 _,fun rl l8=>?_⟩;have SS:=qj oc lc l8;have o2:ak Hc (upd Hc rl (.lst [])):=aY l8;have Ac:upd Hc rl (.lst []) rl=some (.lst (([]:List Nat).map fun k:Nat=>V.int (k:Int))):=ay;generalize upd Hc rl (.lst [])=H2 at o2 Ac ⊢;have SU:rl≠hl:=fun z=>by rw [z,t9] at l8;cases l8
  have JG:rl≠wd:=fun z=>by rw [z,Dl] at l8;cases l8
  have rD:rl≠D:=fun z=>by rw [z,lc.lst] at l8;cases l8
  have SW:∀i,i<n→ds i≠rl:=fun i hi=>Ne.symm (wx lc (.inl l8) i hi);have SX:hl≠wd:=fun z=>by rw [z,Dl] at t9;cases t9
  dsimp only [aX];refine bO ⟨_,rfl,hl,rfl,⟨_,.of (o2 _ _ t9)⟩,?_⟩
  refine qU (K:=K) (a:=hl) (xs:=hs.map fun k:Nat=>V.int (k:Int)) (fun i σ He=>∃(rs:List Nat) (iP:List (Nat×Option Nat)) (v6 v7 v8:Option V),σ=[some (.ref D),some (.int (x:Int)),some (.int (st:Int)),some (.ref wd),some (.ref hl),some (.ref rl),v6,v7,v8]∧gF n ds H He∧dg He D n ds f∧He wd=some (.dK (cX iP))∧He hl=some (.lst (hs.map fun k:Nat=>V.int (k:Int)))∧He rl=some (.lst (rs.map fun k:Nat=>V.int (k:Int)))∧eU n (aL n L) iP x st (hs.drop i++rs) none∧rs.length+wl.length≤iP.length)
   ⟨[],wl,_,_,_,rfl,fun b u e ne=>o2 _ _ (oc b u e ne),⟨o2 _ _ lc.lst,fun i hi=>(lc.at' i hi).imp (fun e=>o2 _ _ e) fun⟨ob,e⟩=>⟨ob,o2 _ _ e⟩⟩,o2 _ _ Dl,o2 _ _ t9,Ac,by simpa using bf,by simp⟩ (fun i σ He _ ⟨_,_,_,_,_,_,_,_,_,e,_⟩=>.of e) ?_ ?_
  ·rintro i xv σ He oI ⟨rs,iP,v6,v7,v8,rfl,oe,le,wA,Dm,wB,nG,len⟩
   have hi:i<hs.length:=by have:=(cp.mp oI).1;rw [aG] at this;exact this
   have SY:xv=.int ((hs[i]:Nat):Int):=by rw [bD,bU hi] at oI;exact (Option.some.inj oI).symm
   subst SY;have S0:hs.drop i=hs[i]::hs.drop (i+1):=AG hi;rw [S0,List.cons_append] at nG;generalize hs[i]=h at nG ⊢;obtain ⟨nH,JH⟩:=nG.way h cE;have hn:h<n:=JH.lt h cE;have S1:=nG.opened;dsimp only [aX];refine bO ⟨_,rfl,_,rfl,_,rfl,D,wd,n,L,ds,f,iP,h,rfl,ls,le,wA,Dk,hn,n9,fun H3 r o3 l3 nr er=>?_⟩;have XS:He r=none:=nr;have Dn:∀{b:Addr} {u:HO},(∀i,i<n→b≠ds i)→He b=some u→H3 b=some u:=fun{b u} ne e=>o3 _ _ e (.inl ne);have S2:gF n ds H H3:=fun b u e ne=>o3 _ _ (oe b u e ne) ne;have S3:=Dn Dk wA;have S4:=Dn (wx le (.inr ⟨_,Dm⟩)) Dm;have S5:=Dn (wx le (.inr ⟨_,wB⟩)) wB;have XT:=qj oe le nr;have rr:r≠rl:=fun z=>by rw [z,wB] at nr;cases nr
   have ei:r≠wd:=fun z=>by rw [z,wA] at nr;cases nr
   obtain ⟨fr,Ad⟩:∃fr,fr=(f h).filter fun q=>!decide (q∈bE iP):=⟨_,rfl⟩;rw [←Ad] at er;have S6:fr.Nodup:=by rw [Ad];exact (ls.pl h hn).1.filter _
   have fin:∀q∈fr,q∈f h∧q∉bE iP:=fun q hq=>by rw [Ad] at hq;obtain ⟨q1,q2⟩:=d6.mp hq;exact ⟨q1,fun z=>by rw [a7 z] at q2;cases q2⟩
   dsimp only [aX];refine ⟨_,rfl,r,rfl,⟨_,.of er⟩,?_⟩
   refine qU (K:=K) (a:=r) (xs:=fr.map fun k:Nat=>V.int (k:Int)) (fun j σ Hg=>∃(iQ:List Nat) (d5:List (Nat×Option Nat)) (v8:Option V),σ=[some (.ref D),some (.int (x:Int)),some (.int (st:Int)),some (.ref wd),some (.ref hl),some (.ref rl),some (.int (h:Int)),some (.ref r),v8]∧gF n ds H Hg∧dg Hg D n ds f∧Hg wd=some (.dK (cX d5))∧Hg hl=some (.lst (hs.map fun k:Nat=>V.int (k:Int)))∧Hg rl=some (.lst (iQ.map fun k:Nat=>V.int (k:Int)))∧Hg r=some (.lst (fr.map fun k:Nat=>V.int (k:Int)))∧bE d5=bE iP++fr.take j∧eU n (aL n L) d5 x st (hs.drop (i+1)++iQ) (some h)∧fj n (aL n L) d5 x st none h nH∧iQ.length+wl.length≤d5.length)
    ⟨rs,iP,_,rfl,S2,l3,S3,S4,S5,er,by simp,S1,JH,len⟩ (fun j σ Hg _ ⟨_,_,_,_,_,_,_,_,_,e,_⟩=>.of e) ?_ ?_
   ·rintro j yv σ Hg Dp ⟨iQ,d5,v8,rfl,og,lg,Dq,Dr,Ds,JI,ek,qk,Ae,Dt⟩
    have hj:j<fr.length:=by have:=(cp.mp Dp).1;rw [aG] at this;exact this
    have S7:yv=.int ((fr[j]:Nat):Int):=by rw [bD,bU hj] at Dp;exact (Option.some.inj Dp).symm
    subst S7;have tk:=take_snoc (bU hj);obtain ⟨wC,t_⟩:=fin fr[j] (bJ hj);have ql:fr[j]∉bE d5:=fun z=>by
     rw [ek] at z;rcases dI.mp z with z | z;·exact t_ z
     ·have nd:=S6
      rw [←mq j fr,jt] at nd;exact nd.2.2 _ z _ (by rw [AG hj];exact cE) rfl
    generalize fr[j]=o at wC t_ ql tk ⊢;have on:o<n:=(ls.pl h hn).2 o wC;have JJ:aL n L h o:=(l7 h o hn).mp wC;have w9:=qk.len;dsimp only [aX];refine bO ⟨_,rfl,_,rfl,_,rfl,wd,upd Hg wd (.dK (cX (d5++[(o,some h)]))),rfl,.inl ⟨cX d5,Sum.inl (o:Int),Dq,rfl,by rw [Ry];exact dz (by omega),by rw [←Cz ql];rfl⟩,?_⟩
    have o4:∀b u,b≠wd→Hg b=some u→upd Hg wd (.dK (cX (d5++[(o,some h)]))) b=some u:=fun b u ne e=>by rw [aH ne];exact e
    have Af:upd Hg wd (.dK (cX (d5++[(o,some h)]))) wd=some (.dK (cX (d5++[(o,some h)]))):=ay;generalize upd Hg wd (.dK (cX (d5++[(o,some h)])))=H4 at o4 Af ⊢;have Du:gF n ds H H4:=fun b u e ne=>o4 b u (fun z=>by rw [z,t8] at e;cases e) (og b u e ne)
    have nI:=lg.keep o4 wD (fun i hi=>Ne.symm (Dk i hi));have JK:=o4 _ _ SX Dr;have Dv:=o4 _ _ JG Ds;have JL:=o4 _ _ ei JI;have JM:bE (d5++[(o,some h)])=bE iP++fr.take (j+1):=by unfold bE at ek ⊢;rw [fG,ek,tk,fm];rfl
    have Dw:=Ae.more (o,some h);have XU:iQ.length+wl.length+1≤(d5++[(o,some h)]).length:=by rw [dP];exact Nat.succ_le_succ Dt
    dsimp only;have JN:∀i,i<n→∀(Hx:Hp),dg Hx D n ds f→Rd Hx (ds i) (.dK (dk (f i))):=fun i hi Hx k=>(k.at' i hi).imp id fun⟨ob,e⟩=>⟨ob,e⟩;refine ⟨_,rfl,_,rfl,_,rfl,D,_,_,_,rfl,rfl,.of nI.lst,kM xn,ds x,_,rfl,.inl ⟨dk (f x),Sum.inl (o:Int),JN x xn _ nI,rfl,rfl⟩,_,rfl,de (fun hb=>?_) (fun hb=>?_)⟩
    ·have nx:¬aL n L x o:=fun z=>by rw [inD,a7 ((l7 x o xn).mpr z)] at hb;cases hb
     have S8:=Ae.next eS ql on qk.xk JJ nx;refine ⟨_,rfl,.inl ⟨rfl,_,.of Dv⟩,_,rfl,rl,_,_,rfl,rfl,Dv,dz (by rw [aG];omega),?_⟩
     have wq:(iQ.map fun k:Nat=>V.int (k:Int))++[V.int (o:Int)]=(iQ++[o]).map fun k:Nat=>V.int (k:Int):=by rw [fG];rfl
     rw [wq];have o5:∀b u,b≠rl→H4 b=some u→upd H4 rl (.lst ((iQ++[o]).map fun k:Nat=>V.int (k:Int))) b=some u:=fun b u ne e=>by rw [aH ne];exact e
     refine ⟨iQ++[o],d5++[(o,some h)],_,rfl,fun b u e ne=>o5 b u (fun z=>by rw [z,SS] at e;cases e) (Du b u e ne),nI.keep o5 rD SW,o5 _ _ (Ne.symm JG) Af,o5 _ _ (Ne.symm SU) JK,ay,o5 _ _ rr JL,JM,?_,Dw,?_⟩
     ·refine qk.met ql on (fun z=>absurd z nx) (fun _=>⟨_,S8⟩) fun u=>?_
      rw [←fm,dI,dt];constructor
      ·rintro (h | h)
       ·exact .inl h
       ·exact .inr ⟨h,nx⟩
      ·rintro (h | ⟨h,_⟩)
       ·exact .inl h
       ·exact .inr h
     ·rw [dP]
      show iQ.length+1+wl.length≤_;omega
    ·have xo:aL n L x o:=by refine (l7 x o xn).mp (f_ fun z=>hb ?_);rw [inD,bt z];rfl
     refine ⟨_,rfl,_,rfl,_,rfl,D,_,_,_,rfl,rfl,.of nI.lst,kM sn,ds st,_,rfl,.inl ⟨dk (f st),Sum.inl (o:Int),JN st sn _ nI,rfl,rfl⟩,_,rfl,de (fun m_=>?_) (fun m_=>?_)⟩
     ·have so:¬aL n L st o:=fun z=>by rw [inD,a7 ((l7 st o sn).mpr z)] at m_;cases m_
      obtain ⟨bare,bW,blt⟩:=RA pw lt Ae ql qk.xk xs xo so JJ;have JO:(x::o::h::nH).length≤n:=CB bW blt;refine rm (Np ⟨_,rfl,by show 1≤sizeLine;decide,fun l1 zZ=>?_⟩)
      have Dx:ak H4 (upd H4 l1 (.lst [V.int (x:Int)])):=aY zZ;have tZ:upd H4 l1 (.lst [V.int (x:Int)]) l1=some (.lst [V.int (x:Int)]):=ay;generalize upd H4 l1 (.lst [V.int (x:Int)])=H5 at Dx tZ ⊢;have S9:Back (d5++[(o,some h)]) o (o::h::nH):=.step (HK ql) Dw.bk;refine ⟨_,rfl,_,rfl,wd,d5++[(o,some h)],o,o::h::nH,rfl,Dx _ _ Af,S9,by simp at JO ⊢;omega,fun H6 l2 s6 Df S_=>?_⟩
      have Ac:([V.int (x:Int)]++(o::h::nH).map fun k:Nat=>V.int (k:Int))=(x::o::h::nH).map fun k:Nat=>V.int (k:Int):=rfl;refine ⟨l1,l2,_,_,rfl,rfl,s6 _ _ tZ,S_,?_,fun pr Ag=>?_⟩
      ·rw [aG]
       exact kZ (dz (show 1+(o::h::nH).length≤1000 by simp at JO ⊢;omega))
      rw [Ac];have nJ:ak H4 H6:=Dx.trans s6;have JP:gF n ds H H6:=fun b u e ne=>nJ _ _ (Du b u e ne);have Ta:dg H6 D n ds f:=⟨nJ _ _ nI.lst,fun i hi=>(nI.at' i hi).imp (fun e=>nJ _ _ e) fun⟨ob,e⟩=>⟨ob,nJ _ _ e⟩⟩;exact kk _ pr (x::o::h::nH) (fun b u e ne=>(aY Ag) _ _ (JP b u e ne)) (qj JP Ta Ag) ay bare bW blt
     ·have so:aL n L st o:=by refine (l7 st o sn).mp (f_ fun z=>m_ ?_);rw [inD,bt z];rfl
      refine ⟨iQ,d5++[(o,some h)],_,rfl,Du,nI,Af,JK,Dv,JL,JM,?_,Dw,by omega⟩
      refine qk.met ql on (fun _=>so) (fun z=>absurd xo z) fun u=>?_;constructor;·exact .inl
      ·rintro (h | ⟨_,h⟩)
       ·exact h
       ·exact absurd xo h
   ·rintro σ Hg ⟨iQ,d5,v8,rfl,og,lg,Dq,Dr,Ds,JI,ek,qk,Ae,Dt⟩
    rw [aG,hW] at ek;have sh:kU (aL n L) d5 h:=fun u e=>by
     rw [ek];have Br:=(l7 h u hn).mpr e;by_cases z:u∈bE iP;·exact l_ _ z
     ·refine d_ _ ?_
      rw [Ad];exact d6.mpr ⟨Br,by rw [bt z];rfl⟩
    exact ⟨iQ,d5,_,_,_,rfl,og,lg,Dq,Dr,Ds,qk.CA sh,Dt⟩
  ·rintro σ He ⟨rs,iP,v6,v7,v8,rfl,oe,le,wA,Dm,wB,nG,len⟩
   rw [aG,List.drop_length,List.nil_append] at nG;dsimp only [aX];have l9:=nG.len;refine ⟨_,rfl,_,?_,rl,rs,iP,_,_,_,_,rfl,rfl,oe,le,wA,wB,nG⟩;omega
 ·have h0:hs=[]:=by
   cases hs with
   | nil=>rfl
   | cons y r=>refine absurd (a7 ?_) hb;show (0:Int)<_;simp
  subst h0;exact kN _ oc lc fun V z=>bf.no ir V z
theorem Tb:bQ ["shape","linked","place","start","ring"] ["shape"] (bj zt):=cL
theorem Tc(T:Txt K mg t):bH P w K mg base cm 3 t.pO t.sF ["shape"] RE:=by
 have S:=Tb;refine T.tG.dy S (fun _ _ _ _ H _ Q _ hr h=>?_);obtain ⟨tp,n,L,rfl,dH,pw,lt,n9,kN,kk⟩:=h;have eV:g8 n L:=fun p hp=>by have:=lt p hp;exact ⟨this.1,by omega,by omega,this.2.2⟩
 refine ⟨_,(aF (putL 1 S.nd (bw (zP T) hr T.wb T.lW.kp T.wa bL (aj (pv 0) ar)))
  (aF (e9 d7 rfl (qS rfl T.jo (aj (ba en (pv 0) aC) ar)) (dc (i:=2) S.nd rfl (Or.inl rfl))
   (aK (e9 d7 rfl (vI (ba cZ (pv 1) (pv 2))) (dc (i:=3) S.nd rfl (Or.inl rfl))
   (aF (putL 4 S.nd (bw (SO T) hr T.Iv T.tF.kp T.Iu bL (aj (pv 1) (aj (pv 2) (aj (pv 3) ar)))))
  (aK (dv (di EI (pv 4) qK) (aK (bF (pv 4))) dG))))))
  (aK (bF qK)))),?_⟩
 refine bO ⟨_,rfl,tp,n,L,rfl,dH,eV,by omega,fun H1 D ds f s1 nD nE KL nb=>?_⟩
 obtain ⟨XW,us,dr,elt,ni⟩:=id (dH.mono s1);have ls:CF n L D ds f:=⟨KL.inj,KL.ne,KL.pl,nb⟩;have l7:∀i j,i<n→(j∈f i↔aL n L i j):=fun i j hi=>by
  constructor
  ·intro h
   exact ⟨hi,(ls.pl i hi).2 j h,(ls.nb i j hi).mp h⟩
  ·intro h
   exact (ls.nb i j hi).mpr h.2.2
 have Dy:∀{Hx:Hp},gF n ds H1 Hx→ak H Hx:=fun{Hx} o b u e=>o b u (s1 _ _ e) (.inl fun i hi z=>by rw [z,nE i hi] at e;cases e)
 dsimp only [aX];refine bO ⟨_,rfl,tp,_,_,_,rfl,rfl,.of dr,rfl,(n:Int),rfl,by omega,by omega,?_⟩
 refine qV (fun i σ Hc=>∃(v2 v3 v4:Option V),σ=[some (.ref tp),some (.ref D),v2,v3,v4]∧gF n ds H1 Hc∧dg Hc D n ds f∧∀x y z,x<i→¬kT (aL n L) (List.range n) x y z) ⟨_,_,_,rfl,fun b u e _=>e,KL.fr,fun x y z h=>absurd h (mf _)⟩ ?_ ?_
 ·rintro i σ Hc hi ⟨v2,v3,v4,rfl,oc,lc,nh⟩
  have hi:i<n:=by simpa using hi
  dsimp only [aX];refine HL (a:=ds i) (kvs:=dk (f i)) (fun Q q=>⟨_,rfl,_,rfl,D,_,_,_,rfl,rfl,.of lc.lst,by simpa using kM hi,q⟩) (lc.at' i hi) fun ob Hf gH off fz=>?_
  have Kf:=lc.a9 off hi gH ls.inj (ls.ne i hi);have wC:gF n ds H1 Hf:=fun b u e ne=>by
   have e2:=oc b u e ne;by_cases z:b=ds i
   ·rcases ne with h | ⟨jV,u',rfl⟩
    ·exact absurd z (h i hi)
    ·rw [z] at e2 ⊢
     exact fz _ _ e2
   ·exact off _ _ z e2
  have Td:(0+(i:Int))=(i:Int):=by omega
  rw [Td];refine GC (fun j σ He=>∃(v3 v4:Option V),σ=[some (.ref tp),some (.ref D),some (.int (i:Int)),v3,v4]∧gF n ds H1 He∧dg He D n ds f∧He (ds i)=some (.a9 ob (.dK (dk (f i))))∧∀y z,y∈(f i).take j→¬kT (aL n L) (List.range n) i y z) ⟨_,_,rfl,wC,Kf,gH,fun y z h=>by simp at h⟩ (fun j σ He _ ⟨_,_,_,_,_,e,_⟩=>e) ?_ ?_
  ·rintro j k σ He hk ⟨v3,v4,rfl,oe,le,wt,Ah⟩
   have km:k∈f i:=uj hk;have tk:=take_snoc hk;dsimp only [aX];refine bO ⟨_,rfl,_,rfl,_,rfl,D,n,L,ds,f,i,k,rfl,ls,le,pw,lt,(l7 i k hi).mp km,n9,fun H' o' l' no=>?_,fun H' r zs o' nr er bare bW blt=>?_⟩
   ·dsimp only [aX]
    refine ⟨_,rfl,rfl,false,rfl,iF ?_⟩;refine ⟨_,_,rfl,fun b u e ne=>o' _ _ (oe b u e ne) ne,l',o' _ _ wt (.inr ⟨_,_,rfl⟩),fun y z hy=>?_⟩;rw [tk] at hy;rcases dI.mp hy with h | h;·exact Ah y z h
    ·rw [dt.mp h]
     exact no _ z
   ·dsimp only [aX]
    refine ⟨_,rfl,rfl,true,rfl,kF ?_⟩;refine ⟨_,rfl,kk _ r zs (Dy fun b u e ne=>o' _ _ (oe b u e ne) ne) ?_ er bare bW blt⟩;cases e:H r with
    | none=>rfl
    | some u=>rw [Dy oe _ _ e] at nr;cases nr
  ·rintro σ He ⟨v3,v4,rfl,oe,le,wt,Ah⟩
   rw [hW] at Ah;refine ⟨_,_,_,rfl,oe,le,fun x y z hx h=>?_⟩;by_cases e:x=i
   ·subst e
    exact Ah y z ((l7 x y hi).mpr h.xy) h
   ·exact nh x y z (by omega) h
 ·rintro σ Hc ⟨v2,v3,v4,rfl,oc,lc,nh⟩
  refine kN _ (Dy oc) fun x y z h=>?_;have:=bY.mp h.xV;exact nh x y z (by simpa using this) h
theorem Te:bQ ["shape","order"] ["shape"] (bj zu):=cL
theorem Tf(T:Txt K mg t)(hB:jS base mg):bH P w K mg base cm 7 t.pP t.sG ["shape"] (RF 120 l6):=by
 have S:=Te
 have Tg:=Ss (P:=P) (w:=w) (base:=base) T hB
 refine T.tH.dy S (fun _ _ _ _ H _ _ _ hr h=>?_)
 obtain ⟨tp,n,L,rfl,dH,pw,lt,jR,tab,kk,kR⟩:=h
 have eV:g8 n L:=fun p hp=>by
  have:=lt p hp
  exact ⟨this.1,by omega,by omega,this.2.2⟩
 have nK:m8 L:=fun p hp=>by
  have:=lt p hp
  omega
 refine ⟨_,(aF (putL 1 S.nd (bw Tg hr T.Im T.tw.kp T.Il bL (aj (pv 0) ar)))
  (aF (dv (mD (bw (zY T) hr T.we T.lY.kp T.wc q8 (aj (pv 0) (aj (pv 1) ar)))) (aK (bF (ko (aj qL (aj (pv 1) ar))))) dG)
  (aK (bF (ko (aj qL (aj (bw (Tc T) hr T.Iy T.tG.kp T.Iw bL (aj (pv 0) ar)) ar))))))),?_⟩
 refine bO ⟨_,rfl,tp,n,L,rfl,dH,eV,by omega,tab,fun H1 D Pk s1 t1 nD eD pm pk=>?_⟩
 obtain ⟨ps,eP⟩:=tab.at
 have Ai:=HC dH eP s1
 have pr:Pk.reverse.Perm (List.range n):=(k_ Pk).trans pm
 have lr:Pk.reverse.length=n:=by rw [pr.length_eq,eW]
 dsimp only [aX]
 refine bO ⟨_,rfl,_,rfl,tp,D,n,L,Pk.reverse.map iN,rfl,Ai,eV,nK,jR,by rw [eD,dF];rfl,by rw [aG];omega,fun no=>?_,fun o eo po H2 M s2 fM=>?_⟩
 ·exact absurd (pr.map iN) no
 ·have Dz:o=Pk.reverse:=by
   have:=cR (List.map Int.toNat) eo
   rw [dF,dF] at this
   have i1:∀l:List Nat,l.map (Int.toNat ∘ iN)=l:=fun l=>by
    conv=>rhs;rw [←nZ l]
    exact h_ fun a _=>dh a
   rw [i1,i1] at this
   exact this.symm
  subst Dz
  have qj:∀{Hx:Hp},dO 120 H Hx→cW 120 l6 jl Hx→∀{R:Addr},Hx R=none→H R=none:=fun{Hx} sx tx {R} nR=>by
   cases e:H R with
   | none=>rfl
   | some u=>
    by_cases z:R=120
    ·obtain ⟨ps,e2⟩:=tx.at
     rw [z,e2] at nR;cases nR
    ·rw [sx R u z e] at nR;cases nR
  have Aj:dO 120 H H2:=fun b u n e=>s2 _ _ (s1 b u n e)
  have t2:=t1.mono s2
  by_cases eM:M=L
  ·refine ⟨true,by rw [a7 eM],kF ?_⟩
   rw [eM] at fM
   have nF:=s2 _ _ eD
   refine ⟨_,rfl,by show 2≤sizeLine;decide,fun R nR=>?_⟩
   have s3:ak H2 (upd H2 R (.tup [.str "order",.ref D])):=aY nR
   exact kk _ R D Pk.reverse (fun b u n e=>s3 _ _ (Aj b u n e)) (t2.mono s3) (qj Aj t2 nR) nD ay (s3 _ _ nF) pr fM
  ·refine ⟨false,by rw [bt eM],iF ?_⟩
   have no:∀o:List Nat,o.Perm (List.range n)→¬cx n L o L:=fun o po f=>eM (cx.uniq fM (QI pw lt po f pm pk))
   dsimp only [jz]
   refine rm ⟨_,rfl,tp,n,L,rfl,Ai.mono s2,pw,lt,by omega,fun H3 s3 nh=>?_,fun H3 r zs s3 nr er bare bW blt=>?_⟩
   ·obtain ⟨x,y,z,h⟩:=Rt pw lt no
    exact absurd h (nh x y z)
   ·refine ⟨by show 2≤sizeLine;decide,fun R nR=>?_⟩
    have s4:ak H3 (upd H3 R (.tup [.str "ring",.ref r])):=aY nR
    have JQ:dO 120 H H3:=fun b u n e=>s3 _ _ (Aj b u n e)
    have t3:=t2.mono s3
    exact kR _ R r zs (fun b u n e=>s4 _ _ (JQ b u n e)) (t3.mono s4) (qj JQ t3 nR) (qj Aj t2 nr) ay (s4 _ _ er) bare bW blt no
theorem Th:bQ ["_law_cell","_law_at","_law_x"] ["_law_cell","_law_at"] (bj zC):=cL
theorem Ti(T:Txt K mg t):bH P w K mg base cm 1 t.pU t.sM ["_law_cell","_law_at"] Nq:=by
 have S:=Th;refine T.tL.dy S (fun _ _ _ _ H _ _ _ hr h=>?_);obtain ⟨c,a,rfl,ha,k⟩:=h
 refine ⟨_,(aF (dv (di EH (pv 0) (bG Ls aC aC)) (aK (bF (pv 0))) dG)
  (aF (putL 2 S.nd (bG oz (bG iz (bG iz (bG iC (bG oz (pv 0) aC) aC) (bG iC (pv 1) aC)) aC) aC))
  (aF (putL 2 S.nd (bG oz (bG iz (bG iz (bG iC (pv 2) (pv 2)) (bG iC aC (pv 2))) (pv 1)) aC))
  (aK (bF (bG iz (bG iC (pv 2) aC) (bG oz (bG iz (bG iC (pv 2) (pv 2)) (bG iC aC (pv 1))) aC))))))),?_⟩
 refine ⟨_,rfl,_,_,rfl,rfl,⟨by decide,by decide,by decide⟩,_,_,rfl,rfl,_,rfl,de (fun h=>?_) (fun h=>?_)⟩
 ·have h:=eY h
  exact ⟨_,rfl,k _ (cY (by decide) h)⟩
 ·refine ⟨_,rfl,_,_,rfl,rfl,(by show (0:Int)<2147483647;decide),_,_,rfl,rfl,.inr ⟨by decide,by decide⟩,_,rfl,_,_,rfl,rfl,.inr ⟨by decide,by decide⟩,_,_,rfl,rfl,_,_,rfl,rfl,_,_,rfl,rfl,(by show (0:Int)<2147483629;decide),?_⟩
  have b0:=lq (c % 2147483647*48271+a*69621+11) (show (2147483629:Int)≠0 by decide)
  have b1:=n6 (c % 2147483647*48271+a*69621+11) (show (0:Int)<2147483629 by decide)
  generalize (c % 2147483647*48271+a*69621+11) % 2147483629=x at b0 b1 ⊢;refine ⟨_,rfl,_,rfl,_,_,rfl,rfl,.inl ⟨by omega,by omega⟩,_,rfl,_,_,rfl,rfl,.inl ⟨by decide,by decide⟩,_,_,rfl,rfl,_,rfl,_,_,rfl,rfl,_,_,rfl,rfl,(by show (0:Int)<2147483587;decide),?_⟩
  have c0:=lq (x*x+48271*x+a) (show (2147483587:Int)≠0 by decide)
  have c1:=n6 (x*x+48271*x+a) (show (0:Int)<2147483587 by decide)
  generalize (x*x+48271*x+a) % 2147483587=y at c0 c1 ⊢;refine ⟨_,rfl,_,_,rfl,rfl,.inr ⟨by decide,by decide⟩,_,rfl,_,rfl,_,_,rfl,rfl,.inl ⟨by omega,by omega⟩,_,rfl,_,_,rfl,rfl,.inl ⟨by decide,by decide⟩,_,_,rfl,rfl,_,_,rfl,rfl,(by show (0:Int)<2147483579;decide),_,_,rfl,rfl,k _ (Int.add_nonneg (Int.mul_nonneg (lq _ (by decide)) (by decide)) (lq _ (by decide)))⟩
theorem Tj:bQ ["_law_pen","_law_many","_law_at","_law_cell","_law_found"] ["_law_pen","_law_many"] (bj zD):=cL
theorem kY(T:Txt K mg t):bH P w K mg base cm 2 t.pV t.sN ["_law_pen","_law_many"] (Nr K):=by
 have S:=Tj;refine T.gG.dy S (fun _ _ _ _ H _ _ _ hr h=>?_);obtain ⟨P0,a,ns,many,rfl,⟨x,y,eP,hx,hy⟩,hS,m1,mm,k⟩:=h;have iM:=hr.units
 refine ⟨_,(aF (dv (di xO (ba cZ (pv 0) aC) (pv 1)) (aF (putL 2 S.nd (ba cZ (pv 0) aC))
  (aF (putL 3 S.nd aC)
  (aF (dv (di xO (pv 2) (cQ i5 rfl T.hG ig (aj (ba cZ (pv 0) aC) ar))) (aK (putL 3 S.nd (ba cZ (ba cZ (pv 0) aC) (pv 2)))) (aK (dv (di mK (cQ i5 rfl T.hG ig (aj (ba cZ (pv 0) aC) ar)) aC) (aK (putL 3 S.nd (bG iz (bG oz (ba cZ (ba cZ (pv 0) aC) (bG oz (bG iC (pv 2) aC) (cQ i5 rfl T.hG ig (aj (ba cZ (pv 0) aC) ar)))) aC) (bG iC (pv 2) aC)))) dG)))
  (aF (@uW _ _ _ _ _ _ (bG iz (pv 2) aC) (uV (pv 0) aC set_list) (by rfl) (by rfl) (by rfl))
  (aK (@uW _ _ _ _ _ _ (bw (Ti T) hr T.IJ T.tL.kp T.II bL (aj (pv 3) (aj (pv 2) ar))) (uV (pv 0) aC set_list) (by rfl) (by rfl) (by rfl))))))) dG)
  (aF (putL 4 S.nd (bG oz (ba cZ (pv 0) aC) (pv 1)))
  (aF (@uW _ _ _ _ _ _ (bG MS (ba cZ (pv 0) aC) (pv 1)) (uV (pv 0) aC set_list) (by rfl) (by rfl) (by rfl))
  (aK (bF (pv 4)))))),?_⟩
 have kS:=vh.seq hS;refine ⟨_,rfl,P0,_,_,_,rfl,rfl,.of eP,rfl,_,rfl,_,_,rfl,rfl,_,rfl,de (fun a_=>?_) (fun a_=>?_)⟩
 ·refine ⟨_,rfl,P0,_,_,_,rfl,rfl,.of eP,rfl,?_⟩
  refine ⟨_,rfl,_,rfl,P0,_,_,_,rfl,rfl,.of eP,rfl,a,ns.map V.int,rfl,.inl kS,_,_,rfl,rfl,_,rfl,de (fun h1=>?_) (fun h1=>?_)⟩
  ·have h1:x<((ns.map V.int).length:Int):=eY h1
   obtain ⟨v,hv,mv⟩:=Fv (xs:=ns.map V.int) hx h1;obtain ⟨c,_,rfl⟩:=b_.mp mv;refine ⟨_,rfl,P0,_,_,_,rfl,rfl,.of eP,rfl,_,rfl,a,ns.map V.int,_,_,rfl,rfl,kS,hv,?_⟩;refine ⟨_,rfl,_,_,rfl,rfl,_,rfl,P0,_,1,1,rfl,rfl,eP,rfl,?_⟩;refine ⟨_,rfl,_,rfl,c,x,rfl,hx,fun r nM=>⟨_,rfl,P0,_,2,2,rfl,rfl,ay,rfl,?_⟩⟩;have q0:=lq (r) (show many≠0 by omega)
   have q1:=n6 (r) (show 0<many by omega)
   have q2:=xw (nM) (show 0≤many by omega)
   refine ⟨_,rfl,P0,_,_,_,rfl,rfl,.of ay,rfl,_,rfl,_,_,rfl,rfl,(show 0<many by omega),?_⟩
   refine ⟨_,rfl,P0,_,_,_,rfl,rfl,.of ay,rfl,_,rfl,_,_,rfl,rfl,⟨show 0<many by omega,mm⟩,_,rfl,P0,_,2,2,rfl,rfl,ay,rfl,?_⟩
   exact ⟨_,rfl,k _ _ q0 q1 (((aN.refl H).trans aN.i7).trans (aN.i7.trans aN.i7)) ⟨x+1,r / many,ay,by omega,q2⟩⟩
  ·refine ⟨_,rfl,P0,_,_,_,rfl,rfl,.of eP,rfl,a,ns.map V.int,rfl,.inl kS,_,_,rfl,rfl,_,rfl,?_⟩
   have uc:=eP;have Ak:=kS;have sl:=ak.refl H;refine de (fun h2=>?_) (fun h2=>?_)
   ·have hl:0<(ns.map V.int).length:=by have:=eY h2;omega
    have Tn:=lq (x*7) (show ((ns.map V.int).length:Int)≠0 by omega)
    have To:=n6 (x*7) (show (0:Int)<((ns.map V.int).length:Int) by omega)
    obtain ⟨v,hv,mv⟩:=Fv (xs:=ns.map V.int) Tn To;obtain ⟨c,_,rfl⟩:=b_.mp mv;refine ⟨_,rfl,P0,_,_,_,rfl,rfl,.of uc,rfl,_,rfl,_,_,rfl,rfl,.inr ⟨by decide,by decide⟩,_,rfl,P0,_,_,_,rfl,rfl,.of uc,rfl,a,ns.map V.int,rfl,.inl Ak,_,_,rfl,rfl,(show (0:Int)<((ns.map V.int).length:Int) by omega),a,ns.map V.int,_,_,rfl,rfl,Ak,hv,_,_,rfl,rfl,(show (0:Int)<1000003 by decide),_,rfl,_,_,rfl,rfl,.inr ⟨by decide,by decide⟩,_,_,rfl,rfl,?_⟩
    refine ⟨_,rfl,_,_,rfl,rfl,_,rfl,P0,_,1,1,rfl,rfl,uc,rfl,?_⟩;refine ⟨_,rfl,_,rfl,_,x,rfl,hx,fun r nM=>⟨_,rfl,P0,_,2,2,rfl,rfl,ay,rfl,?_⟩⟩;have q0:=lq (r) (show many≠0 by omega)
    have q1:=n6 (r) (show 0<many by omega)
    have q2:=xw (nM) (show 0≤many by omega)
    refine ⟨_,rfl,P0,_,_,_,rfl,rfl,.of ay,rfl,_,rfl,_,_,rfl,rfl,(show 0<many by omega),?_⟩
    refine ⟨_,rfl,P0,_,_,_,rfl,rfl,.of ay,rfl,_,rfl,_,_,rfl,rfl,⟨show 0<many by omega,mm⟩,_,rfl,P0,_,2,2,rfl,rfl,ay,rfl,?_⟩
    exact ⟨_,rfl,k _ _ q0 q1 (((aN.of sl).trans aN.i7).trans (aN.i7.trans aN.i7)) ⟨x+1,r / many,ay,by omega,q2⟩⟩
   ·
    refine ⟨_,rfl,_,_,rfl,rfl,_,rfl,P0,_,1,1,rfl,rfl,uc,rfl,?_⟩;refine ⟨_,rfl,_,rfl,0,x,rfl,hx,fun r nM=>⟨_,rfl,P0,_,2,2,rfl,rfl,ay,rfl,?_⟩⟩;have q0:=lq (r) (show many≠0 by omega)
    have q1:=n6 (r) (show 0<many by omega)
    have q2:=xw (nM) (show 0≤many by omega)
    refine ⟨_,rfl,P0,_,_,_,rfl,rfl,.of ay,rfl,_,rfl,_,_,rfl,rfl,(show 0<many by omega),?_⟩
    refine ⟨_,rfl,P0,_,_,_,rfl,rfl,.of ay,rfl,_,rfl,_,_,rfl,rfl,⟨show 0<many by omega,mm⟩,_,rfl,P0,_,2,2,rfl,rfl,ay,rfl,?_⟩
    exact ⟨_,rfl,k _ _ q0 q1 (((aN.of sl).trans aN.i7).trans (aN.i7.trans aN.i7)) ⟨x+1,r / many,ay,by omega,q2⟩⟩
 ·dsimp only [jz]
  have q0:=lq (y) (show many≠0 by omega)
  have q1:=n6 (y) (show 0<many by omega)
  have q2:=xw (hy) (show 0≤many by omega)
  refine ⟨_,rfl,P0,_,_,_,rfl,rfl,.of eP,rfl,_,rfl,_,_,rfl,rfl,(show 0<many by omega),?_⟩
  refine ⟨_,rfl,P0,_,_,_,rfl,rfl,.of eP,rfl,_,rfl,_,_,rfl,rfl,⟨show 0<many by omega,mm⟩,_,rfl,P0,_,2,2,rfl,rfl,eP,rfl,?_⟩
  exact ⟨_,rfl,k _ _ q0 q1 (aN.i7) ⟨x,y / many,ay,hx,q2⟩⟩
theorem Tp:bQ ["_law_pen","_law_some","_law_left","_law_found"] ["_law_pen","_law_some"] (bj zE):=cL
theorem JR(T:Txt K mg t):bH P w K mg base cm 3 t.pW t.sO ["_law_pen","_law_some"] (Oa K):=by
 have S:=Tp;refine T.qe.dy S (fun _ _ _ _ H _ _ _ hr h=>?_);obtain ⟨P0,a,l,ns,xs,rfl,pc,hS,nl,el,XX,kk⟩:=h;have iM:=hr.units
 refine ⟨_,(aF (putL 2 S.nd (iZ L7 rfl T.nB boot_list (aj (pv 1) ar)))
  (aF (putL 3 S.nd (eh ar))
  (aF (xH d7 (di (F4 iM) (pv 2) (eh ar)) (aK (iW (jC ju n4 n5 kC (pv 3) (aj (jC ju PySem.F.slot_list_pop PySem.F.type_list_pop Mi (pv 2) (aj (bw (kY T) hr T.jY T.gG.kp T.jX bL (aj (pv 0) (aj (cQ i5 rfl T.hG ig (aj (pv 2) ar)) ar))) ar)) ar)))))
  (aK (bF (pv 3)))))),?_⟩
 refine ⟨_,rfl,l,xs,rfl,.inl (.of el),fun l1 n1=>?_⟩;have s1:ak H (upd H l1 (.lst xs)):=aY n1;have e1:upd H l1 (.lst xs) l1=some (.lst xs):=ay;dsimp only [aX];generalize upd H l1 (.lst xs)=H1 at s1 e1 ⊢;refine ⟨by show 0≤sizeLine;decide,fun l2 n2=>?_⟩
 have s2:ak H1 (upd H1 l2 (.lst [])):=aY n2;have e2:upd H1 l2 (.lst []) l2=some (.lst []):=ay;dsimp only [aX];generalize upd H1 l2 (.lst [])=H2 at s2 e2 ⊢;have JS:l1≠P0:=pc.ne n1;have Am:l2≠P0:=(pc.mono s1).ne n2;have JT:H l2=none:=none_of s1 n2;have ud:l1≠l2:=fun e=>by rw [e,n2] at e1;cases e1
 refine bO ⟨fun m σ Hc=>∃zs ys:List V,σ=[some (.ref P0),some (.ref l),some (.ref l1),some (.ref l2)]∧m=zs.length∧Hc l1=some (.lst zs)∧Hc l2=some (.lst ys)∧(zs++ys).Perm xs∧aN P0 H Hc∧bT Hc P0 a,⟨_,xs,[],rfl,rfl,s2 _ _ e1,e2,by rw [k4],aN.of (s1.trans s2),(pc.mono s1).mono s2⟩,?_⟩
 rintro m σ Hc ⟨zs,ys,rfl,rfl,ez,ey,pm,sc,p1⟩;have lz:zs.length≤100:=by have:=pm.length_eq;rw [dP] at this;omega
 have ly:ys.length≤100:=by have:=pm.length_eq;rw [dP] at this;omega
 refine ⟨_,rfl,by show 0≤sizeLine;decide,fun le JU=>?_⟩
 have s3:ak Hc (upd Hc le (.lst [])):=aY JU;have e3:upd Hc le (.lst []) le=some (.lst []):=ay;generalize upd Hc le (.lst [])=H3 at s3 e3 ⊢;refine ⟨l1,le,zs,rfl,rfl,.of (s3 _ _ ez),e3,_,rfl,de (fun hz=>?_) (fun hz=>?_)⟩
 ·have z0:1≤zs.length:=by
   cases zs with
   | nil=>cases hz
   | cons=>simp
  have zX:=sc.trans (aN.of s3);refine ⟨_,fun _ _ h=>h,?_⟩;refine ⟨_,rfl,.inl ⟨rfl,_,.of (s3 _ _ ey)⟩,_,rfl,.inl ⟨rfl,_,.of (s3 _ _ ez)⟩,_,rfl,_,rfl,l1,zs,rfl,.inl (.of (s3 _ _ ez)),P0,a,ns,(zs.length:Int),rfl,p1.mono s3,ak.seq zX hS,by omega,fP.of_lt (by omega) (by omega),fun c H4 c0 c1 s4 p4=>?_⟩
  obtain ⟨k,rfl⟩:=ft c0;have hk:k<zs.length:=by omega
  have Tq:=s4.at JS (s3 _ _ ez);have Tr:=s4.at Am (s3 _ _ ey);have sx:seqIndex? (k:Int) zs.length=some k:=by unfold seqIndex?;simp;omega
  refine ⟨l1,zs,(k:Int),k,zs[k],rfl,rfl,Tq,by omega,by omega,sx,by simp [hk],?_⟩
  have nn:l2≠l1:=fun e=>ud e.symm;refine ⟨l2,ys,zs[k],rfl,rfl,by rw [aH nn];exact Tr,dz (by omega),?_⟩
  refine ⟨_,?_,zs.eraseIdx k,ys++[zs[k]],rfl,rfl,by rw [aH ud,ay],ay,?_,?_,?_⟩
  ·rw [List.length_eraseIdx_of_lt hk]
   omega
  ·refine List.Perm.trans ?_ pm
   rw [←fm];refine (qy).trans ?_;show (zs[k]::(zs.eraseIdx k++ys)).Perm (zs++ys);exact (F6 zs k hk).append_right ys
  ·exact ((zX.trans s4).but n1).but JT
  ·exact ((p4.upd JS).upd Am)
 ·have z0:zs=[]:=by
   cases zs with
   | nil=>rfl
   | cons=>exact absurd rfl hz
  subst z0;refine ⟨_,rfl,kk l2 ys H3 (sc.trans (aN.of s3)) (p1.mono s3) ?_ Am (s3 _ _ ey) pm⟩;rw [eO Am];exact JT
theorem Ts:bQ ["_law_pen","_law_way","_law_size","_law_wide","_law_i","_law_j"] ["_law_pen","_law_way","_law_size","_law_wide","_law_i","_law_j"] (bj zF):=cL
theorem Tu(T:Txt K mg t):bH P w K mg base cm 3 t.pX t.sP ["_law_pen","_law_way","_law_size","_law_wide","_law_i","_law_j"] (Ob K):=by
 have S:=Ts;refine T.tM.dy S (fun _ _ _ _ H _ _ _ hr h=>?_);obtain ⟨P0,a,ns,way,size,wide,i,j,rfl,pc,hS,kk⟩:=h
 refine ⟨_,(aF (dv (di gh (pv 1) aC) (aK (bF (gm gh (bw (kY T) hr T.jY T.gG.kp T.jX bL (aj (pv 0) (aj aC ar))) aC))) dG)
  (aF (dv (di gh (pv 1) aC) (aK (bF (gm gh (bw (kY T) hr T.jY T.gG.kp T.jX bL (aj (pv 0) (aj aC ar))) aC))) dG)
  (aF (dv (di gh (pv 1) aC) (aK (bF (gm mK (bw (kY T) hr T.jY T.gG.kp T.jX bL (aj (pv 0) (aj aC ar))) aC))) dG)
  (aF (dv (di gh (pv 1) aC) (aK (bF (KR (gm gh (bG xN (pv 5) (pv 4)) aC) (uS (gm gh (bG xN (pv 5) (pv 4)) (bG xN (pv 2) aC)))))) dG)
  (aK (bF (gm EG (bG xN (pv 5) (pv 4)) (pv 3)))))))),?_⟩
 refine ⟨_,rfl,rfl,_,rfl,de (fun _=>?_) (fun _=>?_)⟩;·exact ⟨_,rfl,P0,a,ns,2,rfl,pc,hS,by decide,fP.of_lt (by decide) (by decide),fun c H1 _ _ s1 p1=>⟨rfl,kk _ H1 s1 p1⟩⟩
 dsimp only [jz];refine ⟨_,rfl,rfl,_,rfl,de (fun _=>?_) (fun _=>?_)⟩;·exact ⟨_,rfl,P0,a,ns,4,rfl,pc,hS,by decide,fP.of_lt (by decide) (by decide),fun c H1 _ _ s1 p1=>⟨rfl,kk _ H1 s1 p1⟩⟩
 dsimp only [jz];refine ⟨_,rfl,rfl,_,rfl,de (fun _=>?_) (fun _=>?_)⟩;·exact ⟨_,rfl,P0,a,ns,4,rfl,pc,hS,by decide,fP.of_lt (by decide) (by decide),fun c H1 _ _ s1 p1=>⟨_,_,rfl,rfl,kk _ H1 s1 p1⟩⟩
 dsimp only [jz];refine ⟨_,rfl,rfl,_,rfl,de (fun _=>?_) (fun _=>?_)⟩
 ·refine ⟨_,rfl,_,rfl,_,_,rfl,rfl,rfl,_,rfl,de (fun _=>?_) (fun _=>?_)⟩
  ·exact kk _ H (aN.refl _) pc
  ·exact ⟨_,rfl,_,rfl,_,_,rfl,rfl,_,rfl,_,_,rfl,rfl,rfl,kk _ H (aN.refl _) pc⟩
 dsimp only [jz];exact ⟨_,rfl,_,rfl,_,_,rfl,rfl,_,rfl,_,_,rfl,rfl,kk _ H (aN.refl _) pc⟩
theorem Tv:bQ ["_law_size","_law_links","_law_names","_law_found","_law_i","_law_j","_law_one"] ["_law_size","_law_links","_law_names"] (bj zI):=cL
theorem Tw(T:Txt K mg t):bH P w K mg base cm 3 t.p9 t.sU ["_law_size","_law_links","_law_names"] Oe:=by
 have S:=Tv;refine T.tP.dy S (fun _ _ _ _ H _ _ _ hr h=>?_);obtain ⟨l,r,n,us,ws,L,nm,rfl,el,hL,ok,wF,wG,lw,hw,N,kk⟩:=h
 refine ⟨_,(aF (putL 3 S.nd (eh ar))
  (aF (e9 d7 rfl (gN (pv 1)) (qP rfl (iX (dc (i:=4) S.nd rfl (Or.inl rfl)) (iX (dc (i:=5) S.nd rfl (Or.inl rfl)) qO)))
   (aF (putL 6 S.nd (cQ (A3 rfl) rfl T.zO boot_min (aj (ba cZ (pv 2) (pv 4)) (aj (ba cZ (pv 2) (pv 5)) ar))))
  (aK (iW (jC ju n4 n5 kC (pv 3) (aj (ko (aj (pv 6) (aj (cQ (A2 rfl) rfl T.wg boot_max (aj (ba cZ (pv 2) (pv 4)) (aj (ba cZ (pv 2) (pv 5)) ar))) ar))) ar))))))
  (aK (bF (ko (aj (pv 0) (aj (iZ E9 rfl T.C0 boot_tuple (aj (cQ BM rfl T.tR uJ (aj (pv 3) ar)) ar)) ar))))))),?_⟩
 refine ⟨by show 0≤sizeLine;decide,fun fd hJ=>?_⟩
 have s0:ak H (upd H fd (.lst [])):=aY hJ;have JV:upd H fd (.lst []) fd=some (.lst []):=ay;dsimp only [aX];generalize upd H fd (.lst [])=H1 at s0 JV ⊢;refine ⟨_,rfl,l,rfl,⟨_,.of (s0 _ _ el)⟩,?_⟩;refine qU (K:=K) (a:=l) (xs:=us) (fun k σ Hc=>∃(xs:List V) (v4 v5 v6:Option V),σ=[some (.int (n:Int)),some (.ref l),some (.ref r),some (.ref fd),v4,v5,v6]∧ak H Hc∧Hc fd=some (.lst xs)∧aW Hc xs ((L.take k).map (gA nm))) ⟨[],_,_,_,rfl,s0,JV,aW.nil _⟩ (fun k σ Hc _ ⟨_,_,_,_,_,sc,_⟩=>.of (sc _ _ el)) ?_ ?_
 ·rintro k x σ Hc hx ⟨xs,v4,v5,v6,rfl,sc,ef,hX⟩
  have hk:k<L.length:=by rw [←hL.1];exact (cp.mp hx).1
  obtain ⟨b,rfl,eb⟩:=(hL.mono sc).2 k x L[k] hx (by simp [hk])
  have pk:=ok.lt L[k] (bJ hk);have tk:(L.take (k+1)).map (gA nm)=(L.take k).map (gA nm)++[gA nm L[k]]:=by rw [mw,bU hk,fG];rfl
  have lX:=hX.1;rw [aG,qu] at lX;have dC:L.length≤450:=cj ok.dC (by have:n*n≤30*30:=uK wF wF;omega)
  generalize L[k]=p at eb pk tk;obtain ⟨p1,p2⟩:=p;dsimp only at pk;obtain ⟨i,rfl⟩:=ft pk.1;obtain ⟨j,rfl⟩:=ft (show 0≤p2 by omega)
  have JW:i4 ws (i:Int)=some (.int (nm i)):=oB (hw i (by omega))
  have at2:i4 ws (j:Int)=some (.int (nm j)):=oB (hw j (by omega))
  have An:=sc _ _ wG;refine ⟨b,_,rfl,.of eb,rfl,_,_,rfl,_,_,rfl,rfl,?_⟩;refine ⟨_,rfl,_,rfl,r,ws,_,.int (nm i),rfl,rfl,.of An,JW,_,rfl,_,rfl,r,ws,_,.int (nm j),rfl,rfl,.of An,at2,nm i,nm j,rfl,?_⟩;dsimp only [aX];refine ⟨_,rfl,.inl ⟨rfl,_,.of ef⟩,_,rfl,_,rfl,_,rfl,r,ws,_,.int (nm i),rfl,rfl,.of An,JW,_,rfl,_,rfl,r,ws,_,.int (nm j),rfl,rfl,.of An,at2,nm i,nm j,rfl,by show 2≤sizeLine;decide,fun tp gI=>?_⟩
  have eq:gA nm ((i:Int),(j:Int))=(if nm j<nm i then nm j else nm i,if nm j>nm i then nm j else nm i):=by
   unfold gA;simp only [dh];refine Prod.ext ?_ ?_
   ·show min (nm i) (nm j)=_
    split <;> omega
   ·show max (nm i) (nm j)=_
    split <;> omega
  have st:ak Hc (upd Hc tp (.tup [.int (if nm j<nm i then nm j else nm i),.int (if nm j>nm i then nm j else nm i)])):=aY gI
  have dr:upd Hc tp (.tup [.int (if nm j<nm i then nm j else nm i),.int (if nm j>nm i then nm j else nm i)]) tp=some (.tup [.int (gA nm ((i:Int),(j:Int))).1,.int (gA nm ((i:Int),(j:Int))).2]):=by rw [ay,eq]
  generalize upd Hc tp (.tup [.int (if nm j<nm i then nm j else nm i),.int (if nm j>nm i then nm j else nm i)])=Hd at st dr ⊢
  have gJ:=st _ _ ef;refine ⟨fd,xs,_,rfl,rfl,gJ,dz (by omega),xs++[.ref tp],_,_,_,rfl,fA (sc.trans st) hJ,ay,?_⟩
  rw [tk];exact ((hX.mono st).push dr).bS gJ fun b o nb e=>by rw [aH nb];exact e
 ·rintro σ Hc ⟨xs,v4,v5,v6,rfl,sc,ef,hX⟩
  rw [hL.1,hW] at hX;have Ao:=Od ok N;have lX:=hX.1;have dC:L.length≤450:=cj ok.dC (by have:n*n≤30*30:=uK wF wF;omega)
  have lM:(L.map (gA nm)).length=L.length:=aG ..;have small:∀q∈L.map (gA nm),0≤q.2∧q.2<1000:=fun q hq=>by have:=Ao.lt q hq;omega
  generalize hM:L.map (gA nm)=M at hX Ao lX lM small kk;dsimp only;refine ⟨_,rfl,_,rfl,fd,xs,fun i=>(M.getD i (0,0)).1,fun i=>(M.getD i (0,0)).2,rfl,ef,by omega,fun i v hv=>?_,fun p l' hp hu oU=>?_⟩
  ·have hi:i<M.length:=by rw [←lX];exact (cp.mp hv).1
   obtain ⟨b,rfl,eb⟩:=hX.2 i v M[i] hv (by simp [hi])
   dsimp only;rw [getD_at hi];exact ⟨⟨b,rfl,eb⟩,small _ (bJ hi)⟩
  rw [lX] at hp hu;obtain ⟨pm,pw⟩:=Oc hp hu Ao.nd small;have sl:ak Hc (upd Hc l' (.lst (p.toList.map fun i=>xs.getD i .aJ))):=aY oU;have hP:aW Hc (p.toList.map fun i=>xs.getD i .aJ) (p.toList.map fun i=>M.getD i (0,0)):=hX.pick _ fun i hi=>by have:p.toList.Perm (List.range M.length):=nV.mp hp;exact bY.mp (this.mem_iff.mp hi)
  generalize (p.toList.map fun i=>xs.getD i .aJ)=zs at sl hP ⊢;refine ⟨l',zs,rfl,.inl ⟨.of ay,fun lt C_=>?_⟩⟩;have lZ:=sl.trans (aY (o:=.tup zs) C_);have elt:upd (upd Hc l' (.lst zs)) lt (.tup zs) lt=some (.tup zs):=ay;generalize upd (upd Hc l' (.lst zs)) lt (.tup zs)=Hd at lZ elt ⊢;refine ⟨by show 2≤sizeLine;decide,fun tp gI=>?_⟩
  have st:ak Hd (upd Hd tp (.tup [.int (n:Int),.ref lt])):=aY gI;have sT:=sc.trans (lZ.trans st);exact kk tp _ _ sT (none_of (sc.trans lZ) gI) ⟨lt,zs,ay,st _ _ elt,(hP.mono lZ).mono st⟩ (Ao.perm pm) pw pm
theorem Tx:bQ ["_law_pen","_law_size","_law_ahead","_law_found","_law_j","_law_at","_law_some"] ["_law_pen","_law_size"] (bj zG):=cL
theorem TB(T:Txt K mg t):bH P w K mg base cm 3 t.pY t.sQ ["_law_pen","_law_size"] (Og K):=by
 have S:=Tx;refine T.tN.dy S (fun _ _ _ _ H vs _ _ hr h=>?_);obtain ⟨P0,a,ns,n,rfl,pc,hS,n1,wF,kk⟩:=h
 refine ⟨_,(aF (putL 2 S.nd (eh (aj (eh ar) ar)))
  (aF (putL 3 S.nd (eh ar))
  (aF (e9 d7 rfl (Lo rfl T.jo (aj aC (aj (pv 1) ar))) (dc (i:=4) S.nd rfl (Or.inr rfl))
   (aF (putL 5 S.nd (bw (kY T) hr T.jY T.gG.kp T.jX bL (aj (pv 0) (aj (pv 4) ar))))
  (aF (putL 6 S.nd (bG Bc (eh (aj (pv 5) ar)) (lF (N:=["_law_i","_law_pen"]) (ρ:=(fun σ=>[σ[0]?.join])) (iG [0] rfl) rfl (gN (ba cZ (pv 2) (pv 5))) (fun _ _ _=>(.one (di mK (bw (kY T) hr T.jY T.gG.kp T.jX bL (aj (pv 1) (aj aC ar))) aC))) (fun _ _ _=>(pv 0)))))
  (aF (dv (di gh (bw (kY T) hr T.jY T.gG.kp T.jX bL (aj (pv 0) (aj aC ar))) aC) (aK (putL 6 S.nd (eh ar))) dG)
  (aF (iW (jC ju n4 n5 kC (pv 2) (aj (pv 6) ar)))
  (aK (iW (jC ju PySem.F.slot_list_extend PySem.F.type_list_extend Fd (pv 3) (aj (lF (N:=["_law_i","_law_j"]) (ρ:=(fun σ=>[σ[4]?.join])) (iG [4] rfl) rfl (gN (pv 6)) (fun _ _ _=>.nil) (fun _ _ _=>(ko (aj (pv 0) (aj (pv 1) ar))))) ar)))))))))
  (aK (bF (pv 3)))))),?_⟩
 refine gD fun _ DA=>⟨by show 0≤sizeLine;decide,fun l0 tV=>⟨by show 1≤sizeLine;decide,fun la wH=>?_⟩⟩
 have s1:ak H (upd H l0 (.lst [])):=aY tV;have e0:upd H l0 (.lst []) l0=some (.lst []):=ay;generalize upd H l0 (.lst [])=H1 at s1 e0 wH ⊢;have s2:ak H1 (upd H1 la (.lst [.ref l0])):=aY wH;have ea:upd H1 la (.lst [.ref l0]) la=some (.lst [.ref l0]):=ay;dsimp only [aX];refine DA _ _ ?_;generalize upd H1 la (.lst [.ref l0])=H2 at s2 ea ⊢;refine gD fun _ qm=>⟨by show 0≤sizeLine;decide,fun fd hJ=>?_⟩
 have s3:ak H2 (upd H2 fd (.lst [])):=aY hJ;have ef:upd H2 fd (.lst []) fd=some (.lst []):=ay;dsimp only [aX];refine qm _ _ ?_;generalize upd H2 fd (.lst [])=H3 at s3 ef ⊢;have iO:=s1.trans (s2.trans s3);have wI:la≠P0:=(pc.mono s1).ne wH;have iR:fd≠P0:=((pc.mono s1).mono s2).ne hJ;have TC:l0≠P0:=pc.ne tV;have TF:H la=none:=none_of s1 wH;have Ap:H fd=none:=none_of (s1.trans s2) hJ;have af:la≠fd:=fun e=>by rw [e,hJ] at ea;cases ea
 refine ⟨_,rfl,_,_,rfl,⟨by decide,by decide,by omega,by omega⟩,?_⟩
 rw [show ((n:Int)-1).toNat=n-1 by omega]
 refine qV (fun k σ Hc=>∃(vs us:List V) (L:av) (D:Nat→List Nat) (v4 v5 v6:Option V),σ=[some (.ref P0),some (.int (n:Int)),some (.ref la),some (.ref fd),v4,v5,v6]∧aN P0 H Hc∧bT Hc P0 a∧Hc la=some (.lst vs)∧Oh (er P0 Hc) vs (k+1) D∧(∀(i:Nat) (b:Addr),vs[i]?=some (V.ref b)→b≠la∧b≠fd)∧Hc fd=some (.lst us)∧aW (er P0 Hc) us L∧lR (k+1) L) ?_ ?_ ?_
 ·refine ⟨[.ref l0],[],[],fun _=>[],_,_,_,rfl,aN.of iO,pc.mono iO,s3 _ _ ea,⟨rfl,fun k hk=>⟨fb.nil k,l0,by rw [show k=0 by omega];rfl,?_⟩⟩,fun i b hb=>?_,ef,aW.nil _,lR.nil⟩
  ·rw [eO TC]
   exact s3 _ _ (s2 _ _ e0)
  ·match i,hb with
   | 0,hb=>cases hb;exact ⟨(fun e=>by rw [e,wH] at e0;cases e0),(fun e=>by rw [←e] at hJ;rw [s2 _ _ e0] at hJ;cases hJ)⟩
   | i+1,hb=>simp at hb
 ·rintro k σ Hc hk ⟨vs,us,L,D,v4,v5,v6,rfl,sc,p1,Aq,ah,ap,gJ,hL,ok⟩
  refine ⟨_,rfl,_,rfl,P0,a,ns,1+(k:Int),rfl,p1,ak.seq sc hS,by omega,fP.of_lt (by omega) (by omega),fun c H4 c0 c1 s4 p4=>?_⟩
  obtain ⟨c,rfl⟩:=ft c0;have hc:c<k+1:=by omega
  obtain ⟨fc,b,TH,wJ⟩:=ah.2 c hc;have TJ:b≠P0:=fun z=>by rw [z] at wJ;unfold er at wJ;rw [ae rfl] at wJ;cases wJ
  have TK:=ah.1;have TL:=sc.trans s4;have TM:=s4.at wI Aq;have JX:H4 b=some (.lst (eC (D c))):=vh _ _ (s4 _ _ wJ);dsimp only [aX];simp only [List.set_cons_zero,List.set_cons_succ];refine gD fun _ qo=>⟨_,rfl,by show 1≤sizeLine;decide,fun ue yA=>?_⟩
  have s5:ak H4 (upd H4 ue (.lst [.int (c:Int)])):=aY yA;have e5:upd H4 ue (.lst [.int (c:Int)]) ue=some (.lst [.int (c:Int)]):=ay;have TN:ue≠P0:=p4.ne yA;generalize upd H4 ue (.lst [.int (c:Int)])=H5 at s5 e5 ⊢;have lD:(D c).length≤30:=cj fc.len (by omega)
  have lV:(eC (D c)).length≤30:=by unfold eC;rw [aG];exact lD
  have z9:=TL.trans (aN.of s5);refine Of (K:=K) (l:=b) (xs:=eC (D c)) (dz (by omega)) TJ (s5 _ _ JX) (p4.mono s5) (fun R h=>⟨_,rfl,_,rfl,la,vs,_,.ref b,rfl,rfl,.of (s5 _ _ TM),oB TH,b,rfl,⟨_,.of (s5 _ _ JX)⟩,h⟩) (fun i x hx Hx R sx px k=>⟨_,rfl,P0,a,ns,3,rfl,px,ak.seq (z9.trans sx) hS,by decide,fP.of_lt (by decide) (by decide),fun c' H' _ _ s' p'=>⟨_,_,rfl,rfl,_,rfl,k _ H' s' p'⟩⟩) (fun x Hx R h=>⟨_,rfl,h⟩) fun D' ys Hx Sq XY sx px sub Dc=>?_
  obtain ⟨e,Fi,rfl⟩:=BO sub;have fe:=(fc.sub Fi).put hc;have XZ:(eC e).length≤30:=cj sub.length_le lV;refine ⟨ue,D',_,_,rfl,rfl,sx.at TN e5,Dc,cj (show _≤900 by simp;omega) (by decide),fun c2 n2=>?_⟩
  have s6:ak Hx (upd Hx c2 (.lst ([.int (c:Int)]++eC e))):=aY n2;have e6:upd Hx c2 (.lst ([.int (c:Int)]++eC e)) c2=some (.lst (eC (c::e))):=ay;have z_:=(z9.trans sx).trans (aN.of s6);have p6:=px.mono s6;have nJ:aN P0 H4 (upd Hx c2 (.lst ([.int (c:Int)]++eC e))):=(aN.of s5).trans (sx.trans (aN.of s6));have DB:c2≠P0:=px.ne n2;have f2:er P0 Hc c2=none:=none_of (s4.trans ((aN.of s5).trans sx)) (by rw [eO DB];exact n2)
  dsimp only [aX];refine qo _ _ ?_;generalize upd Hx c2 (.lst ([.int (c:Int)]++eC e))=H6 at s6 e6 z_ p6 nJ ⊢;simp only [List.set_cons_zero,List.set_cons_succ];refine bO (F5 (fun σ Hy=>∃(lc:Addr) (d:List Nat),σ=[some (.ref P0),some (.int (n:Int)),some (.ref la),some (.ref fd),some (.int (1+(k:Int))),some (.int (c:Int)),some (.ref lc)]∧aN P0 Hc Hy∧bT Hy P0 a∧Hy lc=some (.lst (eC d))∧fb (k+1) d∧lc≠P0∧er P0 Hc lc=none) ?_ ?_)
  ·rintro σ Hy ⟨lc,d,rfl,sy,py,kW,DC,uf,Ar⟩
   have ly:lc≠la:=fun z=>by rw [z,eO wI,Aq] at Ar;cases Ar
   have lf:lc≠fd:=fun z=>by rw [z,eO iR,gJ] at Ar;cases Ar
   have DD:=sy.at wI Aq;have TQ:=sy.at iR gJ;have X0:d.length≤30:=cj DC.len (by omega)
   dsimp only;refine ⟨_,rfl,.inl ⟨rfl,_,.of DD⟩,_,rfl,la,vs,_,rfl,rfl,DD,dz (by omega),?_⟩
   have e7:upd Hy la (.lst (vs++[.ref lc])) la=some (.lst (vs++[.ref lc])):=ay;have k7:∀b o,b≠la→Hy b=some o→upd Hy la (.lst (vs++[.ref lc])) b=some o:=fun b o nb e=>by rw [aH nb];exact e
   have p7:=py.upd (o:=.lst (vs++[.ref lc])) wI;have r7:=BP (P:=P0) (H:=Hy) (r:=la) (o:=.lst (vs++[.ref lc]));have Aa:aN P0 H (upd Hy la (.lst (vs++[.ref lc]))):=(sc.trans sy).but TF;generalize upd Hy la (.lst (vs++[.ref lc]))=H7 at e7 k7 p7 r7 Aa ⊢;have DE:=k7 fd _ (fun z=>af z.symm) TQ;have DF:=k7 lc _ ly kW;have TR:(eC d).length=d.length:=by unfold eC;rw [aG]
   refine ⟨_,rfl,.inl ⟨rfl,_,.of DE⟩,Bs (xs:=eC d) (fun R h=>⟨_,rfl,lc,rfl,⟨_,.of DF⟩,h _ _ (ak.refl _) (oF (.of DF))⟩) (dz (by omega)) (fun _ i y Hz=>∃(b:Addr) (x:Nat),y=.ref b∧d[i]?=some x∧Hz b=some (.tup [.int (x:Int),.int (1+(k:Int))])) (fun Dd i y Ha Hb ys ⟨b,x,h1,h2,h3⟩ e f=>⟨b,x,h1,h2,f b _ (fun z=>by rw [z,e] at h3;cases h3) h3⟩) ?_ ?_⟩
   ·intro Dd i x hx Hz R sz _ kz
    obtain ⟨y,hy,rfl⟩:=Oi hx;refine ⟨_,rfl,_,rfl,by show 2≤sizeLine;decide,fun tp gI=>?_⟩
    exact kz _ _ (aY gI) ⟨tp,y,rfl,hy,ay⟩
   ·intro Dd zs H8 Sl s8 TU TV tY
    have lL:=hL.1;have l2:us.length≤450:=by
     have:=ok.dC;have:(k+1)*(k+1-1)≤30*30:=uK (by omega) (by omega)
     omega
    refine ⟨fd,Dd,us,zs,rfl,rfl,s8 _ _ DE,tY,cj (show _≤900 by omega) (by decide),?_⟩
    have k9:∀b o,b≠fd→H8 b=some o→upd H8 fd (.lst (us++zs)) b=some o:=fun b o nb e=>by rw [aH nb];exact e
    have p8:=p7.mono s8;have r9:=BP (P:=P0) (H:=H8) (r:=fd) (o:=.lst (us++zs));have JY:er P0 H8 fd=some (.lst us):=by rw [eO iR];exact s8 _ _ DE
    have TY:er P0 Hy la=some (.lst vs):=by rw [eO wI];exact DD
    refine ⟨vs++[.ref lc],us++zs,L++d.map fun(x:Nat)=>((x:Int),((k+1:Nat):Int)),fun i=>if i=k+1 then d else D i,_,_,_,rfl,(Aa.trans (aN.of s8)).but Ap,p8.upd iR,k9 la _ af (s8 _ _ e7),⟨by simp [TK],fun i hi=>?_⟩,fun i b' g9=>?_,ay,?_,ok.more DC⟩
    ·dsimp only
     by_cases z:i=k+1
     ·subst z
      rw [ae rfl];refine ⟨DC,lc,by rw [gK (by omega),show k+1-vs.length=0 by omega];rfl,?_⟩
      exact r9 _ _ lf (by rw [eO uf];exact s8 _ _ DF)
     ·rw [aa z]
      obtain ⟨f1,b1,v1,h1⟩:=ah.2 i (by omega)
      obtain ⟨a1,a2⟩:=ap i b1 v1;refine ⟨f1,b1,by rw [gM (by omega)];exact v1,?_⟩
      exact r9 _ _ a2 (yj s8 _ _ (r7 _ _ a1 (sy _ _ h1)))
    ·by_cases z:i<vs.length
     ·rw [gM z] at g9
      exact ap i b' g9
     ·have bg:=(cp.mp g9).1
      rw [dP,uo] at bg;rw [gK (by omega),show i-vs.length=0 by omega] at g9
      cases g9;exact ⟨ly,lf⟩
    ·refine aW.cat ?_ ?_
     ·exact (((hL.mono sy).bS TY r7).mono (yj s8)).bS JY r9
     ·refine aW.bS (H:=er P0 H8) ⟨by rw [TU,TR,aG],fun i v p h1 h2=>?_⟩ JY r9
      obtain ⟨b',x,rfl,hx,e'⟩:=TV i v h1;rw [bD,hx] at h2;cases h2;refine ⟨b',rfl,?_⟩;rw [show (((k+1:Nat):Int))=1+(k:Int) by omega]
      exact vB p8 e'
  ·intro R hR
   refine ⟨_,rfl,P0,a,ns,9,rfl,p6,ak.seq z_ hS,by decide,fP.of_lt (by decide) (by decide),fun c' H7 _ _ s7 p7=>⟨rfl,_,rfl,de (fun _=>?_) (fun _=>?_)⟩⟩
   ·refine ⟨by show 0≤sizeLine;decide,fun lc uf=>?_⟩
    have nP:=p7.ne uf;have JZ:=s4.trans (nJ.trans s7);exact hR _ _ ⟨lc,[],rfl,JZ.trans (aN.of (aY uf)),p7.mono (aY uf),ay,fb.nil _,nP,none_of JZ (by rw [eO nP];exact uf)⟩
   ·exact hR _ _ ⟨c2,c::e,rfl,s4.trans (nJ.trans s7),p7,s7.at DB e6,fe,DB,f2⟩
 ·rintro σ Hc ⟨vs,us,L,D,v4,v5,v6,rfl,sc,p1,Aq,ah,ap,gJ,hL,ok⟩
  rw [show n-1+1=n by omega] at ok
  exact ⟨_,rfl,kk fd us L Hc sc p1 (by rw [eO iR];exact Ap) iR gJ hL ok.ok⟩
theorem TZ:bQ ["_law_pen","_law_most","_law_size","_law_way","_law_wide","_law_links","_law_j","_law_i"] ["_law_pen","_law_most"] (bj zH):=cL
theorem T1(T:Txt K mg t):bH P w K mg base cm 4 t.pZ t.sS ["_law_pen","_law_most"] (Om K):=by
 have S:=TZ;refine T.tO.dy S (fun _ _ _ _ H _ _ _ hr h=>?_);obtain ⟨P0,a,ns,most,rfl,pc,hS,m1,X1,kk⟩:=h
 refine ⟨_,(aF (putL 2 S.nd (bG iz aC (bw (kY T) hr T.jY T.gG.kp T.jX bL (aj (pv 0) (aj (pv 1) ar)))))
  (aF (putL 3 S.nd (bw (kY T) hr T.jY T.gG.kp T.jX bL (aj (pv 0) (aj aC ar))))
  (aF (putL 4 S.nd (bw (kY T) hr T.jY T.gG.kp T.jX bL (aj (pv 0) (aj (pv 2) ar))))
  (aF (putL 5 S.nd (eh ar))
  (aF (e9 d7 rfl (qS rfl T.jo (aj (pv 2) ar)) (dc (i:=6) S.nd rfl (Or.inl rfl))
   (aK (e9 d7 rfl (qS rfl T.jo (aj (pv 6) ar)) (dc (i:=7) S.nd rfl (Or.inl rfl))
   (aK (dv (mD (bw (Tu T) hr T.IL T.tM.kp T.IK bL (aj (pv 0) (aj (pv 3) (aj (pv 2) (aj (pv 4) (aj (pv 7) (aj (pv 6) ar)))))))) (aK (iW (jC ju n4 n5 kC (pv 5) (aj (ko (aj (pv 7) (aj (pv 6) ar))) ar)))) dG)))))
  (aF (dv (di gh (pv 3) aC) (aK (putL 5 S.nd (bw (TB T) hr T.IP T.tN.kp T.IM bL (aj (pv 0) (aj (pv 2) ar))))) dG)
  (aK (bF (bw (Tw T) hr T.IU T.tP.kp T.IT bL (aj (pv 2) (aj (pv 5) (aj (bw (JR T) hr T.CT T.qe.kp T.CS bL (aj (pv 0) (aj (iZ (yd rfl) rfl T.nB boot_list (aj (iZ yc rfl T.jo ye (aj (pv 2) ar)) ar)) ar))) ar)))))))))))),?_⟩
 refine gD fun _ DA=>⟨_,rfl,_,rfl,P0,a,ns,(most:Int),rfl,pc,hS,by omega,fP.of_lt (by omega) (by omega),fun c H1 c0 c1 s1 p1=>⟨_,_,rfl,rfl,?_⟩⟩
 obtain ⟨c,rfl⟩:=ft c0;dsimp only [aX];refine DA _ _ ?_;rw [show 1+(c:Int)=((c+1:Nat):Int) by omega]
 have n1:1≤c+1:=by omega
 have nm:c+1≤most:=by omega
 generalize c+1=n at n1 nm ⊢;have Ai:aO K (er P0 H1) a (ns.map V.int):=ak.seq s1 hS;refine gD fun _ qm=>⟨_,rfl,P0,a,ns,6,rfl,p1,Ai,by decide,fP.of_lt (by decide) (by decide),fun way H2 _ _ s2 p2=>?_⟩
 have fZ:=s1.trans s2;dsimp only [aX];refine qm _ _ ?_;refine gD fun _ qo=>⟨_,rfl,_,rfl,P0,a,ns,(n:Int),rfl,p2,ak.seq fZ hS,by omega,fP.of_lt (by omega) (by omega),fun wide H3 _ _ s3 p3=>?_⟩
 have iO:=fZ.trans s3;dsimp only [aX];refine qo _ _ ?_;refine gD fun _ wK=>⟨by show 0≤sizeLine;decide,fun fd hJ=>?_⟩
 have s4:ak H3 (upd H3 fd (.lst [])):=aY hJ;have ef:upd H3 fd (.lst []) fd=some (.lst []):=ay;dsimp only [aX];refine wK _ _ ?_;generalize upd H3 fd (.lst [])=H4 at s4 ef ⊢;have j4:=iO.trans (aN.of s4);have p4:=p3.mono s4;have iR:fd≠P0:=p3.ne hJ;have J0:er P0 H fd=none:=none_of iO (by rw [eO iR];exact hJ)
 have Ap:H fd=none:=by rw [eO iR] at J0;exact J0
 refine ⟨_,rfl,(n:Int),rfl,by omega,by omega,?_⟩
 rw [dh];refine qV (fun j σ Hc=>∃(us:List V) (L:av) (v6 v7:Option V),σ=[some (.ref P0),some (.int (most:Int)),some (.int (n:Int)),some (.int way),some (.int wide),some (.ref fd),v6,v7]∧aN P0 H Hc∧bT Hc P0 a∧Hc fd=some (.lst us)∧aW (er P0 Hc) us L∧fS j 0 L) ⟨[],[],_,_,rfl,j4,p4,ef,aW.nil _,fS.start⟩ ?_ ?_
 ·rintro j σ Hc hj ⟨us,L,v6,v7,rfl,sc,p5,gJ,hL,ok⟩
  dsimp only [aX];simp only [List.set_cons_zero,List.set_cons_succ];refine ⟨_,rfl,(j:Int),by rw [Int.zero_add],by omega,by omega,?_⟩
  rw [dh];refine qV (fun i σ Hd=>∃(us:List V) (L:av) (v7:Option V),σ=[some (.ref P0),some (.int (most:Int)),some (.int (n:Int)),some (.int way),some (.int wide),some (.ref fd),some (.int (0+(j:Int))),v7]∧aN P0 H Hd∧bT Hd P0 a∧Hd fd=some (.lst us)∧aW (er P0 Hd) us L∧fS j i L) ⟨us,L,_,rfl,sc,p5,gJ,hL,ok⟩ ?_ ?_
  ·rintro i σ Hd hi ⟨us,L,v7,rfl,sd,p6,gJ,hL,ok⟩
   refine ⟨_,rfl,_,rfl,_,rfl,_,rfl,_,rfl,_,rfl,P0,a,ns,way,(n:Int),wide,0+(i:Int),0+(j:Int),rfl,p6,ak.seq sd hS,fun b He se pe=>?_⟩;have DG:=se.at iR gJ;have J1:=hL.mono se;have lL:=hL.1;have l2:us.length≤900:=by
    have:=ok.dC;have:j*(j-1)≤30*30:=uK (by omega) (by omega)
    omega
   cases b with
   | true=>
    refine ⟨true,rfl,kF ?_⟩;refine ⟨_,rfl,.inl ⟨rfl,_,.of DG⟩,_,rfl,_,rfl,by show 2≤sizeLine;decide,fun tp gI=>?_⟩
    have st:ak He (upd He tp (.tup [.int (0+(i:Int)),.int (0+(j:Int))])):=aY gI;have et:upd He tp (.tup [.int (0+(i:Int)),.int (0+(j:Int))]) tp=some (.tup [.int (i:Int),.int (j:Int)]):=by rw [ay,Int.zero_add,Int.zero_add]
    generalize upd He tp (.tup [.int (0+(i:Int)),.int (0+(j:Int))])=Hf at st et ⊢;have pf:=pe.mono st;have J2:=st _ _ DG;refine ⟨fd,us,_,rfl,rfl,J2,dz (by omega),us++[.ref tp],L++[((i:Int),(j:Int))],_,rfl,((sd.trans se).trans (aN.of st)).but Ap,pf.upd iR,ay,?_,ok.push hi⟩
    refine aW.bS (H:=er P0 Hf) ((J1.mono (yj st)).push (vB pf et)) (by rw [eO iR];exact J2) BP
   | false=>exact ⟨false,rfl,iF ⟨us,L,_,rfl,sd.trans se,pe,DG,J1,ok.skip⟩⟩
  ·rintro σ Hd ⟨us,L,v7,rfl,sd,p6,gJ,hL,ok⟩
   exact ⟨us,L,_,_,rfl,sd,p6,gJ,hL,ok.next⟩
 ·rintro σ Hc ⟨us,L,v6,v7,rfl,sc,p5,gJ,hL,ok⟩
  dsimp only;refine bO (F5 (fun σ Hy=>∃(lk:Addr) (us:List V) (L:av),σ=[some (.ref P0),some (.int (most:Int)),some (.int (n:Int)),some (.int way),some (.int wide),some (.ref lk),v6,v7]∧aN P0 H Hy∧bT Hy P0 a∧lk≠P0∧Hy lk=some (.lst us)∧aW (er P0 Hy) us L∧jd n L) ?_ ?_)
  ·rintro σ Hy ⟨lk,us,L,rfl,sy,py,T2,As,hL,ok⟩
   dsimp only;refine ⟨_,rfl,_,rfl,_,rfl,_,rfl,(n:Int),rfl,fun pr Ag=>?_⟩;have s6:ak Hy (upd Hy pr (.fJ 0 (n:Int))):=aY Ag;refine ⟨pr,n,rfl,ay,by omega,fun l0 n0=>?_⟩
   have s7:=s6.trans (aY (o:=.lst (cV n)) n0);have e0:upd (upd Hy pr (.fJ 0 (n:Int))) l0 (.lst (cV n)) l0=some (.lst (cV n)):=ay;have tV:l0≠P0:=(py.mono s6).ne n0;generalize upd (upd Hy pr (.fJ 0 (n:Int))) l0 (.lst (cV n))=Hz at s7 e0 ⊢;have lu:(cV n).length=n:=by unfold cV;simp
   refine ⟨P0,a,l0,ns,cV n,rfl,py.mono s7,ak.seq (sy.trans (aN.of s7)) hS,tV,e0,by omega,fun r ys Hw sw pw fr nr wG pm=>?_⟩
   obtain ⟨T3,ly,hy,NO⟩:=Ol pm;have Au:=(aN.of s7).trans sw;refine ⟨lk,r,n,us,ys,L,T3,rfl,Au.at T2 As,(hL.mono Au).mono vh,ok,by omega,wG,ly,hy,NO,fun tt L' Hv sv J3 sh t_ T5 X2=>?_⟩
   have nt:tt≠P0:=pw.ne J3;exact kk tt n L' Hv ((sy.trans Au).trans (aN.of sv)) (pw.mono sv) (none_of (sy.trans Au) (by rw [eO nt];exact J3)) nt (sh.er (pw.mono sv)) t_ T5 n1 nm
  ·intro R hR
   refine ⟨_,rfl,rfl,_,rfl,de (fun _=>?_) (fun _=>?_)⟩
   ·refine ⟨_,rfl,_,rfl,P0,a,ns,n,rfl,p5,ak.seq sc hS,n1,by omega,fun r T6 L' Hy sy py fr nr wG T7 t_=>?_⟩
    exact hR _ _ ⟨r,T6,L',rfl,sc.trans sy,py,nr,wG,T7,t_⟩
   ·exact hR _ _ ⟨fd,us,L,rfl,sc,p5,iR,gJ,hL,ok.ok⟩
theorem T8:bQ ["places"] ["places"] (bj zw):=cL
theorem T9(T:Txt K mg t):bH P w K mg base cm 1 t.pQ t.sI ["places"] (PF K):=by
 have S:=T8;refine T.tI.dy S (fun _ _ _ _ H _ _ _ hr h=>?_);obtain ⟨a,zs,rfl,ea,z1,J4,kk⟩:=h;refine ⟨_,(aK (bF (FF (N:=["one","other"]) (ρ:=(fun σ=>[])) (FE [] rfl) rfl (Na rfl T.Jb (aj (pv 0) (aj (bG Bc (E1 E6 (pv 0) (EY aC) EX) (E1 E6 (pv 0) EX (EY aC))) ar))) (fun _ _ _=>.nil) (fun _ _ _=>(ko (aj (cQ (A3 rfl) rfl T.zO boot_min (aj (pv 0) (aj (pv 1) ar))) (aj (cQ (A2 rfl) rfl T.wg boot_max (aj (pv 0) (aj (pv 1) ar))) ar))))))),?_⟩;refine rm (GJ (Z:=zs.zip (zs.drop 1++zs.take 1)) (fun _=>true) yM ?_ (dz (by rw [List.length_zip];omega)) ?_ ?_ ?_)
 ·intro R h
  refine ⟨_,rfl,_,rfl,1,rfl,a,_,rfl,ea,fun p np=>?_⟩;refine ⟨_,rfl,1,rfl,a,_,rfl,(aY np).seq ea,fun q nq=>?_⟩;have c1:=PN zs 1 z1;have c2:=PM zs 1;have pq:p≠q:=fun z=>by rw [←z,ay] at nq;cases nq
  refine ⟨p,q,(zs.drop 1).map V.int,(zs.take 1).map V.int,rfl,rfl,by rw [aH pq,ay];exact cR _ (cR _ c1),by rw [ay];exact cR _ (cR _ c2),?_,fun r nr=>?_⟩
  ·rw [aG,aG,wW,qu]
   exact kZ (dz (by omega))
  ·have sH:=oT (o:=.lst ((zs.drop 1).map V.int++(zs.take 1).map V.int)) (oT (oT (ak.refl H) np) nq) nr
   have nM:=sH.seq ea;refine ⟨a,r,rfl,⟨_,nM⟩,⟨_,.of ay⟩,h _ _ sH (PJ nM (.of ?_))⟩;rw [ay,fG]
 ·intro z hz Hc R sc k
  exact k
 ·intro z hz Hc R sc k
  exact ⟨_,rfl,_,rfl,_,_,rfl,_,rfl,_,rfl,_,_,rfl,by show 2≤sizeLine;decide,fun tp gI=>k tp _ (aY gI) ay⟩
 ·intro D us Hc nD sc hL eD
  rw [PL z1] at hL;exact kk _ _ ⟨sc,nD,us,eD,hL⟩
theorem T_:bQ ["shape","places"] ["shape","places"] (bj zA):=cL
theorem Ua(T:Txt K mg t):bH P w K mg base cm 2 t.pR t.sJ ["shape","places"] (PH K):=by
 have S:=T_;refine T.tJ.dy S (fun _ _ _ _ H _ _ _ hr h=>?_);obtain ⟨tp,a,n,L,zs,rfl,⟨lt,us,dr,elt,hL⟩,l2,ea,kk⟩:=h;refine ⟨_,(aK (bF (FF (N:=["i","j","places"]) (ρ:=(fun σ=>[σ[1]?.join])) (FE [1] rfl) rfl (xJ (ba en (pv 0) aC)) (fun _ _ _=>(.one (PW.pt (pw_and (qW (yL (K:=K)) (pv 0) (pv 2) rfl) (pw_and1 (qW (yL (K:=K)) (pv 1) (pv 2) rfl)))))) (fun _ _ _=>(ko (aj (pv 0) (aj (pv 1) ar))))))),?_⟩;refine rm (GJ (Z:=L) (fun p=>decide (p.1∈zs) && decide (p.2∈zs)) id ?_ (dz (by omega)) ?_ ?_ ?_)
 ·intro R h
  exact ⟨_,rfl,tp,_,_,_,rfl,rfl,.of dr,rfl,lt,rfl,⟨_,.of elt⟩,h _ _ (ak.refl _) (GI elt hL)⟩
 ·intro z hz Hc R sc k
  have nC:=sc.seq ea;refine ⟨_,rfl,_,rfl,a,_,rfl,.inl nC,rfl,yN _,_,rfl,de (fun h1=>?_) (fun h1=>?_)⟩
  ·refine ⟨_,rfl,_,rfl,a,_,rfl,.inl nC,rfl,yN _,?_⟩
   have h2:decide (z.1∈zs)=true:=by rw [←rH];exact h1
   rw [h2,Bool.true_and,←rH] at k;exact ⟨_,rfl,k⟩
  ·have h2:decide (z.1∈zs)=false:=by rw [←rH];exact uu.mpr h1
   rw [h2,uh] at k;exact k
 ·intro z hz Hc R sc k
  exact ⟨_,rfl,_,rfl,by show 2≤sizeLine;decide,fun tp gI=>k tp _ (aY gI) ay⟩
 ·intro D us Hc nD sc hL eD
  rw [nZ] at hL;exact kk _ _ ⟨sc,nD,us,eD,hL⟩
theorem Ub:bQ ["shape","places"] ["shape","places"] (bj zB):=cL
theorem Uc(T:Txt K mg t):bH P w K mg base cm 3 t.pS t.sL ["shape","places"] (P4 K):=by
 have S:=Ub;refine T.tK.dy S (fun _ _ _ _ H _ Q _ hr h=>?_);obtain ⟨tp,a,n,L,zs,rfl,dH,eV,pw,n1,l2,ea,J4,bz,k⟩:=h;have iM:=hr.units
 refine ⟨_,(aF (dv (PW.pt (pw_or (di xO (cQ i5 rfl T.hG ig (aj (pv 1) ar)) aC) (pw_or1 (di EF (cQ Px rfl T.hG ig (aj (iZ (Pw (K:=K) rfl) rfl T.I_ boot_set (aj (pv 1) ar)) ar)) (cQ i5 rfl T.hG ig (aj (pv 1) ar)))))) (aK (bF iw)) dG)
  (aF (dv (qM (mD (cQ (Fq (K:=K) rfl) rfl T.CY boot_all (aj (lF (N:=["place","shape"]) (ρ:=(fun σ=>[σ[0]?.join])) (iG [0] rfl) rfl (gN (pv 1)) (fun _ _ _=>.nil) (fun _ _ _=>(bw (RT T) hr T.HV T.sW.kp T.HU bL (aj (pv 0) (aj (ba (rj (K:=K)) (pv 1) aC) ar))))) ar)))) (aK (bF iw)) dG)
  (aK (bF (gm (PB iM) (cQ BM rfl T.tR uJ (aj (bw (T9 T) hr T.ID T.tI.kp T.IC bL (aj (pv 1) ar)) ar)) (bw (Ua T) hr T.IF T.tJ.kp T.IE bL (aj (pv 0) (aj (pv 1) ar)))))))),?_⟩
 have no:∀H',ak H H'→¬fV L zs→Q (.bl false) H':=fun H' s' h=>by have:=k H' s';rw [bt h] at this;exact this
 refine bO ?_;refine ⟨_,rfl,a,_,rfl,.inl ea,_,_,rfl,rfl,_,rfl,de (fun h4=>?_) (fun h4=>?_)⟩
 ·have DH:((zs.map V.int).length:Int)<4:=eY h4
  rw [aG] at DH;exact no _ (ak.refl _) fun h=>by have:=h.1;omega
 ·have DH:¬((zs.map V.int).length:Int)<4:=fun e=>h4 (a7 e)
  rw [aG] at DH;refine ⟨_,rfl,a,zs,rfl,ea,by omega,fun l S m nl JU J5=>?_⟩
  have s1:ak H (upd H l (.set S m)):=aY nl;refine ⟨l,S,m,rfl,ay,by omega,?_⟩
  generalize upd H l (.set S m)=H1 at s1 ⊢;refine ⟨_,rfl,a,_,rfl,.inl (s1.seq ea),rfl,_,rfl,de (fun hn=>?_) (fun hn=>?_)⟩
  ·refine no _ s1 fun h=>?_
   rw [vd,aG,a7 (by rw [J5.mpr h.2.1])] at hn
   cases hn
  ·have nd:zs.Nodup:=J5.mp (by
    by_cases e:m=zs.length;·exact e
    ·exfalso
     rw [vd,aG,bt (by omega)] at hn
     exact hn rfl)
   dsimp only [jz];unfold AR tB;obtain ⟨lt,us,dr,elt,hL⟩:=id dH;refine bO (vg (Fy (xs:=zs.map V.int) (fun R h=>⟨_,rfl,a,rfl,⟨_,s1.seq ea⟩,h _ _ (ak.refl _) (oF (s1.seq ea))⟩) (by rw [aG];exact dz (by omega)) (fun _ i y _=>y=.bl (decide (0≤zs.getD i 0∧zs.getD i 0<(n:Int)))) (fun _ _ _ _ _ _ h _ _=>h) ?_ ?_))
   ·intro D i v hi Hc R sc _ kc
    rw [bD] at hi;obtain ⟨z,ez,rfl⟩:=AA.mp hi;have e0:zs.getD i 0=z:=by rw [b9,ez];rfl
    exact ⟨_,rfl,_,rfl,tp,_,_,_,rfl,rfl,.of (s1.trans sc _ _ dr),rfl,z,n,rfl,kc _ Hc (ak.refl _) (by rw [e0])⟩
   ·intro D ys Hc sc qg hP eD
    have ey:ys=(zs.map fun z=>decide (0≤z∧z<(n:Int))).map V.bl:=by
     refine fH (by simpa using qg) fun i h1 h2=>?_
     have hi:i<zs.length:=by simpa using h2
     rw [hP i ys[i] (by simp),eJ,eJ,show zs.getD i 0=zs[i] by simp [b9,hi]]
    have s2:=s1.trans sc;refine ⟨D,_,rfl,.of (by rw [eD,ey]),?_⟩
    refine ⟨_,rfl,de (fun hb=>?_) (fun hb=>?_)⟩
    ·refine no _ s2 fun h=>?_
     have h2:=h.PV eV;rw [show ((zs.map fun z=>decide (0≤z∧z<(n:Int))).all id)=true by rw [List.all_map,nQ];intro z hz;exact a7 (h2 z hz)] at hb
     cases hb
    ·dsimp only [jz]
     refine ⟨_,rfl,a,zs,rfl,s2.seq ea,by omega,J4,fun H2 l ⟨s3,nl,X3,el,hR⟩=>?_⟩
     dsimp only [xP];refine GK el hR (by rw [PQ];omega) (GL nd (by omega) bz) fun l' ws N H3 s4 oU oR hN pN oN=>?_
     have s5:=(s2.trans s3).trans s4;refine ⟨_,rfl,_,rfl,tp,a,n,L,zs,rfl,dH.mono s5,l2,s5.seq ea,fun H4 l4 ⟨s6,X4,Ud,Ue,hA⟩=>?_⟩;refine ⟨l',l4,ws,Ud,N,_,rfl,rfl,.of (s6 _ _ oR),.of Ue,hN.mono s6,hA,?_⟩;rw [PY pN oN (P2 pw) (GL nd (by omega) bz) (P1 eV n1),show decide ((fU zs).Perm (lT L zs))=decide (fV L zs) from qz.mpr ⟨fun h=>⟨by omega,nd,h⟩,fun h=>h.2.2⟩]
     exact k _ (s5.trans s6)
theorem Ug:bQ ["shape","linked","count","i","j"] ["shape"] (bj y_):=cL
theorem Uh(T:Txt K mg t):bH P w K mg base cm 2 t.pj t.rW ["shape"] QA:=by
 have S:=Ug;refine T.sX.dy S (fun _ _ _ _ H _ Q _ hr h=>?_);obtain ⟨tp,n,L,rfl,dH,nd,lt,jR,l5,kk⟩:=h;have hu:=j6 (qH (show 1≤64 by decide) _) hr.units
 have eV:g8 n L:=fun p hp=>by have:=lt p hp;exact ⟨this.1,by omega,by omega,this.2.2⟩
 refine ⟨_,(aF (Bn 1 S.nd (bw (zP T) hr T.wb T.lW.kp T.wa bL (aj (pv 0) ar)))
  (aF (putL 2 S.nd aC)
  (aF (e9 d7 rfl (xJ (ba en (pv 0) aC)) (qP rfl (iX (dc (i:=3) S.nd rfl (Or.inl rfl)) (iX (dc (i:=4) S.nd rfl (Or.inr rfl)) qO)))
   (aK (La (i:=2) S.nd rfl (Or.inl rfl) (cQ i5 rfl T.hG ig (aj (lF (N:=["k","j","linked"]) (ρ:=(fun σ=>[σ[4]?.join,σ[1]?.join])) (iG [4,1] rfl) rfl (vI (ba cZ (pv 1) (pv 3))) (fun _ _ _=>(.one (PW.pt (pw_and (di mK (pv 0) (pv 1)) (pw_and1 (xB (OH hu (pv 0) (ba (Bt (K:=K)) (pv 2) (pv 1))) rfl)))))) (fun _ _ _=>(pv 0))) ar)) Et)))
  (aK (bF (pv 2)))))),?_⟩
 refine bO ⟨_,rfl,tp,n,L,rfl,dH,eV,by omega,fun H1 D ds f s1 nD nE KL nb=>?_⟩
 obtain ⟨lk,us,dr,elt,hL⟩:=id dH;dsimp only [aX];refine bO ⟨_,rfl,tp,_,_,_,rfl,rfl,.of (s1 _ _ dr),rfl,lk,rfl,⟨_,.of (s1 _ _ elt)⟩,?_⟩;refine Ey (K:=K) (a:=lk) (xs:=us) (fun k σ Hc=>∃(v3 v4:Option V),σ=[some (.ref tp),some (.ref D),some (.int (((L.take k).map (yQ n L)).sum:Nat)),v3,v4]∧ak H Hc∧dg Hc D n ds f) ⟨_,_,rfl,s1,KL.fr⟩ (fun k σ Hc _ ⟨_,_,_,sc,_⟩=>.of (sc _ _ elt)) ?_ ?_
 ·rintro k x σ Hc hx ⟨v3,v4,rfl,sc,KF⟩
  have hk:k<L.length:=by rw [←hL.1];exact (cp.mp hx).1
  obtain ⟨b,rfl,eb⟩:=hL.2 k x L[k] hx (by simp [hk])
  have pk:=lt L[k] (bJ hk);have tk:L.take (k+1)=L.take k++[L[k]]:=by rw [mw,bU hk];rfl
  generalize L[k]=p at eb pk tk;obtain ⟨p1,p2⟩:=p;dsimp only at pk eb;obtain ⟨i,rfl⟩:=ft pk.1;obtain ⟨j,rfl⟩:=ft (show 0≤p2 by omega)
  have hi:i<n:=by omega
  have hj:j<n:=by omega
  refine ⟨b,_,rfl,.of (sc _ _ eb),rfl,_,_,rfl,_,_,rfl,rfl,?_⟩;refine ⟨_,rfl,vg (yK (GD (a:=ds i) (kvs:=dk (f i)) (fun Q q=>⟨_,rfl,_,rfl,D,_,_,_,rfl,rfl,.of KF.lst,kM hi,q⟩) (KF.at' i hi) fun ob Hf gH off=>?_))⟩;have sf:ak H Hf:=fun b u e=>off b u (fun z=>by rw [z,nE i hi] at e;cases e) (sc _ _ e)
  have Av:dg Hf D n ds f:=⟨off D _ (fun z=>KL.ne i hi z.symm) KF.lst,fun i' bg=>by
   by_cases e:i'=i
   ·subst e
    exact .inr ⟨ob,gH⟩
   ·rcases KF.at' i' bg with h | ⟨jV,h⟩
    ·exact .inl (off _ _ (fun z=>e (KL.inj i' i bg hi z)) h)
    ·exact .inr ⟨jV,off _ _ (fun z=>e (KL.inj i' i bg hi z)) h⟩⟩
  refine B4 gH (fun q=>decide (j<q) && decide (q∈f j)) (dz (by have:=RG (KL.pl i hi);omega)) ?_ (fun q hq Hd R h=>⟨_,rfl,h⟩) ?_
  ·intro q hq Hd R sd kR
   refine ⟨_,rfl,_,rfl,_,_,rfl,rfl,_,rfl,de (fun hc=>?_) (fun hc=>?_)⟩
   ·have hc:(j:Int)<(q:Int):=eY hc
    rw [a7 (show j<q by omega),Bool.true_and] at kR
    have rd:Rd Hd (ds j) (.dK (dk (f j))):=by
     rcases Av.at' j hj with h | ⟨jV,h⟩;·exact .inl (sd _ _ h)
     ·exact .inr ⟨jV,sd _ _ h⟩
    refine ⟨_,rfl,_,rfl,_,rfl,D,_,_,_,rfl,rfl,.of (sd _ _ Av.lst),kM hj,ds j,_,rfl,.inl ⟨_,(Sum.inl (q:Int):Key),rd,rfl,rfl⟩,_,rfl,?_⟩;rw [Gu];by_cases hm:q∈f j
    ·rw [a7 hm] at kR
     rw [ae hm];exact kR
    ·rw [bt hm] at kR
     rw [aa hm];exact kR
   ·have hc:¬j<q:=fun z=>hc (a7 (show (j:Int)<(q:Int) by omega))
    rw [bt hc,uh] at kR;exact kR
  ·intro D2 H2 zU s2 nF
   have Ui:ak H H2:=sf.trans s2;have Uj:dg H2 D n ds f:=⟨s2 _ _ Av.lst,fun i' bg=>(Av.at' i' bg).imp (fun h=>s2 _ _ h) fun⟨jV,h⟩=>⟨jV,s2 _ _ h⟩⟩;refine ⟨D2,_,rfl,.inl (.of nF),_,_,rfl,rfl,some (.int (i:Int)),some (.int (j:Int)),?_,Ui,Uj⟩;have te:=QB (n:=n) (L:=L) (g:=fun a=>if a<n then f a else []) (fun a q ha=>by show q∈(if a<n then f a else [])↔_;rw [ae ha];exact nb a q ha) (fun a=>by split;exact (KL.pl a (by assumption)).1;exact qB) hi hj (fun q hq=>by rw [ae hi] at hq;exact (KL.pl i hi).2 q hq)
   rw [ae hi,ae hj,List.filter_map,aG] at te;rw [tk,fG,wZ,List.map_singleton,List.sum_singleton,te,aG];have ef:(f i).filter (GW j (f j) ∘ fun k:Nat=>V.int (k:Int))=(f i).filter fun q=>decide (j<q) && decide (q∈f j):=List.filter_congr fun q _=>by
    show (decide ((j:Int)<(q:Int)) && decide (((q:Nat):Int).toNat∈f j))=_;rw [dh];by_cases z:j<q;·rw [a7 z,a7 (show (j:Int)<(q:Int) by omega)]
    ·rw [bt z,bt (show ¬(j:Int)<(q:Int) by omega)]
   rw [ef]
   push_cast
   rfl
 ·rintro σ Hc ⟨v3,v4,rfl,sc,KF⟩
  rw [hL.1,hW,show (L.map (yQ n L)).sum=jQ n L from Qr nd lt];exact ⟨_,rfl,kk _ sc⟩
theorem Uk:bQ ["_law_shape","_law_told","_law_order","_law_own","_law_many","_law_new","_law_within"] ["_law_shape","_law_told","_law_order"] (bj zJ):=cL
theorem J6(T:Txt K mg t):bH P w K mg base cm 7 t.p_ t.sV ["_law_shape","_law_told","_law_order"] RM:=by
 have S:=Uk;refine T.qf.dy S (fun _ _ _ _ H _ Q _ hr h=>?_);obtain ⟨tp,T0,D,a,n,L,o,wd,rfl,dH,pw,lt,jR,dC,ea,po,eT,wL,kk⟩:=h;have iM:=hr.units;have hu:=hr.EM;have nl:L.Nodup:=pw.imp fun h e=>by subst e;unfold lexLt at h;omega
 have eV:g8 n L:=fun p hp=>by have:=lt p hp;exact ⟨this.1,by omega,by omega,this.2.2⟩
 have nK:m8 L:=fun p hp=>by have:=lt p hp;omega
 obtain ⟨M,fM⟩:=QJ n L o;have eo:∀{Hx:Hp},ak H Hx→Hx a=some (.lst ((o.map iN).map V.int)):=fun sx=>by rw [sx _ _ ea,dF];rfl
 have lo:(o.map iN).length<64:=by rw [aG,po.length_eq,eW];omega
 obtain ⟨lk,us,dr,As,hL⟩:=id dH;have Ul:us.length=L.length:=hL.1
 refine ⟨_,(aF (putL 3 S.nd (bG iz (bG iz (bG iC aC (cQ i5 rfl T.hG ig (aj (ba en (pv 0) aC) ar))) (bG iC aC (bw (Uh T) hr T.HX T.sX.kp T.HW bL (aj (pv 0) ar)))) (ba en (pv 0) aC)))
  (aF (putL 4 S.nd (bw (So T) hr T.Ik T.tu.kp T.Ij q8 (aj (pv 0) (aj (pv 2) ar))))
  (aF (dv (di gh (ba en (pv 1) aC) qL) (aK (bF (uT (gm EH (pv 4) (pv 3)) (uS (gm gh (gm gh (pv 4) (pv 3)) (bw (zY T) hr T.we T.lY.kp T.wc q8 (aj (pv 0) (aj (pv 2) ar)))))))) dG)
  (aF (yg (i0:=5) (N:=["_law_link","_law_shape"]) (ρ:=(fun σ=>[σ[0]?.join])) (iG [0] rfl) rfl S.nd rfl (Or.inl rfl) (xJ (ba en (bw (Jp T) hr T.CQ T.qd.kp T.CP q8 (aj (pv 0) (aj (pv 2) ar))) aC)) (fun _ _ _=>(.one (qW (RI (K:=K) iM) (pv 0) (ba (rj (K:=K)) (pv 1) aC) rfl))) (fun _ _ _=>(pv 0)))
  (aF (yg (i0:=6) (N:=["_law_link","_law_told"]) (ρ:=(fun σ=>[σ[1]?.join])) (iG [1] rfl) rfl S.nd rfl (Or.inl rfl) (gN (pv 5)) (fun _ _ _=>(.one (PW.pt (pw_and (qW (yL (K:=K)) (ba (rj (K:=K)) (pv 0) aC) (ba (rj (K:=K)) (pv 1) aC) rfl) (pw_and1 (qW (yL (K:=K)) (ba (rj (K:=K)) (pv 0) aC) (ba (rj (K:=K)) (pv 1) aC) rfl)))))) (fun _ _ _=>(pv 0)))
  (aK (bF (uT (gm (F4 iM) (pv 6) (eh ar)) (uT (gm mK (pv 4) (pv 3)) (uS (gm M3 (bw (zY T) hr T.we T.lY.kp T.wc q8 (aj (pv 0) (aj (pv 2) ar))) iw))))))))))),?_⟩
 refine gD fun R1 qm=>⟨_,rfl,tp,_,_,_,rfl,rfl,.of dr,rfl,lk,_,rfl,.inr (.of As),_,_,rfl,rfl,.inl ⟨by decide,by decide⟩,_,rfl,tp,n,L,rfl,dH,nl,lt,jR,by omega,fun H1 s1=>?_⟩
 refine ⟨_,_,rfl,rfl,.inl ⟨by decide,by decide⟩,_,_,rfl,rfl,_,rfl,tp,_,_,_,rfl,rfl,.of (s1 _ _ dr),rfl,_,_,rfl,rfl,?_⟩
 have Um:4*(us.length:Int)+2*(jQ n L:Int)+(n:Int)=(gC n L:Int):=by
  unfold gC;rw [Ul]
  push_cast
  rfl
 dsimp only [aX];rw [Um];refine qm _ _ ?_;refine gD fun R2 qo=>⟨_,rfl,_,rfl,tp,a,n,L,o.map iN,rfl,dH.mono s1,eV,nK,jR,eo s1,lo,fun no=>absurd (po.map iN) no,fun o' e' iV H2 s2 d hd=>?_⟩;have Dz:=v_ e';subst Dz;have ed:=hd M fM;subst ed;have fZ:=s1.trans s2;dsimp only [aX];refine qo _ _ ?_;have le:=Qy po fM nl lt;have J7:=RK po fM pw lt;rcases wL with rfl | ⟨rfl,zs,eD,bare,nd,rn⟩
 ·refine bO ⟨_,rfl,T0,_,_,_,rfl,rfl,.of (fZ _ _ eT),rfl,rfl,true,rfl,kF ?_⟩
  refine ⟨_,rfl,_,rfl,_,_,rfl,rfl,true,cR V.bl (a7 (by omega)),kF ?_⟩
  refine ⟨_,rfl,_,rfl,rfl,?_⟩;refine ⟨_,rfl,_,rfl,tp,a,n,L,o'.map iN,rfl,dH.mono fZ,eV,nK,jR,eo fZ,lo,fun no=>absurd (po.map iN) no,fun o2 e2 rN H3 M2 s3 f2=>?_⟩;have DI:=v_ e2;subst DI;have eM:=cx.uniq f2 fM;subst eM;refine ⟨rfl,?_⟩;have e:decide (V.bl (decide (V.int (gC n M2:Int)=V.int (gC n L:Int)))=V.bl (decide (M2=L)))=true:=by
   refine a7 ?_;rw [vd]
   congr 1
   refine qz.mpr ?_;rw [←J7];omega
  show Q (V.bl (decide (V.bl (decide (V.int (gC n M2:Int)=V.int (gC n L:Int)))=V.bl (decide (M2=L))))) H3;rw [e];exact kk _ (fZ.trans s3)
 ·refine bO ⟨_,rfl,T0,_,_,_,rfl,rfl,.of (fZ _ _ eT),rfl,rfl,false,rfl,iF ?_⟩
  dsimp only [jz];have Uo:=dH.mono fZ;refine gD fun R3 wK=>rg (GN (Z:=M) (fun p=>!decide (p∈L)) (fun R h=>?_) (dz (by have:=GY fM jR;omega)) ?_ (fun T Hc R h=>⟨_,rfl,h⟩) ?_)
  ·refine ⟨_,rfl,_,rfl,tp,a,n,L,o'.map iN,rfl,Uo,eV,nK,jR,eo fZ,lo,fun no=>absurd (po.map iN) no,fun o2 e2 rN H3 t3 M2 s3 _ Up f2 _=>?_⟩
   have DI:=v_ e2;subst DI;have eM:=cx.uniq f2 fM;subst eM;obtain ⟨l3,u3,e3,kX,Uq⟩:=id Up;exact ⟨t3,_,_,_,rfl,rfl,.of e3,rfl,l3,rfl,⟨_,.of kX⟩,h _ _ s3 (GI kX Uq)⟩
  ·intro z hz Tz Hd R sd Aw kR
   have qp:=fZ.trans sd;exact ⟨_,rfl,_,rfl,tp,_,_,_,rfl,rfl,.of (qp _ _ dr),rfl,Tz,lk,us,L,z,rfl,rfl,Aw,qp _ _ As,hL.mono qp,_,rfl,kR⟩
  intro D1 u1 H3 Sg s3 hA wj;dsimp only [aX];refine wK _ _ ?_;have iO:=fZ.trans s3;refine gD fun R4 DJ=>rg (GN (Z:=M.filter fun p=>!decide (p∈L)) (fun p=>decide (p.1∈zs.map iN) && decide (p.2∈zs.map iN)) (fun R h=>?_) (dz (by have:=GY fM jR;have:=xg (fun p=>!decide (p∈L)) M;omega)) ?_ (fun T Hc R h=>⟨_,rfl,h⟩) ?_)
  ·exact ⟨_,rfl,D1,rfl,⟨_,.of wj⟩,h _ _ (ak.refl _) (QF wj hA)⟩
  ·intro z hz Tz Hd R sd Aw kR
   have qp:=iO.trans sd;have tY:Hd D=some (.lst ((zs.map iN).map V.int)):=by rw [qp _ _ eD,dF];rfl
   refine ⟨_,rfl,Tz,_,_,_,rfl,rfl,.of Aw,rfl,_,rfl,T0,_,_,_,rfl,rfl,.of (qp _ _ eT),rfl,D,_,rfl,.inl (.of tY),rfl,yN _,_,rfl,de (fun h1=>?_) (fun h1=>?_)⟩
   ·refine ⟨_,rfl,Tz,_,_,_,rfl,rfl,.of Aw,rfl,_,rfl,T0,_,_,_,rfl,rfl,.of (qp _ _ eT),rfl,D,_,rfl,.inl (.of tY),rfl,yN _,?_⟩
    have h2:decide (z.1∈zs.map iN)=true:=by rw [←rH];exact h1
    rw [h2,Bool.true_and,←rH] at kR;exact ⟨_,rfl,kR⟩
   ·have h2:decide (z.1∈zs.map iN)=false:=by rw [←rH];exact uu.mpr h1
    rw [h2,uh] at kR;exact kR
  intro D2 u2 H4 zU s4 hB nF;dsimp only [aX];refine DJ _ _ ?_;have j4:=iO.trans s4;obtain ⟨z,zM,zL,z1,z2⟩:=RL po fM lt bare nd rn;have Ur:u2≠[]:=fun e=>by
   have h:=hB.1;rw [e] at h;have hz:z∈(M.filter fun p=>!decide (p∈L)).filter fun p=>decide (p.1∈zs.map iN) && decide (p.2∈zs.map iN):=by rw [d6,d6,bt zL,a7 z1,a7 z2];exact ⟨⟨zM,rfl⟩,rfl⟩
   have:=List.length_pos_of_mem hz;simp only [List.length_nil] at h;omega
  have J8:M≠L:=fun e=>zL (e▸zM);refine ⟨_,rfl,b7 _,fun em J9=>?_⟩;refine ⟨D2,em,_,rfl,rfl,.of ((aY J9) _ _ nF),ay,true,by cases u2 with | nil=>exact absurd rfl Ur | cons x l=>rfl,kF ?_⟩
  have s5:=j4.trans (aY (o:=.lst []) J9);generalize upd H4 em (.lst [])=H5 at s5 ⊢;refine ⟨_,rfl,_,rfl,_,_,rfl,rfl,true,cR V.bl (a7 (by have:=mt J7.mp J8;omega)),kF ?_⟩
  refine ⟨_,rfl,_,rfl,tp,a,n,L,o'.map iN,rfl,dH.mono s5,eV,nK,jR,eo s5,lo,fun no=>absurd (po.map iN) no,fun o2 e2 rN H6 M2 s6 f2=>?_⟩;have eM:=cx.uniq f2 (v_ e2▸fM);subst eM;refine ⟨_,_,rfl,rfl,?_⟩;rw [bt J8];exact kk _ (s5.trans s6)
theorem Us:bQ ["script","_law_pen","_law_k","_law_shape","_law_told","_law_turn"] ["script"] (bj zK):=cL
theorem Ut(T:Txt K mg t)(hB:jS base mg):bH P w K mg base cm 9 t.nz t.qa ["script"] (yZ K 120):=by
 have S:=Us;have Uu:=Tf (P:=P) (w:=w) (base:=base) T hB;refine T.tQ.dy S (fun _ _ _ _ H _ _ _ hr h=>?_);obtain ⟨rQ,a,ns,rfl,hS,hlen,kQ⟩:=h;have iM:=hr.units;have hu:=hr.EM
 refine ⟨_,(aF (putL 1 S.nd (eh (aj (pv 0) (aj aC (aj aC ar)))))
  (aF (e9 d7 rfl (qS rfl T.jo (aj aC ar)) (dc (i:=2) S.nd rfl (Or.inl rfl))
   (aF (putL 3 S.nd (bw (T1 T) hr T.IS T.tO.kp T.IQ bL (aj (pv 1) (aj aC ar))))
  (aF (putL 4 S.nd (bw Uu hr T.IA T.tH.kp T.Iz bL (aj (pv 3) ar)))
  (aF (dv (PW.pt (pw_and (di gh (ba en (pv 4) aC) qL) (pw_and1 (di Fw (bw (Uc T) hr T.IH T.tK.kp T.IG bL (aj (pv 3) (aj (ba en (pv 4) aC) ar))) iw)))) (aK (bF iw)) dG)
  (aF (dv (di gh (ba en (pv 4) aC) qL) (aK (dv (PW.pt (pw_or (di Fw (bw (zY T) hr T.we T.lY.kp T.wc q8 (aj (pv 3) (aj (ba en (pv 4) aC) ar))) iw) (pw_or1 (qM (mD (bw (J6 T) hr T.CW T.qf.kp T.CU bL (aj (pv 3) (aj (pv 4) (aj (ba en (pv 4) aC) ar))))))))) (aK (bF iw)) dG)) dG)
  (aK (e9 d7 rfl (qS rfl T.jo (aj aC ar)) (dc (i:=5) S.nd rfl (Or.inl rfl))
   (aK (dv (qM (mD (bw (J6 T) hr T.CW T.qf.kp T.CU bL (aj (pv 3) (aj (pv 4) (aj (bw (JR T) hr T.CT T.qe.kp T.CS bL (aj (pv 1) (aj (iZ (yd rfl) rfl T.nB boot_list (aj (iZ yc rfl T.jo ye (aj (ba en (pv 3) aC) ar)) ar)) ar))) ar)))))) (aK (bF iw)) dG)))))))))
  (aK (bF iw)))),?_⟩
 refine ⟨_,rfl,by show 3≤sizeLine;decide,fun P0 nP=>?_⟩
 have p0:bT (upd H P0 (.lst [.ref a,.int 0,.int 0])) P0 a:=⟨0,0,ay,by decide,by decide⟩
 have J_:aO K (er P0 (upd H P0 (.lst [.ref a,.int 0,.int 0]))) a (ns.map V.int):=by rw [FG];exact ak.seq (fun b o e=>yi (fu e nP) e) hS
 have t0:cW 120 l6 jl (upd H P0 (.lst [.ref a,.int 0,.int 0])):=.inl (aY nP _ _ rQ);generalize upd H P0 (.lst [.ref a,.int 0,.int 0])=H0 at p0 J_ t0 ⊢;dsimp only [aX];refine bO ⟨3,rfl,by decide,by decide,?_⟩
 refine qV (fun i σ Hc=>∃(v2 v3 v4 v5:Option V),σ=[some (.ref a),some (.ref P0),v2,v3,v4,v5]∧bT Hc P0 a∧aO K (er P0 Hc) a (ns.map V.int)∧cW 120 l6 jl Hc) ⟨_,_,_,_,rfl,p0,J_,t0⟩ ?_ ?_
 ·rintro i σ Hc hi ⟨v2,v3,v4,v5,rfl,pc,DK,tc⟩
  dsimp only [aX];refine gD fun _ qm=>⟨_,rfl,P0,a,ns,12,rfl,pc,DK,by decide,by decide,fun tp n L H2 s2 p2 gI X5 dH ok pw n1 ud=>?_⟩
  have eV:g8 n L:=fun p hp=>by have:=ok.lt p hp;exact ⟨this.1,by omega,by omega,this.2.2⟩
  have nK:m8 L:=fun p hp=>by have:=ok.lt p hp;omega
  have dC:L.length≤144:=cj ok.dC (cj (Nat.div_le_self _ _) (uK ud ud));have Ak:aO K (er P0 H2) a (ns.map V.int):=ak.seq s2 DK;have t2:=tc.HE pc s2;have Ka:P0≠120:=t2.Rp p2;obtain ⟨Uv,uc⟩:=t2.at;have Kb:er P0 H2 120=some (.cK Uv):=yi (Ne.symm Ka) uc;dsimp only [aX];refine qm _ _ ?_;refine gD fun R qo=>?_;have rest:∀(wd:String) (T4 D:Addr) (H4:Hp),dO 120 H2 H4→cW 120 l6 jl H4→H2 T4=none→H2 D=none→H4 T4=some (.tup [.str wd,.ref D])→(wd="order"∧(∃o:List Nat,H4 D=some (.lst (o.map fun k:Nat=>V.int (k:Int)))∧o.Perm (List.range n)∧cx n L o L)∨wd="ring"∧∃zs:List Nat,H4 D=some (.lst (zs.map fun k:Nat=>V.int (k:Int)))∧fV L (zs.map iN)∧zs.Nodup∧∀d∈zs,d<n)→R [some (.ref a),some (.ref P0),some (.int (0+(i:Int))),some (.ref tp),some (.ref T4),v5] H4:=by
   intro wd T4 D H4 s4 t4 nT nD eT wL;refine qo _ _ ?_;have p4:=s4.i7 Ka p2;have Ki:aO K (er P0 H4) a (ns.map V.int):=aO.st Ak Kb s4.er;have Uw:c_ (er P0 H4) tp n L:=HC dH Kb s4.er;have DL:∀{Hx:Hp},aN P0 H4 Hx→c_ Hx tp n L:=fun sx=>(Uw.mono sx).mono vh;have DM:c_ H4 tp n L:=DL (aN.refl _);have TP:T4≠P0:=p2.ne nT;have DP:D≠P0:=p2.ne nD;have Kj:∀{Hx:Hp},aN P0 H4 Hx→(wd="order"∨wd="ring"∧∃zs:List Nat,Hx D=some (.lst (zs.map fun k:Nat=>V.int (k:Int)))∧fV L (zs.map iN)∧zs.Nodup∧∀d∈zs,d<n):=fun sx=>by
    rcases wL with ⟨e,_⟩ | ⟨e,zs,eD,r⟩;·exact .inl e
    ·exact .inr ⟨e,zs,sx.at DP eD,r⟩
   have eo:∀{o:List Nat} {Hx:Hp},Hx D=some (.lst (o.map fun k:Nat=>V.int (k:Int)))→Hx D=some (.lst ((o.map iN).map V.int)):=fun{o Hx} e=>by rw [e,dF];rfl
   refine gD fun R3 wK=>?_;have h3:∀Hx:Hp,ak H4 Hx→R3 [some (.ref a),some (.ref P0),some (.int (0+(i:Int))),some (.ref tp),some (.ref T4),v5] Hx:=by
    intro Hx sx;refine wK _ _ ?_;refine gD fun R4 DJ=>?_;have h4:∀Hy:Hp,ak H4 Hy→R4 [some (.ref a),some (.ref P0),some (.int (0+(i:Int))),some (.ref tp),some (.ref T4),v5] Hy:=by
     intro Hy sy;refine DJ _ _ ?_;refine ⟨6,rfl,by decide,by decide,?_⟩
     refine qV (fun k σ Hd=>∃(v5:Option V),σ=[some (.ref a),some (.ref P0),some (.int (0+(i:Int))),some (.ref tp),some (.ref T4),v5]∧aN P0 H4 Hd∧bT Hd P0 a) ⟨_,rfl,aN.of sy,p4.mono sy⟩ ?_ ?_
     ·rintro k σ Hd hk ⟨v5,rfl,sd,pd⟩
      obtain ⟨lt,us,dr,elt,ni⟩:=id (DL sd);dsimp only [aX];refine ⟨_,rfl,_,rfl,_,rfl,_,rfl,tp,_,_,_,rfl,rfl,.of dr,rfl,(n:Int),rfl,fun q1 wm=>⟨q1,n,rfl,ay,by omega,fun l nl=>?_⟩⟩
      have sl:ak Hd (upd (upd Hd q1 (.fJ 0 (n:Int))) l (.lst (cV n))):=(aY wm).trans (aY nl);have el:upd (upd Hd q1 (.fJ 0 (n:Int))) l (.lst (cV n)) l=some (.lst (cV n)):=ay;have lP:l≠P0:=pd.ne (none_of (aY wm) nl);generalize upd (upd Hd q1 (.fJ 0 (n:Int))) l (.lst (cV n))=He at sl el ⊢;have se:=sd.trans (aN.of sl);have pe:=pd.mono sl;have lu:(cV n).length=n:=by unfold cV;simp
      refine ⟨P0,a,l,ns,cV n,rfl,pe,ak.seq se Ki,lP,el,by omega,fun r ys Hf sf pf nr rP Ux pm=>?_⟩
      obtain ⟨o,rfl,ho⟩:=Po pm;have Ax:=se.trans sf;refine ⟨tp,T4,D,r,n,L,o,wd,rfl,DL Ax,pw,ok.lt,by omega,by omega,Ux,ho,Ax.at TP eT,Kj Ax,fun Hg sg=>?_⟩
      exact ⟨true,rfl,iF ⟨_,rfl,Ax.trans (aN.of sg),pf.mono sg⟩⟩
     ·rintro σ Hd ⟨v5,rfl,sd,pd⟩
      exact ⟨_,_,_,_,rfl,pd,ak.seq sd Ki,t4.HE p4 sd⟩
    have X6:=Kj (aN.of sx);rcases wL with ⟨rfl,o,eD,po,fo⟩ | ⟨rfl,zs,eD,bare,nd,rn⟩
    ·refine ⟨_,rfl,T4,_,_,_,rfl,rfl,.of (sx _ _ eT),rfl,rfl,true,rfl,kF ?_⟩
     refine ⟨_,rfl,_,rfl,T4,_,_,_,rfl,rfl,.of (sx _ _ eT),rfl,tp,D,n,L,o.map iN,rfl,DM.mono sx,eV,nK,by omega,eo (sx _ _ eD),by rw [aG,po.length_eq,eW];omega,fun no=>absurd (po.map iN) no,fun o2 e2 rN H6 M2 s6 f2=>?_⟩
     have BE:=v_ e2;subst BE;have eM:=cx.uniq f2 fo;have wM:=sx.trans s6;refine ⟨_,_,rfl,rfl,false,by rw [a7 eM];rfl,iF ?_⟩
     refine ⟨_,rfl,_,rfl,_,rfl,T4,_,_,_,rfl,rfl,.of (wM _ _ eT),rfl,tp,T4,D,D,n,L,o2,"order",rfl,DM.mono wM,pw,ok.lt,by omega,by omega,wM _ _ eD,po,wM _ _ eT,.inl rfl,fun Hg sg=>?_⟩
     exact ⟨true,rfl,iF (h4 _ (wM.trans sg))⟩
    ·refine ⟨_,rfl,T4,_,_,_,rfl,rfl,.of (sx _ _ eT),rfl,rfl,false,rfl,iF ?_⟩
     exact h4 _ sx
   rcases wL with ⟨rfl,o,eD,po,fo⟩ | ⟨rfl,zs,eD,bare,nd,rn⟩
   ·refine ⟨_,rfl,T4,_,_,_,rfl,rfl,.of eT,rfl,rfl,false,rfl,iF (iF ?_)⟩
    exact h3 _ (ak.refl _)
   ·refine ⟨_,rfl,T4,_,_,_,rfl,rfl,.of eT,rfl,rfl,true,rfl,kF ?_⟩
    have zl:zs.length≤12:=cj (CB nd rn) ud;refine ⟨_,rfl,_,rfl,T4,_,_,_,rfl,rfl,.of eT,rfl,tp,D,n,L,zs.map iN,rfl,DM,eV,pw,by omega,by omega,.of (eo eD),by rw [aG];omega,(fun z hz=>?_),fun H6 s6=>?_⟩
    ·obtain ⟨d,hd,rfl⟩:=b_.mp hz
     have:=rn d hd;unfold iN;omega
    refine ⟨_,_,rfl,rfl,false,by rw [a7 bare];rfl,iF ?_⟩
    exact h3 _ s6
  exact ⟨_,rfl,tp,n,L,rfl,dH.mono vh,pw,ok.lt,by omega,t2,fun H4 T4 l3 o3 s4 t4 nT jq eT kX Uy Uz=>rest _ T4 l3 H4 s4 t4 nT jq eT (.inl ⟨rfl,o3,kX,Uy,Uz⟩),fun H4 T4 l3 zs s4 t4 nT jq eT kX bare nd lt no=>rest _ T4 l3 H4 s4 t4 nT jq eT (.inr ⟨rfl,zs,kX,bare,nd,lt⟩)⟩
 ·rintro σ Hc ⟨v2,v3,v4,v5,rfl,pc,DK,tc⟩
  exact kQ _
theorem UA{l:PySem.W.OpenLaw}(T:Txt K mg t):K.lookup 120=none∧(∃rS,L2.tabIn K rS 120=true)∧∃fd:FuncData,(∀(s:Shared) (v:Value),BindsTo s fd ⟨[v],[]⟩ [("script",v)])∧∀base:Heap,K.In base→base.Ns mainGlobals mg→L2.jS base mg→bH l.prog w K mg base cm 9 t.nz fd ["script"] (L2.yZ K 120):=by obtain ⟨oc,od,kV,doc,pm,an,bK,ct,jA,e,lk,dR⟩:=T.tQ.ex;refine ⟨T.Jd,⟨_,T.tab⟩,t.qa,fun s v=>?_,fun base _ _ hB=>Ut T hB⟩;rw [e];exact .of_eq rfl
end
theorem walk{l:PySem.W.OpenLaw}{q:Program}{loose:List Str}{XP:(Str→Option Value)→Heap→Prop}{YP:World→Heap→Prop}{d:DefRec}{K:Params→PySem.W.Frag}(hn:l.most=some 63)(u0:d.params.defaults=[])
  (hY:∀(w:World) (h:Heap),YP w h→(K w.params).In h) (hP:∀(w:World) (h:Heap),YP w h→h.get? 120=some (PySem.W.tabObj #[]))
  (F:∀(w:World) (mg:cy) (fa:Addr) (h:Heap),(K w.params).In h→h.Ns mainGlobals mg→mg d.name=some (.ref fa)→
   (K w.params).lookup 120=none∧(∃rS,L2.tabIn (K w.params) rS 120=true)∧∃fd:FuncData,(∀(s:Shared) (u:Value),BindsTo s fd ⟨[u],[]⟩ [("script",u)])∧∀base:Heap,(K w.params).In base→base.Ns mainGlobals mg→L2.jS base mg→bH l.prog w (K w.params) mg base cm 9 fa fd ["script"] (L2.yZ (K w.params) 120)) :
  PySem.W.WalkO q loose XP YP l.row.toRowW d [] (fun f vs=>PySem.call f vs):=
 L2.Rj hn u0 ⟨rfl,by decide,by decide⟩ hY hP F
theorem UB{K:aB}{h:Heap}{mg:cy}(X:K.In h)(G:h.Ns mainGlobals mg)
  {jW:Addr}
  {o_ pb ph pj pA pB pC pD pE pF pG pH pI pJ pK pL pM pO pP pQ pR pS pU pV pW pX pY pZ p9 p_ nz:Addr} {rT rU rV rW rX rY rZ r6 r_ si sj sq su nk sC sD sE sF sG sI sJ sL sM sN sO sP sQ sS sU sV qa:FuncData}
  (DN:PySem.W.nsIn K mainGlobals "NoOrder"=some (some (.ref jW)))
  (UC:mg "is_whole"=some (.ref o_))
  (qb:aV K "is_whole" y7 o_ rT)
  (UD:mg "is_place"=some (.ref pb))
  (sW:aV K "is_place" y8 pb rU)
  (UE:mg "neighbours"=some (.ref ph))
  (lW:aV K "neighbours" y9 ph rV)
  (UG:mg "triangles"=some (.ref pj))
  (sX:aV K "triangles" y_ pj rW)
  (UH:mg "is_order"=some (.ref pA))
  (sY:aV K "is_order" za pA rX)
  (UI:mg "check_order"=some (.ref pB))
  (sZ:aV K "check_order" zb pB rY)
  (UJ:mg "turns_of"=some (.ref pC))
  (s_:aV K "turns_of" zc pC rZ)
  (UK:mg "link_all"=some (.ref pD))
  (tj:aV K "link_all" zd pD r6)
  (UL:mg "later"=some (.ref pE))
  (qc:aV K "later" ze pE r_)
  (UM:mg "filled"=some (.ref pF))
  (qd:aV K "filled" zf pF si)
  (UN:mg "place_deeds"=some (.ref pG))
  (tm:aV K "place_deeds" zg pG sj)
  (UO:mg "deeds"=some (.ref pH))
  (tu:aV K "deeds" zh pH sq)
  (UP:mg "is_perfect"=some (.ref pI))
  (lY:aV K "is_perfect" zi pI su)
  (UQ:mg "likely_order"=some (.ref pJ))
  (tw:aV K "likely_order" zo pJ nk)
  (UR:mg "walk_back"=some (.ref pK))
  (tD:aV K "walk_back" zp pK sC)
  (US:mg "unmet"=some (.ref pL))
  (tE:aV K "unmet" zq pL sD)
  (UT:mg "ring_over"=some (.ref pM))
  (tF:aV K "ring_over" zr pM sE)
  (UU:mg "bare_ring"=some (.ref pO))
  (tG:aV K "bare_ring" zt pO sF)
  (UW:mg "perfect"=some (.ref pP))
  (tH:aV K "perfect" zu pP sG)
  (UX:mg "ring_links"=some (.ref pQ))
  (tI:aV K "ring_links" zw pQ sI)
  (UY:mg "links_among"=some (.ref pR))
  (tJ:aV K "links_among" zA pR sJ)
  (UZ:mg "is_bare_ring"=some (.ref pS))
  (tK:aV K "is_bare_ring" zB pS sL)
  (U0:mg "_law_fill"=some (.ref pU))
  (tL:aV K "_law_fill" zC pU sM)
  (U1:mg "_law_next"=some (.ref pV))
  (gG:aV K "_law_next" zD pV sN)
  (U2:mg "_law_turned"=some (.ref pW))
  (qe:aV K "_law_turned" zE pW sO)
  (U3:mg "_law_tied_by"=some (.ref pX))
  (tM:aV K "_law_tied_by" zF pX sP)
  (U4:mg "_law_grown_links"=some (.ref pY))
  (tN:aV K "_law_grown_links" zG pY sQ)
  (U5:mg "_law_drawn"=some (.ref pZ))
  (tO:aV K "_law_drawn" zH pZ sS)
  (U6:mg "_law_named"=some (.ref p9))
  (tP:aV K "_law_named" zI p9 sU)
  (U7:mg "_law_right"=some (.ref p_))
  (qf:aV K "_law_right" zJ p_ sV)
  (U8:mg "law"=some (.ref nz))
  (tQ:aV K "law" zK nz qa)
  (DO:PySem.W.nsIn K mainGlobals "ValueError"=some none)
  (DQ:PySem.W.nsIn K mainGlobals "all"=some none)
  (DR:PySem.W.nsIn K mainGlobals "any"=some none)
  (DS:PySem.W.nsIn K mainGlobals "bool"=some none)
  (DT:PySem.W.nsIn K mainGlobals "enumerate"=some none)
  (DU:PySem.W.nsIn K mainGlobals "int"=some none)
  (DV:PySem.W.nsIn K mainGlobals "isinstance"=some none)
  (DW:PySem.W.nsIn K mainGlobals "len"=some none)
  (DX:PySem.W.nsIn K mainGlobals "list"=some none)
  (DY:PySem.W.nsIn K mainGlobals "max"=some none)
  (DZ:PySem.W.nsIn K mainGlobals "min"=some none)
  (D3:PySem.W.nsIn K mainGlobals "range"=some none)
  (D4:PySem.W.nsIn K mainGlobals "reversed"=some none)
  (D5:PySem.W.nsIn K mainGlobals "set"=some none)
  (D6:PySem.W.nsIn K mainGlobals "sorted"=some none)
  (D7:PySem.W.nsIn K mainGlobals "sum"=some none)
  (D8:PySem.W.nsIn K mainGlobals "tuple"=some none)
  (D9:PySem.W.nsIn K mainGlobals "zip"=some none)
  (D_:PySem.W.excIn K jW [.type "ValueError",.type "Exception",.type "BaseException",.type "object"] "ValueError.__new__"=true)
  (Ea:L2.tabIn K nk 120=true)
  (Eb:K.lookup 120=none)
  : ∃t:CK,Txt K mg t:=by
 refine ⟨⟨o_,rT,pb,rU,ph,rV,pj,rW,pA,rX,pB,rY,pC,rZ,pD,r6,pE,r_,pF,si,pG,sj,pH,sq,pI,su,pJ,nk,pK,sC,pL,sD,pM,sE,pO,sF,pP,sG,pQ,sI,pR,sJ,pS,sL,pU,sM,pV,sN,pW,sO,pX,sP,pY,sQ,pZ,sS,p9,sU,p_,sV,nz,qa,jW⟩,?_⟩
 exact {
  qb:=qb
  CL:=qb.bW
  CM:=UC
  sW:=sW
  HU:=sW.bW
  HV:=UD
  lW:=lW
  wa:=lW.bW
  wb:=UE
  sX:=sX
  HW:=sX.bW
  HX:=UG
  sY:=sY
  HY:=sY.bW
  HZ:=UH
  sZ:=sZ
  H_:=sZ.bW
  Ia:=UI
  s_:=s_
  Ib:=s_.bW
  Ic:=UJ
  tj:=tj
  Ie:=tj.bW
  Ig:=UK
  qc:=qc
  CN:=qc.bW
  CO:=UL
  qd:=qd
  CP:=qd.bW
  CQ:=UM
  tm:=tm
  Ih:=tm.bW
  Ii:=UN
  tu:=tu
  Ij:=tu.bW
  Ik:=UO
  lY:=lY
  wc:=lY.bW
  we:=UP
  tw:=tw
  Il:=tw.bW
  Im:=UQ
  tD:=tD
  Io:=tD.bW
  Ip:=UR
  tE:=tE
  Iq:=tE.bW
  Ir:=US
  tF:=tF
  Iu:=tF.bW
  Iv:=UT
  tG:=tG
  Iw:=tG.bW
  Iy:=UU
  tH:=tH
  Iz:=tH.bW
  IA:=UW
  tI:=tI
  IC:=tI.bW
  ID:=UX
  tJ:=tJ
  IE:=tJ.bW
  IF:=UY
  tK:=tK
  IG:=tK.bW
  IH:=UZ
  tL:=tL
  II:=tL.bW
  IJ:=U0
  gG:=gG
  jX:=gG.bW
  jY:=U1
  qe:=qe
  CS:=qe.bW
  CT:=U2
  tM:=tM
  IK:=tM.bW
  IL:=U3
  tN:=tN
  IM:=tN.bW
  IP:=U4
  tO:=tO
  IQ:=tO.bW
  IS:=U5
  tP:=tP
  IT:=tP.bW
  IU:=U6
  qf:=qf
  CU:=qf.bW
  CW:=U7
  tQ:=tQ
  RO:=tQ.bW
  IV:=U8
  IW:=cH X G DN
  RP:=eZ X G DO
  CY:=eZ X G DQ
  RQ:=eZ X G DR
  IY:=eZ X G DS
  CZ:=eZ X G DT
  IZ:=eZ X G DU
  zN:=eZ X G DV
  hG:=eZ X G DW
  nB:=eZ X G DX
  wg:=eZ X G DY
  zO:=eZ X G DZ
  jo:=eZ X G D3
  I0:=eZ X G D4
  I_:=eZ X G D5
  tR:=eZ X G D6
  Ja:=eZ X G D7
  C0:=eZ X G D8
  Jb:=eZ X G D9
  Jc:=D_
  tab:=Ea
  Jd:=Eb
 }
end My
namespace PySem.W.Fast
def tw13906609468693962722:Unit:=()
def tw18111827413648626215:Unit:=()
def tw12704006475318762322:Unit:=()
def tw16136837053587588082:Unit:=()
def tw4687132862491862661:Unit:=()
def tw4076444905178541341:Unit:=()
def tw9923032839006132079:Unit:=()
def tw6142218946957243797:Unit:=()
def tw13767034671008846415:Unit:=()
def tw11984997468276991170:Unit:=()
def tw11871016352938872820:Unit:=()
def tw15028697663874837482:Unit:=()
def tw16423840762705443743:Unit:=()
def tw4002469897080350200:Unit:=()
def tw9245279085741504865:Unit:=()
def tw3876048964281004960:Unit:=()
def tw13924702865500913501:Unit:=()
def tw12416668181048902728:Unit:=()
def tw9161608663545401870:Unit:=()
def tw6929751827167196293:Unit:=()
def tw7029349973923113152:Unit:=()
def tw15766652050255072360:Unit:=()
def tw1854068053438799568:Unit:=()
def tw16269478873745618953:Unit:=()
def tw5839286558846521102:Unit:=()
def tw6346461144349765985:Unit:=()
def tw2554990957634875281:Unit:=()
def tw8520610781668109589:Unit:=()
def tw15130853389441895069:Unit:=()
def tw17724840317971776003:Unit:=()
def tw14310925069464184415:Unit:=()
def tw708706925672521232:Unit:=()
def tw12710324615993147332:Unit:=()
def tw3775453028880883308:Unit:=()
def tw5100493044493238389:Unit:=()
def tw6852888730589399671:Unit:=()
def tw8735478227768445931:Unit:=()
def tw20271266231218098:Unit:=()
def tw9751059530458791894:Unit:=()
def tw1490017905315928717:Unit:=()
def tw16960053508476378710:Unit:=()
def tw10908382403383053555:Unit:=()
def tw9949263511163761690:Unit:=()
def tw6916565105049946945:Unit:=()
def tw62775591132681359:Unit:=()
def tw15286702292251938151:Unit:=()
def tw15646474878016347523:Unit:=()
def tw11209936064681513472:Unit:=()
def tw2937781694947206933:Unit:=()
def tw897641666560542393:Unit:=()
def tw1042130781142124728:Unit:=()
def tw6148613257363432842:Unit:=()
def tw7197318249994413666:Unit:=()
def tw12959585327367160556:Unit:=()
def tw5297444808341765483:Unit:=()
def tw7922200646829696340:Unit:=()
def tw17386744292624527637:Unit:=()
def tw6376259954466451250:Unit:=()
def tw5536950622186697810:Unit:=()
def tw17624551194556337815:Unit:=()
def tw9655662566846117376:Unit:=()
def tw9189956486751203067:Unit:=()
def tw1268952733132008734:Unit:=()
def tw15070890766737300464:Unit:=()
def tw14513233477380988984:Unit:=()
def tw2698583688361859931:Unit:=()
def tw6264991031639030162:Unit:=()
def tw12823900140601109439:Unit:=()
def tw698980350019911401:Unit:=()
def tw12544417105325006009:Unit:=()
def tw6791104107365554517:Unit:=()
def tw11694760861445265921:Unit:=()
def tw4528120386285543390:Unit:=()
def tw1974119573882196188:Unit:=()
def tw7504828955455579371:Unit:=()
def tw4880384402018865732:Unit:=()
def tw2172848087475129838:Unit:=()
def tw14935114009675908003:Unit:=()
def tw9645643030304430833:Unit:=()
def tw8389652567758860168:Unit:=()
def tw15523004672504589766:Unit:=()
def tw2477777052247518636:Unit:=()
def tw7620588135828026768:Unit:=()
def tw7816798209364601043:Unit:=()
def tw13770717569890273342:Unit:=()
def tw4718647509338857298:Unit:=()
def tw331016924154449688:Unit:=()
def tw16648645604864803093:Unit:=()
def tw1822944294075829035:Unit:=()
def tw1212672491276726850:Unit:=()
def tw1850727197864517861:Unit:=()
def tw12034957053620757769:Unit:=()
def tw14865714046869027572:Unit:=()
def tw3109603146828788312:Unit:=()
def tw4316494579503138824:Unit:=()
def tw10357786265711610813:Unit:=()
def tw9619799212208548190:Unit:=()
def tw11656147914569110372:Unit:=()
def tw7189991350201896629:Unit:=()
def tw11054647378207177643:Unit:=()
def tw6617422169904934271:Unit:=()
def tw10172798828049191441:Unit:=()
def tw13301703838638297635:Unit:=()
def tw12931527034969794794:Unit:=()
def tw3577893154761945079:Unit:=()
def tw7114631697720677982:Unit:=()
def tw7264281261220788212:Unit:=()
def tw6370054065813283303:Unit:=()
def tw7450131129571802437:Unit:=()
def tw8180739607540281700:Unit:=()
def tw330406380885005535:Unit:=()
def tw7042878456116679375:Unit:=()
def tw14034871453796901747:Unit:=()
def tw15779705152015583024:Unit:=()
def tw12129749740082465896:Unit:=()
def tw17330319105463777527:Unit:=()
def tw2825492701343022761:Unit:=()
def tw652502453869688771:Unit:=()
def tw16213772102990129249:Unit:=()
def tw9369121038288339303:Unit:=()
def tw4564105934663572654:Unit:=()
def tw11530796997705903897:Unit:=()
def tw7976672922478722100:Unit:=()
def tw4678608395086372046:Unit:=()
def tw16900134654355872696:Unit:=()
def tw13243771307937473677:Unit:=()
def tw15817685134704374895:Unit:=()
def tw8749744307564160135:Unit:=()
def tw15457790300884006736:Unit:=()
def tw1991534203631437293:Unit:=()
def tw8079303967873771059:Unit:=()
def tw7750895292559838416:Unit:=()
def tw8748551852725974689:Unit:=()
def tw4367672233596334053:Unit:=()
def tw2747395740746422298:Unit:=()
def tw9263871823565714512:Unit:=()
def tw4091300724606584046:Unit:=()
def tw5786233491256377306:Unit:=()
def tw3109429159505500849:Unit:=()
def tw17710693597162902552:Unit:=()
def tw14805472446799954308:Unit:=()
def tw7922926191465099019:Unit:=()
def tw8337241278762487328:Unit:=()
def tw11344193966678904259:Unit:=()
def tw4597155021283839910:Unit:=()
def tw4215934304205148318:Unit:=()
def tw394441629877877055:Unit:=()
def tw6820676806117921872:Unit:=()
def tw7676630959242289241:Unit:=()
def tw4549897279167323853:Unit:=()
def tw12520545597958029211:Unit:=()
def tw6112372823185397163:Unit:=()
end PySem.W.Fast
open PySem PySem.W PyProof.Rows
set_option maxRecDepth 100000 in
set_option maxHeartbeats 0 in
theorem PySem.Challenge.cw_bandwright_k23_whole_rings_are_filled_holds : PySem.Challenge.rw_bandwright_k23_whole_rings_are_filled.Holds := by
 w_on;o_law;k_head;(case hw=>w_witness2)
 k_fill
 refine My.walk (l:=PySem.Challenge.rw_bandwright_k23_whole_rings_are_filled) rfl rfl (fun w h Y=>PySem.W.km_in_of Y) (fun w h Y=>PySem.W.km_tabs_of Y 120 (dt.mpr rfl)) ?F
 case F=>
  intro w mg fa h KX G u4
  have T:∃t,My.Txt (L2.Fh KX) mg t:=by
   dsimp only [L2.Fh]
   refine' My.UB KX G ?DN (cH KX G ?U9) (L2.cM (st:=My.y7) ?U_ ?Va ?Vb) (cH KX G ?Vc) (L2.cM (st:=My.y8) ?Vd ?Ve ?Vf) (cH KX G ?Vg) (L2.cM (st:=My.y9) ?Vh ?Vi ?Vj) (cH KX G ?Vk) (L2.cM (st:=My.y_) ?Vl ?Vm ?Vn) (cH KX G ?Vo) (L2.cM (st:=My.za) ?Vp ?Vq ?Vr) (cH KX G ?Vs) (L2.cM (st:=My.zb) ?Vt ?Vu ?Vv) (cH KX G ?Vw) (L2.cM (st:=My.zc) ?Vx ?Vy ?Vz) (cH KX G ?VA) (L2.cM (st:=My.zd) ?VB ?VC ?VD) (cH KX G ?VE) (L2.cM (st:=My.ze) ?VF ?VG ?VH) (cH KX G ?VI) (L2.cM (st:=My.zf) ?VJ ?VL ?VM) (cH KX G ?VN) (L2.cM (st:=My.zg) ?VO ?VP ?VQ) (cH KX G ?VR) (L2.cM (st:=My.zh) ?VS ?VT ?VU) (cH KX G ?VW) (L2.cM (st:=My.zi) ?VX ?VY ?VZ) (cH KX G ?V0) (L2.cM (st:=My.zo) ?V1 ?V2 ?V3) (cH KX G ?V4) (L2.cM (st:=My.zp) ?V5 ?V6 ?V7) (cH KX G ?V8) (L2.cM (st:=My.zq) ?V9 ?V_ ?Wa) (cH KX G ?Wc) (L2.cM (st:=My.zr) ?Wd ?We ?Wf) (cH KX G ?Wg) (L2.cM (st:=My.zt) ?Wh ?Wi ?Wj) (cH KX G ?Wl) (L2.cM (st:=My.zu) ?Wm ?Wn ?Wo) (cH KX G ?Wq) (L2.cM (st:=My.zw) ?Wr ?Ws ?Wt) (cH KX G ?Wu) (L2.cM (st:=My.zA) ?Wv ?Ww ?Wx) (cH KX G ?Wy) (L2.cM (st:=My.zB) ?Wz ?WA ?WB) (cH KX G ?WC) (L2.cM (st:=My.zC) ?WD ?WE ?WG) (cH KX G ?WH) (L2.cM (st:=My.zD) ?WI ?WJ ?WK) (cH KX G ?WL) (L2.cM (st:=My.zE) ?WM ?WN ?WO) (cH KX G ?WQ) (L2.cM (st:=My.zF) ?WR ?WS ?WT) (cH KX G ?WU) (L2.cM (st:=My.zG) ?WV ?WW ?WX) (cH KX G ?WY) (L2.cM (st:=My.zH) ?WZ ?W0 ?W2) (cH KX G ?W3) (L2.cM (st:=My.zI) ?W4 ?W5 ?W6) (cH KX G ?W7) (L2.cM (st:=My.zJ) ?W8 ?W9 ?W_) (cH KX G ?Xa) (L2.cM (st:=My.zK) ?Xb ?Xc ?Xd) ?DO ?DQ ?DR ?DS ?DT ?DU ?DV ?DW ?DX ?DY ?DZ ?D3 ?D4 ?D5 ?D6 ?D7 ?D8 ?D9 ?D_ ?Ea ?Eb
   (case DN|U9|U_|Va|Vb|Vc|Vd|Ve|Vf|Vg|Vh|Vi|Vj|Vk|Vl|Vm|Vn|Vo|Vp|Vq|Vr|Vs|Vt|Vu|Vv|Vw|Vx|Vy|Vz|VA|VB|VC|VD|VE|VF|VG|VH|VI|VJ|VL|VM|VN|VO|VP|VQ|VR|VS|VT|VU|VW|VX|VY|VZ|V0|V1|V2|V3|V4|V5|V6|V7|V8|V9|V_|Wa|Wc|Wd|We|Wf|Wg|Wh|Wi|Wj|Wl|Wm|Wn|Wo|Wq|Wr|Ws|Wt|Wu|Wv|Ww|Wx|Wy|Wz|WA|WB|WC|WD|WE|WG|WH|WI|WJ|WK|WL|WM|WN|WO|WQ|WR|WS|WT|WU|WV|WW|WX|WY|WZ|W0|W2|W3|W4|W5|W6|W7|W8|W9|W_|Xa|Xb|Xc|Xd|DO|DQ|DR|DS|DT|DU|DV|DW|DX|DY|DZ|D3|D4|D5|D6|D7|D8|D9=>k_is)
   (case D_=>k_exc)
   (case Ea|Eb=>kernel_rfl)
  obtain ⟨t,T⟩:=T
  have e0:=u4.symm.trans T.IV
  cases e0
  exact My.UA T
#print axioms PySem.Challenge.cw_bandwright_k23_whole_rings_are_filled_holds
