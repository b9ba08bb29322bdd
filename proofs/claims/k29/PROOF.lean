import PyProof.Rows.All
import Wide.All
import OpenK.AllK
import Wide.FinOn
import Lean
import PyProof.EqAt
import PyProof.EqKinds
import PyProof.TupleCall
import PySem.Challenge.RW_bandwright_k29_no_sizes
set_option Elab.async false
set_option linter.all false
set_option maxRecDepth 100000
abbrev b3:=@decide_eq_false
abbrev ae:=@if_pos
abbrev aa:=@if_neg
abbrev aQ:=@PySem.Heap.lt_size
abbrev b7:=@Nat.lt_of_lt_of_le
abbrev c_:=@Nat.lt_irrefl
abbrev bP:=@Nat.ne_of_lt
abbrev qw:=@PySem.W.hideAll_get
abbrev cU:=@List.mem_filter
abbrev dc:=@List.mem_range
abbrev bQ:=@Nat.le_trans
abbrev n8:=@Nat.le_of_lt
abbrev qx:=@List.filterMap_cons
abbrev dY:=@List.mem_cons_self
abbrev dZ:=@List.mem_cons_of_mem
abbrev cu:=@List.mem_cons
abbrev dM:=@Ne.symm
abbrev dr:=@List.mem_append
abbrev qy:=@List.mem_append_left
abbrev cw:=@List.getElem?_eq_some_iff
abbrev ud:=@List.getElem?_set_self
abbrev a8:=@PySem.wpAny_mono
abbrev ke:=@PySem.wpAny_truthy_bool
abbrev eL:=@Array.length_toList
abbrev eN:=@congrArg
abbrev l9:=@PySem.wpAny_execs_nil
abbrev au:=@PySem.wpAny_bind
abbrev jk:=@PySem.wpAny_holding
abbrev l_:=@PySem.wpAny_standAt
abbrev kg:=@PySem.wpAny_passesOwn
abbrev b_:=@Bool.false_ne_true
abbrev bf:=@PySem.wpAny_pure
abbrev bA:=@PySem.Heap.get?_push_of_some
abbrev cP:=@PySem.Heap.get?_push_size
abbrev ar:=@Nat.le_refl
abbrev ue:=@PyProof.Rows.callWith_type1
abbrev cV:=@List.mem_append_right
abbrev bK:=@Nat.zero_le
abbrev ma:=@Bool.eq_iff_iff
abbrev gm:=@PySem.sizeLine_eq
abbrev fj:=@PySem.W.kia_one
abbrev qz:=@List.append_nil
abbrev n_:=@PySem.codeAny_mono
abbrev md:=@PySem.wpAny_Call_Name_kw
abbrev kh:=@List.nodup_cons
abbrev og:=@List.length_take
abbrev iH:=@PySem.mem_of_lookup
abbrev gU:=@List.getElem?_append_right
abbrev gW:=@List.getElem?_append_left
abbrev df:=@List.getElem?_map
abbrev jl:=@List.mem_of_getElem?
abbrev dg:=@List.length_append
abbrev aW:=@List.length_map
abbrev du:=@List.length_cons
abbrev oi:=@List.length_nil
abbrev b4:=@decide_eq_true
abbrev uf:=@PySem.F.slot_tuple_add
abbrev ug:=@PySem.F.entry_tuple_add
abbrev uh:=@PySem.F.args_tuple_add_2
abbrev bO:=@List.size_toArray
abbrev oj:=@List.map_nil
abbrev iI:=@List.map_cons
abbrev qA:=@Bool.and_eq_true
abbrev om:=@List.any_cons
abbrev kj:=@List.length_singleton
abbrev bC:=@PySem.W.mg_of
abbrev fk:=@Nat.lt_of_le_of_lt
abbrev kl:=@PySem.wpAny_loadPart_at
abbrev uj:=@PySem.F.typeOf_object_class
abbrev jm:=@PySem.codeAny_builtin
abbrev um:=@PySem.wpAny_comprehension_free
abbrev oo:=@PySem.wpAny_newObj_type
abbrev jo:=@PySem.lookup_relabel_local
abbrev uo:=@PySem.codeAny_compStart_list
abbrev bR:=@Int.le_of_lt
abbrev fO:=@List.getD_eq_getElem?_getD
abbrev bY:=@List.mem_singleton
abbrev dv:=@List.length_range
abbrev me:=@List.getElem?_range
abbrev gp:=@List.getElem_mem
abbrev oq:=@Nat.sub_self
abbrev gq:=@List.map_append
abbrev ot:=@List.map_congr_left
abbrev ag:=@PyProof.Rows.wpS_bind
abbrev fm:=@PyProof.Rows.wpS_get
abbrev af:=@PyProof.Rows.wpS_pure
abbrev dw:=@PyProof.Rows.wpS_forRange
abbrev dF:=@PyProof.Rows.wpS_mono
abbrev qB:=@List.pairwise_append
abbrev qC:=@List.perm_append_comm
abbrev mf:=@List.take_append_drop
abbrev gr:=@List.append_assoc
abbrev uq:=@List.Perm.append_left
abbrev ou:=@List.getElem_of_mem
abbrev gX:=@Int.le_refl
abbrev mh:=@List.pairwise_iff_getElem
abbrev gs:=@PyProof.Rows.wpS_modify
abbrev gu:=@of_decide_eq_true
abbrev bS:=@Int.le_trans
abbrev jq:=@Array.toList_push
abbrev gY:=@Array.toList_append
abbrev gZ:=@PySem.wpAny_rule
abbrev ur:=@List.pairwise_reverse
abbrev qD:=@List.Pairwise.imp
abbrev mj:=@Array.toList_reverse
abbrev jr:=@List.mem_reverse
abbrev jt:=@List.reverse_perm
abbrev dh:=@Nat.zero_add
abbrev cx:=@List.getElem?_eq_getElem
abbrev qE:=@List.length_filter_le
abbrev ml:=@List.find?_cons
abbrev qF:=@PySem.tupleKind_room_in1
abbrev g6:=@decide_eq_true_iff
abbrev dN:=@List.mem_map
abbrev fP:=@List.map_map
abbrev oz:=@List.take_succ
abbrev qG:=@List.ext_getElem
abbrev qH:=@List.perm_ext_iff_of_nodup
abbrev qI:=@List.filter_cons
abbrev oA:=@List.take_length
abbrev uu:=@List.pairwise_singleton
abbrev oB:=@PyProof.Rows.get?_update_seq
abbrev oC:=@Nat.lt_succ_of_lt
abbrev ko:=@PySem.Heap.SameBut.update
abbrev qJ:=@PySem.F.entry_min_loop
abbrev kq:=@PySem.Around.under_plainId
abbrev ju:=@PySem.F.plain_min_loop
abbrev oD:=@PySem.wpAny_tryCatch
abbrev mq:=@PySem.plainId_quiet
abbrev qK:=@List.pairwise_cons
abbrev mw:=@List.nodup_range
abbrev g7:=@Int.zero_add
abbrev kr:=@Int.toNat_natCast
abbrev qL:=@List.map_eq_nil_iff
abbrev iJ:=@Nat.add_le_add_left
abbrev iK:=@PySem.PassesOwn.never
abbrev uv:=@PySem.F.excBase_ValueError
abbrev fQ:=@PySem.boot_len
abbrev my:=@PySem.F.plainAttrs_list
abbrev oE:=@PySem.F.slot_list_append
abbrev oF:=@PySem.F.type_list_append
abbrev uw:=@PyProof.Rows.boot_sorted
abbrev iL:=@Int.emod_nonneg
abbrev ku:=@Int.emod_lt_of_pos
abbrev qM:=@Int.ediv_nonneg
abbrev d0:=@PySem.W.mg_none_of
abbrev L9:=List (List (Int×Int))
abbrev aK:=List (Int×Int)
abbrev Md:=Nat→Nat→Int
abbrev bT:=PySem.Str→Option PySem.Value
abbrev aw:=PySem.Value→PySem.Shared→Prop
abbrev aB:=PySem.W.Frag
abbrev aC:=List (PySem.Addr×PySem.Obj)
namespace L2
open PySem PySem.Spec PyProof.Rows
abbrev Key:=Sum Int Str
def ky:Key→Value→Bool
 | .inl k,v=>Value.isInt k v
 | .inr x,v=>Value.isStrOf x v
def CP(w:World):Key→Int
 | .inl k=>hashInt k
 | .inr x=>hashStr w x
theorem g8:∀{k:Key} {v:Value},ky k v=true→(∃i t,k=Sum.inl i∧v=Value.int i t)∨(∃x t,k=Sum.inr x∧v=Value.str x t)
 | .inl i,v,h=>by obtain ⟨t,e⟩:=Value.isInt_shape (k:=i) (v:=v) h;exact .inl ⟨i,t,rfl,e⟩
 | .inr x,v,h=>by obtain ⟨t,e⟩:=Value.isStrOf_shape (x:=x) (v:=v) h;exact .inr ⟨x,t,rfl,e⟩
theorem CQ(i:Int)(t:Tok):ky (.inl i) (.int i t)=true:=by simp [ky,Value.isInt]
theorem CS(x:Str)(t:Tok):ky (.inr x) (.str x t)=true:=by simp [ky,Value.isStrOf]
theorem CT(a b:Int):decide ((Sum.inl a:Key)=Sum.inl b)=(a == b):=by
 by_cases e:a=b;·subst e;simp
 ·have h:¬(Sum.inl a:Key)=Sum.inl b:=fun q=>e (Sum.inl.inj q)
  rw [b3 h];exact (beq_eq_false_iff_ne.mpr e).symm
theorem CU(a b:Str):decide ((Sum.inr a:Key)=Sum.inr b)=decide (a=b):=by
 by_cases e:a=b;·subst e;simp
 ·have h:¬(Sum.inr a:Key)=Sum.inr b:=fun q=>e (Sum.inr.inj q)
  rw [b3 h,b3 e]
theorem CV(a:Int)(b:Str):decide ((Sum.inl a:Key)=Sum.inr b)=false:=b3 (fun q=>nomatch q)
theorem CW(a:Str)(b:Int):decide ((Sum.inr a:Key)=Sum.inl b)=false:=b3 (fun q=>nomatch q)
def dO(prog:Program)(w:World):PySem.KeyKind prog w Key where
 is:=ky
 hash:=CP w
 inj:=fun v a b ha hb=>by
  rcases g8 ha with ⟨i,t,rfl,rfl⟩ | ⟨x,t,rfl,rfl⟩
  ·rcases g8 hb with ⟨j,u,rfl,e⟩ | ⟨y,u,rfl,e⟩
   ·injection e with e1 _;rw [e1]
   ·exact nomatch e
  ·rcases g8 hb with ⟨j,u,rfl,e⟩ | ⟨y,u,rfl,e⟩
   ·exact nomatch e
   ·injection e with e1 _;rw [e1]
 byValue:=fun k v h=>by
  rcases g8 h with ⟨i,t,rfl,rfl⟩ | ⟨x,t,rfl,rfl⟩ <;> rfl
 pyHash:=fun hv h=>by
  rcases g8 hv with ⟨i,t,rfl,rfl⟩ | ⟨x,t,rfl,rfl⟩
  ·exact wpAny_pyHash_int h
  ·exact wpAny_pyHash_str h
 eqBool:=fun hu hv h=>by
  rcases g8 hu with ⟨i,t,rfl,rfl⟩ | ⟨x,t,rfl,rfl⟩
  ·rcases g8 hv with ⟨j,u,rfl,rfl⟩ | ⟨y,u,rfl,rfl⟩
   ·rw [CT] at h;exact wpAny_eqBool_int h
   ·rw [CV] at h;exact SeqAt.EqAt.int_str i t y u _ _ _ _ h
  ·rcases g8 hv with ⟨j,u,rfl,rfl⟩ | ⟨y,u,rfl,rfl⟩
   ·rw [CW] at h;exact SeqAt.EqAt.str_int x t j u _ _ _ _ h
   ·rw [CU] at h;exact wpAny_eqBool_str h
 «strs»:=fun k x t v h=>by
  rcases g8 h with ⟨i,u,rfl,e⟩ | ⟨y,u,rfl,e⟩
  ·exact nomatch e
  ·injection e with e1 _
   subst e1
   cases v <;> rfl
theorem CY(prog:Program)(w:World)(i:Int)(t:Tok):(dO prog w).is (.inl i) (.int i t)=true:=CQ i t
theorem CZ(prog:Program)(w:World)(x:Str)(t:Tok):(dO prog w).is (.inr x) (.str x t)=true:=CS x t
inductive V where
 | aI | bl (b:Bool) | int (i:Int) | str (x:Str) | gv (b:Array UInt8) | mB (b:UInt64) | ref (a:Addr) | ty (n:String)
 deriving DecidableEq
def RelV:V→Value→Prop
 | .aI,u=>u=Value.none
 | .bl b,u=>u=Value.bool b
 | .int i,u=>∃t,u=Value.int i t
 | .str x,u=>∃t,u=Value.str x t
 | .gv b,u=>∃t,u=Value.bytes b t
 | .mB b,u=>∃t,u=Value.float b t
 | .ref a,u=>u=Value.ref a
 | .ty n,u=>u=Value.type n
abbrev Vals:List V→List Value→Prop:=Paired RelV
variable {xs:List V} {us:List Value}
theorem Vals.length(r:Vals xs us):xs.length=us.length:=Paired.length r
theorem Vals.get:∀{xs:List V} {us:List Value} {i:Nat} {x:V},Vals xs us→xs[i]?=some x→∃u,us[i]?=some u∧RelV x u
 | _,_,_,_,.nil,e=>by simp at e
 | _,_,0,_,.cons r _,e=>by simp at e;subst e;exact ⟨_,rfl,r⟩
 | _,_,i+1,x,.cons _ t,e=>by
  obtain ⟨u,h1,h2⟩:=Vals.get (i:=i) (x:=x) t (by simpa using e)
  exact ⟨u,by simpa using h1,h2⟩
theorem Vals.set{x:V}{u:Value}(r:RelV x u):∀{xs:List V} {us:List Value} (i:Nat),Vals xs us→Vals (xs.set i x) (us.set i u)
 | _,_,_,.nil=>.nil
 | _,_,0,.cons _ t=>.cons r t
 | _,_,i+1,.cons q t=>.cons q (Vals.set r i t)
theorem Vals.append:∀{xs ys:List V} {us ws:List Value},Vals xs us→Vals ys ws→Vals (xs++ys) (us++ws)
 | _,_,_,_,.nil,s=>s
 | _,_,_,_,.cons r t,s=>.cons r (Vals.append t s)
theorem Vals.take:∀{xs:List V} {us:List Value} (n:Nat),Vals xs us→Vals (xs.take n) (us.take n)
 | _,_,0,_=>.nil
 | _,_,_+1,.nil=>.nil
 | _,_,n+1,.cons r t=>.cons r (Vals.take n t)
theorem Vals.drop:∀{xs:List V} {us:List Value} (n:Nat),Vals xs us→Vals (xs.drop n) (us.drop n)
 | _,_,0,r=>r
 | _,_,_+1,.nil=>.nil
 | _,_,n+1,.cons _ t=>Vals.drop n t
theorem Vals.none_of:∀{xs:List V} {us:List Value} {i:Nat},Vals xs us→xs[i]?=none→us[i]?=none:=fun{xs us i} r e=>by have h1:=r.length;have h2:xs.length≤i:=List.getElem?_eq_none_iff.mp e;exact List.getElem?_eq_none_iff.mpr (by omega)
def gw:Option V→Option Value→Prop
 | some v,some u=>RelV v u
 | none,none=>True
 | _,_=>False
def KV{κ:Type}:List (κ×V)→List (κ×Value)→Prop:=Paired fun(p:κ×V) (q:κ×Value)=>p.1=q.1∧RelV p.2 q.2
def kV:Key→V
 | .inl i=>.int i
 | .inr x=>.str x
inductive HO where
 | lst (xs:List V)
 | tup (xs:List V)
 | dK (kvs:List (Key×V)) | dT (kvs:List (List Key×V))
 | set (S:Int→Bool) (n:Nat)
 | ins (C dx:Addr) (fs:List (Str×V))
 | own (x:Addr)
 | xd (fs:List (Str×V))
 | met (f x:Addr)
 | fR (lo hi:Int)
 | bh (o:Obj) (u:HO)
 | g9 (ps:Array Value)
 | ext (φ:Heap→Prop)
abbrev Hp:=Addr→Option HO
def upd(H:Hp)(a:Addr)(o:HO):Hp:=fun b=>if b=a then some o else H b
variable {H:Hp} {a:Addr} {o:HO}
theorem ax:upd H a o a=some o:=by unfold upd;rw [ae rfl]
variable {b:Addr}
theorem aT(h:b≠a):upd H a o b=H b:=by unfold upd;rw [aa h]
theorem xI{u:HO}(h:H a=some o)(h':H b=some u)(d:o≠u):a≠b:=by intro e;subst e;rw [h] at h';exact d (Option.some.inj h')
theorem eO(h:H a=some o)(h':H b=none):a≠b:=by intro e;subst e;rw [h] at h';cases h'
section
variable (P:Program) (w:World)
def bj(H:Hp)(h:Heap)(a:Addr):HO→Prop
 | .lst xs=>xs.length≤sizeLine∧∃(ai:List Value) (n:Nat),Vals xs ai∧h.get? a=some {cls:=.type "list",data:=.seq ai.toArray n}
 | .tup xs=>xs.length≤sizeLine∧∃ai:List Value,Vals xs ai∧IsTup h a ai.toArray
 | .dK kvs=>kvs.length≤sizeLine∧(a == sysModules)=false∧∃vs,KV kvs vs∧h.DictOf (dO P w) a vs
 | .dT kvs=>kvs.length≤sizeLine∧(a == sysModules)=false∧∃xs:List (List Key×Addr×Value),
   Paired (fun(p:List Key×V) (q:List Key×Addr×Value)=>p.1=q.1∧H q.2.1=some (.tup (p.1.map kV))∧RelV p.2 q.2.2) kvs xs ∧
   ∃o es ep,h.get? a=some o∧o.ExactDict∧o.data=.dict es ep∧es.toList=xs.map (entryOfKey (tupleKind (dO P w)))∧(xs.map (·.1)).Nodup
 | .set S n=>h.SetOf (intKind P w) a S n
 | .ins C dx fs=>H dx=some (.own a)∧fs.length≤1000∧dx≠a∧h.get? a=some (PySem.W.instObj C dx) ∧
   ∃mA,h.Ns1 dx mA∧(∀f,gw (fs.lookup f) (mA f))∧PySem.Within mA (fs.map (·.1))
 | .own _=>∃o,h.get? a=some o
 | .xd fs=>∃mA,h.Ns1 a mA∧∀f,gw (fs.lookup f) (mA f)
 | .fR lo hi=>∃t u v,h.get? a=some {cls:=.type "range",data:=.fields #[.int lo t,.int hi u,.int 1 v]}
 | .bh o u=>h.get? a=some o∧bj H h a u
 | .g9 ps=>h.get? a=some {cls:=.none,data:=.fields ps}
 | .met f x=>h.get? a=some (PySem.W.methodObj (.ref f) (.ref x))
 | .ext φ=>φ h∧(∃o,h.get? a=some o)∧∀h1 h2:Heap,φ h1→(∀o,h1.get? a=some o→h2.get? a=some o)→φ h2
def bw(H:Hp)(h:Heap):Prop:=∀a o,H a=some o→bj P w H h a o
end
section
variable {P:Program} {w:World} {H H':Hp} {h h':Heap} {a:Addr} {o:HO}
theorem bj.lt(x:bj P w H h a o):a<h.objs.size:=by
 cases o with
 | lst xs=>obtain ⟨_,_,_,_,e⟩:=x;exact aQ e
 | tup xs=>obtain ⟨_,_,_,p⟩:=x;exact p.lt
 | dK kvs=>obtain ⟨_,_,_,_,o,_,_,e,_⟩:=x;exact aQ e
 | dT kvs=>obtain ⟨_,_,_,_,o,_,_,e,_⟩:=x;exact aQ e
 | set S n=>obtain ⟨o,_,_,_,e,_⟩:=x;exact aQ e
 | ins C dx fs=>obtain ⟨_,_,_,e,_⟩:=x;exact aQ e
 | own y=>obtain ⟨_,e⟩:=x;exact aQ e
 | xd fs=>obtain ⟨_,⟨_,_,_,e,_⟩,_⟩:=x;exact aQ e
 | fR lo hi=>obtain ⟨_,_,_,e⟩:=x;exact aQ e
 | bh ob u=>obtain ⟨e,_⟩:=x;exact aQ e
 | g9 ps=>exact aQ (show h.get? a=some _ from x)
 | met f y=>exact aQ (show h.get? a=some _ from x)
 | ext φ=>obtain ⟨_,⟨_,e⟩,_⟩:=x;exact aQ e
theorem Paired.ux{α β:Type}{F G:α→β→Prop}:∀{l₁:List α} {l₂:List β},Paired F l₁ l₂→(∀a b,F a b→G a b)→Paired G l₁ l₂
 | _,_,.nil,_=>.nil
 | _,_,.cons r t,f=>.cons (f _ _ r) (Paired.ux t f)
theorem bj.gx(x:bj P w H h a o)(k:∀b u,(b=a∨H b=some (.own a))→h.get? b=some u→h'.get? b=some u)
  (ho:∀b,H b=some (.own a)→H' b=some (.own a)) (ht:∀b xs,H b=some (.tup xs)→H' b=some (.tup xs)):bj P w H' h' a o:=by
 induction o with
 | lst xs=>obtain ⟨z,ai,n,r,e⟩:=x;exact ⟨z,ai,n,r,k _ _ (.inl rfl) e⟩
 | tup xs=>obtain ⟨z,ai,r,ob,e,c⟩:=x;exact ⟨z,ai,r,ob,k _ _ (.inl rfl) e,c⟩
 | dK kvs=>obtain ⟨z,y,vs,r,ob,es,ep,e,c⟩:=x;exact ⟨z,y,vs,r,ob,es,ep,k _ _ (.inl rfl) e,c⟩
 | dT kvs=>obtain ⟨z,y,xs,r,ob,es,ep,e,c⟩:=x;exact ⟨z,y,xs,Paired.ux r fun p q z=>⟨z.1,ht _ _ z.2.1,z.2.2⟩,ob,es,ep,k _ _ (.inl rfl) e,c⟩
 | set S n=>obtain ⟨ob,es,ep,t,e,c⟩:=x;exact ⟨ob,es,ep,t,k _ _ (.inl rfl) e,c⟩
 | ins C dx fs=>obtain ⟨d,z,ne,e,mA,⟨od,es,ep,e2,c⟩,r⟩:=x;exact ⟨ho _ d,z,ne,k _ _ (.inl rfl) e,mA,⟨od,es,ep,k _ _ (.inr d) e2,c⟩,r⟩
 | own y=>obtain ⟨ob,e⟩:=x;exact ⟨ob,k _ _ (.inl rfl) e⟩
 | xd fs=>obtain ⟨mA,⟨od,es,ep,e,c⟩,r⟩:=x;exact ⟨mA,⟨od,es,ep,k _ _ (.inl rfl) e,c⟩,r⟩
 | fR lo hi=>obtain ⟨t,u,v,e⟩:=x;exact ⟨t,u,v,k _ _ (.inl rfl) e⟩
 | bh ob u ih=>obtain ⟨e,q⟩:=x;exact ⟨k _ _ (.inl rfl) e,ih q⟩
 | g9 ps=>have e:h.get? a=some {cls:=.none,data:=.fields ps}:=x;show h'.get? a=some {cls:=.none,data:=.fields ps};exact k a _ (.inl rfl) e
 | met f y=>have e:h.get? a=some (PySem.W.methodObj (.ref f) (.ref y)):=x;show h'.get? a=some (PySem.W.methodObj (.ref f) (.ref y));exact k a _ (.inl rfl) e
 | ext φ=>obtain ⟨p,⟨o,e⟩,st⟩:=x;exact ⟨st _ _ p fun o q=>k _ _ (.inl rfl) q,⟨o,k _ _ (.inl rfl) e⟩,st⟩
theorem bw.lt(x:bw P w H h)(e:H a=some o):a<h.objs.size:=(x a o e).lt
theorem bw.fresh(x:bw P w H h)(e:h.objs.size≤a):H a=none:=by
 cases q:H a with
 | none=>rfl
 | some u=>exact absurd (b7 (x.lt q) e) (c_ _)
theorem bw.kept(x:bw P w H h)(k:∀b u,h.get? b=some u→h'.get? b=some u):bw P w H h':=fun a o e=>(x a o e).gx (fun b u _ q=>k b u q) (fun _ q=>q) fun _ _ q=>q
theorem bw.laid(x:bw P w H h)(k:∀b u,h.get? b=some u→h'.get? b=some u)(hp:h.objs.size≤a)(new:bj P w (upd H a o) h' a o):bw P w (upd H a o) h':=fun b u e=>by
 have hn:=x.fresh hp;by_cases hb:b=a;·subst hb;rw [ax] at e;cases e;exact new
 ·rw [aT hb] at e
  exact (x b u e).gx (fun c v _ q=>k c v q) (fun c q=>by rw [aT (eO q hn)];exact q) fun c xs q=>by rw [aT (eO q hn)];exact q
end
def Rd(H:Hp)(a:Addr)(u:HO):Prop:=H a=some u∨∃o,H a=some (.bh o u)
variable {P:Program} {w:World} {h:Heap}
theorem Rd.ok{u:HO}(r:Rd H a u)(x:bw P w H h):bj P w H h a u:=by
 rcases r with r | ⟨o,r⟩;·exact x a u r
 ·obtain ⟨_,q⟩:=x a _ r
  exact q
def oG:Option HO→Prop
 | some (.lst _)=>True
 | some (.dK _)=>True
 | some (.dT _)=>True
 | some (.set _ _)=>True
 | some (.ins _ _ _)=>True
 | some (.ext _)=>True
 | _=>False
section
variable {P:Program} {w:World} {H:Hp} {h h':Heap} {x e:Addr} {o':HO}
theorem bw.write(ok:bw P w H h)(mu:oG (H x))(he:e=x∨H e=some (.own x))(k:∀b u,b≠e→h.get? b=some u→h'.get? b=some u)(mC:∃u,h'.get? e=some u)
  (new:bj P w (upd H x o') h' x o'):bw P w (upd H x o') h':=fun b u q=>by
 have x4:∀c y,H c=some (.own y)→c≠x:=fun c y r z=>by subst z;rw [r] at mu;exact mu
 have C0:∀c xs,H c=some (.tup xs)→c≠x:=fun c xs r z=>by subst z;rw [r] at mu;exact mu
 by_cases hb:b=x;·subst hb;rw [ax] at q;cases q;exact new
 ·rw [aT hb] at q
  by_cases kB:b=e
  ·have q':H b=some (.own x):=by
    rcases he with z | z;·exact absurd (kB.trans z) hb
    ·rw [kB];exact z
   rw [q] at q';cases q';obtain ⟨v,hv⟩:=mC;exact ⟨v,by rw [kB];exact hv⟩
  ·refine (ok b u q).gx (fun c v hc r=>k c v ?_ r) (fun c r=>by rw [aT (x4 c b r)];exact r) fun c xs r=>by rw [aT (C0 c xs r)];exact r
   rcases hc with rfl | hc;·exact kB
   ·rintro rfl
    rcases he with z | z;·exact x4 c b hc z
    ·rw [hc] at z;cases z;exact hb rfl
end
structure Un (fs ex:List Addr) (H H':Hp) (h h':Heap):Prop where
 keep:∀b o,h.get? b=some o→H b=none→b∉fs→b∉ex→h'.get? b=some o
 slot:∀b o,h.get? b=some o→H b=none→b∈fs→b∉ex→∃sl,h'.get? b=some {o with slots:=sl}
 free:∀b o,h.get? b=some o→H b=none→b∉ex→H' b=none
 there:∀b o,h.get? b=some o→b∉ex→∃o',h'.get? b=some o'
 cW:∀b xs,H b=some (.tup xs)→H' b=some (.tup xs)
 cQ:∀b o u,H b=some (.bh o u)→H' b=some (.bh o u)
 cX:∀b ps,H b=some (.g9 ps)→∃more,H' b=some (.g9 (ps++more))
section
variable {fs uy ex C1:List Addr} {H H1 H2:Hp} {h h1 h2 h':Heap} {a x e:Addr} {o:HO}
theorem Un.any(u:Un fs ex H H1 h h1){ob:Obj}(q:h.get? b=some ob)(n:H b=none)(hx:b∉ex):∃sl,h1.get? b=some {ob with slots:=sl}:=by
 by_cases hb:b∈fs;·exact u.slot b ob q n hb hx
 ·exact ⟨ob.slots,u.keep b ob q n hb hx⟩
theorem Un.kept(k:∀b u,h.get? b=some u→h'.get? b=some u):Un fs ex H H h h':=
 ⟨fun b ob q _ _ _=>k b ob q,fun b ob q _ _ _=>⟨ob.slots,k b ob q⟩,fun _ _ _ n _=>n,fun b ob q _=>⟨ob,k b ob q⟩,fun _ _ q=>q,fun _ _ _ q=>q,fun _ ps q=>⟨#[],by rw [q];simp⟩⟩
theorem Un.refl:Un fs ex H H h h:=Un.kept fun _ _ q=>q
theorem Un.laid(k:∀b u,h.get? b=some u→h'.get? b=some u)(hp:h.objs.size≤a)(hn:H a=none):Un fs ex H (upd H a o) h h' where
 keep:=fun b u q _ _ _=>k b u q
 slot:=fun b u q _ _ _=>⟨u.slots,k b u q⟩
 free:=fun b u q n _=>by rw [aT (bP (b7 (aQ q) hp))];exact n
 there:=fun b u q _=>⟨u,k b u q⟩
 cW:=fun b xs q=>by rw [aT (eO q hn)];exact q
 cQ:=fun b u xs q=>by rw [aT (eO q hn)];exact q
 cX:=fun b ps q=>⟨#[],by rw [aT (eO q hn),q];simp⟩
theorem Un.write(mu:oG (H x))(he:e=x∨H e=some (.own x))(k:∀b u,b≠e→h.get? b=some u→h'.get? b=some u)(mC:∃u,h'.get? e=some u):Un fs ex H (upd H x o) h h':=by
 have hx:∀b,H b=none→b≠x:=fun b n z=>by subst z;rw [n] at mu;exact mu
 have hb:∀b,H b=none→b≠e:=fun b n z=>by
  subst z;rcases he with r | r;·exact hx b n r
  ·rw [n] at r;cases r
 have hm:∀b u,H b=some u→¬oG (some u)→b≠x:=fun b u q nm z=>by subst z;rw [q] at mu;exact nm mu
 refine ⟨fun b u q n _ _=>k b u (hb b n) q,fun b u q n _ _=>⟨u.slots,k b u (hb b n) q⟩,fun b u q n _=>by rw [aT (hx b n)];exact n,fun b u q _=>?_,
  fun b xs q=>by rw [aT (hm b _ q fun z=>z)];exact q,fun b u xs q=>by rw [aT (hm b _ q fun z=>z)];exact q,fun b ps q=>⟨#[],by rw [aT (hm b _ q fun z=>z),q];simp⟩⟩
 by_cases kB:b=e;·subst kB;exact mC
 ·exact ⟨u,k b u kB q⟩
end
def qN(h:Heap)(H:Hp):List Addr:=(List.range h.objs.size).filter fun a=>(H a).isSome
def iM(h:Heap)(H:Hp):Heap:=PySem.W.hideAll h (qN h H)
theorem C2(h:Heap)(H:Hp):(iM h H).objs.size=h.objs.size:=PySem.W.hideAll_size _ _
theorem C3{o:Obj}(e:h.get? b=some o)(n:H b=none):(iM h H).get? b=some o:=
 qw _ e fun hm=>by have q:(H b).isSome=true:=(cU.mp hm).2;rw [n] at q;simp at q
theorem C4{o:Obj}(e:(iM h H).get? b=some o):h.get? b=some o∧H b=none:=by
 have e':h.get? b=some o:=PySem.W.of_hideAll (qN h H) e;refine ⟨e',?_⟩;cases q:H b with
 | none=>rfl
 | some x=>
  have hm:b∈qN h H:=cU.mpr ⟨dc.mpr (aQ e'),by simp [q]⟩
  have z:(iM h H).get? b=none:=PySem.W.hideAll_none (qN h H) hm;rw [z] at e;cases e
structure Mod (K:aB) (mg:bT) (base:Heap):Prop where
 bU:K.In base
 glob:base.Ns mainGlobals mg
 blt:∃mb,base.Ns builtinsNs mb∧∀x:Str,x ≠ "__name__"→mb x=bootBuiltins x
 nolimit:base.NoLimit
structure Cx where
 prog:Program
 w:World
 K:PySem.W.Frag
 mg:Str→Option Value
 base:Heap
 A:Around
 N:List Str
 s₀:Shared
 H₀:Hp
 env:Env
 outer:List Env
 stack:List Env
 ex:List Addr
 fn:Str→Bool
 calm:Bool
 pn:List (Addr×Obj)
 xe:Value→Shared→Prop
def bI(l:List Env):List Addr:=l.filterMap (·.frame)
abbrev Cx.fs (X:Cx):List Addr:=bI X.outer
def kC(sc:Scope)(x:Str):Prop:=sc.names.lookup x=some .local∨sc.names.lookup x=some .cell∨sc.names.lookup x=some .free
def Loc(sc:Scope)(x:Str):Prop:=sc.names.lookup x=some .local∨sc.names.lookup x=some .cell
def Look(env:Env)(h:Heap)(m:bT)(x:Str)(u:Value):Prop:=
 (env.kindOf x=some .local∧m x=some u)∨((env.kindOf x=some .cell∨env.kindOf x=some .free)∧∃c,env.cells.lookup x=some c∧h.IsCell c (some u))
structure Cx.Ok (X:Cx):Prop where
 mod:Mod X.K X.mg X.base
 kind:X.env.scope.kind=.function
 glob:X.env.globals=mainGlobals
 blt:X.env.builtins=builtinsNs
 above:X.s₀.heap.objs.size≤X.env.locals
 inj:∀x y c,X.env.cells.lookup x=some c→X.env.cells.lookup y=some c→x=y
 has:∀x,(X.env.kindOf x=some .cell∨X.env.kindOf x=some .free)→∃c,X.env.cells.lookup x=some c
 mE:∀x c,X.fn x=true→X.env.cells.lookup x=some c→X.s₀.heap.objs.size≤c
 hd:X.calm=true→X.A.handled=none
 frames:X.A.frames=some X.stack
 eQ:X.stack=X.outer∨(X.stack=X.env::X.outer∧X.env.frame=some X.env.locals)
 uz:∀b∈X.ex,b≠X.env.locals∧∀x c,X.env.cells.lookup x=some c→c≠b
 bs:∀b o,X.base.get? b=some o→X.s₀.heap.get? b=some o∧X.H₀ b=none
 fu:X.base.objs.size≤X.s₀.heap.objs.size
 jv:∀b o,X.base.get? b=some o→b∉X.ex
 jw:∀b∈X.ex,b∉X.fs
 fS:X.s₀.heap.FunFrames X.base X.outer
 iO:∀b∈X.fs,X.H₀ b=none
structure Inv (X:Cx) (pins:aC) (σ:List (Option V)) (H:Hp) (s:Shared):Prop where
 ok:X.Ok
 os:s.os=X.s₀.os
 bare:AllBare s.gens
 base:Un X.fs X.ex X.H₀ H X.s₀.heap s.heap
 loc:∃m,s.heap.Ns X.env.locals m∧∀(i:Nat) (x:Str) (v:V),X.N[i]?=some x→σ[i]?=some (some v)→kC X.env.scope x→∃u,RelV v u∧Look X.env s.heap m x u
 cell:∀x c,X.env.cells.lookup x=some c→∃v,s.heap.IsCell c v
 free:H X.env.locals=none
 d4:∀x c,X.env.cells.lookup x=some c→H c=none
 pin:∀p∈X.pn++pins,s.heap.get? p.1=some p.2∧H p.1=none∧p.1≠X.env.locals∧p.1∉X.fs∧∀v,p.2.data≠.cell v
 ao:bw X.prog X.w H s.heap
 len:σ.length=X.N.length
section
variable {X:Cx} {pins:aC} {σ:List (Option V)} {H H':Hp} {s:Shared} {h':Heap}
theorem Cx.Ok.C5(ok:X.Ok){o:Obj}(e:X.base.get? b=some o):b∉X.fs:=fun hb=>by have:=(ok.fS.mem hb).1;rw [e] at this;cases this
theorem Inv.bs(I:Inv X pins σ H s):∀b o,X.base.get? b=some o→s.heap.get? b=some o∧H b=none:=fun b o e=>⟨I.base.keep b o (I.ok.bs b o e).1 (I.ok.bs b o e).2 (I.ok.C5 e) (I.ok.jv b o e),I.base.free b o (I.ok.bs b o e).1 (I.ok.bs b o e).2 (I.ok.jv b o e)⟩
theorem Inv.bk(I:Inv X pins σ H s):∀b o,X.base.get? b=some o→s.heap.get? b=some o:=fun b o e=>(I.bs b o e).1
theorem Inv.mod(I:Inv X pins σ H s):Mod X.K X.mg X.base:=I.ok.mod
theorem Inv.cz(I:Inv X pins σ H s):X.K.In s.heap:=I.ok.mod.bU.keeps I.bk
theorem Inv.lt(I:Inv X pins σ H s):X.env.locals<s.heap.objs.size:=let ⟨_,hn,_⟩:=I.loc;hn.lt
theorem Inv.sz(I:Inv X pins σ H s):X.s₀.heap.objs.size≤s.heap.objs.size:=bQ I.ok.above (n8 I.lt)
theorem Inv.C6(I:Inv X pins σ H s)(h:s.heap.objs.size≤a):a∉X.fs:=fun hb=>by obtain ⟨_,o,ho,_⟩:=I.ok.fS.mem hb;exact absurd (b7 (aQ ho) (bQ I.sz h)) (c_ _)
theorem Inv.gy(I:Inv X pins σ H s):∀x c,X.env.cells.lookup x=some c→c≠X.env.locals:=fun x c e z=>by obtain ⟨v,o,ho,hd⟩:=I.cell x c e;obtain ⟨m,⟨o',es,ep,kD,C7,_⟩,_⟩:=I.loc;rw [z,kD] at ho;cases ho;rw [C7] at hd;cases hd
theorem Inv.fS(I:Inv X pins σ H s):s.heap.FunFrames X.base X.outer:=by
 have all:∀(l:List Env),(∀b∈bI l,b∈X.fs)→X.s₀.heap.FunFrames X.base l→s.heap.FunFrames X.base l:=by
  intro l
  induction l with
  | nil=>intro _ _;trivial
  | cons env r ih=>
   intro hs hl;obtain ⟨hk,⟨L,o,hf,hn,ho,hd⟩,hr⟩:=hl;have hL:L∈X.fs:=hs L (by unfold bI;rw [qx,hf];exact dY)
   obtain ⟨sl,e⟩:=I.base.slot L o ho (I.ok.iO L hL) hL fun z=>I.ok.jw L z hL;exact ⟨hk,⟨L,_,hf,hn,e,hd⟩,ih (fun b hb=>hs b (by unfold bI;rw [qx,hf];exact dZ _ hb)) hr⟩
 exact all X.outer (fun _ hb=>hb) I.ok.fS
theorem Inv.stack(I:Inv X pins σ H s):s.heap.FunFrames X.base X.stack:=by
 rcases I.ok.eQ with e | ⟨e,hf⟩;·rw [e];exact I.fS
 ·rw [e]
  obtain ⟨m,hn,_⟩:=I.loc;refine .cons (by rw [I.ok.kind];decide) hf hn ?_ I.fS
  exact Heap.get?_none_of_le (bQ I.ok.fu I.ok.above)
theorem Inv.oH(I:Inv X pins σ H s):∀b∈bI X.stack,b∈X.env.locals::X.fs:=fun b hb=>by
 rcases I.ok.eQ with e | ⟨e,hf⟩;·rw [e] at hb;exact dZ _ hb
 ·rw [e] at hb
  unfold bI at hb;rw [qx,hf] at hb;exact hb
theorem Inv.oJ(I:Inv X pins σ H s):∀b∈bI X.stack,H b=none:=fun b hb=>by
 rcases cu.mp (I.oH b hb) with e | hb;·rw [e];exact I.free
 ·obtain ⟨_,o,ho,_⟩:=I.ok.fS.mem hb
  exact I.base.free b o ho (I.ok.iO b hb) fun z=>I.ok.jw b z hb
theorem Inv.step{g':Array GenState}{t':Nat}{d':Drawn}{ch:List Addr}(I:Inv X pins σ H s)
  (g_:∀b∈ch,(b∈X.ex∨X.s₀.heap.objs.size≤b)∧b≠X.env.locals∧(∀x c,X.env.cells.lookup x=some c→c≠b)∧∀p∈X.pn++pins,p.1≠b)
  (keep:∀b o,b≠X.env.locals→b∉X.fs→b∉ch→s.heap.get? b=some o→H b=none→h'.get? b=some o)
  (slot:∀b o,b≠X.env.locals→b∈X.fs→b∉ch→s.heap.get? b=some o→H b=none→∃sl,h'.get? b=some {o with slots:=sl}) (free:∀b o,b∉ch→s.heap.get? b=some o→H b=none→H' b=none)
  (there:∀b o,b∉ch→s.heap.get? b=some o→∃o',h'.get? b=some o')
  (cW:∀b xs,H b=some (.tup xs)→H' b=some (.tup xs)) (cQ:∀b o u,H b=some (.bh o u)→H' b=some (.bh o u)) (cX:∀b ps,H b=some (.g9 ps)→∃more,H' b=some (.g9 (ps++more)))
  (ns:∀m,s.heap.Ns X.env.locals m→h'.Ns X.env.locals m) (ao:bw X.prog X.w H' h') (hg:AllBare g') :
  Inv X pins σ H' {s with heap:=h',gens:=g',drawn:=d',toks:=t'}:=by
 have x5:∀b o,X.s₀.heap.get? b=some o→b≠X.env.locals:=fun b o e=>bP (b7 (aQ e) I.ok.above);have qO:∀b o,X.s₀.heap.get? b=some o→b∉X.ex→b∉ch:=fun b o e hx hb=>by
  rcases (g_ b hb).1 with z | z;·exact hx z
  ·exact absurd (b7 (aQ e) z) (c_ _)
 have cellK:∀x c,X.env.cells.lookup x=some c→∀v,s.heap.IsCell c v→h'.IsCell c v:=fun x c e v ⟨o,ho,hd⟩=>by
  have oK:c∉ch:=fun z=>(g_ c z).2.2.1 x c e rfl;by_cases hc:c∈X.fs
  ·obtain ⟨sl,q⟩:=slot c o (I.gy x c e) hc oK ho (I.d4 x c e)
   exact ⟨_,q,hd⟩
  ·exact ⟨o,keep c o (I.gy x c e) hc oK ho (I.d4 x c e),hd⟩
 refine ⟨I.ok,I.os,hg,⟨fun b o e n hb hx=>?_,fun b o e n hb hx=>?_,fun b o e n hx=>?_,fun b o e hx=>?_,fun b xs e=>cW b xs (I.base.cW b xs e),fun b o xs e=>cQ b o xs (I.base.cQ b o xs e),fun b ps e=>?_⟩,?_,fun x c e=>?_,?_,fun x c e=>?_,fun p hp=>?_,ao,I.len⟩;·exact keep b o (x5 b o e) hb (qO b o e hx) (I.base.keep b o e n hb hx) (I.base.free b o e n hx)
 ·obtain ⟨sl,e1⟩:=I.base.slot b o e n hb hx
  obtain ⟨C8,e2⟩:=slot b _ (x5 b o e) hb (qO b o e hx) e1 (I.base.free b o e n hx);exact ⟨C8,e2⟩
 ·obtain ⟨o',e1⟩:=I.base.there b o e hx
  exact free b o' (qO b o e hx) e1 (I.base.free b o e n hx)
 ·obtain ⟨o',e1⟩:=I.base.there b o e hx
  exact there b o' (qO b o e hx) e1
 ·obtain ⟨m1,e1⟩:=I.base.cX b ps e
  obtain ⟨m2,e2⟩:=cX b _ e1;exact ⟨m1++m2,by rw [e2,Array.append_assoc]⟩
 ·obtain ⟨m,hn,hl⟩:=I.loc
  refine ⟨m,ns m hn,fun i x v e1 e2 e3=>?_⟩;obtain ⟨u,r,l⟩:=hl i x v e1 e2 e3;refine ⟨u,r,?_⟩;rcases l with l | ⟨k,c,e,z⟩;·exact .inl l
  ·exact .inr ⟨k,c,e,cellK x c e _ z⟩
 ·obtain ⟨v,z⟩:=I.cell x c e
  exact ⟨v,cellK x c e v z⟩
 ·obtain ⟨m,⟨o,_,_,ho,_⟩,_⟩:=I.loc
  exact free _ o (fun z=>(g_ _ z).2.1 rfl) ho I.free
 ·obtain ⟨v,o,ho,hd⟩:=I.cell x c e
  exact free c o (fun z=>(g_ c z).2.2.1 x c e rfl) ho (I.d4 x c e)
 ·obtain ⟨e,n,ne,nf,d⟩:=I.pin p hp
  have oK:p.1∉ch:=fun z=>(g_ p.1 z).2.2.2 p hp rfl;exact ⟨keep p.1 p.2 ne nf oK e n,free p.1 p.2 oK e n,ne,nf,d⟩
variable {t':Nat}
theorem Inv.un(I:Inv X pins σ H s)(u:Un X.fs [] H H' s.heap h')(ao:bw X.prog X.w H' h'):Inv X pins σ H' {s with heap:=h',toks:=t'}:=by
 obtain ⟨m,⟨o,es,ep,ho,r⟩,_⟩:=id I.loc;obtain ⟨sl,hL⟩:=u.any ho I.free (by simp)
 exact I.step (g':=s.gens) (d':=s.drawn) (ch:=[]) (fun _ z=>nomatch z) (fun b o _ hb _ e n=>u.keep b o e n hb (by simp)) (fun b o _ hb _ e n=>u.slot b o e n hb (by simp)) (fun b o _ e n=>u.free b o e n (by simp)) (fun b o _ e=>u.there b o e (by simp)) u.cW u.cQ u.cX (fun m' hm=>by obtain ⟨o',qP,uA,kD,r'⟩:=hm;rw [ho] at kD;cases kD;exact ⟨_,qP,uA,hL,r'⟩) ao I.bare
variable {ch:List Addr}
theorem Inv.call{g':Array GenState}{d':Drawn}(I:Inv X pins σ H s)(u:Un (bI X.stack) ch H H' s.heap h')(ao:bw X.prog X.w H' h')(hg:AllBare g')
  (g_:∀b∈ch,(b∈X.ex∨X.s₀.heap.objs.size≤b)∧b≠X.env.locals∧(∀x c,X.env.cells.lookup x=some c→c≠b)∧∀p∈X.pn++pins,p.1≠b) :
  Inv X pins σ H' {s with heap:=h',gens:=g',drawn:=d',toks:=t'}:=by
 obtain ⟨m,⟨o,es,ep,ho,r⟩,_⟩:=id I.loc;obtain ⟨sl,hL⟩:=u.any ho I.free fun z=>(g_ _ z).2.1 rfl;exact I.step (ch:=ch) g_ (fun b o hL hb hc e n=>u.keep b o e n (fun z=>(cu.mp (I.oH b z)).elim hL hb) hc) (fun b o _ _ hc e n=>u.any e n hc) (fun b o hc e n=>u.free b o e n hc) (fun b o hc e=>u.there b o e hc) u.cW u.cQ u.cX (fun m' hm=>by obtain ⟨o',qP,uA,kD,r'⟩:=hm;rw [ho] at kD;cases kD;exact ⟨_,qP,uA,hL,r'⟩) ao hg
theorem Inv.turned{it:Addr}(I:Inv X pins σ H s)(k:∀b o,b≠it→s.heap.get? b=some o→h'.get? b=some o)(hn:H it=none)(hL:it≠X.env.locals)
  (h1:it∈X.ex∨X.s₀.heap.objs.size≤it) (h2:∀x c,X.env.cells.lookup x=some c→c≠it) (h3:∀p∈X.pn++pins,p.1≠it):Inv X pins σ H {s with heap:=h',toks:=t'}:=by
 have yy:∀b u,H b=some u→b≠it:=fun b u e z=>by rw [z,hn] at e;cases e
 refine I.step (g':=s.gens) (d':=s.drawn) (ch:=[it]) (fun b hb=>?_) (fun b o _ _ hc e _=>k b o (fun z=>hc (by simp [z])) e) (fun b o _ _ hc e _=>⟨o.slots,k b o (fun z=>hc (by simp [z])) e⟩) (fun _ _ _ _ n=>n)
  (fun b o hc e=>⟨o,k b o (fun z=>hc (by simp [z])) e⟩) (fun _ _ e=>e) (fun _ _ _ e=>e) (fun b ps e=>⟨#[],by rw [e];simp⟩) (fun m hm=>?_) (fun b u e=>?_) I.bare
 ·have e:b=it:=by simpa using hb
  subst e;exact ⟨h1,hL,h2,h3⟩
 ·obtain ⟨o,es,ep,ho,r⟩:=hm
  exact ⟨o,es,ep,k _ o (dM hL) ho,r⟩
 ·refine (I.ao b u e).gx (fun c v hc q=>k c v ?_ q) (fun _ q=>q) fun _ _ q=>q
  rcases hc with z | z;·rw [z];exact yy b u e
  ·exact yy c _ z
theorem Inv.tok(I:Inv X pins σ H s)(t:Nat):Inv X pins σ H {s with toks:=t}:=I.un (h':=s.heap) (t':=t) Un.refl I.ao
theorem Inv.kept(I:Inv X pins σ H s)(k:∀b u,s.heap.get? b=some u→h'.get? b=some u):Inv X pins σ H {s with heap:=h',toks:=t'}:=I.un (Un.kept k) (I.ao.kept k)
theorem Inv.laid(I:Inv X pins σ H s)(k:∀b u,s.heap.get? b=some u→h'.get? b=some u)(hp:s.heap.objs.size≤a)(new:bj X.prog X.w (upd H a o) h' a o) :
  Inv X pins σ (upd H a o) {s with heap:=h',toks:=t'}:=I.un (Un.laid k hp (I.ao.fresh hp)) (I.ao.laid k hp new)
theorem Inv.write{x e:Addr}(I:Inv X pins σ H s)(mu:oG (H x))(he:e=x∨H e=some (.own x))(k:∀b u,b≠e→s.heap.get? b=some u→h'.get? b=some u)(mC:∃u,h'.get? e=some u)
  (new:bj X.prog X.w (upd H x o) h' x o):Inv X pins σ (upd H x o) {s with heap:=h',toks:=t'}:=I.un (Un.write mu he k mC) (I.ao.write mu he k mC new)
theorem Inv.yz{yA:aC}(I:Inv X pins σ H s)(h:∀p∈yA,s.heap.get? p.1=some p.2∧H p.1=none∧p.1≠X.env.locals∧p.1∉X.fs∧∀v,p.2.data≠.cell v):Inv X yA σ H s:=
 ⟨I.ok,I.os,I.bare,I.base,I.loc,I.cell,I.free,I.d4,fun p hp=>(dr.mp hp).elim (fun z=>I.pin p (qy _ z)) (h p),I.ao,I.len⟩
variable {i:Nat} {x:Str}
theorem uB{N:List Str}(hN:N.Nodup){j:Nat}(a:N[i]?=some x)(b:N[j]?=some x):i=j:=by obtain ⟨h1,e1⟩:=cw.mp a;obtain ⟨h2,e2⟩:=cw.mp b;exact (List.getElem_inj hN).mp (e1.trans e2.symm)
variable {M:Model} {A:Around} {E:aw} {u:Value} {Q:Unit→Shared→Prop}
theorem yB{v:V}(I:Inv X pins σ H s)(hN:X.N.Nodup)(hi:X.N[i]?=some x)(hx:Loc X.env.scope x)(r:RelV v u)
  (h:∀s',Inv X pins (σ.set i (some v)) H s'→(∃a,Heap.SameBut a s.heap s'.heap∧(a=X.env.locals∨X.env.cells.lookup x=some a))→Q () s') (hf:X.fn x=true∨X.env.scope.names.lookup x=some .local:=by first | exact .inl rfl | exact .inr rfl | assumption):wpAny M A (storeName X.env x u) Q E s:=by
 obtain ⟨m,hn,hl⟩:=id I.loc;have uC:(X.env.scope.kind == .class || (X.env.scope.kind == .module && X.env.locals != X.env.globals))=false:=by rw [I.ok.kind];rfl
 have qQ:i<σ.length:=by rw [I.len];exact (cw.mp hi).1
 have gy:=I.gy;have tracked:∀{a:Addr} {h':Heap},(∃o,s.heap.get? a=some o∧H a=none)→Heap.SameBut a s.heap h'→bw X.prog X.w H h':=fun{a h'} ha hs b ob e=>by
  obtain ⟨_,_,yC⟩:=ha;refine (I.ao b ob e).gx (fun c w' hc q=>(hs.2 c ?_).trans q) (fun _ q=>q) fun _ _ q=>q;rintro rfl;rcases hc with rfl | hc;·rw [yC] at e;cases e
  ·rw [yC] at hc;cases hc
 rcases hx with hk | hk
 ·refine wpAny_storeName_local hk hn (fun h' uD hs=>?_) uC
  obtain ⟨oL,_,_,C9,_⟩:=id hn;refine h _ ⟨I.ok,I.os,I.bare,⟨fun b o e n hb hx=>?_,fun b o e n hb hx=>?_,I.base.free,fun b o e hx=>?_,I.base.cW,I.base.cQ,I.base.cX⟩,⟨_,uD,fun j y v' e1 e2 e3=>?_⟩,fun y c e=>?_,I.free,I.d4,fun p hp=>?_,tracked ⟨oL,C9,I.free⟩ hs,by simpa using I.len⟩ ⟨_,hs,.inl rfl⟩
  ·exact (hs.2 b (bP (b7 (aQ e) I.ok.above))).trans (I.base.keep b o e n hb hx)
  ·obtain ⟨sl,e1⟩:=I.base.slot b o e n hb hx
   exact ⟨sl,(hs.2 b (bP (b7 (aQ e) I.ok.above))).trans e1⟩
  ·obtain ⟨o',e1⟩:=I.base.there b o e hx
   exact ⟨o',(hs.2 b (bP (b7 (aQ e) I.ok.above))).trans e1⟩
  ·by_cases hj:j=i
   ·subst hj
    rw [hi] at e1;cases e1;rw [ud qQ] at e2;cases e2;exact ⟨u,r,.inl ⟨hk,by simp⟩⟩
   ·rw [List.getElem?_set_ne (dM hj)] at e2
    obtain ⟨u',r',q⟩:=hl j y v' e1 e2 e3;refine ⟨u',r',?_⟩;rcases q with ⟨k,e⟩ | ⟨k,c,e,z⟩
    ·refine .inl ⟨k,?_⟩
     have:y≠x:=fun e=>hj (uB hN e1 (e▸hi));simp [this,e]
    ·exact .inr ⟨k,c,e,z.sameBut hs (gy y c e)⟩
  ·obtain ⟨w',z⟩:=I.cell y c e
   exact ⟨w',z.sameBut hs (gy y c e)⟩
  ·obtain ⟨e,n,ne,nf,d⟩:=I.pin p hp
   exact ⟨(hs.2 p.1 ne).trans e,n,ne,nf,d⟩
 ·have uE:X.fn x=true:=by
   rcases hf with z | z;·exact z
   ·rw [z] at hk;cases hk
  obtain ⟨c,hc⟩:=I.ok.has x (.inl hk);obtain ⟨w',z⟩:=I.cell x c hc;refine wpAny_storeName_cell I.ok.kind hk hc z (fun h' yE hs=>?_);obtain ⟨oc,yF,C_⟩:=id z;refine h {s with heap:=h'} ⟨I.ok,I.os,I.bare,⟨fun b o e n hb hx=>?_,fun b o e n hb hx=>?_,I.base.free,fun b o e hx=>?_,I.base.cW,I.base.cQ,I.base.cX⟩,⟨m,hn.sameBut hs (dM (gy x c hc)),fun j y v' e1 e2 e3=>?_⟩,fun y c' e=>?_,I.free,I.d4,fun p hp=>?_,tracked ⟨oc,yF,I.d4 x c hc⟩ hs,by simpa using I.len⟩ ⟨c,hs,.inr hc⟩
  ·exact (hs.2 b (bP (b7 (aQ e) (I.ok.mE x c uE hc)))).trans (I.base.keep b o e n hb hx)
  ·obtain ⟨sl,e1⟩:=I.base.slot b o e n hb hx
   exact ⟨sl,(hs.2 b (bP (b7 (aQ e) (I.ok.mE x c uE hc)))).trans e1⟩
  ·obtain ⟨o',e1⟩:=I.base.there b o e hx
   exact ⟨o',(hs.2 b (bP (b7 (aQ e) (I.ok.mE x c uE hc)))).trans e1⟩
  ·by_cases hj:j=i
   ·subst hj
    rw [hi] at e1;cases e1;rw [ud qQ] at e2;cases e2;exact ⟨u,r,.inr ⟨.inl hk,c,hc,yE⟩⟩
   ·rw [List.getElem?_set_ne (dM hj)] at e2
    obtain ⟨u',r',q⟩:=hl j y v' e1 e2 e3;refine ⟨u',r',?_⟩;rcases q with q | ⟨k,c',e,z'⟩;·exact .inl q
    ·refine .inr ⟨k,c',e,z'.sameBut hs ?_⟩
     rintro rfl;exact hj (uB hN e1 (I.ok.inj _ _ _ e hc▸hi))
  ·by_cases yG:c'=c
   ·subst yG;exact ⟨_,yE⟩
   ·obtain ⟨w2,z2⟩:=I.cell y c' e
    exact ⟨w2,z2.sameBut hs yG⟩
  ·obtain ⟨e,n,ne,nf,d⟩:=I.pin p hp
   refine ⟨(hs.2 p.1 ?_).trans e,n,ne,nf,d⟩;intro q;rw [q,yF] at e;have q':oc=p.2:=Option.some.inj e;exact d w' (by rw [←q'];exact C_)
theorem uF{v:V}(I:Inv X pins σ H s)(hN:X.N.Nodup)(hi:X.N[i]?=some x)(hx:Loc X.env.scope x)(r:RelV v u)
  (h:∀s',Inv X pins (σ.set i (some v)) H s'→Q () s') (hf:X.fn x=true∨X.env.scope.names.lookup x=some .local:=by first | exact .inl rfl | exact .inr rfl | assumption):wpAny M A (storeName X.env x u) Q E s:=
 yB I hN hi hx r (fun s' I' _=>h s' I') hf
theorem Inv.mF{s':Shared}(I:Inv X pins σ H s)(ho:s'.os=s.os)(u:Un (bI X.stack) ch H H' s.heap s'.heap)(ao:bw X.prog X.w H' s'.heap)(hg:AllBare s'.gens)
  (g_:∀b∈ch,(b∈X.ex∨X.s₀.heap.objs.size≤b)∧b≠X.env.locals∧(∀x c,X.env.cells.lookup x=some c→c≠b)∧∀p∈X.pn++pins,p.1≠b):Inv X pins σ H' s':=by
 obtain ⟨h',g',d',t',o'⟩:=s';have e:o'=s.os:=ho;subst e;exact I.call (g':=g') (t':=t') (d':=d') u ao hg g_
end
abbrev XK:=Value→Option Addr→Hp→Prop
abbrev St:=List (Option V)
abbrev VK:=V→Hp→Prop
abbrev TE:=St→Hp→VK→Prop
abbrev TT:=St→Hp→(Bool→Hp→Prop)→Prop
abbrev TA:=St→Hp→(List V→Hp→Prop)→Prop
structure Ends where
 nx:St→Hp→Prop
 rt:VK
 bk:St→Hp→Prop:=fun _ _=>False
 ct:St→Hp→Prop:=fun _ _=>False
abbrev TS:=Ends→St→Hp→Prop
def EP(X:Cx)(pins:aC)(σ:St)(Q:VK)(u:Value)(s':Shared):Prop:=∃v H',Inv X pins σ H' s'∧RelV v u∧Q v H'
def TP(X:Cx)(pins:aC)(σ:St)(Q:Bool→Hp→Prop)(b:Bool)(s':Shared):Prop:=∃H',Inv X pins σ H' s'∧Q b H'
def AP(X:Cx)(pins:aC)(σ:St)(Q:List V→Hp→Prop)(us:List Value)(s':Shared):Prop:=∃vs H',Inv X pins σ H' s'∧Vals vs us∧Q vs H'
def SP(X:Cx)(pins:aC)(D:Ends)(f:Flow)(s':Shared):Prop:=
 match f with
 | .next=>∃σ' H',Inv X pins σ' H' s'∧D.nx σ' H'
 | .brk=>∃σ' H',Inv X pins σ' H' s'∧D.bk σ' H'
 | .cont=>∃σ' H',Inv X pins σ' H' s'∧D.ct σ' H'
 | .ret u=>∃v σ' H',Inv X pins σ' H' s'∧RelV v u∧D.rt v H'
def PE(X:Cx)(e:Expr)(t:TE):Prop:=
 ∀(pins:aC) (s:Shared) (σ:St) (H:Hp) (Q:VK),Inv X pins σ H s→t σ H Q→wpAny (model X.prog X.w) X.A (eval e X.env) (EP X pins σ Q) X.xe s
def PT(X:Cx)(e:Expr)(t:TT):Prop:=
 ∀(pins:aC) (s:Shared) (σ:St) (H:Hp) (Q:Bool→Hp→Prop),Inv X pins σ H s→t σ H Q→wpAny (model X.prog X.w) X.A (isTrue e X.env (eval e X.env)) (TP X pins σ Q) X.xe s
def PW(X:Cx)(e:Expr)(t:TT):Prop:=
 ∀(whole:Sem Value) (pins:aC) (s:Shared) (σ:St) (H:Hp) (Q:Bool→Hp→Prop),Inv X pins σ H s→t σ H Q→wpAny (model X.prog X.w) X.A (isTrue e X.env whole) (TP X pins σ Q) X.xe s
variable {X:Cx}
theorem PW.pt{e:Expr}{t:TT}(h:PW X e t):PT X e t:=h _
def PA(X:Cx)(es:List Expr)(t:TA):Prop:=
 ∀(pos:Pos) (pins:aC) (s:Shared) (σ:St) (H:Hp) (Q:List V→Hp→Prop),Inv X pins σ H s→t σ H Q→wpAny (model X.prog X.w) X.A (spliced (backTo pos (starEach es X.env))) (AP X pins σ Q) X.xe s
def PS(X:Cx)(st:Stmt)(t:TS):Prop:=
 ∀(pins:aC) (s:Shared) (σ:St) (H:Hp) (D:Ends),Inv X pins σ H s→t D σ H→wpAny (model X.prog X.w) X.A (exec st X.env) (SP X pins D) X.xe s
def dG(X:Cx)(st:List Stmt)(t:TS):Prop:=
 ∀(pins:aC) (s:Shared) (σ:St) (H:Hp) (D:Ends),Inv X pins σ H s→t D σ H→wpAny (model X.prog X.w) X.A (execs st X.env) (SP X pins D) X.xe s
variable {M:Model} {A:Around} {E:aw} {s:Shared}
theorem aA{α:Type}{t:Sem α}{Q Q':α→Shared→Prop}(h:wpAny M A t Q E s)(hQ:∀a s,Q a s→Q' a s):wpAny M A t Q' E s:=a8 h hQ fun _ _ x=>x
section
variable {X:Cx}
variable {pins:aC} {σ:St}
theorem bin{a b:Expr}{ta tb:TE}(ha:PE X a ta)(hb:PE X b tb){R:V→V→Hp→Prop}(I:Inv X pins σ H s)(h:ta σ H fun x H1=>tb σ H1 fun y H2=>R x y H2)
  {α:Type} {Q:α→Shared→Prop} {f:Value→Value→Sem α}
  (hf:∀v u s2 x y H2,Inv X pins σ H2 s2→RelV x v→RelV y u→R x y H2→wpAny (model X.prog X.w) X.A (f v u) Q X.xe s2) :
  wpAny (model X.prog X.w) X.A (eval a X.env) (fun v s₁=>wpAny (model X.prog X.w) X.A (eval b X.env) (fun u s₂=>wpAny (model X.prog X.w) X.A (f v u) Q X.xe s₂) X.xe s₁) X.xe s:=by
 refine aA (ha pins s σ H _ I h) fun v s1 ⟨x,H1,I1,r1,q1⟩=>?_;refine aA (hb pins s1 σ H1 _ I1 q1) fun u s2 ⟨y,H2,I2,r2,q2⟩=>?_;exact hf v u s2 x y H2 I2 r1 r2 q2
def yH(i:Nat):TE:=fun σ H Q=>∃v,σ[i]?=some (some v)∧Q v H
def tC(v:V):TE:=fun _ H Q=>Q v H
variable {x:Str} {pos:Pos}
theorem De{i:Nat}(hN:X.N[i]?=some x)(hv:kC X.env.scope x)(hd:(x == ("__debug__":Str))=false:=by decide)(eR:(x == ("__classdict__":Str))=false:=by decide):PE X (.Name x pos) (yH i):=by
 intro pins s σ H Q I h;obtain ⟨v,e,h⟩:=h;obtain ⟨m,hn,hl⟩:=I.loc;obtain ⟨u,r,l⟩:=hl i x v hN e hv;have fin:EP X pins σ Q u s:=⟨v,H,I,r,h⟩;rcases l with ⟨hk,hm⟩ | ⟨hk,c,hc,yI⟩;·exact wpAny_Name (wpAny_loadName_local I.ok.kind hk hn hm fin) hd
 ·rcases hk with hk | hk
  ·exact wpAny_Name (wpAny_loadName_cell I.ok.kind hk hc yI fin) hd
  ·exact wpAny_Name (wpAny_loadName_free I.ok.kind hk hc yI fin eR) hd
theorem ay{i j pos}:PE X (.Constant (.int i) j pos) (tC (.int i)):=fun _ _ _ H _ I h=>wpAny_Constant_int ⟨.int i,H,I.tok _,⟨_,rfl⟩,h⟩
theorem jx{b j pos}:PE X (.Constant (.bool b) j pos) (tC (.bl b)):=fun _ _ _ H _ I h=>Constant_bool ⟨.bl b,H,I,rfl,h⟩
theorem yJ{x j pos}:PE X (.Constant (.str x) j pos) (tC (.str x)):=fun _ _ _ H _ I h=>Calls.Constant_str ⟨.str x,H,I.tok _,⟨_,rfl⟩,h⟩
def Gl(X:Cx)(x:Str):Prop:=X.env.kindOf x=some .globalImplicit
variable {u:Value} {Q:aw}
theorem oM(I:Inv X pins σ H s)(hg:Gl X x)(hm:X.mg x=some u)(h:Q u s)
  (hd:(x == ("__debug__":Str))=false:=by decide):wpAny (model X.prog X.w) X.A (eval (.Name x pos) X.env) Q E s:=
 Calls.Name_function_global I.ok.kind hg (Calls.loadGlobal_global (by rw [I.ok.glob];exact I.mod.glob.keeps I.bk) hm h) hd
theorem jy(I:Inv X pins σ H s)(hg:Gl X x)(hm:X.mg x=none)(hv:bootBuiltins x=some u)(h:Q u s)
  (hn:x ≠ "__name__":=by decide) (hd:(x == ("__debug__":Str))=false:=by decide):wpAny (model X.prog X.w) X.A (eval (.Name x pos) X.env) Q E s:=by
 obtain ⟨mb,h1,h2⟩:=I.mod.blt;exact Calls.Name_function_global I.ok.kind hg (Calls.loadGlobal_builtin (by rw [I.ok.glob];exact I.mod.glob.keeps I.bk) hm (by rw [I.ok.blt];exact h1.keeps I.bk) ((h2 x hn).trans hv) h) hd
theorem hE{v:V}(hg:Gl X x)(hm:X.mg x=some u)(r:RelV v u)(hd:(x == ("__debug__":Str))=false:=by decide):PE X (.Name x pos) (tC v):=
 fun _ _ _ H _ I h=>oM I hg hm ⟨v,H,I,r,h⟩ hd
theorem Df{v:V}(hg:Gl X x)(hm:X.mg x=none)(hv:bootBuiltins x=some u)(r:RelV v u)(hn:x ≠ "__name__":=by decide)(hd:(x == ("__debug__":Str))=false:=by decide):PE X (.Name x pos) (tC v):=
 fun _ _ _ H _ I h=>jy I hg hm hv ⟨v,H,I,r,h⟩ hn hd
variable {a b:Expr} {ta tb:TE} {pos:Pos}
def PC(X:Cx)(op:CmpOp)(a b:Expr)(t:TE):Prop:=
 ∀(pins:aC) (s:Shared) (σ:St) (H:Hp) (Q:VK),Inv X pins σ H s→t σ H Q→
  wpAny (model X.prog X.w) X.A (eval a X.env) (fun v s₁=>wpAny (model X.prog X.w) X.A (eval b X.env) (fun u s₂=>wpAny (model X.prog X.w) X.A (compareOp op v u) (EP X pins σ Q) X.xe s₂) X.xe s₁) X.xe s
def tB(t:TE):TT:=fun σ H Q=>t σ H fun x H1=>∃c,x=.bl c∧Q c H1
variable {op:CmpOp}
theorem Dg{t:TE}(h:PC X op a b t)(h1:behindInMarks op b=false:=by first | exact Dh _ (by decide) (by decide) | rfl):PE X (.Compare a [op] [b] pos) t:=fun pins s σ H Q I hw=>wpAny_Compare1 (h pins s σ H Q I hw) h1
theorem Di{t:TE}(h:PC X op a b t)(h1:behindInMarks op b=false:=by first | exact Dh _ (by decide) (by decide) | rfl):PT X (.Compare a [op] [b] pos) (tB t):=by intro pins s σ H Q I hw;refine wpAny_isTrue_Compare1 (aA (h pins s σ H _ I hw) fun v s1 h1=>aA h1 fun u s2 h2=>aA h2 fun c s3 ⟨x,H1,I1,r1,q1⟩=>?_) h1;obtain ⟨d,rfl,q⟩:=q1;cases r1;exact ke ⟨H1,I1,q⟩
theorem yK{e:Expr}{t:TE}(h:PE X e t)(he:∀whole,isTrue e X.env whole=(do let v ←whole;standAt e.pos;holding [v] (truthy v)):=by intro _;rfl):PT X e (tB t):=by
 intro pins s σ H Q I hw
 refine isTrue_plain (aA (h pins s σ H _ I hw) fun v s1 ⟨x,H1,I1,r1,q1⟩=>?_) (he _)
 obtain ⟨d,rfl,q⟩:=q1
 cases r1
 exact ke ⟨H1,I1,q⟩
variable {tA oN:TT} {rest:List Expr}
def Dj(t u:TT):TT:=fun σ H Q=>t σ H fun c H1=>if c=true then u σ H1 Q else Q false H1
def Dk(t u:TT):TT:=fun σ H Q=>t σ H fun c H1=>if c=true then Q true H1 else u σ H1 Q
def Dl(t:TT):TT:=fun σ H Q=>t σ H fun c H1=>Q (!c) H1
theorem pw_and1(ha:PT X a tA):PW X (.BoolOp .And [a] pos) tA:=by
 intro wh pins s σ H Q I h;refine isTrue_and (aA (ha pins s σ H Q I h) fun c s1 e=>?_);cases c with
 | true=>exact isTrue_and_nil e
 | false=>exact e
theorem pw_or1(ha:PT X a tA):PW X (.BoolOp .Or [a] pos) tA:=by
 intro wh pins s σ H Q I h;refine isTrue_or (aA (ha pins s σ H Q I h) fun c s1 e=>?_);cases c with
 | false=>exact isTrue_or_nil e
 | true=>exact e
theorem pw_and(ha:PT X a tA)(hb:PW X (.BoolOp .And (b::rest) pos) oN):PW X (.BoolOp .And (a::b::rest) pos) (Dj tA oN):=by
 intro wh pins s σ H Q I h;refine isTrue_and (aA (ha pins s σ H _ I h) fun c s1 ⟨H1,I1,q1⟩=>?_);cases c with
 | true=>exact hb wh pins s1 σ H1 Q I1 q1
 | false=>exact ⟨H1,I1,q1⟩
theorem pw_or(ha:PT X a tA)(hb:PW X (.BoolOp .Or (b::rest) pos) oN):PW X (.BoolOp .Or (a::b::rest) pos) (Dk tA oN):=by
 intro wh pins s σ H Q I h;refine isTrue_or (aA (ha pins s σ H _ I h) fun c s1 ⟨H1,I1,q1⟩=>?_);cases c with
 | true=>exact ⟨H1,I1,q1⟩
 | false=>exact hb wh pins s1 σ H1 Q I1 q1
theorem yL(ha:PT X a tA):PT X (.UnaryOp .Not a pos) (Dl tA):=by intro pins s σ H Q I h;exact isTrue_not (ha pins s σ H (fun c H1=>Q (!c) H1) I h)
def Dm(ta tb:TE):TE:=fun σ H Q=>ta σ H fun x H1=>∃c,x=.bl c∧if c=true then tb σ H1 Q else Q (.bl false) H1
def Dn(ta:TE):TE:=fun σ H Q=>ta σ H fun x H1=>∃c,x=.bl c∧Q (.bl (!c)) H1
theorem yM{op}{t:TE}(h:PE X a t):PE X (.BoolOp op [a] pos) t:=fun pins s σ H Q I hw=>BoolOp_one (h pins s σ H Q I hw)
theorem uG(ha:PE X a ta)(hb:PE X (.BoolOp .And (b::rest) pos) tb):PE X (.BoolOp .And (a::b::rest) pos) (Dm ta tb):=by
 intro pins s σ H Q I h;refine BoolOp_and (aA (ha pins s σ H _ I h) fun v s1 ⟨x,H1,I1,r1,q1⟩=>?_);obtain ⟨c,rfl,q1⟩:=q1;cases r1;refine ke ?_;cases c with
 | true=>exact hb pins s1 σ H1 Q I1 q1
 | false=>exact ⟨.bl false,H1,I1,rfl,q1⟩
theorem Dp(ha:PE X a ta):PE X (.UnaryOp .Not a pos) (Dn ta):=by intro pins s σ H Q I h;refine UnaryOp_ (aA (ha pins s σ H _ I h) fun v s1 ⟨x,H1,I1,r1,q1⟩=>?_);obtain ⟨c,rfl,q1⟩:=q1;cases r1;exact not_of (ke ⟨.bl (!c),H1,I1,rfl,q1⟩)
end
def bL(K:aB)(H:Hp)(a:Addr)(xs:List V):Prop:=
 Rd H a (.lst xs) ∨
  ∃(o:Obj) (ai:Array Value) (n:Nat),K.lookup a=some o∧o.cls=.type "list"∧o.dict=none∧o.data=.seq ai n∧ai.size≤sizeLine∧Vals xs ai.toList
def cE(K:aB)(H:Hp)(a:Addr)(xs:List V):Prop:=
 Rd H a (.tup xs) ∨
  ∃(o:Obj) (ai:Array Value) (n:Nat),K.lookup a=some o∧o.cls=.type "tuple"∧o.data=.seq ai n∧ai.size≤sizeLine∧Vals xs ai.toList
def Dq:Value→Option V
 | .none=>some .aI
 | .bool b=>some (.bl b)
 | .int i _=>some (.int i)
 | .str x _=>some (.str x)
 | .bytes b _=>some (.gv b)
 | .float b _=>some (.mB b)
 | .ref a=>some (.ref a)
 | .type n=>some (.ty n)
 | _=>none
variable {x:V} {u:Value}
theorem RelV.abs(r:RelV x u):Dq u=some x:=by
 cases x with
 | aI=>cases r;rfl
 | bl _=>cases r;rfl
 | int _=>obtain ⟨t,rfl⟩:=r;rfl
 | str _=>obtain ⟨t,rfl⟩:=r;rfl
 | gv _=>obtain ⟨t,rfl⟩:=r;rfl
 | mB _=>obtain ⟨t,rfl⟩:=r;rfl
 | ref _=>cases r;rfl
 | ty _=>cases r;rfl
theorem RelV.inj{y:V}(r:RelV x u)(q:RelV y u):x=y:=Option.some.inj (r.abs.symm.trans q.abs)
theorem Vals.inj:∀{xs ys:List V} {us:List Value},Vals xs us→Vals ys us→xs=ys
 | _,_,_,.nil,.nil=>rfl
 | _,_,_,.cons r t,.cons r' t'=>by rw [r.inj r',Vals.inj t t']
section
variable {X:Cx} {pins:aC} {σ:St} {H:Hp} {s:Shared} {a:Addr} {xs ys:List V}
variable {K:aB}
theorem bL.of(h:H a=some (.lst xs)):bL K H a xs:=.inl (.inl h)
theorem cE.of(h:H a=some (.tup xs)):cE K H a xs:=.inl (.inl h)
theorem Inv.list(I:Inv X pins σ H s)(h:bL X.K H a xs):∃ai:List Value,Vals xs ai∧PlainL s.heap a ai.toArray∧xs.length≤sizeLine:=by
 rcases h with h | ⟨o,ai,n,hk,hc,hd,hs,hz,r⟩
 ·obtain ⟨z,ai,n,r,e⟩:=h.ok I.ao
  exact ⟨ai,r,⟨_,n,e,rfl,rfl,rfl⟩,z⟩
 ·refine ⟨ai.toList,r,⟨o,n,I.cz a o hk,hc,hd,by simpa using hs⟩,?_⟩
  have e:=r.length;simp only [eL] at e;omega
theorem Inv.tuple(I:Inv X pins σ H s)(h:cE X.K H a xs):∃ai:List Value,Vals xs ai∧IsTup s.heap a ai.toArray∧xs.length≤sizeLine:=by
 rcases h with h | ⟨o,ai,n,hk,hc,hs,hz,r⟩
 ·obtain ⟨z,ai,r,p⟩:=h.ok I.ao
  exact ⟨ai,r,p,z⟩
 ·refine ⟨ai.toList,r,⟨o,I.cz a o hk,hc,n,by simpa using hs⟩,?_⟩
  have e:=r.length;simp only [eL] at e;omega
theorem Inv.Dr(I:Inv X pins σ H s)(h:bL X.K H a xs)(h':bL X.K H a ys):xs=ys:=by
 obtain ⟨ai,r,⟨o,n,e,_,_,d⟩,_⟩:=I.list h;obtain ⟨its',r',⟨o',n',e',_,_,d'⟩,_⟩:=I.list h';rw [e] at e';cases e';rw [d] at d';injection d' with d1 _;have:ai=its':=by simpa using eN Array.toList d1
 subst this;exact r.inj r'
theorem Inv.Ds(I:Inv X pins σ H s)(h:cE X.K H a xs)(h':cE X.K H a ys):xs=ys:=by
 obtain ⟨ai,r,⟨o,e,_,n,d⟩,_⟩:=I.tuple h;obtain ⟨its',r',⟨o',e',_,n',d'⟩,_⟩:=I.tuple h';rw [e] at e';cases e';rw [d] at d';injection d' with d1 _;have:ai=its':=by simpa using eN Array.toList d1
 subst this;exact r.inj r'
end
abbrev Cx.gz (X:Cx) (E:aw):Cx:={X with xe:=E}
abbrev Cx.mG (X:Cx):Cx:=X.gz fun _ _=>False
theorem Cx.Ok.gz(ok:X.Ok)(E:aw):(X.gz E).Ok:=
 ⟨ok.mod,ok.kind,ok.glob,ok.blt,ok.above,ok.inj,ok.has,ok.mE,ok.hd,ok.frames,ok.eQ,ok.uz,ok.bs,ok.fu,ok.jv,ok.jw,ok.fS,ok.iO⟩
theorem Cx.Ok.iP(ok:(X.gz E).Ok):X.Ok:=
 ⟨ok.mod,ok.kind,ok.glob,ok.blt,ok.above,ok.inj,ok.has,ok.mE,ok.hd,ok.frames,ok.eQ,ok.uz,ok.bs,ok.fu,ok.jv,ok.jw,ok.fS,ok.iO⟩
section
variable {X:Cx} {pins:aC} {σ:St} {H:Hp} {s:Shared} {E:aw}
theorem Inv.gz(I:Inv X pins σ H s)(E:aw):Inv (X.gz E) pins σ H s:=⟨I.ok.gz E,I.os,I.bare,I.base,I.loc,I.cell,I.free,I.d4,I.pin,I.ao,I.len⟩
theorem Inv.iP(I:Inv (X.gz E) pins σ H s):Inv X pins σ H s:=⟨I.ok.iP,I.os,I.bare,I.base,I.loc,I.cell,I.free,I.d4,I.pin,I.ao,I.len⟩
theorem SP.iP{D:Ends}{f:Flow}{s':Shared}(h:SP (X.gz E) pins D f s'):SP X pins D f s':=by
 cases f with
 | next=>obtain ⟨σ',H',I,q⟩:=h;exact ⟨σ',H',I.iP,q⟩
 | brk=>obtain ⟨σ',H',I,q⟩:=h;exact ⟨σ',H',I.iP,q⟩
 | cont=>obtain ⟨σ',H',I,q⟩:=h;exact ⟨σ',H',I.iP,q⟩
 | ret u=>obtain ⟨v,σ',H',I,r,q⟩:=h;exact ⟨v,σ',H',I.iP,r,q⟩
theorem dG.mG{st:List Stmt}{t:TS}(h:dG X.mG st t):dG X st t:=fun pins s σ H D I hw=>a8 (h pins s σ H D (I.gz _) hw) (fun _ _ q=>q.iP) fun _ _ z=>False.elim z
end
section
variable {X:Cx} {st:Stmt} {rest:List Stmt} {t u:TS} {e:Expr} {te:TE} {pos:Pos}
def yN:TS:=fun D σ H=>D.nx σ H
def yO(t u:TS):TS:=fun D σ H=>t {D with nx:=u D} σ H
theorem d5:dG X [] yN:=fun _ _ σ H _ I h=>l9 ⟨σ,H,I,h⟩
theorem aG(h1:PS X st t)(h2:dG X rest u):dG X (st::rest) (yO t u):=by
 intro pins s σ H D I h;refine wpAny_execs_cons (aA (h1 pins s σ H {D with nx:=u D} I h) fun f s1 q=>?_);cases f with
 | next=>obtain ⟨σ',H',I',q⟩:=q;exact h2 pins s1 σ' H' D I' q
 | ret v=>exact q
 | brk=>exact q
 | cont=>exact q
theorem aO(h1:PS X st t):dG X [st] t:=by
 intro pins s σ H D I h;refine wpAny_execs_cons (aA (h1 pins s σ H D I h) fun f s1 q=>?_);cases f with
 | next=>exact l9 q
 | ret v=>exact q
 | brk=>exact q
 | cont=>exact q
theorem Inv.quiet{pins:aC}{σ:St}(I:Inv X pins σ H s):interactive X.env=false:=by simp [interactive,I.ok.kind]
def Dt(te:TE):TS:=fun D σ H=>te σ H fun _ H1=>D.nx σ H1
theorem hG(he:PE X e te)(hs:swapsWith e none pos.line X.env=pure false:=by rfl):PS X (.Expr e pos) (Dt te):=by intro pins s σ H D I h;exact wpAny_Expr_any (aA (he pins s σ H _ I h) fun v s1 ⟨x,H1,I1,r1,q1⟩=>⟨σ,H1,I1,q1⟩) I.quiet hs
def yP(te:TE):TS:=fun D σ H=>te σ H D.rt
theorem cf(he:PE X e te):PS X (.Return (some e) pos) (yP te):=by intro pins s σ H D I h;exact wpAny_Return_some (aA (he pins s σ H _ I h) fun v s1 ⟨x,H1,I1,r1,q1⟩=>⟨x,σ,H1,I1,r1,q1⟩)
def uH(c:TT)(t u:TS):TS:=fun D σ H=>c σ H fun b H1=>if b=true then t D σ H1 else u D σ H1
theorem dP{c:Expr}{a b:List Stmt}{tc:TT}(hc:PT X c tc)(ha:dG X a t)(hb:dG X b u):PS X (.If c a b pos) (uH tc t u):=by
 intro pins s σ H D I h;refine wpAny_If (aA (hc pins s σ H _ I h) fun d s1 ⟨H1,I1,q1⟩=>?_);cases d with
 | true=>exact ha pins s1 σ H1 D I1 q1
 | false=>exact hb pins s1 σ H1 D I1 q1
end
abbrev TG:=V→St→Hp→(St→Hp→Prop)→Prop
abbrev kF:=List V→St→Hp→(St→Hp→Prop)→Prop
def PG(X:Cx)(target:Expr)(t:TG):Prop:=
 ∀(pins:aC) (s:Shared) (σ:St) (H:Hp) (v:V) (u:Value) (Q:St→Hp→Prop),Inv X pins σ H s→RelV v u→t v σ H Q→
  wpAny (model X.prog X.w) X.A (assign target X.env u) (fun _ s'=>∃σ' H',Inv X pins σ' H' s'∧Q σ' H') X.xe s
def qR(X:Cx)(ts:List Expr)(t:kF):Prop:=
 ∀(pins:aC) (s:Shared) (σ:St) (H:Hp) (vs:List V) (us:List Value) (Q:St→Hp→Prop),Inv X pins σ H s→Vals vs us→t vs σ H Q→
  wpAny (model X.prog X.w) X.A (assignInOrder ((assignEach ts X.env).map (·.2)) us) (fun _ s'=>∃σ' H',Inv X pins σ' H' s'∧Q σ' H') X.xe s
abbrev uI:=V→V→V→Hp→(Hp→Prop)→Prop
def yQ(X:Cx)(t:uI):Prop:=
 ∀(pins:aC) (s:Shared) (σ:St) (H:Hp) (o i v:V) (ov iv u:Value) (Q:Hp→Prop),Inv X pins σ H s→RelV o ov→RelV i iv→RelV v u→t o i v H Q→
  wpAny (model X.prog X.w) X.A (setItem ov iv u) (fun _ s'=>∃H',Inv X pins σ H' s'∧Q H') X.xe s
section
variable {X:Cx} {pos:Pos}
def bz(i:Nat):TG:=fun v σ H Q=>Q (σ.set i (some v)) H
variable {i:Nat}
theorem d6{x:Str}(hN:X.N.Nodup)(hi:X.N[i]?=some x)(hx:Loc X.env.scope x)(hf:X.fn x=true∨X.env.scope.names.lookup x=some .local:=by first | exact .inl rfl | exact .inr rfl | assumption):PG X (.Name x pos) (bz i):=by intro pins s σ H v u Q I r h;exact wpAny_assign_Name (uF I hN hi hx r (fun s' I'=>⟨_,H,I',h⟩) hf)
def yR:kF:=fun vs σ H Q=>vs=[]∧Q σ H
def uJ(t:TG)(u:kF):kF:=fun vs σ H Q=>∃v r,vs=v::r∧t v σ H fun σ' H'=>u r σ' H' Q
theorem yT:qR X [] yR:=by intro pins s σ H vs us Q I r h;obtain ⟨e,h⟩:=h;subst e;cases r;exact assignInOrder_nil ⟨σ,H,I,h⟩
variable {e:Expr} {es:List Expr}
theorem qS{t:TG}{u:kF}(h1:PG X e t)(h2:qR X es u)
  (hs:(assignEach (e::es) X.env).map (·.2)=assign e X.env::(assignEach es X.env).map (·.2):=by rfl):qR X (e::es) (uJ t u):=by
 intro pins s σ H vs us Q I r h;obtain ⟨v,vr,e1,h⟩:=h;subst e1;cases r with
 | cons r rr=>rw [hs];refine assignInOrder_cons (aA (h1 pins s σ H _ _ _ I r h) fun _ s1 ⟨σ1,H1,I1,q1⟩=>?_);exact h2 pins s1 σ1 H1 _ _ Q I1 rr q1
def yU(K:aB)(n:Nat)(t:kF):TG:=fun v σ H Q=>∃a xs,v=.ref a∧cE K H a xs∧xs.length=n∧t xs σ H Q
theorem yV{k:Nat}{t:kF}{n:Nat}(hc:X.calm=true)(h:qR X es t)
  (hn:(assignEach es X.env).length=n:=by rfl) (Du:(assignEach es X.env).findIdx? (·.1)=none:=by rfl):PG X (.Tuple es k pos) (yU X.K n t):=by
 intro pins s σ H v u Q I r hw;obtain ⟨a,xs,e1,hq,hl,hw⟩:=hw;subst e1;cases r;obtain ⟨ai,rv,ht,hz⟩:=I.tuple hq;refine assign_Tuple_tuple (I.ok.hd hc) ht (by simp [hn,←hl,rv.length]) Du fun h' hx=>?_
 have I1:Inv X pins σ H {s with heap:=h'}:=I.kept (t':=s.toks) fun b o e=>hx b o (bP (aQ e)) e;exact h pins _ σ H xs _ Q I1 (by simpa using rv) hw
def Dv(to ti:TE)(t:uI):TG:=fun v σ H Q=>to σ H fun o H1=>ti σ H1 fun i H2=>t o i v H2 fun H3=>Q σ H3
theorem uK{o i:Expr}{to ti:TE}{t:uI}(ho:PE X o to)(hi:PE X i ti)(hs:yQ X t)
  (ha:∀v,assign (.Subscript o i pos) X.env v=(do
   let ov ←holding [v] (eval o X.env)
   let iv ←holding [v,ov] (eval i X.env)
   standAt pos
   holding [v,ov,iv] (setItem ov iv v)
   release [v,ov,iv] []):=by intro _;rfl):PG X (.Subscript o i pos) (Dv to ti t):=by
 intro pins s σ H v u Q I r h
 rw [ha]
 refine au (jk (aA (ho pins s σ H _ I h) fun ov s1 ⟨x,H1,I1,r1,q1⟩=>?_))
 refine au (jk (aA (hi pins s1 σ H1 _ I1 q1) fun iv s2 ⟨y,H2,I2,r2,q2⟩=>?_))
 refine au (l_ (au (jk (aA (hs pins s2 σ H2 x y v ov iv u _ I2 r1 r2 r q2) fun _ s3 ⟨H3,I3,q3⟩=>?_))))
 exact wpAny_release ⟨σ,H3,I3,q3⟩
def kG(te:TE)(g:TG):TS:=fun D σ H=>te σ H fun x H1=>g x σ H1 D.nx
theorem uL{tg e:Expr}{te:TE}{g:TG}(he:PE X e te)(hg:PG X tg g)(hs:swapsWithSole [tg] e pos.line X.env=pure false:=by rfl)(hw:swappedStores [tg] e X.env=pure none:=by rfl)
  (h1:(assignEach [tg] X.env).map (·.2)=[assign tg X.env]:=by rfl):PS X (.Assign [tg] e pos) (kG te g):=by
 intro pins s σ H D I h;refine wpAny_Assign_stores (aA (he pins s σ H _ I h) fun v s1 ⟨x,H1,I1,r1,q1⟩=>?_) hs hw;rw [h1];exact aA (hg pins s1 σ H1 x v _ I1 r1 q1) fun _ s2 q=>q
theorem Dw{x:Str}{te:TE}{pos':Pos}(hN:X.N.Nodup)(hi:X.N[i]?=some x)(hx:Loc X.env.scope x)(he:PE X e te)(hs:swapsWith e (some (.Name x pos')) pos.line X.env=pure false:=by rfl)(hf:X.fn x=true∨X.env.scope.names.lookup x=some .local:=by first | exact .inl rfl | exact .inr rfl | assumption) :
  PS X (.Assign [.Name x pos'] e pos) (kG te (bz i)):=by
 intro pins s σ H D I h;refine wpAny_Assign_Name (aA (he pins s σ H _ I h) fun v s1 ⟨y,H1,I1,r1,q1⟩=>?_) hs;exact uF I1 hN hi hx r1 (fun s2 I2=>⟨_,H1,I2,q1⟩) hf
end
section
variable {X:Cx} {pos:Pos}
def Dy(c:TT)(tb:TS):TS:=fun D σ H=>∃W:Nat→St→Hp→Prop,(∃m,W m σ H)∧∀m σ H,W m σ H→
 c σ H fun b H1=>if b=true then ∃N:St→Hp→Prop,(∀σ' H',N σ' H'→∃m',m'<m∧W m' σ' H')∧tb {D with nx:=N,ct:=N,bk:=D.nx} σ H1 else D.nx σ H1
theorem uN{c:Expr}{body:List Stmt}{tc:TT}{tb:TS}(hp:PassesOwn (model X.prog X.w) X.A X.env X.xe)(hc:PT X c tc)(hb:dG X body tb):PS X (.While c body [] pos) (Dy tc tb):=by
 intro pins s σ H D I h;obtain ⟨W,⟨m0,w0⟩,turn⟩:=h;refine wpAny_While (codeAny_whileLoop (fun n s'=>∃σ' H',Inv X pins σ' H' s'∧W n σ' H') ?_ m0 ⟨σ,H,I,w0⟩);rintro n s1 ⟨σ1,H1,I1,w1⟩;refine kg hp (aA (hc pins s1 σ1 H1 _ I1 (turn n σ1 H1 w1)) fun b s2 ⟨H2,I2,q2⟩=>?_);cases b with
 | true=>
  obtain ⟨N,hN,q2⟩:=q2;rw [ae rfl];refine kg hp (aA (hb pins s2 σ1 H2 _ I2 q2) fun f s3 q3=>?_);cases f with
  | next=>obtain ⟨σ3,H3,I3,n3⟩:=q3;obtain ⟨m',hm,w3⟩:=hN σ3 H3 n3;exact ⟨m',hm,σ3,H3,I3,w3⟩
  | cont=>obtain ⟨σ3,H3,I3,n3⟩:=q3;obtain ⟨m',hm,w3⟩:=hN σ3 H3 n3;exact ⟨m',hm,σ3,H3,I3,w3⟩
  | brk=>exact q3
  | ret v=>exact q3
 | false=>rw [aa b_];exact l9 ⟨σ1,H2,I2,q2⟩
end
structure It where
 go:Nat→Hp→Prop
 cI:Nat→Hp→V→Hp→Prop
 stop:Nat→Hp→Prop
def iQ(X:Cx)(pins:aC)(H:Hp)(b:Addr):Prop:=
 H b=none∧b≠X.env.locals∧b∉X.fs∧(b∈X.ex∨X.s₀.heap.objs.size≤b)∧(∀x c,X.env.cells.lookup x=some c→c≠b)∧∀p∈X.pn++pins,p.1≠b
variable {σ:St}
theorem Inv.qT{pins:aC}{H':Hp}(I:Inv X pins σ H s)(hb:s.heap.objs.size≤b)(hn:H' b=none):iQ X pins H' b:=by
 refine ⟨hn,Nat.ne_of_gt (b7 I.lt hb),I.C6 hb,.inr (bQ I.sz hb),fun x c e z=>?_,fun p hp z=>?_⟩
 ·obtain ⟨v,q⟩:=I.cell x c e
  exact absurd (b7 q.lt (by rw [z];exact hb)) (c_ _)
 ·exact absurd (b7 (aQ (I.pin p hp).1) (by rw [z];exact hb)) (c_ _)
structure Turn (P:Program) (w:World) (K:aB) (tg:Expr) (J:It) (fp:List Addr) (it:Addr) (tn:Nat→Heap→Prop):Prop where
 mem:it∈fp
 obj:∀i h,tn i h→∀b∈fp,∃o,h.get? b=some o∧∀v,o.data≠.cell v
 keep:∀i h h',tn i h→(∀b∈fp,∀o,h.get? b=some o→h'.get? b=some o)→tn i h'
 item:∀(X:Cx),X.prog=P→X.w=w→X.K=K→X.calm=true→∀(i:Nat) (pins:aC) (s:Shared) (σ:St) (H:Hp) (E:aw),Inv X pins σ H s→(∀b∈fp,iQ X pins H b)→tn i s.heap→J.go i H→
  wpAny (model P w) X.A (pyNext (.ref it)) (fun r s1=>∃u,r=some u ∧
   wpAny (model P w) X.A (letOwnedTupleGo tg (.ref it) u) (fun _ s2=>∃x H',Inv X pins σ H' s2∧RelV x u∧J.cI i H x H'∧tn (i+1) s2.heap∧∀b∈fp,H' b=none) E s1) E s
 done:∀(X:Cx),X.prog=P→X.w=w→X.K=K→X.calm=true→∀(i:Nat) (pins:aC) (s:Shared) (σ:St) (H:Hp) (E:aw),Inv X pins σ H s→(∀b∈fp,iQ X pins H b)→tn i s.heap→J.stop i H→
  wpAny (model P w) X.A (pyNext (.ref it)) (fun r s1=>r=none∧Inv X pins σ H s1) E s
 self:∀(A:Around) (i:Nat) (s:Shared) (Q:aw) (E:aw),tn i s.heap→Q (.ref it) s→wpAny (model P w) A (pyIter (.ref it)) Q E s
abbrev TI:=St→Hp→(It→Hp→Prop)→Prop
def uO(X:Cx)(pins:aC)(σ:St)(tg:Expr)(R:It→Hp→Prop)(oO:Value)(s2:Shared):Prop:=
 ∃(it:Addr) (fp:List Addr) (tn:Nat→Heap→Prop) (J:It) (H':Hp),oO=.ref it∧Inv X pins σ H' s2∧Turn X.prog X.w X.K tg J fp it tn∧tn 0 s2.heap∧(∀b∈fp,iQ X pins H' b)∧R J H'
def PI(X:Cx)(tg iter:Expr)(wi:TI):Prop:=
 ∀(pins:aC) (s:Shared) (σ:St) (H:Hp) (R:It→Hp→Prop),Inv X pins σ H s→wi σ H R→
  wpAny (model X.prog X.w) X.A (eval iter X.env) (fun v s1=>wpAny (model X.prog X.w) X.A (pyIter v) (uO X pins σ tg R) X.xe s1) X.xe s
variable {tg:Expr}
theorem qU{it:Addr}{o:Obj}{n:String}{vs:Array Value}{Q:Unit→Shared→Prop}(ho:s.heap.get? it=some o)(hc:o.cls=.type n)(hd:o.data=.fields vs)
    (hn:["enumerate","zip","dict_itemiterator","dict_reverseitemiterator","odict_iterator","itertools.zip_longest","itertools.pairwise"].contains n=false) (hQ:Q () s):wpAny M A (letOwnedTupleGo tg (.ref it) u) Q E s:=by
  unfold letOwnedTupleGo
  cases tg <;> first
    | exact bf hQ
    | (cases u <;> first
        | exact bf hQ
        | (refine au (wpAny_load ho ?_)
           rw [hc,hd];show wpAny M A (if (["enumerate","zip","dict_itemiterator","dict_reverseitemiterator","odict_iterator","itertools.zip_longest","itertools.pairwise"].contains n && vs[0]? == some (rawInt _))=true then _ else _) Q E s
           rw [aa (by intro h;rw [hn,Bool.false_and] at h;cases h)]
           exact bf hQ))
def jz(K:aB)(a:Addr):It:=
 ⟨fun i H=>∃xs x,bL K H a xs∧xs[i]?=some x,fun i H x H'=>H'=H∧∀xs,bL K H a xs→xs[i]?=some x,fun i H=>∃xs,bL K H a xs∧xs.length≤i⟩
def oP(K:aB)(a:Addr):It:=
 ⟨fun i H=>∃xs x,cE K H a xs∧xs[i]?=some x,fun i H x H'=>H'=H∧∀xs,cE K H a xs→xs[i]?=some x,fun i H=>∃xs,cE K H a xs∧xs.length≤i⟩
def jA(lo:Int)(n:Nat):It:=⟨fun i _=>i<n,fun i H x H'=>H'=H∧x=.int (lo+i),fun i _=>n≤i⟩
variable {K:aB}
theorem Dz(a it:Addr):Turn P w K tg (jz K a) [it] it (fun i h=>h.IsListIter it a i) where
 mem:=by simp
 obj:=fun i h st b hb=>by
  have e:b=it:=by simpa using hb
  subst e;obtain ⟨o,e,c,d⟩:=st;exact ⟨o,e,fun v z=>by rw [d] at z;cases z⟩
 keep:=fun i h h' st k=>st.at fun o e=>k it (by simp) o e
 item:=by
  intro X hP hw hK hc i pins s σ H E I hf st hg;subst hP hw hK;obtain ⟨xs,x,hq,hx⟩:=hg;obtain ⟨ai,rv,p,hz⟩:=I.list hq;obtain ⟨u,hu,ru⟩:=rv.get hx;obtain ⟨f0,f1,f2,f3,f4,f5⟩:=hf it (by simp)
  refine wpAny_pyNext_list_item st p.isList (x:=u) (by simpa using hu) fun h' aj sb=>?_
  have I1:Inv X pins σ H {s with heap:=h'}:=I.turned (t':=s.toks) (fun b o hb e=>(sb.2 b hb).trans e) f0 f1 f3 f4 f5;obtain ⟨o,e,c,d⟩:=id aj;exact ⟨u,rfl,qU (s:={s with heap:=h'}) e c d (by decide) ⟨x,H,I1,ru,⟨rfl,fun ys hy=>by rw [I.Dr hy hq];exact hx⟩,aj,fun b hb=>(hf b hb).1⟩⟩
 done:=by
  intro X hP hw hK hc i pins s σ H E I hf st hg;subst hP hw hK;obtain ⟨xs,hq,hx⟩:=hg;obtain ⟨ai,rv,p,hz⟩:=I.list hq;obtain ⟨f0,f1,f2,f3,f4,f5⟩:=hf it (by simp)
  have hl:=rv.length;exact wpAny_pyNext_list_end (I.ok.hd hc) st p.isList (by simp;omega) fun h' eb=>⟨rfl,I.turned (t':=s.toks) (fun b o hb e=>eb b o hb e) f0 f1 f3 f4 f5⟩
 self:=fun _ _ _ _ _ st h=>wpAny_pyIter_listiter st h
theorem DA(a it:Addr):Turn P w K tg (oP K a) [it] it (fun i h=>h.IsTupleIter it a i) where
 mem:=by simp
 obj:=fun i h st b hb=>by
  have e:b=it:=by simpa using hb
  subst e;obtain ⟨o,e,c,d⟩:=st;exact ⟨o,e,fun v z=>by rw [d] at z;cases z⟩
 keep:=fun i h h' st k=>st.at fun o e=>k it (by simp) o e
 item:=by
  intro X hP hw hK hc i pins s σ H E I hf st hg;subst hP hw hK;obtain ⟨xs,x,hq,hx⟩:=hg;obtain ⟨ai,rv,p,hz⟩:=I.tuple hq;obtain ⟨u,hu,ru⟩:=rv.get hx;obtain ⟨f0,f1,f2,f3,f4,f5⟩:=hf it (by simp)
  refine wpAny_pyNext_tuple_item st (show s.heap.IsTuple a ai.toArray from p) (x:=u) (by simpa using hu) fun h' aj sb=>?_
  have I1:Inv X pins σ H {s with heap:=h'}:=I.turned (t':=s.toks) (fun b o hb e=>(sb.2 b hb).trans e) f0 f1 f3 f4 f5;obtain ⟨o,e,c,d⟩:=id aj;exact ⟨u,rfl,qU (s:={s with heap:=h'}) e c d (by decide) ⟨x,H,I1,ru,⟨rfl,fun ys hy=>by rw [I.Ds hy hq];exact hx⟩,aj,fun b hb=>(hf b hb).1⟩⟩
 done:=by
  intro X hP hw hK hc i pins s σ H E I hf st hg;subst hP hw hK;obtain ⟨xs,hq,hx⟩:=hg;obtain ⟨ai,rv,p,hz⟩:=I.tuple hq;obtain ⟨f0,f1,f2,f3,f4,f5⟩:=hf it (by simp)
  have hl:=rv.length;exact wpAny_pyNext_tuple_end (I.ok.hd hc) st (show s.heap.IsTuple a ai.toArray from p) (by simp;omega) fun h' eb=>⟨rfl,I.turned (t':=s.toks) (fun b o hb e=>eb b o hb e) f0 f1 f3 f4 f5⟩
 self:=fun _ _ _ _ _ st h=>wpAny_pyIter_tupleiter st h
theorem DB(it:Addr)(lo:Int)(n:Nat):Turn P w K tg (jA lo n) [it] it (fun i h=>IsRangeIter h it (lo+(i:Nat)*1) ((n:Int)-(i:Nat)) 1) where
 mem:=by simp
 obj:=fun i h st b hb=>by
  have e:b=it:=by simpa using hb
  subst e;exact ⟨_,st,fun v z=>by have z':Data.fields _=Data.cell v:=z;cases z'⟩
 keep:=fun i h h' st k=>k it (by simp) _ st
 item:=by
  intro X hP hw hK hc i pins s σ H E I hf st hg;subst hP hw hK;obtain ⟨f0,f1,f2,f3,f4,f5⟩:=hf it (by simp)
  have W:=Walks.range (prog:=X.prog) (w:=X.w) (I.ok.hd hc) it lo 1 n;refine W.item i s _ _ hg st fun v h' tk hv aj kk=>?_;obtain ⟨t,rfl⟩:=hv;have I1:Inv X pins σ H {s with heap:=h',toks:=tk}:=I.turned (fun b o hb e=>kk b o (by simpa using hb) e) f0 f1 f3 f4 f5
  refine ⟨_,rfl,qU (s:={s with heap:=h',toks:=tk}) (n:="range_iterator") aj rfl rfl (by decide) ⟨.int (lo+i),H,I1,⟨t,?_⟩,⟨rfl,rfl⟩,aj,fun b hb=>(hf b hb).1⟩⟩
  rw [Int.mul_one]
 done:=by
  intro X hP hw hK hc i pins s σ H E I hf st hg;subst hP hw hK;obtain ⟨f0,f1,f2,f3,f4,f5⟩:=hf it (by simp)
  exact wpAny_pyNext_range_end (I.ok.hd hc) st (by have:n≤i:=hg;omega) fun h' eb=>⟨rfl,I.turned (t':=s.toks) (fun b o hb e=>eb b o hb e) f0 f1 f3 f4 f5⟩
 self:=fun _ _ _ _ _ st h=>wpAny_pyIter_rangeiter st h
section
variable {X:Cx} {tg:Expr}
def DC(K:aB)(tl:TE):TI:=fun σ H R=>tl σ H fun x H1=>∃a,x=.ref a∧(∃xs,bL K H1 a xs)∧R (jz K a) H1
def DD(K:aB)(tl:TE):TI:=fun σ H R=>tl σ H fun x H1=>∃a,x=.ref a∧(∃xs,cE K H1 a xs)∧R (oP K a) H1
variable {l:Expr} {tl:TE}
theorem iR(hl:PE X l tl):PI X tg l (DC X.K tl):=by
 intro pins s σ H R I h;refine aA (hl pins s σ H _ I h) fun v s1 ⟨x,H1,I1,r1,q1⟩=>?_;obtain ⟨a,e,⟨xs,hq⟩,q⟩:=q1;subst e;cases r1;obtain ⟨ai,rv,p,hz⟩:=I1.list hq;refine wpAny_pyIter_list p.isList ?_;refine ⟨s1.heap.objs.size,[s1.heap.objs.size],_,_,H1,rfl,I1.kept (t':=s1.toks) fun b o e=>bA _ e,Dz a _,⟨_,cP _ rfl,rfl,rfl⟩,fun b hb=>?_,q⟩;have e:b=s1.heap.objs.size:=by simpa using hb
 subst e;exact I1.qT (ar _) (I1.ao.fresh (ar _))
theorem DE(hl:PE X l tl):PI X tg l (DD X.K tl):=by
 intro pins s σ H R I h;refine aA (hl pins s σ H _ I h) fun v s1 ⟨x,H1,I1,r1,q1⟩=>?_;obtain ⟨a,e,⟨xs,hq⟩,q⟩:=q1;subst e;cases r1;obtain ⟨ai,rv,p,hz⟩:=I1.tuple hq;refine wpAny_pyIter_tuple (show s1.heap.IsTuple a ai.toArray from p) ?_;refine ⟨s1.heap.objs.size,[s1.heap.objs.size],_,_,H1,rfl,I1.kept (t':=s1.toks) fun b o e=>bA _ e,DA a _,⟨_,cP _ rfl,rfl,rfl⟩,fun b hb=>?_,q⟩;have e:b=s1.heap.objs.size:=by simpa using hb
 subst e;exact I1.qT (ar _) (I1.ao.fresh (ar _))
variable {pins:aC}
theorem yW{R:It→Hp→Prop}{lo hi:Int}{t u v:Tok}{tk:Nat}(I:Inv X pins σ H s)(h1:-(2 ^ 62)≤lo)(h2:lo<2 ^ 62)(h3:-(2 ^ 62)≤hi)(h4:hi<2 ^ 62)
  (q:R (jA lo (hi-lo).toNat) H):wpAny (model X.prog X.w) X.A (pyIter (.ref s.heap.objs.size)) (uO X pins σ tg R) E {s with heap:=s.heap.push {cls:=.type "range",data:=.fields #[.int lo t,.int hi u,.int 1 v]},toks:=tk}:=by
 refine wpAny_pyIter_range (IsRange.new ..) (small_one h1 h2 h3 h4) ?_;have I1:Inv X pins σ H {s with heap:=s.heap.push {cls:=.type "range",data:=.fields #[.int lo t,.int hi u,.int 1 v]},toks:=tk}:=I.kept fun b o e=>bA _ e
 refine ⟨(s.heap.push {cls:=.type "range",data:=.fields #[.int lo t,.int hi u,.int 1 v]}).objs.size,[(s.heap.push {cls:=.type "range",data:=.fields #[.int lo t,.int hi u,.int 1 v]}).objs.size],_,_,H,rfl,
  I1.kept (t':=tk) fun b o e=>bA _ e,DB _ lo (hi-lo).toNat,?_,fun b hb=>?_,q⟩
 ·have e1:lo+((0:Nat):Int)*1=lo:=by simp
  have e2:(((hi-lo).toNat:Nat):Int)-((0:Nat):Int)=Builtin.Range.rangeSize lo hi 1:=by rw [rangeSize_one];split <;> omega
  show IsRangeIter _ _ (lo+((0:Nat):Int)*1) ((((hi-lo).toNat:Nat):Int)-((0:Nat):Int)) 1;rw [e1,e2];exact cP _ rfl
 ·have e:b=(s.heap.push {cls:=.type "range",data:=.fields #[.int lo t,.int hi u,.int 1 v]}).objs.size:=by simpa using hb
  subst e;exact I1.qT (ar _) (I1.ao.fresh (ar _))
def DF(ta:TA):TI:=fun σ H R=>ta σ H fun vs H1=>∃j:Int,vs=[.int j]∧-(2 ^ 62)≤j∧j<2 ^ 62∧R (jA 0 j.toNat) H1
def DG(ta:TA):TI:=fun σ H R=>ta σ H fun vs H1=>∃i j:Int,vs=[.int i,.int j]∧(-(2 ^ 62)≤i∧i<2 ^ 62∧-(2 ^ 62)≤j∧j<2 ^ 62)∧R (jA i (j-i).toNat) H1
variable {ta:TA} {p pos:Pos}
theorem mH{a:Expr}(hg:Gl X "range")(hm:X.mg "range"=none)(ha:PA X [a] ta)(hs:starEach [a] X.env=[(false,eval a X.env)]:=by rfl):PI X tg (.Call (.Name "range" p) [a] [] pos) (DF ta):=by
 intro pins s σ H R I h;refine Call_ (jy I hg hm boot_range (ue (aA (ha pos pins s σ H _ I h) fun us s1 ⟨vs,H1,I1,r1,q1⟩=>?_) hs rfl));obtain ⟨j,e,q1,q2,q⟩:=q1;subst e;cases r1 with
 | cons r rr=>cases rr;obtain ⟨t,rfl⟩:=r;exact call_range_1 (yW I1 (by omega) (by omega) q1 q2 (by simpa using q))
theorem DH{a b:Expr}(hg:Gl X "range")(hm:X.mg "range"=none)(ha:PA X [a,b] ta)(hs:starEach [a,b] X.env=[(false,eval a X.env),(false,eval b X.env)]:=by rfl)(qV:starEach [b] X.env=[(false,eval b X.env)]:=by rfl) :
  PI X tg (.Call (.Name "range" p) [a,b] [] pos) (DG ta):=by
 intro pins s σ H R I h;refine Call_ (jy I hg hm boot_range (ue (aA (ha pos pins s σ H _ I h) fun us s1 ⟨vs,H1,I1,r1,q1⟩=>?_) (by rw [hs,qV]) (by rw [qV];rfl)))
 obtain ⟨i,j,e,⟨q1,q2,q3,q4⟩,q⟩:=q1;subst e;cases r1 with
 | cons r rr=>
  cases rr with
  | cons r' rr=>cases rr;obtain ⟨t,rfl⟩:=r;obtain ⟨t',rfl⟩:=r';exact call_range_2 (yW I1 q1 q2 q3 q4 q)
def DI(wi:TI)(g:TG)(tb:TS):TS:=fun D σ H=>wi σ H fun J H1=>∃W:Nat→Nat→St→Hp→Prop,(∃m,W 0 m σ H1)∧∀i m σ H,W i m σ H→
 (J.stop i H∧D.nx σ H)∨(J.go i H∧∃N:St→Hp→Prop,(∀σ' H',N σ' H'→∃m',m'<m∧W (i+1) m' σ' H')∧∀x H',J.cI i H x H'→g x σ H' fun σ2 H2=>tb {D with nx:=N,ct:=N,bk:=D.nx} σ2 H2)
def hJ(fp:List Addr)(h:Heap):List (Addr×Obj):=fp.filterMap fun b=>(h.get? b).map fun o=>(b,o)
variable {fp:List Addr}
theorem jB{o:Obj}(hb:b∈fp)(e:h.get? b=some o):(b,o)∈hJ fp h:=List.mem_filterMap.mpr ⟨b,hb,by rw [e];rfl⟩
theorem DJ{p:Addr×Obj}(hp:p∈hJ fp h):p.1∈fp∧h.get? p.1=some p.2:=by
 obtain ⟨b,hb,e⟩:=List.mem_filterMap.mp hp;cases q:h.get? b with
 | none=>rw [q] at e;cases e
 | some o=>rw [q] at e;have e':(b,o)=p:=Option.some.inj e;subst e';exact ⟨hb,q⟩
theorem Inv.pinned(I:Inv X pins σ H s)(hf:∀b∈fp,iQ X pins H b)(ho:∀b∈fp,∃o,s.heap.get? b=some o∧∀v,o.data≠.cell v):Inv X (pins++hJ fp s.heap) σ H s:=
 I.yz fun p hp=>(dr.mp hp).elim (fun z=>I.pin p (cV _ z)) fun z=>by obtain ⟨hb,e⟩:=DJ z;obtain ⟨f0,f1,f2,_⟩:=hf p.1 hb;obtain ⟨o,e',d⟩:=ho p.1 hb;rw [e] at e';cases e';exact ⟨e,f0,f1,f2,d⟩
theorem Inv.mI{pl:aC}(I:Inv X (pins++pl) σ H s):Inv X pins σ H s:=I.yz fun p hp=>I.pin p (cV _ (qy _ hp))
theorem hU{iter:Expr}{body:List Stmt}{wi:TI}{g:TG}{tb:TS}(hp:PassesOwn (model X.prog X.w) X.A X.env X.xe)(hc:X.calm=true)(hi:PI X tg iter wi)(hg:PG X tg g)(hb:dG X body tb)
  (hs:∀x,foldedSetIterable iter X.env x=pure x:=by intro _;rfl):PS X (.For tg iter body [] pos) (DI wi g tb):=by
 intro pins s σ H D I h;refine wpAny_For (aA (hi pins s σ H _ I h) fun v s1 h1=>aA h1 fun oO s2 h2=>?_) hs;obtain ⟨it,fp,tn,J,H2,e,I2,T,fv,f2,W,⟨m0,w0⟩,turn⟩:=h2;subst e;have d7:∀{H':Hp},(∀b∈fp,H' b=none)→∀b∈fp,iQ X pins H' b:=fun hn b hb=>⟨hn b hb,(f2 b hb).2⟩;refine codeAny_forLoop_any (fun n s'=>∃i σ' H',Inv X pins σ' H' s'∧tn i s'.heap∧(∀b∈fp,H' b=none)∧W i n σ' H') ?_ m0 ⟨0,σ,H2,I2,fv,fun b hb=>(f2 b hb).1,w0⟩;rintro n s3 ⟨i,σ3,H3,I3,yX,yY,w3⟩;rcases turn i n σ3 H3 w3 with ⟨stop,qn⟩ | ⟨go,N,hN,step⟩
 ·refine kg hp (aA (T.done X rfl rfl rfl hc i pins s3 σ3 H3 X.xe I3 (d7 yY) yX stop) fun r s4 ⟨hr,I4⟩=>?_)
  subst hr;exact l9 ⟨σ3,H3,I4,qn⟩
 ·refine kg hp (aA (T.item X rfl rfl rfl hc i pins s3 σ3 H3 X.xe I3 (d7 yY) yX go) fun r s4 ⟨u,hr,h4⟩=>?_)
  subst hr;refine kg hp (aA h4 fun _ s5 ⟨x,H5,I5,r5,y5,d8,kH⟩=>?_);have kJ:=I5.pinned (d7 kH) (T.obj _ _ d8);refine kg hp (aA (hg _ s5 σ3 H5 x u _ kJ r5 (step x H5 y5)) fun _ s6 ⟨σ6,H6,I6,q6⟩=>?_);refine kg hp (aA (hb _ s6 σ6 H6 _ I6 q6) fun f s7 q7=>?_);have again:∀{σ7:St} {H7:Hp},Inv X (pins++hJ fp s5.heap) σ7 H7 s7→N σ7 H7→∃m,m<n∧∃i σ' H',Inv X pins σ' H' s7∧tn i s7.heap∧(∀b∈fp,H' b=none)∧W i m σ' H':=fun{σ7 H7} I7 n7=>by obtain ⟨m',hm,w7⟩:=hN σ7 H7 n7;refine ⟨m',hm,i+1,σ7,H7,I7.mI,T.keep _ _ _ d8 fun b hb o e=>(I7.pin (b,o) (cV _ (cV _ (jB hb e)))).1,fun b hb=>?_,w7⟩;obtain ⟨o,e,d⟩:=T.obj _ _ d8 b hb;exact (I7.pin (b,o) (cV _ (cV _ (jB hb e)))).2.1
  cases f with
  | next=>obtain ⟨σ7,H7,I7,n7⟩:=q7;exact again I7 n7
  | cont=>obtain ⟨σ7,H7,I7,n7⟩:=q7;exact again I7 n7
  | brk=>obtain ⟨σ7,H7,I7,q7⟩:=q7;exact ⟨σ7,H7,I7.mI,q7⟩
  | ret v=>obtain ⟨x7,σ7,H7,I7,r7,q7⟩:=q7;exact ⟨x7,σ7,H7,I7.mI,r7,q7⟩
end
variable {g:TG} {tb:TS} {D:Ends}
theorem yZ(Pv:Nat→St→Hp→Prop)(h0:Pv 0 σ H)(hl:∀i σ H,i≤xs.length→Pv i σ H→bL K H a xs)
  (hs:∀i x σ H,xs[i]?=some x→Pv i σ H→g x σ H fun σ2 H2=>tb {D with nx:=Pv (i+1),ct:=Pv (i+1),bk:=D.nx} σ2 H2) (hd:∀σ H,Pv xs.length σ H→D.nx σ H) :
  ∃W:Nat→Nat→St→Hp→Prop,(∃m,W 0 m σ H)∧∀i m σ H,W i m σ H→
   ((jz K a).stop i H∧D.nx σ H)∨((jz K a).go i H∧∃N:St→Hp→Prop,(∀σ' H',N σ' H'→∃m',m'<m∧W (i+1) m' σ' H')∧∀x H',(jz K a).cI i H x H'→g x σ H' fun σ2 H2=>tb {D with nx:=N,ct:=N,bk:=D.nx} σ2 H2):=by
 refine ⟨fun i m σ H=>m=xs.length-i∧i≤xs.length∧Pv i σ H,⟨xs.length,by simp,bK _,h0⟩,?_⟩
 rintro i m σ H ⟨rfl,hi,p⟩;have q:=hl i σ H hi p;by_cases aX:i<xs.length
 ·refine .inr ⟨⟨xs,xs[i],q,by simp [aX]⟩,Pv (i+1),fun σ' H' p'=>⟨xs.length-(i+1),by omega,rfl,aX,p'⟩,fun x H' y=>?_⟩
  obtain ⟨e,y⟩:=y;subst e;exact hs i x σ _ (y xs q) p
 ·have e:i=xs.length:=by omega
  subst e;exact .inl ⟨⟨xs,q,ar _⟩,hd σ H p⟩
theorem DK(Pv:Nat→St→Hp→Prop)(h0:Pv 0 σ H)(hl:∀i σ H,i≤xs.length→Pv i σ H→cE K H a xs)
  (hs:∀i x σ H,xs[i]?=some x→Pv i σ H→g x σ H fun σ2 H2=>tb {D with nx:=Pv (i+1),ct:=Pv (i+1),bk:=D.nx} σ2 H2) (hd:∀σ H,Pv xs.length σ H→D.nx σ H) :
  ∃W:Nat→Nat→St→Hp→Prop,(∃m,W 0 m σ H)∧∀i m σ H,W i m σ H→
   ((oP K a).stop i H∧D.nx σ H)∨((oP K a).go i H∧∃N:St→Hp→Prop,(∀σ' H',N σ' H'→∃m',m'<m∧W (i+1) m' σ' H')∧∀x H',(oP K a).cI i H x H'→g x σ H' fun σ2 H2=>tb {D with nx:=N,ct:=N,bk:=D.nx} σ2 H2):=by
 refine ⟨fun i m σ H=>m=xs.length-i∧i≤xs.length∧Pv i σ H,⟨xs.length,by simp,bK _,h0⟩,?_⟩
 rintro i m σ H ⟨rfl,hi,p⟩;have q:=hl i σ H hi p;by_cases aX:i<xs.length
 ·refine .inr ⟨⟨xs,xs[i],q,by simp [aX]⟩,Pv (i+1),fun σ' H' p'=>⟨xs.length-(i+1),by omega,rfl,aX,p'⟩,fun x H' y=>?_⟩
  obtain ⟨e,y⟩:=y;subst e;exact hs i x σ _ (y xs q) p
 ·have e:i=xs.length:=by omega
  subst e;exact .inl ⟨⟨xs,q,ar _⟩,hd σ H p⟩
variable {n:Nat}
theorem oQ{lo:Int}(Pv:Nat→St→Hp→Prop)(h0:Pv 0 σ H)
  (hs:∀i σ H,i<n→Pv i σ H→g (.int (lo+i)) σ H fun σ2 H2=>tb {D with nx:=Pv (i+1),ct:=Pv (i+1),bk:=D.nx} σ2 H2) (hd:∀σ H,Pv n σ H→D.nx σ H) :
  ∃W:Nat→Nat→St→Hp→Prop,(∃m,W 0 m σ H)∧∀i m σ H,W i m σ H→
   ((jA lo n).stop i H∧D.nx σ H)∨((jA lo n).go i H∧∃N:St→Hp→Prop,(∀σ' H',N σ' H'→∃m',m'<m∧W (i+1) m' σ' H')∧∀x H',(jA lo n).cI i H x H'→g x σ H' fun σ2 H2=>tb {D with nx:=N,ct:=N,bk:=D.nx} σ2 H2):=by
 refine ⟨fun i m σ H=>m=n-i∧i≤n∧Pv i σ H,⟨n,by simp,bK _,h0⟩,?_⟩
 rintro i m σ H ⟨rfl,hi,p⟩;by_cases aX:i<n
 ·refine .inr ⟨aX,Pv (i+1),fun σ' H' p'=>⟨n-(i+1),by omega,rfl,aX,p'⟩,fun x H' y=>?_⟩
  obtain ⟨e,y⟩:=y;subst e y;exact hs i σ _ aX p
 ·have e:i=n:=by omega
  subst e;exact .inl ⟨ar _,hd σ H p⟩
abbrev R2:=V→V→Hp→VK→Prop
def cg(X:Cx)(f:Value→Value→Sem Value)(r:R2):Prop:=
 ∀(pins:aC) (s:Shared) (σ:St) (H:Hp) (x y:V) (v u:Value) (Q:VK),Inv X pins σ H s→RelV x v→RelV y u→r x y H Q→
  wpAny (model X.prog X.w) X.A (f v u) (EP X pins σ Q) X.xe s
def fz(X:Cx)(f:Value)(r:List V→Hp→VK→Prop):Prop:=
 ∀(pins:aC) (s:Shared) (σ:St) (H:Hp) (xs:List V) (us:List Value) (Q:VK),Inv X pins σ H s→Vals xs us→r xs H Q→
  wpAny (model X.prog X.w) X.A (call f us) (EP X pins σ Q) X.xe s
def kK(r:R2)(ta tb:TE):TE:=fun σ H Q=>ta σ H fun x H1=>tb σ H1 fun y H2=>r x y H2 Q
def rI(C:Int→Int→Prop)(g:Int→Int→V):R2:=fun x y H Q=>∃i j,x=.int i∧y=.int j∧C i j∧Q (g i j) H
def kL(g:Int→Int→V):R2:=fun x y H Q=>∃i j,x=.int i∧y=.int j∧Q (g i j) H
section
variable {X:Cx} {a b c:Expr} {ta tb tc:TE} {pos:Pos}
variable {f:Value→Value→Sem Value}
theorem uP(ha:PE X a ta)(hb:PE X b tb){pins:aC}{R:V→V→Hp→Prop}(I:Inv X pins σ H s)
  (h:ta σ H fun x H1=>tb σ H1 fun y H2=>R x y H2) {Q:aw}
  (hf:∀v u s2 x y H2,Inv X pins σ H2 s2→RelV x v→RelV y u→R x y H2→wpAny (model X.prog X.w) X.A (f v u) Q X.xe s2) :
  wpAny (model X.prog X.w) X.A (eval a X.env) (fun v s₁=>wpAny (model X.prog X.w) X.A (eval b X.env) (fun u s₂=>wpAny (model X.prog X.w) X.A (f v u) Q X.xe s₂) X.xe s₁) X.xe s:=by
 refine aA (ha pins s σ H _ I h) fun v s1 ⟨x,H1,I1,r1,q1⟩=>?_;refine aA (hb pins s1 σ H1 _ I1 q1) fun u s2 ⟨y,H2,I2,r2,q2⟩=>?_;exact hf v u s2 x y H2 I2 r1 r2 q2
theorem bo{op:Operator}{r:R2}(ho:cg X (binaryOp op) r)(ha:PE X a ta)(hb:PE X b tb):PE X (.BinOp a op b pos) (kK r ta tb):=by intro pins s σ H Q I h;exact wpAny_BinOp (uP ha hb I h fun v u s2 x y H2 I2 rx ry q=>ho pins s2 σ H2 x y v u Q I2 rx ry q)
theorem qW{C:Int→Int→Prop}{g:Int→Int→Int}
  (rule:∀(i j:Int) (t u:Tok) (s:Shared) (Q:aw) (E:aw),C i j→Q (.int (g i j) s.toks) {s with toks:=s.toks+1}→wpAny (model X.prog X.w) X.A (f (.int i t) (.int j u)) Q E s) :
  cg X f (rI C fun i j=>.int (g i j)):=by
 intro pins s σ H x y v u Q I rx ry h;obtain ⟨i,j,rfl,rfl,hc,q⟩:=h;obtain ⟨t,rfl⟩:=rx;obtain ⟨t',rfl⟩:=ry;exact rule i j t t' s _ _ hc ⟨.int (g i j),H,I.tok _,⟨_,rfl⟩,q⟩
theorem y4{g:Int→Int→Int}
  (rule:∀(i j:Int) (t u:Tok) (s:Shared) (Q:aw) (E:aw),Q (.int (g i j) s.toks) {s with toks:=s.toks+1}→wpAny (model X.prog X.w) X.A (f (.int i t) (.int j u)) Q E s) :
  cg X f (kL fun i j=>.int (g i j)):=by
 intro pins s σ H x y v u Q I rx ry h;obtain ⟨i,j,rfl,rfl,q⟩:=h;obtain ⟨t,rfl⟩:=rx;obtain ⟨t',rfl⟩:=ry;exact rule i j t t' s _ _ ⟨.int (g i j),H,I.tok _,⟨_,rfl⟩,q⟩
theorem uQ{g:Int→Int→Bool}
  (rule:∀(i j:Int) (t u:Tok) (s:Shared) (Q:aw) (E:aw),Q (.bool (g i j)) s→wpAny (model X.prog X.w) X.A (f (.int i t) (.int j u)) Q E s) :
  cg X f (kL fun i j=>.bl (g i j)):=by
 intro pins s σ H x y v u Q I rx ry h;obtain ⟨i,j,rfl,rfl,q⟩:=h;obtain ⟨t,rfl⟩:=rx;obtain ⟨t',rfl⟩:=ry;exact rule i j t t' s _ _ ⟨.bl (g i j),H,I,rfl,q⟩
def DL(i j:Int):Prop:=0≤j∧j≤1000000∧i.natAbs<2 ^ 64
def uR(i j:Int):Prop:=(-(2 ^ 64)<i∧i<2 ^ 64)∨(-(2 ^ 64)<j∧j<2 ^ 64)
theorem uR.ok{i j:Int}(h:uR i j):IntMulOk i j:=by
 rcases h with ⟨h1,h2⟩ | ⟨h1,h2⟩;·exact .of_left (intBits_le_64 h1 h2)
 ·exact .of_right (intBits_le_64 h1 h2)
theorem fA:cg X (binaryOp .Add) (kL fun i j=>.int (i+j)):=y4 fun _ _ _ _ _ _ _ q=>add_int q
theorem uS:cg X (binaryOp .Sub) (kL fun i j=>.int (i-j)):=y4 fun _ _ _ _ _ _ _ q=>sub_int q
theorem gA:cg X (binaryOp .Mult) (rI uR fun i j=>.int (i*j)):=qW fun _ _ _ _ _ _ _ hc q=>mul_int q hc.ok
theorem kM:cg X (binaryOp .Mod) (rI (fun _ j=>0<j) fun i j=>.int (i % j)):=qW fun i j _ _ _ _ _ hc q=>by have h1:(0:Int)<j:=hc;exact mod_int' (by omega) (by rw [Int.fmod_eq_emod_of_nonneg i (by omega)];exact q)
theorem DM:cg X (binaryOp .Pow) (rI DL fun i j=>.int (i ^ j.toNat)):=qW fun _ _ _ _ _ _ _ hc q=>pow_int_small hc.1 hc.2.1 hc.2.2 q
end
def y6:V→V→Bool
 | .aI,.aI=>true | .aI,.int _=>true | .int _,.aI=>true | .aI,.bl _=>true | .bl _,.aI=>true | .aI,.str _=>true | .str _,.aI=>true
 | .int _,.int _=>true | .bl _,.bl _=>true | .str _,.str _=>true | .gv _,.gv _=>true
 | .int _,.str _=>true | .str _,.int _=>true | .bl _,.str _=>true | .str _,.bl _=>true
 | _,_=>false
def DN:R2:=fun x y H Q=>y6 x y=true∧Q (.bl (decide (x=y))) H
def DO:R2:=fun x y H Q=>y6 x y=true∧Q (.bl (!decide (x=y))) H
theorem y7{i j:Int}:decide (V.int i=V.int j)=(i == j):=by rw [ma];simp
theorem y8{i j:Bool}:decide (V.bl i=V.bl j)=(i == j):=by rw [ma];simp
theorem y9{i j:Str}:decide (V.str i=V.str j)=(i == j):=by rw [ma];simp
theorem y_{i j:Array UInt8}:decide (V.gv i=V.gv j)=(i.toList == j.toList):=by rw [ma];cases i;cases j;simp
section
variable {X:Cx} {a b c:Expr} {ta tb tc:TE} {pos:Pos}
theorem bV{pins:aC}{Q:VK}{k k':Bool}(I:Inv X pins σ H s)(q:Q (.bl k) H)(e:k=k'):EP X pins σ Q (.bool k') s:=by subst e;exact ⟨.bl k,H,I,rfl,q⟩
theorem hV:cg X (compareOp .Eq) DN:=by
 intro pins s σ H x y v u Q I rx ry h;obtain ⟨hs,q⟩:=h;cases x with
 | aI=>
  cases rx;cases y with
  | aI=>cases ry;exact PySem.EqNone.eq_none_none (bV I q (by simp))
  | bl j=>cases ry;exact PySem.EqNone.eq_none_bool (bV I q (by simp))
  | int j=>obtain ⟨t',rfl⟩:=ry;exact PySem.EqNone.eq_none_int (bV I q (by simp))
  | str j=>obtain ⟨t',rfl⟩:=ry;exact PySem.EqNone.eq_none_str (bV I q (by simp))
  | _=>exact absurd (show false=true from hs) b_
 | bl i=>
  cases rx;cases y with
  | aI=>cases ry;exact PySem.EqNone.eq_bool_none (bV I q (by simp))
  | bl j=>cases ry;exact eq_bool (bV I q y8)
  | str j=>obtain ⟨t',rfl⟩:=ry;exact PySem.EqMixed.eq_bool_str (bV I q (by simp))
  | _=>exact absurd (show false=true from hs) b_
 | int i=>
  obtain ⟨t,rfl⟩:=rx;cases y with
  | aI=>cases ry;exact PySem.EqNone.eq_int_none (bV I q (by simp))
  | int j=>obtain ⟨t',rfl⟩:=ry;exact eq_int (bV I q y7)
  | str j=>obtain ⟨t',rfl⟩:=ry;exact PySem.EqMixed.eq_int_str (bV I q (by simp))
  | _=>exact absurd (show false=true from hs) b_
 | str i=>
  obtain ⟨t,rfl⟩:=rx;cases y with
  | aI=>cases ry;exact PySem.EqNone.eq_str_none (bV I q (by simp))
  | bl j=>cases ry;exact PySem.EqMixed.eq_str_bool (bV I q (by simp))
  | int j=>obtain ⟨t',rfl⟩:=ry;exact PySem.EqMixed.eq_str_int (bV I q (by simp))
  | str j=>obtain ⟨t',rfl⟩:=ry;exact eq_str (bV I q y9)
  | _=>exact absurd (show false=true from hs) b_
 | gv i=>
  obtain ⟨t,rfl⟩:=rx;cases y with
  | gv j=>obtain ⟨t',rfl⟩:=ry;exact PySem.W.eq_bytes (bV I q y_)
  | _=>exact absurd (show false=true from hs) b_
 | _=>cases y <;> exact absurd (show false=true from hs) b_
theorem uT:cg X (compareOp .NotEq) DO:=by
 intro pins s σ H x y v u Q I rx ry h;obtain ⟨hs,q⟩:=h;cases x with
 | aI=>
  cases rx;cases y with
  | aI=>cases ry;exact PySem.EqNone.ne_none_none (bV I q (by simp))
  | bl j=>cases ry;exact PySem.EqNone.ne_none_bool (bV I q (by simp))
  | int j=>obtain ⟨t',rfl⟩:=ry;exact PySem.EqNone.ne_none_int (bV I q (by simp))
  | str j=>obtain ⟨t',rfl⟩:=ry;exact PySem.EqNone.ne_none_str (bV I q (by simp))
  | _=>exact absurd (show false=true from hs) b_
 | bl i=>
  cases rx;cases y with
  | aI=>cases ry;exact PySem.EqNone.ne_bool_none (bV I q (by simp))
  | bl j=>cases ry;exact ne_bool (bV I q (eN not y8))
  | str j=>obtain ⟨t',rfl⟩:=ry;exact PySem.EqMixed.ne_bool_str (bV I q (by simp))
  | _=>exact absurd (show false=true from hs) b_
 | int i=>
  obtain ⟨t,rfl⟩:=rx;cases y with
  | aI=>cases ry;exact PySem.EqNone.ne_int_none (bV I q (by simp))
  | int j=>obtain ⟨t',rfl⟩:=ry;exact ne_int (bV I q (eN not y7))
  | str j=>obtain ⟨t',rfl⟩:=ry;exact PySem.EqMixed.ne_int_str (bV I q (by simp))
  | _=>exact absurd (show false=true from hs) b_
 | str i=>
  obtain ⟨t,rfl⟩:=rx;cases y with
  | aI=>cases ry;exact PySem.EqNone.ne_str_none (bV I q (by simp))
  | bl j=>cases ry;exact PySem.EqMixed.ne_str_bool (bV I q (by simp))
  | int j=>obtain ⟨t',rfl⟩:=ry;exact PySem.EqMixed.ne_str_int (bV I q (by simp))
  | str j=>obtain ⟨t',rfl⟩:=ry;exact ne_str (bV I q (eN not y9))
  | _=>exact absurd (show false=true from hs) b_
 | gv i=>
  obtain ⟨t,rfl⟩:=rx;cases y with
  | gv j=>obtain ⟨t',rfl⟩:=ry;exact PySem.W.ne_bytes (bV I q (eN not y_))
  | _=>exact absurd (show false=true from hs) b_
 | _=>cases y <;> exact absurd (show false=true from hs) b_
theorem qX:cg X (compareOp .Lt) (kL fun i j=>.bl (decide (i<j))):=uQ fun _ _ _ _ _ _ _ q=>lt_int q
theorem oR:cg X (compareOp .Gt) (kL fun i j=>.bl (decide (j<i))):=uQ fun _ _ _ _ _ _ _ q=>gt_int q
theorem DP:cg X (compareOp .GtE) (kL fun i j=>.bl (decide (j≤i))):=uQ fun _ _ _ _ _ _ _ q=>ge_int q
variable {op:CmpOp}
theorem za(b:Expr)(h:op≠.In:=by decide)(h2:op≠.NotIn:=by decide):behindInMarks op b=false:=by
 have e1:(op == CmpOp.In)=false:=by cases op <;> first | rfl | exact absurd rfl h
 have e2:(op == CmpOp.NotIn)=false:=by cases op <;> first | rfl | exact absurd rfl h2
 cases b <;> simp [behindInMarks,e1,e2]
variable {r:R2}
theorem DQ(ho:cg X (compareOp op) r)(ha:PE X a ta)(hb:PE X b tb)(hm:behindInMarks op b=false):PE X (.Compare a [op] [b] pos) (kK r ta tb):=by intro pins s σ H Q I h;exact wpAny_Compare1 (uP ha hb I h fun v u s2 x y H2 I2 rx ry q=>ho pins s2 σ H2 x y v u Q I2 rx ry q) hm
theorem zb(ho:cg X (compareOp op) r)(ha:PE X a ta)(hb:PE X b tb)(hm:behindInMarks op b=false:=by exact za _):PE X (.Compare a [op] [b] pos) (kK r ta tb):=DQ ho ha hb hm
def zc(t:TE):TT:=fun σ H Q=>t σ H fun x H'=>∃k,x=.bl k∧Q k H'
theorem qY(ho:cg X (compareOp op) r)(ha:PE X a ta)(hb:PE X b tb)(hm:behindInMarks op b=false):PT X (.Compare a [op] [b] pos) (zc (kK r ta tb)):=by intro pins s σ H Q I h;refine wpAny_isTrue_Compare1 (aA (ha pins s σ H _ I h) fun v s1 ⟨x,H1,I1,r1,q1⟩=>aA (hb pins s1 σ H1 _ I1 q1) fun u s2 ⟨y,H2,I2,r2,q2⟩=>aA (ho pins s2 σ H2 x y v u _ I2 r1 r2 q2) fun c s3 ⟨z,H3,I3,r3,k,e,q3⟩=>?_) hm;subst e;cases r3;exact ke ⟨H3,I3,q3⟩
theorem cR(ho:cg X (compareOp op) r)(ha:PE X a ta)(hb:PE X b tb)(hm:behindInMarks op b=false:=by exact za _):PT X (.Compare a [op] [b] pos) (zc (kK r ta tb)):=qY ho ha hb hm
theorem qZ:(sizeLine:Nat)<2 ^ 63:=by rw [gm];decide
theorem vals1(r:Vals [x] us):∃u,us=[u]∧RelV x u:=by
 cases r with
 | cons r1 r2=>cases r2;exact ⟨_,rfl,r1⟩
theorem vals2{y:V}(r:Vals [x,y] us):∃u w',us=[u,w']∧RelV x u∧RelV y w':=by
 cases r with
 | cons r1 r2=>
  cases r2 with
  | cons r3 r4=>cases r4;exact ⟨_,_,rfl,r1,r3⟩
end
structure uU (h:Heap) (x dx C:Addr) (mA:bT):Prop where
 obj:h.get? x=some (PySem.W.instObj C dx)
 ns:h.Ns1 dx mA
 ne:dx≠x
variable {dx:Addr} {mA:bT}
theorem DR(n:h.Ns1 dx mA):∃od,h.get? dx=some od∧∀name,PySem.W.lookIn name od=some (mA name):=by
 obtain ⟨o,es,ep,ho,hd,hk,_,hm⟩:=n;refine ⟨o,ho,fun name=>?_⟩;have e:=hm name;unfold nsFind findBy at e;rw [←Array.find?_toList] at e;unfold PySem.W.lookIn;rw [hd];dsimp only
 split
 ·rename_i y q
  rw [q] at e;exact eN some e
 ·rename_i q
  rw [q] at e;have a:es.toList.any (·.refKey)=false:=by rw [List.any_eq_false];intro y hy;obtain ⟨z,t,DS⟩:=hk y (Array.mem_toList_iff.mp hy);simp [DictEntry.refKey,DS]
  have a':¬es.toList.any (·.refKey)=true:=by rw [a];exact b_
  rw [aa a'];exact eN some e
theorem uU.look{x C:Addr}(I:uU h x dx C mA):∃od,PySem.W.InstAt h x (PySem.W.instObj C dx) C (some od)∧∀name,PySem.W.lookIn name od=some (mA name):=
 let ⟨od,ho,hl⟩:=DR I.ns
 ⟨od,⟨I.obj,rfl,rfl,ho⟩,hl⟩
section
variable {prog:Program} {w:World} {A:Around} {E:aw} {s:Shared} {K:aB} {x dx C f:Addr} {mA:bT} {name:Str} {v:Value}
end
theorem gw.some_of{v:V}{o:Option Value}(r:gw (some v) o):∃u,o=some u∧RelV v u:=by
 cases o with
 | none=>exact (show False from r).elim
 | some u=>exact ⟨u,rfl,r⟩
section
variable {P:Program} {w:World} {H H':Hp} {h h':Heap} {a C dx:Addr} {fs uy:List (Str×V)}
theorem DT(ao:bw P w H h)(e:H a=some (.ins C dx fs)):∃mA,uU h a dx C mA∧(∀f,gw (fs.lookup f) (mA f))∧PySem.Within mA (fs.map (·.1))∧fs.length≤1000∧H dx=some (.own a):=by obtain ⟨d,z,ne,ob,mA,n,r,q⟩:=(show bj P w H h a (.ins C dx fs) from ao a _ e);exact ⟨mA,⟨ob,n,ne⟩,r,q,z,d⟩
end
structure uV (K:aB) (C:Addr):Prop where
 pg:PySem.W.plainGet K C Str.empty=true
 hd:PySem.W.hasDictIn K C=true
 po:PySem.W.plainOver K C=true
 sa:PySem.W.findIn K (.ref C) "__setattr__"=some (some (.builtin "object.__setattr__"))
theorem uV.get{K:aB}{C:Addr}(c:uV K C)(f:Str):PySem.W.plainGet K C f=true:=c.pg
section
variable {X:Cx} {pins:aC} {σ:St} {H:Hp} {s:Shared} {a C dx:Addr} {fs:List (Str×V)} {f:Str} {v:V} {A:Around} {E:aw}
end
section
variable {X:Cx} {o e value:Expr} {f:Str} {pos pos' zd:Pos} {ta tv:TE}
end
section
variable {X:Cx} {pins:aC} {σ:St} {H:Hp} {s:Shared} {A:Around} {E:aw} {Q:aw} {c:Value} {b:Bool}
inductive fB (K:aB) (H:Hp):V→Value→Prop where
 | aI:fB K H .aI (.type "NoneType")
 | bl (x:Bool):fB K H (.bl x) (.type "bool")
 | int (i:Int):fB K H (.int i) (.type "int")
 | str (x:Str):fB K H (.str x) (.type "str")
 | mB (x:UInt64):fB K H (.mB x) (.type "float")
 | lst {a:Addr} {xs:List V} (e:H a=some (.lst xs)):fB K H (.ref a) (.type "list")
 | bh {a:Addr} {o:Obj} {xs:List V} (e:H a=some (.bh o (.lst xs))):fB K H (.ref a) (.type "list")
 | tup {a:Addr} {xs:List V} (e:H a=some (.tup xs)):fB K H (.ref a) (.type "tuple")
 | dK {a:Addr} {kvs:List (Key×V)} (e:H a=some (.dK kvs)):fB K H (.ref a) (.type "dict")
 | dT {a:Addr} {kvs:List (List Key×V)} (e:H a=some (.dT kvs)):fB K H (.ref a) (.type "dict")
 | ins {a C dx:Addr} {fs:List (Str×V)} (e:H a=some (.ins C dx fs)) (cl:uV K C) (ha:PySem.W.findIn K (.ref C) "__class__"=some (some (.builtin "object.__class__")))
   (hn:PySem.W.specialIn K (.builtin "object.__class__") "__get__"=some (some (.builtin "getset_descriptor.__get__"))) (ze:PySem.W.takesIn K (.builtin "object.__class__")=some true)
   (hm:PySem.W.mroIn K C (.type "object")=some true):fB K H (.ref a) (.ref C)
theorem DU{t:Value}(I:Inv X pins σ H s)(rx:RelV x u)(ty:fB X.K H x t)(e:PySem.W.kitOne X.K t c=some b)(h:∀tk,Q (.bool b) {s with toks:=tk}) :
  wpAny (model X.prog X.w) A (call (.builtin "isinstance") [u,c]) Q E s:=by
 cases ty with
 | aI=>cases (show u=Value.none from rx);exact fj PySem.W.kitx_none I.cz True.intro e (fun z=>nomatch z) h
 | bl y=>cases (show u=Value.bool y from rx);exact fj PySem.W.kitx_bool I.cz True.intro e (fun z=>nomatch z) h
 | int i=>obtain ⟨t,q⟩:=(show ∃t,u=Value.int i t from rx);cases q;exact fj PySem.W.kitx_int I.cz True.intro e (fun z=>nomatch z) h
 | str y=>obtain ⟨t,q⟩:=(show ∃t,u=Value.str y t from rx);cases q;exact fj PySem.W.kitx_str I.cz True.intro e (fun z=>nomatch z) h
 | mB y=>obtain ⟨t,q⟩:=(show ∃t,u=Value.float y t from rx);cases q;exact fj PySem.W.kitx_float I.cz True.intro e (fun z=>nomatch z) h
 | @lst a xs ea=>cases (show u=Value.ref a from rx);obtain ⟨_,_,n,_,h1⟩:=(show bj X.prog X.w H s.heap a (.lst xs) from I.ao a _ ea);exact fj PySem.W.kitx_list I.cz ⟨_,h1,rfl⟩ e (fun z=>nomatch z) h
 | @bh a ob xs ea=>cases (show u=Value.ref a from rx);obtain ⟨_,_,_,n,_,h1⟩:=(show bj X.prog X.w H s.heap a (.bh ob (.lst xs)) from I.ao a _ ea);exact fj PySem.W.kitx_list I.cz ⟨_,h1,rfl⟩ e (fun z=>nomatch z) h
 | @tup a xs ea=>cases (show u=Value.ref a from rx);obtain ⟨_,_,_,p⟩:=(show bj X.prog X.w H s.heap a (.tup xs) from I.ao a _ ea);obtain ⟨o,h1,h2,_⟩:=p;exact fj PySem.W.kitx_tuple I.cz ⟨o,h1,h2⟩ e (fun z=>nomatch z) h
 | @dK a kvs ea=>cases (show u=Value.ref a from rx);obtain ⟨_,_,vs,_,p⟩:=(show bj X.prog X.w H s.heap a (.dK kvs) from I.ao a _ ea);obtain ⟨o,es,ep,h1,h2,_⟩:=p;exact fj PySem.W.kitx_dict I.cz ⟨o,h1,h2.1⟩ e (fun z=>nomatch z) h
 | @dT a kvs ea=>cases (show u=Value.ref a from rx);obtain ⟨_,_,xs,_,o,es,ep,h1,h2,_⟩:=(show bj X.prog X.w H s.heap a (.dT kvs) from I.ao a _ ea);exact fj PySem.W.kitx_dict I.cz ⟨o,h1,h2.1⟩ e (fun z=>nomatch z) h
 | @ins a C dx fs ea cl ha hn ze hm=>cases (show u=Value.ref a from rx);obtain ⟨mA,O,_⟩:=DT I.ao ea;obtain ⟨od,J,_⟩:=O.look;exact fj (PySem.W.kitx_own (cl.get _) cl.hd ha hn ze hm) I.cz J e (fun z=>nomatch z) h
end
structure cF (k:Nat) (A:Around):Prop where
 hd:A.handled=none
 dp:A.depth+3*k+5<recursionLimit
 un:A.units+16*k+200<cLine
variable {k:Nat}
theorem cF.mono{j:Nat}(r:cF k A)(h:j≤k):cF j A:=⟨r.hd,by have:=r.dp;omega,by have:=r.un;omega⟩
theorem cF.deeper(r:cF (k+1) A)(env:Env):cF k (A.deeper env):=
 ⟨r.hd,by have:=r.dp;show A.depth+1+3*k+5<_;omega,by have:=r.un;show A.units+3+16*k+200<_;omega⟩
theorem cF.depth(r:cF k A):A.depth<recursionLimit:=by have:=r.dp;omega
theorem cF.units(r:cF k A):A.units+64<cLine:=by have:=r.un;omega
def zf:TA:=fun _ H Q=>Q [] H
def q5(ta:TE)(tr:TA):TA:=fun σ H Q=>ta σ H fun x H1=>tr σ H1 fun xs H2=>Q (x::xs) H2
section
variable {X:Cx} {e:Expr} {es:List Expr} {te:TE} {t:TA} {pos:Pos}
theorem aq:PA X [] zf:=fun _ _ _ _ H Q I h=>Calls.spliced_nil ⟨[],H,I,.nil,h⟩
theorem DV(ha:PE X e te)(hr:PA X es t)(hs:starEach (e::es) X.env=(false,eval e X.env)::starEach es X.env:=by rfl):PA X (e::es) (q5 te t):=by intro pos pins s σ H Q I h;rw [hs];show wpAny _ _ (spliced ((false,eval e X.env)::backTo pos (starEach es X.env))) _ _ s;refine Calls.spliced_cons (aA (ha pins s σ H _ I h) fun u s1 ⟨x,H1,I1,r1,q1⟩=>?_);exact aA (hr pos pins s1 σ H1 _ I1 q1) fun us s2 ⟨xs,H2,I2,r2,q2⟩=>⟨x::xs,H2,I2,.cons r1 r2,q2⟩
def DW(t:TA):TE:=fun σ H Q=>t σ H fun xs H1=>xs.length≤sizeLine∧∀p,H1 p=none→Q (.ref p) (upd H1 p (.tup xs))
def DX(t:TA):TE:=fun σ H Q=>t σ H fun xs H1=>xs.length≤sizeLine∧∀p,H1 p=none→Q (.ref p) (upd H1 p (.lst xs))
theorem di{x1}(h:PA X es t):PE X (.Tuple es x1 pos) (DW t):=by
 intro pins s σ H Q I hq;refine wpAny_Tuple_spliced (aA (h pos pins s σ H _ I hq) fun us s1 ⟨xs,H1,I1,r,z,q⟩=>⟨by rw [←r.length];exact z,?_⟩)
 have hf:H1 s1.heap.objs.size=none:=I1.ao.fresh (ar _);refine ⟨.ref s1.heap.objs.size,upd H1 s1.heap.objs.size (.tup xs),I1.laid (t':=s1.toks) (fun b u e=>bA _ e) (ar _) ?_,rfl,q _ hf⟩;exact ⟨z,us,r,⟨_,cP _ rfl,rfl,_,rfl⟩⟩
theorem hX(h:PA X es t):PE X (.List es pos) (DX t):=by
 intro pins s σ H Q I hq;refine wpAny_List_spliced (aA (h pos pins s σ H _ I hq) fun us s1 ⟨xs,H1,I1,r,z,q⟩=>⟨by rw [←r.length];exact z,?_⟩)
 have hf:H1 s1.heap.objs.size=none:=I1.ao.fresh (ar _);refine ⟨.ref s1.heap.objs.size,upd H1 s1.heap.objs.size (.lst xs),I1.laid (t':=s1.toks) (fun b u e=>bA _ e) (ar _) ?_,rfl,q _ hf⟩;exact ⟨z,us,0,r,cP _ rfl⟩
end
abbrev Sp:=List V→Hp→VK→XK→Prop
abbrev d9:=List Env→Hp→Shared→XK→Value→Shared→Prop
structure q8 (P:Program) (w:World) (K:aB) (mg:bT) (base:Heap) (A:Around) (outer:List Env) (s:Shared) (H:Hp):Prop where
 frames:A.frames=some outer
 mod:Mod K mg base
 bs:∀b o,base.get? b=some o→s.heap.get? b=some o∧H b=none
 fu:base.objs.size≤s.heap.objs.size
 fS:s.heap.FunFrames base outer
 iO:∀b∈bI outer,H b=none
 ao:bw P w H s.heap
 bare:AllBare s.gens
def CE(outer:List Env)(P:Program)(w:World)(H:Hp)(s:Shared)(Q:VK)(u:Value)(s':Shared):Prop:=
 ∃v H',s'.os=s.os∧AllBare s'.gens∧Un (bI outer) [] H H' s.heap s'.heap∧bw P w H' s'.heap∧RelV v u∧Q v H'
def CR(CX:d9)(outer:List Env)(P:Program)(w:World)(H:Hp)(s:Shared)(Q:VK)(E:XK)(r:Result)(s':Shared):Prop:=
 match r with
 | .ok (.ret u)=>CE outer P w H s Q u s'
 | .ok _=>False
 | .error e=>CX outer H s E e s'
structure bx (P:Program) (w:World) (K:aB) (mg:bT) (base:Heap) (CX:d9) (k:Nat) (f:Addr) (fd:FuncData) (ps:List Str) (sp:Sp):Prop where
 len:∀vs H Q E,sp vs H Q E→vs.length=ps.length
 run:∀(A:Around) (outer:List Env) (s:Shared) (H:Hp) (args:Args) (us:List Value) (vs:List V) (Q:VK) (E:XK),cF k A→q8 P w K mg base A outer s H→BindsTo s fd args (ps.zip us)→Vals vs us→sp vs H Q E→
  codeAny (model P w) A (.call (.ref f) args) (CR CX outer P w H s Q E) s
section
variable {X:Cx} {pins:aC} {σ:St} {H:Hp} {s s':Shared}
theorem Inv.zg(I:Inv X pins σ H s):q8 X.prog X.w X.K X.mg X.base X.A X.stack s H:=
 ⟨I.ok.frames,I.ok.mod,I.bs,bQ I.ok.fu I.sz,I.stack,I.oJ,I.ao,I.bare⟩
theorem Inv.after{Q:VK}(I:Inv X pins σ H s)(h:CE X.stack X.prog X.w H s Q u s'):EP X pins σ Q u s':=by obtain ⟨v,H',os,bare,un,ao,r,q⟩:=h;obtain ⟨hh,g,d,t,DY⟩:=s';obtain rfl:DY=s.os:=os;exact ⟨v,H',I.call (h':=hh) (g':=g) (d':=d) (t':=t) (ch:=[]) un ao bare (fun b z=>absurd z (by simp)),r,q⟩
end
def zh(sp:Sp)(dy:List V)(E:XK)(t:TA):TE:=fun σ H Q=>t σ H fun vs H1=>sp (vs++dy) H1 Q E
def Binds(K:aB)(fd:FuncData)(ps:List Str)(ds:List Value):Prop:=
 ∀(s:Shared) (us:List Value),K.In s.heap→(us++ds).length=ps.length→BindsTo s fd ⟨us,[]⟩ (ps.zip (us++ds))
variable {ps:List Str}
theorem Binds.all{fd:FuncData}(h:∀us:List Value,us.length=ps.length→bindArgs fd ⟨us,[]⟩=pure (ps.zip us)):Binds K fd ps []:=fun s us _ hl=>by rw [qz] at hl ⊢;exact .of_eq (h us hl)
def Passes(CX:d9)(X:Cx)(E:XK):Prop:=∀(pins:aC) (σ:St) (H:Hp) (s:Shared) (e:Value) (s':Shared),Inv X pins σ H s→CX X.stack H s E e s'→X.xe e s'
section
variable {X:Cx} {CX:d9} {k:Nat} {f C:Addr} {fd:FuncData} {ps:List Str} {sp:Sp} {dy:List V} {ds:List Value} {E:XK} {x m:Str} {p pos apos:Pos} {e o:Expr} {es:List Expr} {ta:TE} {t:TA}
theorem DZ{pins:aC}{Q:VK}{vs:List V}(F:bx X.prog X.w X.K X.mg X.base CX k f fd ps sp)(hr:cF k X.A)(hb:Binds X.K fd ps ds)(hd:Vals dy ds)(hx:Passes CX X E)
  (I:Inv X pins σ H s) (r:Vals vs us) (h:sp (vs++dy) H Q E):wpAny (model X.prog X.w) X.A (call (.ref f) us) (EP X pins σ Q) X.xe s:=by
 have r2:Vals (vs++dy) (us++ds):=r.append hd;have hl:(us++ds).length=ps.length:=by rw [←r2.length];exact F.len _ _ _ _ h
 refine wpAny_call (n_ (F.run X.A X.stack s H ⟨us,[]⟩ (us++ds) (vs++dy) Q E hr I.zg (hb s us I.cz hl) r2 h) fun r s' hq=>?_);cases r with
 | error e=>exact hx pins σ H s e s' I hq
 | ok fl=>
  cases fl with
  | ret u=>exact I.after hq
  | next=>exact False.elim hq
  | brk=>exact False.elim hq
  | cont=>exact False.elim hq
theorem D1(F:bx X.prog X.w X.K X.mg X.base CX k f fd ps sp)(hr:cF k X.A)(hg:Gl X x)(hm:X.mg x=some (.ref f))(hk:PySem.W.keepIn X.K (.ref f)=true)(hb:Binds X.K fd ps ds)(hd:Vals dy ds)(hx:Passes CX X E)
  (ha:PA X (e::es) t) (iS:(x == ("__debug__":Str))=false:=by decide) (he:starEach (e::es) X.env=(false,eval e X.env)::starEach es X.env:=by rfl) (eU:(backTo pos (starEach es X.env)).any (·.1)=false:=by rfl) :
  PE X (.Call (.Name x p) (e::es) [] pos) (zh sp dy E t):=by
 intro pins s σ H Q I h;refine md (oM I hg hm ?_ iS);refine PySem.W.callWith_K (h₀:=X.base) I.ok.mod.bU hk (aA (ha pos pins s σ H _ I h) fun us s1 ⟨vs,H1,I1,r,q⟩=>⟨I1.cz,?_⟩) he eU;exact DZ F hr hb hd hx I1 r q
theorem bp{j:Nat}(F:bx X.prog X.w X.K X.mg X.base CX k f fd ps sp)(hr:cF j X.A)(hm:X.mg x=some (.ref f))(hk:PySem.W.keepIn X.K (.ref f)=true)(hb:Binds X.K fd ps [])(hx:Passes CX X E)
  (ha:PA X (e::es) t) (hj:k≤j:=by decide) (hg:Gl X x:=by exact rfl) (iS:(x == ("__debug__":Str))=false:=by decide) (he:starEach (e::es) X.env=(false,eval e X.env)::starEach es X.env:=by rfl) (eU:(backTo pos (starEach es X.env)).any (·.1)=false:=by rfl) :
  PE X (.Call (.Name x p) (e::es) [] pos) (zh sp [] E t):=D1 F (hr.mono hj) hg hm hk hb .nil hx ha iS he eU
end
section
variable {X:Cx} {CX:d9} {k:Nat} {f C:Addr} {fd:FuncData} {ps ks:List Str} {sp:Sp} {E:XK} {x m:Str} {p pos apos zi:Pos} {e o:Expr} {es:List Expr} {D4:List Keyword} {te ta:TE} {t tk:TA} {nm:Option Str}
variable {g:List Value→List Value→List Value} {gV:List V→List V→List V}
end
structure cj (N P:List Str) (sc:Scope):Prop where
 kind:sc.kind=.function
 co:sc.isCoroutine=false
 gen:sc.isGenerator=false
 nd:N.Nodup
 pre:N.take P.length=P
 par:∀x∈P,sc.names.lookup x=some .local∨sc.names.lookup x=some .cell
 D5:∀y∈sc.names,y.2≠.free
variable {N:List Str} {sc:Scope}
theorem dj{P:List Str}(h1:sc.kind=.function:=by rfl)(h2:sc.isCoroutine=false:=by rfl)(h3:sc.isGenerator=false:=by rfl)(h4:N.Nodup:=by decide +kernel)(h5:N.take P.length=P:=by rfl)(h6:∀x∈P,sc.names.lookup x=some .local∨sc.names.lookup x=some .cell:=by decide +kernel)(h7:∀y∈sc.names,y.2≠.free:=by decide +kernel):cj N P sc:=⟨h1,h2,h3,h4,h5,h6,h7⟩
theorem zj{kindOf:Str→Option NameKind}{x:Str}:∀{binds:List (Str×Value)} {m:bT},(∀v,(x,v)∉binds)→bindL kindOf binds m x=m x
 | [],_,_=>rfl
 | (n,v)::r,m,h=>by
  unfold bindL;rw [zj fun w hw=>h w (dZ _ hw)]
  split
  ·have:x≠n:=by rintro rfl;exact h v dY
   simp [this]
  ·rfl
theorem zl{kindOf:Str→Option NameKind}{x:Str}:∀{binds:List (Str×Value)} {m:bT},(∀v,(x,v)∉binds)→bindC kindOf binds m x=m x
 | [],_,_=>rfl
 | (n,v)::r,m,h=>by
  unfold bindC;rw [zl fun w hw=>h w (dZ _ hw)]
  split
  ·rfl
  ·have:x≠n:=by rintro rfl;exact h v dY
   simp [this]
theorem zo{kindOf:Str→Option NameKind}{x:Str}{v:Value}:∀{P:List Str} {vs:List Value} {i:Nat} {m:bT},P.Nodup→P[i]?=some x→vs[i]?=some v→kindOf x=some .local→
  bindL kindOf (P.zip vs) m x=some v
 | [],_,_,_,_,h,_,_=>by simp at h
 | _::_,[],_,_,_,_,h,_=>by simp at h
 | p::P,w::vs,0,m,nd,h1,h2,hk=>by simp at h1 h2;subst h1;subst h2;show bindL kindOf ((p,w)::P.zip vs) m p=_;unfold bindL;rw [zj fun v hv=>(kh.mp nd).1 (List.of_mem_zip hv).1,ae hk];simp
 | p::P,w::vs,i+1,m,nd,h1,h2,hk=>by show bindL kindOf ((p,w)::P.zip vs) m x=_;unfold bindL;exact zo (i:=i) (kh.mp nd).2 (by simpa using h1) (by simpa using h2) hk
theorem zq{kindOf:Str→Option NameKind}{x:Str}{v:Value}:∀{P:List Str} {vs:List Value} {i:Nat} {m:bT},P.Nodup→P[i]?=some x→vs[i]?=some v→kindOf x≠some .local→
  bindC kindOf (P.zip vs) m x=some v
 | [],_,_,_,_,h,_,_=>by simp at h
 | _::_,[],_,_,_,_,h,_=>by simp at h
 | p::P,w::vs,0,m,nd,h1,h2,hk=>by simp at h1 h2;subst h1;subst h2;show bindC kindOf ((p,w)::P.zip vs) m p=_;unfold bindC;rw [zl fun v hv=>(kh.mp nd).1 (List.of_mem_zip hv).1,aa hk];simp
 | p::P,w::vs,i+1,m,nd,h1,h2,hk=>by show bindC kindOf ((p,w)::P.zip vs) m x=_;unfold bindC;exact zq (i:=i) (kh.mp nd).2 (by simpa using h1) (by simpa using h2) hk
def start(N:List Str)(vs:List V):St:=vs.map some++List.replicate (N.length-vs.length) none
def gB(CX:d9)(P:Program)(w:World)(K:aB)(mg:bT)(base:Heap)(N:List Str)(qual:Str)(scope:Scope)(f:Addr)(cd:Value)(A:Around)(outer:List Env)(s:Shared)(H:Hp)(E:XK):Cx where
 prog:=P
 w:=w
 K:=K
 mg:=mg
 base:=base
 A:=A.deeper (envOfC qual scope s.heap.objs.size f cd)
 N:=N
 s₀:=s
 H₀:=H
 env:=envOfC qual scope s.heap.objs.size f cd
 outer:=outer
 stack:=envOfC qual scope s.heap.objs.size f cd::outer
 ex:=[]
 calm:=true
 fn:=fun _=>true
 pn:=[]
 xe:=fun e s'=>wpAny (model P w) (A.deeper (envOfC qual scope s.heap.objs.size f cd)) (leaving (envOfC qual scope s.heap.objs.size f cd) e) (fun _ dz=>CX outer H s E e dz) (fun e' dz=>CX outer H s E e' dz) s'
theorem zr{x:Str}(h:sc.names.lookup x=some .cell):∃c,(cellsFrom n sc.names []).lookup x=some c:=by have q:=PySem.W.cellsFrom_some sc.names n [] (.inl h);exact Option.isSome_iff_exists.mp q
variable {CX:d9} {mg:bT} {base:Heap} {qual:Str} {scope:Scope} {f:Addr}
theorem D6{cd:Value}{outer:List Env}{s1:Shared}{E:XK}{vs:List V}
  (S:cj N ps scope) (hd:A.handled=none) (e0:q8 P w K mg base A outer s H) (hl:vs.length=ps.length) (r:Vals vs us)
  (x:InCallC s s.heap.objs.size (bindL (envOfC qual scope s.heap.objs.size f cd).kindOf (ps.zip us) fun _=>none) (cellsFrom (s.heap.objs.size+1) scope.names []) (bindC (envOfC qual scope s.heap.objs.size f cd).kindOf (ps.zip us) fun _=>none) s1) :
  Inv (gB CX P w K mg base N qual scope f cd A outer s H E) [] (start N vs) H s1:=by
 have eU:ps.length≤N.length:=by have:=eN List.length S.pre;rw [og] at this;omega
 obtain ⟨h1,tk,rfl,hk⟩:=x.done;have oS:∀b:Addr,b∉(gB CX P w K mg base N qual scope f cd A outer s H E).ex:=fun b z=>absurd (show b∈([]:List Addr) from z) (by simp)
 refine ⟨⟨e0.mod,S.kind,rfl,rfl,ar _,fun y z c h1 h2=>?_,fun y hy=>?_,fun y c _ h=>?_,fun _=>hd,Around.frames_deeper e0.frames,.inr ⟨rfl,rfl⟩,fun b z=>absurd z (oS b),e0.bs,e0.fu,fun b _ _=>oS b,fun b z=>absurd z (oS b),e0.fS,e0.iO⟩,
  rfl,e0.bare,Un.kept hk,⟨_,x.toInCall.ns,fun i y v h1 h2 h3=>?_⟩,fun y c h=>⟨_,x.cell y c h⟩,e0.ao.fresh (ar _),fun y c h=>?_,fun p hp=>absurd (show p∈([]:aC) from hp) (by simp),e0.ao.kept hk,?_⟩
 ·exact name_of_addr x.apart (iH h1) (iH h2)
 ·have hy:scope.names.lookup y=some .cell∨scope.names.lookup y=some .free:=hy
  rcases hy with hy | hy;·exact zr hy
  ·exact absurd rfl (S.D5 _ (iH hy))
 ·exact n8 (x.above y c (iH h))
 ·have hi:i<vs.length:=by
   unfold start at h2;by_cases hi:i<vs.length;·exact hi
   ·rw [gU (by simpa using hi)] at h2
    rw [List.getElem?_replicate] at h2
    split at h2 <;> cases h2
  have ha:vs[i]?=some v:=by
   unfold start at h2;rw [gW (by simpa using hi),df] at h2
   cases e:vs[i]? with
   | none=>rw [e] at h2;cases h2
   | some a=>rw [e] at h2;cases h2;rfl
  obtain ⟨u,hu,rv⟩:=r.get ha;have hp:ps[i]?=some y:=by rw [←S.pre,List.getElem?_take_of_lt (by omega)];exact h1
  have zt:ps.Nodup:=by rw [←S.pre];exact S.nd.sublist (List.take_sublist _ _)
  refine ⟨u,rv,?_⟩;rcases S.par y (jl hp) with k | k;·exact .inl ⟨k,zo zt hp hu k⟩
  ·obtain ⟨c,e⟩:=zr (n:=s.heap.objs.size+1) k
   refine .inr ⟨.inl k,c,e,?_⟩;have q:=x.cell y c e;rw [zq zt hp hu (by show scope.names.lookup y≠_;rw [k];decide)] at q
   exact q
 ·exact e0.ao.fresh (n8 (x.above y c (iH h)))
 ·unfold start
  show _=N.length;rw [dg,aW,List.length_replicate];omega
theorem zu{name:Str}{params:Arguments}{body:List Stmt}{dV kV doc pm a9 ct oc:Value}{an od:Option Addr}
  {h_:Array (Option Value)} {sp:Sp} (lk:K.lookup f=some ⟨oc,od,.func (PySem.W.fnOf name qual params body scope dV kV doc pm an a9 ct),h_⟩) (eR:PySem.W.codeIn K a9 qual=true) (S:cj N ps scope)
  (len:∀vs H Q E,sp vs H Q E→vs.length=ps.length)
  (iT:∀(A:Around) (outer:List Env) (s:Shared) (H:Hp) (vs:List V) (Q:VK) (E:XK),cF k (A.deeper (envOfC qual scope s.heap.objs.size f a9))→sp vs H Q E→
   ∃t,dG (gB CX P w K mg base N qual scope f a9 A outer s H E) body t∧t {nx:=fun _ H'=>Q .aI H',rt:=Q} (start N vs) H) :
  bx P w K mg base CX (k+1) f (PySem.W.fnOf name qual params body scope dV kV doc pm an a9 ct) ps sp:=by
 refine ⟨len,fun A outer s H args us vs Q E hr e0 hb r ic=>?_⟩;have hl:=len _ _ _ _ ic;have KX:K.In s.heap:=e0.mod.bU.keeps fun b o e=>(e0.bs b o e).1;have lim:s.heap.NoLimit:=e0.mod.nolimit.keeps fun b o e=>(e0.bs b o e).1;have D7:∀y∈ps.zip us,scope.names.lookup y.1=some .local∨(scope.names.lookup y.1=some .cell∧((cellsFrom (s.heap.objs.size+1) scope.names []).lookup y.1).isSome=true):=fun⟨n,v⟩ hy=>by
  rcases S.par n (List.of_mem_zip hy).1 with q | q;·exact .inl q
  ·exact .inr ⟨q,PySem.W.cellsFrom_some _ _ _ (.inl q)⟩
 refine codeAny_call_function hr.depth (KX _ _ lk) rfl S.co S.gen rfl (PySem.W.codeRec_of KX eR) (hb _ _ _ _ ?_);refine wpAny_newFunctionEnv_cells S.kind D7 fun env he s1 x=>?_;subst he;refine ⟨lim.keeps x.toInCall.keep,codeAny_func ?_⟩;obtain ⟨t,ht,hq⟩:=iT A outer s H vs Q E (hr.deeper _) ic;have I:Inv (gB CX P w K mg base N qual scope f a9 A outer s H E) [] (start N vs) H s1:=D6 S hr.hd e0 hl r x;refine a8 (ht [] s1 (start N vs) H _ I hq) (fun fl s' hs=>?_) fun e s' hs=>hs;have fin:∀{σ':St} {H':Hp} {v:V} {u:Value},Inv (gB CX P w K mg base N qual scope f a9 A outer s H E) [] σ' H' s'→RelV v u→Q v H'→CE outer P w H s Q u s':=
  fun{σ' H' v u} J rv q=>⟨v,H',J.os,J.bare,J.base,J.ao,rv,q⟩
 cases fl with
 | ret u=>obtain ⟨v,σ',H',J,rv,q⟩:=hs;exact fin J rv q
 | next=>obtain ⟨σ',H',J,q⟩:=hs;exact fin (v:=V.aI) (u:=Value.none) J rfl q
 | brk=>obtain ⟨_,_,_,q⟩:=hs;exact False.elim q
 | cont=>obtain ⟨_,_,_,q⟩:=hs;exact False.elim q
section
variable {X:Cx} {x:Str} {p pos:Pos} {e:Expr} {es:List Expr} {t:TA} {id T:String} {r:List V→Hp→VK→Prop}
def uW(r:List V→Hp→VK→Prop)(t:TA):TE:=fun σ H Q=>t σ H fun vs H1=>r vs H1 Q
theorem dA(hc:fz X (.builtin id) r)(hg:Gl X x)(hm:X.mg x=none)(hv:bootBuiltins x=some (.builtin id))(ha:PA X (e::es) t)(hn:x ≠ "__name__":=by decide)(iS:(x == ("__debug__":Str))=false:=by decide)
  (he:starEach (e::es) X.env=(false,eval e X.env)::starEach es X.env:=by rfl) (eU:(backTo pos (starEach es X.env)).any (·.1)=false:=by rfl):PE X (.Call (.Name x p) (e::es) [] pos) (uW r t):=by
 intro pins s σ H Q I h;refine md (jy I hg hm hv ?_ hn iS);exact PyProof.Rows.callWith_builtin1 (aA (ha pos pins s σ H _ I h) fun us s1 ⟨vs,H1,I1,r1,q1⟩=>hc pins s1 σ H1 vs us Q I1 r1 q1) he eU
theorem mJ(hc:fz X (.type T) r)(hg:Gl X x)(hm:X.mg x=none)(hv:bootBuiltins x=some (.type T))(ha:PA X (e::es) t)(hn:x ≠ "__name__":=by decide)(iS:(x == ("__debug__":Str))=false:=by decide)
  (he:starEach (e::es) X.env=(false,eval e X.env)::starEach es X.env:=by rfl) (eU:(backTo pos (starEach es X.env)).any (·.1)=false:=by rfl):PE X (.Call (.Name x p) (e::es) [] pos) (uW r t):=by
 intro pins s σ H Q I h;refine md (jy I hg hm hv ?_ hn iS);exact ue (aA (ha pos pins s σ H _ I h) fun us s1 ⟨vs,H1,I1,r1,q1⟩=>hc pins s1 σ H1 vs us Q I1 r1 q1) he eU
end
end L2
namespace HT
open PySem PyProof.Rows
def lexLt:List Int→List Int→Bool
 | [],[]=>false
 | [],_::_=>true
 | _::_,[]=>false
 | x::xs,y::ys=>if x=y then lexLt xs ys else decide (x<y)
theorem uX(x y:Int)(xs ys:List Int):lexLt (x::xs) (y::ys)=if x=y then lexLt xs ys else decide (x<y):=rfl
theorem D8:lexLt [] []=false:=rfl
theorem D9(y:Int)(ys:List Int):lexLt [] (y::ys)=true:=rfl
theorem D_(x:Int)(xs:List Int):lexLt (x::xs) []=false:=rfl
theorem Ea(A:Around)(s:Shared)(a:Int)(t:Tok)(c:Int)(u:Tok):∃e,SeqAt.EqAt A s (.int a t) (.int c u) e∧(e=true↔a=c):=
 ⟨(a == c),SeqAt.EqAt.int_int a t c u,by simp⟩
theorem zv(A:Around)(s:Shared)(a:Int)(t:Tok)(c:Int)(u:Tok)(prog:Program)(w:World)(E:aw)(Q:aw)(h:Q (.bool (decide (a<c))) s) :
  wpAny (model prog w) A (richCompare .Lt (.int a t) (.int c u)) Q E s:=
 (PyProof.Rows.lt_int h:wpAny (model prog w) A (compareOp .Lt (.int a t) (.int c u)) Q E s)
section
open PySem.SeqAt
open PySem.AutoSeq1 (wpAny_loadPart')
open PySem.MeetsSeq PySem.MeetsSeq2 PySem.MeetsSeq3
theorem Eb(l b:Addr)(items items2:Array Value)(n n2:Nat)(dd jC:Option Addr)(sl jD:Array (Option Value))(ns ms:List Int)(hi:IntsAre items.toList ns)(hj:IntsAre items2.toList ms) :
  Meets (Builtin.«tuple.__lt__» ⟨[.ref l,.ref b],[]⟩)
   (fun _ R s=>s.heap.get? l=some {cls:=.type "tuple",dict:=dd,data:=.seq items n,slots:=sl}∧s.heap.get? b=some {cls:=.type "tuple",dict:=jC,data:=.seq items2 n2,slots:=jD} ∧
    R (.ok (.ret (.bool (lexLt ns ms)))) s):=
 .of_wp fun prog w A R s h=>by
  obtain ⟨hp,g,d,tk,os⟩:=s;obtain ⟨hl,hb,h⟩:=h;have f2:=AutoSeq1.sub_tuple_tuple;have z1:items.size=ns.length:=by rw [←hi.length];simp
  have z2:items2.size=ms.length:=by rw [←hj.length];simp
  wp_walk using wpAny_loadPart' hl,wpAny_loadPart' hb,wpAny_forIn_list _ (fun rest b s'=>b.1=none∧s'=⟨hp,g,d,tk,os⟩∧∃(vs ws:List Value) (iU mK:List Int),rest=vs.zip ws ∧
   IntsAre vs iU∧IntsAre ws mK∧iU.length+items2.size=mK.length+items.size∧R (.ok (.ret (.bool (lexLt iU mK)))) ⟨hp,g,d,tk,os⟩) _
  case turn=>
   rintro ⟨y,x⟩ rest b s' ⟨kN,rfl,vs,ws,iU,mK,hz,uY,eV,hlen,hR⟩;cases uY with
   | nil=>rw [List.zip_nil_left] at hz;cases hz
   | cons a t Ec=>
    cases eV with
    | nil=>rw [List.zip_nil_right] at hz;cases hz
    | cons c u Ed=>
     rw [List.zip_cons_cons] at hz;injection hz with Ee mL;injection Ee with hy hx;subst hy hx;rw [uX] at hR;simp only [du] at hlen;obtain ⟨e,he,zw⟩:=Ea A.in1 ⟨hp,g,d,tk,os⟩ a t c u;refine au (he prog w _ _ ?_);cases e with
     | true=>
      rw [ae (zw.mp rfl)] at hR
      wp_walk
      exact ⟨rfl,rfl,_,_,_,_,mL,Ec,Ed,by omega,hR⟩
     | false=>
      rw [aa (fun q=>absurd (zw.mpr q) b_)] at hR;have Ef:=zv A.in1 ⟨hp,g,d,tk,os⟩ a t c u prog w
      wp_walk using Ef
      exact ⟨_,rfl,by simpa using hR⟩
  case fin=>
   rintro ⟨b1,b2⟩ s' ⟨kN,rfl,vs,ws,iU,mK,hz,uY,eV,hlen,hR⟩;simp only at kN;subst kN;have hv:lexLt iU mK=decide (items.size<items2.size):=by
    cases uY with
    | nil=>
     cases eV with
     | nil=>simp only [oi] at hlen;rw [D8];exact (b3 (by omega)).symm
     | cons c u hw=>simp only [oi,du] at hlen;rw [D9];exact (b4 (by omega)).symm
    | cons a t hv=>
     cases eV with
     | nil=>simp only [oi,du] at hlen;rw [D_];exact (b3 (by omega)).symm
     | cons c u hw=>rw [List.zip_cons_cons] at hz;cases hz
   rw [hv] at hR
   wp_walk
   exact ⟨_,rfl,by simpa [Builtin.Tuple.tupleCompareSizes] using hR⟩
  case h=>exact ⟨rfl,rfl,items.toList,items2.toList,ns,ms,rfl,hi,hj,by omega,h⟩
end
section
variable {prog:Program} {w:World} {A:Around} {E:aw} {s:Shared}
variable {b:Addr} {Q:aw}
theorem Eg{l:Addr}{items items2:Array Value}{ns ms:List Int}(hl:IsTup s.heap l items)(hb:IsTup s.heap b items2)(hi:IntsAre items.toList ns)(hj:IntsAre items2.toList ms)
  (hu:A.units<cLine) (h:Q (.bool (lexLt ns ms)) s):wpAny (model prog w) A (compareOp .Lt (.ref l) (.ref b)) Q E s:=by
 obtain ⟨⟨cls,dd,data,sl⟩,ho,hc,n,hd⟩:=id hl;obtain ⟨⟨zA,jC,data2,jD⟩,ie,dQ,n2,hd2⟩:=id hb;simp only at hc hd dQ hd2;subst hc hd dQ hd2
 exact richCompare_meets_room (op:=.Lt) ⟨_,ho,rfl⟩ ⟨_,ie,rfl⟩ PySem.F.slot_tuple_lt PySem.F.entry_tuple_lt (PySem.F.args_tuple_lt_2 _ _) (Eb l b items items2 n n2 dd jC sl jD ns ms hi hj)
  ⟨ho,ie,show Value.bool (lexLt ns ms)≠Value.notImplemented∧Q (.bool (lexLt ns ms)) s from ⟨(fun x=>nomatch x),h⟩⟩ hu
theorem Eh{t:Addr}{vs ws:List Value}(ht:IsTup s.heap t vs.toArray)(hb:IsTup s.heap b ws.toArray)(hv:vs≠[])
  (h1:ws=[]→Q (.ref t) s) (h2:ws≠[]→Q (.ref s.heap.objs.size) {s with heap:=s.heap.push {cls:=.type "tuple",data:=.seq (vs++ws).toArray}})
  (hsz:vs.length+ws.length≤sizeLine):wpAny (model prog w) A (binaryOp .Add (.ref t) (.ref b)) Q E s:=by
 obtain ⟨⟨cls,dd,data,sl⟩,ho,hc,n,hd⟩:=id ht;obtain ⟨⟨zA,jC,data2,jD⟩,ie,dQ,n2,hd2⟩:=id hb;simp only at hc hd dQ hd2;subst hc hd dQ hd2;have e:vs.toArray++ws.toArray=(vs++ws).toArray:=by simp
 by_cases hw:ws=[]
 ·exact concat_meets ⟨_,ho,rfl⟩ ⟨_,ie,rfl⟩ noFill_tuple_add seq_tuple_add uf ug (uh _ _)
   (tuple_addW1 t b vs.toArray ws.toArray n n2 dd jC sl jD (by simpa using hv) (by simp [hw])) ⟨ho,ie,h1 hw⟩
 ·refine concat_meets ⟨_,ho,rfl⟩ ⟨_,ie,rfl⟩ noFill_tuple_add seq_tuple_add uf ug (uh _ _)
   (tuple_addW2 t b vs.toArray ws.toArray n n2 dd jC sl jD (by simpa using hv) (by simpa using hw) (by rw [bO,bO];exact hsz)) ⟨ho,ie,?_⟩
  rw [e];exact h2 hw
def d_(n d:Nat):Option Int→Nat
 | none=>d
 | some v=>if v<0 then (v+(n:Int)).toNat else min v.toNat n
end
end HT
namespace L2
open PySem PySem.Spec PyProof.Rows
theorem intsAre_of{ns:List Int}:∀{us:List Value},Vals (ns.map V.int) us→IntsAre us ns:=by
 induction ns with
 | nil=>intro us r;rw [oj] at r;cases r;exact .nil
 | cons n ns ih=>
  intro us r;rw [iI] at r;cases r with
  | cons r1 r2=>obtain ⟨t,e⟩:=r1;subst e;exact .cons n t (ih r2)
section
variable {X:Cx} {e:Expr} {te:TE} {lo hi:Option Expr} {tl th:TO} {pos p2:Pos}
def Ei(X:Cx)(r:V→Option Int→Option Int→Hp→VK→Prop):Prop:=
 ∀(pins:aC) (s:Shared) (σ:St) (H:Hp) (x:V) (v vl vu:Value) (lo hi:Option Int) (sl:Addr) (Q:VK),Inv X pins σ H s→RelV x v→s.heap.IsSliceOf sl vl vu .none→IsPart vl lo→IsPart vu hi→r x lo hi H Q→
  ∃T id,typeLookup (.type T) "__getitem__"=pure (some (.builtin id))∧s.TypeIs v T∧wpAny (model X.prog X.w) X.A (getItem v (.ref sl)) (EP X pins σ Q) X.xe s
def q_(xs:List V)(lo hi:Option Int):List V:=(xs.drop (HT.d_ xs.length 0 lo)).take (HT.d_ xs.length xs.length hi-HT.d_ xs.length 0 lo)
theorem Ej(xs:List V)(lo hi:Option Int):(q_ xs lo hi).length≤xs.length:=by unfold q_;rw [og,List.length_drop];omega
def Ek(K:aB):R2:=fun x y H Q=>∃a b xs ys,x=.ref a∧y=.ref b∧cE K H a xs∧cE K H b ys∧xs≠[]∧xs.length+ys.length≤sizeLine ∧
 (ys=[]→Q (.ref a) H)∧(ys≠[]→∀p,H p=none→Q (.ref p) (upd H p (.tup (xs++ys))))
theorem Vals.rb{xs:List V}{us:List Value}(r:Vals xs us):us=[]↔xs=[]:=by
 cases r with
 | nil=>simp
 | cons _ _=>simp
theorem El:cg X (binaryOp .Add) (Ek X.K):=by
 intro pins s σ H x y v u Q I rx ry h;obtain ⟨a,b,xs,ys,rfl,rfl,ha,hb,hx,hz,q1,q2⟩:=h;cases rx;cases ry;obtain ⟨ai,r1,p1,_⟩:=I.tuple ha;obtain ⟨fC,r2,p2,_⟩:=I.tuple hb;refine HT.Eh p1 p2 (fun z=>hx (r1.rb.mp z)) (fun z=>⟨.ref a,H,I,rfl,q1 (r2.rb.mp z)⟩) (fun z=>?_) (by rw [←r1.length,←r2.length];exact hz)
 refine ⟨.ref s.heap.objs.size,_,I.laid (t':=s.toks) (o:=.tup (xs++ys)) (fun b ob q=>bA _ q) (ar _) ?_,rfl,q2 (fun w=>z (r2.rb.mpr w)) _ (I.ao.fresh (ar _))⟩;exact ⟨by rw [dg];exact hz,_,r1.append r2,IsTup.new _ _⟩
end
def kO(n:Nat)(i:Int):Option Nat:=if 0≤i then (if i<n then some i.toNat else none) else if -(n:Int)≤i then some (i+n).toNat else none
def ig{α:Type}(xs:List α)(i:Int):Option α:=(kO xs.length i).bind fun j=>xs[j]?
variable {i:Int} {j:Nat}
theorem zB{n:Nat}(h:kO n i=some j):seqIndex? i n=some j∧j<n∧-(n:Int)≤i∧i<n:=by
 unfold kO at h;by_cases h0:0≤i
 ·rw [ae h0] at h
  by_cases h1:i<n
  ·rw [ae h1] at h
   have e:i.toNat=j:=Option.some.inj h;exact ⟨by rw [seqIndex_of h0 h1,e],by omega,by omega,h1⟩
  ·rw [aa h1] at h;cases h
 ·rw [aa h0] at h
  by_cases h1:-(n:Int)≤i
  ·rw [ae h1] at h
   have e:(i+n).toNat=j:=Option.some.inj h;exact ⟨by rw [seqIndex_neg (by omega) h1,e],by omega,h1,by omega⟩
  ·rw [aa h1] at h;cases h
theorem zC{α:Type}{xs:List α}{v:α}(h:ig xs i=some v):∃j,seqIndex? i xs.length=some j∧xs[j]?=some v∧j<xs.length∧-(xs.length:Int)≤i∧i<xs.length:=by
 unfold ig at h;cases e:kO xs.length i with
 | none=>rw [e] at h;cases h
 | some j=>rw [e] at h;obtain ⟨h1,h2,h3,h4⟩:=zB e;exact ⟨j,h1,h,h2,h3,h4⟩
theorem uZ{α:Type}{xs:List α}{v:α}(h:xs[j]?=some v):ig xs (j:Int)=some v:=by
 have hj:j<xs.length:=(cw.mp h).1;have e:kO xs.length (j:Int)=some j:=by unfold kO;rw [ae (by omega),ae (by omega)];simp
 unfold ig;rw [e];exact h
def zD(b:Expr):Prop:=∀o i,subscripted b false o i=operate [o,i] (getItem o i)
def rd(X:Cx)(r:R2):Prop:=
 ∀(value slice:Expr) (pins:aC) (s:Shared) (σ:St) (H:Hp) (x y:V) (v u:Value) (Q:VK),Inv X pins σ H s→RelV x v→RelV y u→r x y H Q→
  subscripted slice false v u=operate [v,u] (getItem v u)→wpAny (model X.prog X.w) X.A (subscriptTail value slice v u) (EP X pins σ Q) X.xe s
def zE(X:Cx)(id:String)(r:V→List V→Hp→VK→Prop):Prop:=
 ∀(pins:aC) (s:Shared) (σ:St) (H:Hp) (x:V) (xs:List V) (v:Value) (us:List Value) (Q:VK),Inv X pins σ H s→RelV x v→Vals xs us→r x xs H Q→
  wpAny (model X.prog X.w) X.A (call (.builtin id) (v::us)) (EP X pins σ Q) X.xe s
section
variable {X:Cx} {a b:Expr} {ta tb:TE} {pos:Pos}
variable {r:R2}
theorem Em(hr:rd X r)(ha:PE X a ta)(hb:PE X b tb)(hs:zD b):PE X (.Subscript a b pos) (kK r ta tb):=by intro pins s σ H Q I h;exact Subscript_ (uP ha hb I h fun v u s2 x y H2 I2 rx ry q=>hr a b pins s2 σ H2 x y v u Q I2 rx ry q (hs _ _))
theorem bZ(hr:rd X r)(ha:PE X a ta)(hb:PE X b tb)(hs:zD b:=by exact fun _ _=>rfl):PE X (.Subscript a b pos) (kK r ta tb):=Em hr ha hb hs
def Eo(K:aB):R2:=fun x y H Q=>∃p xs i v,x=.ref p∧y=.int i∧bL K H p xs∧ig xs i=some v∧Q v H
def Ep(K:aB):R2:=fun x y H Q=>∃p xs i v,x=.ref p∧y=.int i∧cE K H p xs∧ig xs i=some v∧Q v H
theorem ee:rd X (Eo X.K):=by
 intro value slice pins s σ H x y v u Q I rx ry h hs;obtain ⟨p,xs,i,z,rfl,rfl,hq,he,q⟩:=h;cases rx;obtain ⟨t,rfl⟩:=ry;obtain ⟨ai,r,pl,hz⟩:=I.list hq;obtain ⟨j,h1,h2,h3,h4,h5⟩:=zC he;obtain ⟨w,ew,iV⟩:=r.get h2;have hl:=r.length;have hn:=qZ;have fin:EP X pins σ Q w s:=⟨z,H,I,iV,q⟩;by_cases h0:0≤i
 ·have hj:i.toNat=j:=by rw [seqIndex_of h0 h5] at h1;exact Option.some.inj h1
  exact item_listR pl.isList h0 (by omega) (by rw [hj];simpa using ew) fin hs
 ·have hj:(i+(ai.toArray.size:Int)).toNat=j:=by
   rw [seqIndex_neg (by omega) h4] at h1
   rw [bO,←hl];exact Option.some.inj h1
  exact subscriptTail_builtinR (x:=w) pl.isList.typeIs slot_list_getitem.lookup
   (wpAny_getItem_list_neg (Q:=fun r s'=>r=w∧EP X pins σ Q r s') pl.isList (by omega) (by rw [bO] <;> omega) (by omega) (by rw [hj];simpa using ew) ⟨rfl,fin⟩) hs
theorem eW:rd X (Ep X.K):=by
 intro value slice pins s σ H x y v u Q I rx ry h hs;obtain ⟨p,xs,i,z,rfl,rfl,hq,he,q⟩:=h;cases rx;obtain ⟨t,rfl⟩:=ry;obtain ⟨ai,r,pl,hz⟩:=I.tuple hq;obtain ⟨j,h1,h2,h3,h4,h5⟩:=zC he;obtain ⟨w,ew,iV⟩:=r.get h2;have hl:=r.length;have hn:=qZ;have fin:EP X pins σ Q w s:=⟨z,H,I,iV,q⟩
 exact subscriptTail_builtinR (x:=w) pl.typeIs slot_tuple_getitem.lookup
  (getItem_tuple (j:=j) (Q:=fun r s'=>r=w∧EP X pins σ Q r s') pl (by omega) (by omega) (by rw [bO,←hl];exact h1) (by simpa using ew) ⟨rfl,fin⟩) hs
theorem Er(ai:List Value)(n j:Nat)(u:Value):Obj.mapSeq (·.setIfInBounds j u) {cls:=.type "list",data:=.seq ai.toArray n}={cls:=.type "list",data:=.seq (ai.set j u).toArray n}:=by simp [Obj.mapSeq]
theorem Inv.lst{pins:aC}{σ:St}{H:Hp}{s:Shared}{p:Addr}{xs:List V}(I:Inv X pins σ H s)(h:H p=some (.lst xs)) :
  ∃(ai:List Value) (n:Nat),Vals xs ai∧s.heap.get? p=some {cls:=.type "list",data:=.seq ai.toArray n}∧xs.length≤sizeLine:=by
 obtain ⟨z,ai,n,r,e⟩:=I.ao p _ h;exact ⟨ai,n,r,e,z⟩
variable {pins:aC} {σ:St} {H:Hp} {s:Shared}
theorem Inv.Es{p:Addr}{xs ys:List V}{ai its':List Value}{n n':Nat}{f:Obj→Obj}(I:Inv X pins σ H s)(h:H p=some (.lst xs))
  (ho:s.heap.get? p=some {cls:=.type "list",data:=.seq ai.toArray n}) (hf:f {cls:=.type "list",data:=.seq ai.toArray n}={cls:=.type "list",data:=.seq its'.toArray n'}) (r:Vals ys its') (hz:ys.length≤sizeLine) (t:Nat) :
  Inv X pins σ (upd H p (.lst ys)) {s with heap:=s.heap.update p f,toks:=t}:=by
 have e:(s.heap.update p f).get? p=some {cls:=.type "list",data:=.seq its'.toArray n'}:=by rw [Heap.get?_update_self f ho (by rw [hf] <;> rfl),hf]
 refine I.write (x:=p) (e:=p) (by rw [h];trivial) (.inl rfl) (fun b u hb q=>(Heap.get?_update_other _ _ (dM hb)).trans q) ⟨_,e⟩ ?_
 exact ⟨hz,its',n',r,e⟩
def Et:V→V→V→Hp→(Hp→Prop)→Prop:=fun o i v H Q=>∃p xs k j,o=.ref p∧i=.int k∧H p=some (.lst xs)∧kO xs.length k=some j∧Q (upd H p (.lst (xs.set j v)))
theorem set_list:yQ X Et:=by
 intro pins s σ H o i v ov iv u Q I ro ri rv h;obtain ⟨p,xs,k,j,rfl,rfl,hp,hj,q⟩:=h;cases ro;obtain ⟨t,rfl⟩:=ri;obtain ⟨ai,n,r,ho,hz⟩:=I.lst hp;obtain ⟨h1,h2,h3,h4⟩:=zB hj;have hl:=r.length;have hn:=qZ;have I':Inv X pins σ (upd H p (.lst (xs.set j v))) {s with heap:=s.heap.update p (Obj.mapSeq (·.setIfInBounds j u))}:=
  I.Es hp ho (Er ai n j u) (r.set rv j) (by rw [List.length_set];exact hz) s.toks
 by_cases h0:0≤k
 ·have hk:k.toNat=j:=by rw [seqIndex_of h0 h4] at h1;exact Option.some.inj h1
  exact PySem.W.ki_setAt ho h0 (by omega) (by rw [bO,←hl];exact h4) (by rw [hk];exact ⟨_,I',q⟩)
 ·have hk:(k+(ai.toArray.size:Int)).toNat=j:=by
   rw [seqIndex_neg (by omega) h3] at h1
   rw [bO,←hl];exact Option.some.inj h1
  exact PySem.W.ki_setBack ho (by omega) (by rw [bO,←hl];exact h3) (by omega) (by rw [hk];exact ⟨_,I',q⟩)
theorem Eu(lo hi:Option Int)(n:Nat):(sliceBounds lo hi none n).1=((HT.d_ n 0 lo:Nat):Int)∧(sliceBounds lo hi none n).2.1=((HT.d_ n n hi:Nat):Int)∧(sliceBounds lo hi none n).2.2=1:=by
 refine ⟨?_,?_,rfl⟩
 ·cases lo with
  | none=>simp [sliceBounds,HT.d_]
  | some i=>
   simp only [sliceBounds,HT.d_,Option.getD_none,show (1:Int)>0 by decide,if_true]
   by_cases h:i<0;·simp only [h,if_true] <;> omega
   ·simp only [h,if_false] <;> omega
 ·cases hi with
  | none=>simp [sliceBounds,HT.d_]
  | some i=>
   simp only [sliceBounds,HT.d_,Option.getD_none,show (1:Int)>0 by decide,if_true]
   by_cases h:i<0;·simp only [h,if_true] <;> omega
   ·simp only [h,if_false] <;> omega
theorem Ew(ai:List Value)(lo hi:Option Int):slicePick ai.toArray lo hi none=((ai.drop (HT.d_ ai.length 0 lo)).take (HT.d_ ai.length ai.length hi-HT.d_ ai.length 0 lo)).toArray:=by obtain ⟨h1,h2,h3⟩:=Eu lo hi ai.toArray.size;unfold slicePick;rw [h1,h2,h3];simp only [sliceRange_one,pick_run,bO] <;> rfl
def Ex(K:aB):V→Option Int→Option Int→Hp→VK→Prop:=fun x lo hi H Q=>∃a xs,x=.ref a∧bL K H a xs∧∀p,H p=none→Q (.ref p) (upd H p (.lst (q_ xs lo hi)))
theorem Mo:Ei X (Ex X.K):=by
 intro pins s σ H x v vl vu lo hi sl Q I rx hs pl pu h;obtain ⟨a,xs,rfl,hx,q⟩:=h;cases rx;obtain ⟨ai,r,ht,hz⟩:=I.list hx;have hlen:=r.length;refine ⟨"list",_,slot_list_getitem.lookup,ht.isList.typeIs,?_⟩;refine wpAny_getItem_list_slice ht.isList hs pl pu .none (by simp) ?_ (by rw [bO] <;> omega)
 rw [Ew,←hlen];refine ⟨.ref s.heap.objs.size,_,I.laid (t':=s.toks) (o:=.lst (q_ xs lo hi)) (fun b ob q=>bA _ q) (ar _) ?_,rfl,q _ (I.ao.fresh (ar _))⟩;exact ⟨bQ (Ej xs lo hi) hz,_,0,(r.drop (HT.d_ xs.length 0 lo)).take (HT.d_ xs.length xs.length hi-HT.d_ xs.length 0 lo),cP _ rfl⟩
def gC:V→Bool
 | .aI=>true
 | .bl _=>true
 | .int _=>true
 | .str _=>true
 | _=>false
def iW:V→V→Bool
 | .aI,.aI=>true
 | .bl a,.bl b=>a == b
 | .bl a,.int b=>(if a then 1 else 0) == b
 | .int a,.bl b=>a == (if b then 1 else 0)
 | .int a,.int b=>a == b
 | .str a,.str b=>a == b
 | _,_=>false
variable {y x:V} {u:Value}
theorem Ey{A:Around}{v:Value}(ry:RelV y u)(rx:RelV x v)(fy:gC y=true)(fx:gC x=true):SeqAt.EqAt A s u v (iW y x):=by
 cases y with
 | aI=>
  cases ry;cases x with
  | aI=>cases rx;exact SeqAt.EqAt.same _
  | bl b=>cases rx;exact SeqAt.EqAt.none_bool b
  | int b=>obtain ⟨t,rfl⟩:=rx;exact SeqAt.EqAt.none_int b t
  | str b=>obtain ⟨t,rfl⟩:=rx;exact SeqAt.EqAt.none_str b t
  | _=>exact absurd (show false=true from fx) b_
 | bl a=>
  cases ry;cases x with
  | aI=>cases rx;exact SeqAt.EqAt.bool_none a
  | bl b=>cases rx;exact SeqAt.EqAt.bool_bool a b
  | int b=>obtain ⟨t,rfl⟩:=rx;exact SeqAt.EqAt.bool_int a b t
  | str b=>obtain ⟨t,rfl⟩:=rx;exact SeqAt.EqAt.bool_str a b t
  | _=>exact absurd (show false=true from fx) b_
 | int a=>
  obtain ⟨t',rfl⟩:=ry;cases x with
  | aI=>cases rx;exact SeqAt.EqAt.int_none a t'
  | bl b=>cases rx;exact SeqAt.EqAt.int_bool a t' b
  | int b=>obtain ⟨t,rfl⟩:=rx;exact SeqAt.EqAt.int_int a t' b t
  | str b=>obtain ⟨t,rfl⟩:=rx;exact SeqAt.EqAt.int_str a t' b t
  | _=>exact absurd (show false=true from fx) b_
 | str a=>
  obtain ⟨t',rfl⟩:=ry;cases x with
  | aI=>cases rx;exact SeqAt.EqAt.str_none a t'
  | bl b=>cases rx;exact SeqAt.EqAt.str_bool a t' b
  | int b=>obtain ⟨t,rfl⟩:=rx;exact SeqAt.EqAt.str_int a t' b t
  | str b=>obtain ⟨t,rfl⟩:=rx;exact SeqAt.EqAt.str_str a t' b t
  | _=>exact absurd (show false=true from fx) b_
 | _=>exact absurd (show false=true from fy) b_
def ef(x:V)(u:Value):Bool:=match u with
 | .none=>iW .aI x
 | .bool b=>iW (.bl b) x
 | .int i _=>iW (.int i) x
 | .str z _=>iW (.str z) x
 | _=>false
theorem zF(r:RelV y u)(f:gC y=true):ef x u=iW y x:=by
 cases y with
 | aI=>cases r;rfl
 | bl b=>cases r;rfl
 | int i=>obtain ⟨t,rfl⟩:=r;rfl
 | str z=>obtain ⟨t,rfl⟩:=r;rfl
 | _=>exact absurd (show false=true from f) b_
theorem oT{x:V}:∀{xs:List V} {us:List Value},Vals xs us→xs.all gC=true→us.any (ef x)=xs.any fun y=>iW y x
 | _,_,.nil,_=>rfl
 | y::xs,u::us,.cons r t,f=>by rw [List.all_cons,qA] at f;rw [om,om,zF r f.1,oT t f.2]
theorem oU{A:Around}{s:Shared}{x:V}{v:Value}(rx:RelV x v)(fx:gC x=true):∀{xs:List V} {us:List Value},Vals xs us→xs.all gC=true→∀u∈us,SeqAt.EqAt A s u v (ef x u)
 | _,_,.nil,_=>fun u hu=>by cases hu
 | y::xs,u::us,.cons r t,f=>fun u' hu=>by
  rw [List.all_cons,qA] at f;rcases cu.mp hu with rfl | hu;·rw [zF r f.1];exact Ey r rx f.1 fx
  ·exact oU rx fx t f.2 u' hu
def iX(x:V)(xs:List V):Bool:=xs.any fun y=>iW y x
def u0(K:aB)(neg:Bool):R2:=fun x y H Q=>∃p xs,y=.ref p∧(bL K H p xs∨cE K H p xs)∧gC x=true∧xs.all gC=true∧Q (.bl (if neg then !iX x xs else iX x xs)) H
theorem Ez:cg X (compareOp .In) (u0 X.K false):=by
 intro pins s σ H x y v u Q I rx ry h;obtain ⟨p,xs,rfl,hq,fx,fs,q⟩:=h;cases ry;rcases hq with hq | hq
 ·obtain ⟨ai,r,pl,hz⟩:=I.list hq
  refine SeqAt.in_listAt (ef x) pl.isList (fun w hw=>oU rx fx r fs w (by simpa using hw)) ⟨.bl _,H,I,rfl,?_⟩
  rw [show ai.toArray.any (ef x)=ai.any (ef x) by simp,oT r fs]
  exact q
 ·obtain ⟨ai,r,pl,hz⟩:=I.tuple hq
  refine SeqAt.in_tupleAt (ef x) pl (fun w hw=>oU rx fx r fs w (by simpa using hw)) ⟨.bl _,H,I,rfl,?_⟩
  rw [show ai.toArray.any (ef x)=ai.any (ef x) by simp,oT r fs]
  exact q
theorem EA:cg X (compareOp .NotIn) (u0 X.K true):=by
 intro pins s σ H x y v u Q I rx ry h;obtain ⟨p,xs,rfl,hq,fx,fs,q⟩:=h;cases ry;rcases hq with hq | hq
 ·obtain ⟨ai,r,pl,hz⟩:=I.list hq
  refine SeqAt.notIn_listAt (ef x) pl.isList (fun w hw=>oU rx fx r fs w (by simpa using hw)) ⟨.bl _,H,I,rfl,?_⟩
  rw [show ai.toArray.any (ef x)=ai.any (ef x) by simp,oT r fs]
  exact q
 ·obtain ⟨ai,r,pl,hz⟩:=I.tuple hq
  refine SeqAt.notIn_tupleAt (ef x) pl (fun w hw=>oU rx fx r fs w (by simpa using hw)) ⟨.bl _,H,I,rfl,?_⟩
  rw [show ai.toArray.any (ef x)=ai.any (ef x) by simp,oT r fs]
  exact q
theorem iY:fz X (.builtin "len") (fun xs H Q=>∃p ys,xs=[.ref p]∧(bL X.K H p ys∨cE X.K H p ys)∧Q (.int ys.length) H):=by
 intro pins s σ H xs us Q I r h;obtain ⟨p,ys,rfl,hq,q⟩:=h;obtain ⟨u,rfl,rx⟩:=vals1 r;cases rx;have hn:=qZ;rcases hq with hq | hq
 ·obtain ⟨ai,r',pl,hz⟩:=I.list hq
  have hlen:=r'.length;exact Calls.call_len_list pl.isList (by simp only [bO] <;> omega) ⟨.int ys.length,H,I.tok _,⟨s.toks+1,by rw [bO,hlen]⟩,q⟩
 ·obtain ⟨ai,r',pl,hz⟩:=I.tuple hq
  have hlen:=r'.length;exact len_tuple pl (by simp only [bO] <;> omega) ⟨.int ys.length,H,I.tok _,⟨s.toks+1,by rw [bO,hlen]⟩,q⟩
theorem zG:fz X (.type "tuple") (fun xs H Q=>∃p ys,xs=[.ref p]∧((bL X.K H p ys∧∀l,H l=none→Q (.ref l) (upd H l (.tup ys)))∨(cE X.K H p ys∧Q (.ref p) H))):=by
 intro pins s σ H xs us Q I r h;obtain ⟨p,ys,rfl,h⟩:=h;obtain ⟨u,rfl,rx⟩:=vals1 r;cases rx;rcases h with ⟨hq,q⟩ | ⟨hq,q⟩
 ·obtain ⟨ai,r',pl,hz⟩:=I.list hq
  have hlen:=r'.length;refine call_tuple_list pl.isList (fun h' kp=>?_) (by simp only [bO] <;> omega)
  have I1:Inv X pins σ H {s with heap:=h'}:=I.kept (t':=s.toks) kp;have I2:Inv X pins σ (upd H h'.objs.size (.tup ys)) {s with heap:=h'.push {cls:=.type "tuple",data:=.seq ai.toArray}}:=
   I1.laid (t':=s.toks) (fun b o e=>bA _ e) (ar _) (show bj X.prog X.w _ _ _ (.tup ys) from ⟨hz,ai,r',IsTup.new _ _⟩)
  exact ⟨.ref h'.objs.size,_,I2,rfl,q _ (I1.ao.fresh (ar _))⟩
 ·obtain ⟨ai,r',pl,hz⟩:=I.tuple hq
  exact call_tuple_same pl ⟨.ref p,H,I,rfl,q⟩
def u4(K:aB)(T:String)(x:V)(H:Hp):Prop:=match x with
 | .str _=>T="str"
 | .int _=>T="int"
 | .ref p=>(T="list"∧∃xs,bL K H p xs)∨(T="tuple"∧∃o,K.lookup p=some o∧o.cls=.type "tuple"∧o.dict=none) ∨
   (T="dict"∧((∃kvs,H p=some (.dK kvs))∨∃kvs,H p=some (.dT kvs)))∨(T="set"∧∃S n,H p=some (.set S n))
 | _=>False
theorem zH{T:String}{v:Value}(I:Inv X pins σ H s)(r:RelV x v)(ty:u4 X.K T x H) :
  s.TypeIs v T∧∀a,v=.ref a→∃ob,s.heap.get? a=some ob∧ob.dict=none:=by
 cases x with
 | str z=>obtain ⟨t,rfl⟩:=r;cases (show T="str" from ty);exact ⟨typeIs_str s z t,fun _ e=>nomatch e⟩
 | int i=>obtain ⟨t,rfl⟩:=r;cases (show T="int" from ty);exact ⟨typeIs_int s i t,fun _ e=>nomatch e⟩
 | ref p=>
  cases r;rcases ty with ⟨rfl,xs,hq⟩ | ⟨rfl,o,hk,hc,hd⟩ | ⟨rfl,hk⟩ | ⟨rfl,S,n,hk⟩
  ·obtain ⟨ai,_,pl,_⟩:=I.list hq
   refine ⟨pl.isList.typeIs,fun a e=>?_⟩;cases e;obtain ⟨o,n,e,c,hd,_⟩:=pl;exact ⟨o,e,hd⟩
  ·refine ⟨⟨o,I.cz p o hk,hc⟩,fun a e=>?_⟩
   cases e;exact ⟨o,I.cz _ o hk,hd⟩
  ·have z:∃o,s.heap.get? p=some o∧o.ExactDict:=by
    rcases hk with ⟨kvs,hk⟩ | ⟨kvs,hk⟩
    ·obtain ⟨_,_,_,_,o,_,_,e,ex,_⟩:=I.ao p _ hk
     exact ⟨o,e,ex⟩
    ·obtain ⟨_,_,_,_,o,_,_,e,ex,_⟩:=I.ao p _ hk
     exact ⟨o,e,ex⟩
   obtain ⟨o,e,ex⟩:=z;refine ⟨⟨o,e,ex.1⟩,fun a e2=>?_⟩;cases e2;exact ⟨o,e,ex.2.1⟩
  ·obtain ⟨o,_,_,_,e,ex,_⟩:=I.ao p _ hk
   refine ⟨⟨o,e,ex.1⟩,fun a e2=>?_⟩;cases e2;exact ⟨o,e,ex.2.1⟩
 | _=>exact False.elim ty
def EB(K:aB)(T:String)(r:V→List V→Hp→VK→Prop)(to:TE):TE:=fun σ H Q=>to σ H fun x H1=>u4 K T x H1∧r x [] H1 Q
def EC(K:aB)(T:String)(r:V→List V→Hp→VK→Prop)(to:TE)(t:TA):TE:=fun σ H Q=>to σ H fun x H1=>u4 K T x H1∧t σ H1 fun xs H2=>r x xs H2 Q
variable {o e:Expr} {es:List Expr} {to:TE} {t:TA} {name:Str} {apos eh:Pos} {T id:String} {r:V→List V→Hp→VK→Prop}
theorem ED(pa:PlainAttrs T)(slot:Slot T name id)(u5:typeOf (.builtin id)=pure (.type "method_descriptor"))(hm:zE X id r)(ho:PE X o to)
  (kP:attributeBase o name X.env (eval o X.env)=eval o X.env:=by rfl) (u6:(apos.endLine == eh.line)=true:=by rfl):PE X (.Call (.Attribute o name apos) [] [] eh) (EB X.K T r to):=by
 intro pins s σ H Q I h;refine wpAny_Call_method0_late kP u6 (aA (ho pins s σ H _ I h) fun v s1 ⟨x,H1,I1,r1,ty,q1⟩=>?_);obtain ⟨h1,h2⟩:=zH I1 r1 ty;exact ⟨T,id,pa,slot,u5,h1,h2,Calls.callWith_builtin rfl (PySem.evalArgs_none (hm pins s1 σ H1 x [] v [] Q I1 r1 .nil q1))⟩
theorem oV(pa:PlainAttrs T)(slot:Slot T name id)(u5:typeOf (.builtin id)=pure (.type "method_descriptor"))(hm:zE X id r)(ho:PE X o to)(ha:PA X (e::es) t)
  (kP:attributeBase o name X.env (eval o X.env)=eval o X.env:=by rfl)
  (EE:((backTo eh (starEach (e::es) X.env)).all (fun x=>!x.1) && (backToKw eh (keywordEach [] X.env)).all (fun x=>x.1.isSome)
   && decide ((e::es).length+([]:List Keyword).length+(if ([]:List Keyword).isEmpty then 0 else 1)<30))=true:=by rfl)
  (u6:(apos.endLine == eh.line)=true:=by rfl) (hs:starEach (e::es) X.env=(false,eval e X.env)::starEach es X.env:=by rfl) (EF:(backTo eh (starEach es X.env)).any (·.1)=false:=by rfl) :
  PE X (.Call (.Attribute o name apos) (e::es) [] eh) (EC X.K T r to t):=by
 intro pins s σ H Q I h;refine wpAny_Call_method_late kP EE u6 rfl (aA (ho pins s σ H _ I h) fun v s1 ⟨x,H1,I1,r1,ty,q1⟩=>?_);obtain ⟨h1,h2⟩:=zH I1 r1 ty;refine ⟨T,id,pa,slot,u5,h1,h2,?_⟩;have hA:=ha eh pins s1 σ H1 _ I1 q1;rw [hs] at hA ⊢;refine Calls.callWith_builtin (by show (false || (backTo eh (starEach es X.env)).any (·.1))=false;rw [EF] <;> rfl) (Calls.evalArgs_plain ?_)
 exact aA hA fun us s2 ⟨vs,H2,I2,r2,q2⟩=>hm pins s2 σ H2 x vs v us Q I2 r1 r2 q2
end
def u7(X:Cx)(id:String)(r:V→List V→Hp→VK→Prop):Prop:=
 ∀(pins:aC) (s:Shared) (σ:St) (H:Hp) (x:V) (xs:List V) (v:Value) (us:List Value) (Q:VK),Inv X pins σ H s→RelV x v→Vals xs us→r x xs H Q→
  wpAny (model X.prog X.w) X.A (call (.builtin id) (v::us)) (EP X pins σ Q) X.xe s
theorem Vals.one:∀{x:V} {us:List Value},Vals [x] us→∃u,us=[u]∧RelV x u
 | _,_,.cons r .nil=>⟨_,rfl,r⟩
theorem Vals.zero:∀{us:List Value},Vals [] us→us=[]
 | _,.nil=>rfl
theorem Vals.dropLast{xs:List V}{us:List Value}(h:Vals xs us):Vals xs.dropLast us.dropLast:=by
 induction h with
 | nil=>exact .nil
 | cons r t ih=>
  cases t with
  | nil=>exact .nil
  | cons q t'=>exact .cons r ih
variable {α:Type}
theorem EG(l:List α):l.eraseIdx (l.length-1)=l.dropLast:=by
 induction l with
 | nil=>rfl
 | cons a r ih=>
  cases r with
  | nil=>rfl
  | cons b r=>
   have e:(a::b::r).length-1=((b::r).length-1)+1:=by have h1:(a::b::r).length=r.length+2:=rfl;have h2:(b::r).length=r.length+1:=rfl;omega
   rw [e,List.eraseIdx_cons_succ,ih]
   all_goals rfl
section
variable {X:Cx} {pins:aC} {σ:St} {H:Hp} {s:Shared} {l b:Addr} {xs ys zs:List V}
variable {ai:List Value} {n t':Nat}
theorem Inv.u9{its':List Value}{f:Array Value→Array Value}(I:Inv X pins σ H s)(hH:H l=some (.lst xs))
  (e:s.heap.get? l=some {cls:=.type "list",data:=.seq ai.toArray n}) (hf:f ai.toArray=its'.toArray) (hv:Vals ys its') (hz:ys.length≤sizeLine) :
  Inv X pins σ (upd H l (.lst ys)) {s with heap:=s.heap.update l (Obj.mapSeq f),toks:=t'}:=by
 have q:=PySem.IsL.update e f;rw [hf] at q;refine I.write (x:=l) (e:=l) (by rw [hH];exact trivial) (.inl rfl) (fun b' u hb hu=>(Heap.get?_update_other s.heap (Obj.mapSeq f) (dM hb)).trans hu) ⟨_,q⟩ ?_
 exact ⟨hz,its',_,hv,q⟩
theorem Inv.EH(I:Inv X pins σ H s)(hv:Vals ys ai)(hz:ys.length≤sizeLine) :
  Inv X pins σ (upd H s.heap.objs.size (.lst ys)) {s with heap:=s.heap.push {cls:=.type "list",data:=.seq ai.toArray},toks:=t'}:=
 I.laid (fun _ _ q=>bA _ q) (ar _) ⟨hz,ai,0,hv,cP _ rfl⟩
theorem Inv.fresh(I:Inv X pins σ H s):H s.heap.objs.size=none:=I.ao.fresh (ar _)
theorem Inv.mM(I:Inv X pins σ H s)(hH:H l=some (.lst xs)):xs.length≤sizeLine∧∃(ai:List Value) (n:Nat),Vals xs ai∧xs.length=ai.length∧s.heap.get? l=some {cls:=.type "list",data:=.seq ai.toArray n}:=by obtain ⟨z,ai,n,r,e⟩:=I.ao l _ hH;exact ⟨z,ai,n,r,r.length,e⟩
theorem EI(h:n≤sizeLine):Builtin.List.listTooLong n=false:=by unfold Builtin.List.listTooLong;exact b3 (by omega)
end
section
variable {X:Cx}
def EJ:V→List V→Hp→VK→Prop:=fun x vs H Q=>∃l xs y,x=.ref l∧vs=[y]∧H l=some (.lst xs)∧xs.length<sizeLine∧Q .aI (upd H l (.lst (xs++[y])))
theorem jE:u7 X "list.append" EJ:=by
 intro pins s σ H x vs v us Q I rx rv h;obtain ⟨l,xs,y,rfl,rfl,hH,hz,q⟩:=h;cases rx;obtain ⟨u,rfl,ru⟩:=rv.one;obtain ⟨z,ai,n,r,hl,e⟩:=I.mM hH;refine call_meets F.slot_list_append ⟨_,e,rfl⟩ F.entry_list_append (F.args_list_append_2 _ _) (PySem.list_append l ai.toArray n u (by rw [bO];omega)) ⟨e,?_⟩
 refine ⟨.aI,_,I.u9 (its':=ai++[u]) hH e (by simp) (r.append (.cons ru .nil)) ?_,rfl,q⟩
 rw [dg,kj];omega
def EK:V→List V→Hp→VK→Prop:=fun x vs H Q=>∃l b xs zs,x=.ref l∧vs=[.ref b]∧H l=some (.lst xs)∧H b=some (.lst zs)∧xs.length+zs.length≤sizeLine∧Q .aI (upd H l (.lst (xs++zs)))
theorem Ni:u7 X "list.extend" EK:=by
 intro pins s σ H x vs v us Q I rx rv h;obtain ⟨l,b,xs,zs,rfl,rfl,hH,hB,hz,q⟩:=h;cases rx;obtain ⟨u,rfl,ru⟩:=rv.one;cases ru;obtain ⟨z,ai,n,r,hl,e⟩:=I.mM hH;obtain ⟨z2,fC,n2,r2,EL,e2⟩:=I.mM hB;have hsz:ai.toArray.size+fC.toArray.size≤sizeLine:=by rw [bO,bO];omega
 have EM:¬(!ai.toArray.isEmpty && Builtin.List.listTooLong (ai.toArray.size+fC.toArray.size))=true:=by rw [EI hsz,Bool.and_false];exact b_
 refine call_meets F.slot_list_extend ⟨_,e,rfl⟩ F.entry_list_extend (F.args_list_extend_2 _ _)
  (AutoSeq1.list_extend_list_list_0 l ai.toArray n b fC.toArray n2 EM (by rw [bO];omega) (by omega)) ⟨e,e2,?_⟩
 refine ⟨.aI,_,I.u9 (its':=ai++fC) hH e (by simp) (r.append r2) ?_,rfl,q⟩
 rw [dg];omega
def EN:V→List V→Hp→VK→Prop:=fun x vs H Q=>∃l xs y,x=.ref l∧vs=[]∧H l=some (.lst xs)∧xs[xs.length-1]?=some y∧Q y (upd H l (.lst xs.dropLast))
theorem EO:u7 X "list.pop" EN:=by
 intro pins s σ H x vs v us Q I rx rv h;obtain ⟨l,xs,y,rfl,rfl,hH,hy,q⟩:=h;cases rx;have mO:=rv.zero;subst mO;obtain ⟨z,ai,n,r,hl,e⟩:=I.mM hH;obtain ⟨u,hu,ru⟩:=r.get hy;have ER:ai.toArray[ai.toArray.size-1]?=some u:=by show ai.toArray[ai.length-1]?=some u;rw [←Array.getElem?_toList,←hl];exact hu
 refine call_meets F.slot_list_pop ⟨_,e,rfl⟩ F.entry_list_pop (F.args_list_pop_1 _) (MeetsSeq.list_pop_last l ai.toArray n u ER (by rw [bO];omega)) ⟨e,?_⟩
 refine ⟨y,_,I.u9 (its':=ai.dropLast) hH e ?_ r.dropLast ?_,ru,q⟩
 ·show ai.toArray.eraseIdxIfInBounds (ai.toArray.size-1)=ai.dropLast.toArray
  rw [bO,List.eraseIdxIfInBounds_toArray,EG]
 ·rw [List.length_dropLast]
  omega
def ES:R2:=fun x y H Q=>∃l b xs zs,x=.ref l∧y=.ref b∧H l=some (.lst xs)∧H b=some (.lst zs)∧xs.length+zs.length≤sizeLine∧∀p,H p=none→Q (.ref p) (upd H p (.lst (xs++zs)))
theorem ET:cg X (binaryOp .Add) ES:=by
 intro pins s σ H x y v u Q I rx ry h;obtain ⟨l,b,xs,zs,rfl,rfl,hH,hB,hz,q⟩:=h;cases rx;cases ry;obtain ⟨z,ai,n,r,hl,e⟩:=I.mM hH;obtain ⟨z2,fC,n2,r2,EL,e2⟩:=I.mM hB;refine PySem.P.add_list e e2 ?_ (by rw [bO,bO];omega)
 have ea:ai.toArray++fC.toArray=(ai++fC).toArray:=by simp
 rw [ea];exact ⟨.ref _,_,I.EH (t':=s.toks) (r.append r2) (by rw [dg];omega),rfl,q _ I.fresh⟩
end
section
variable {prog:Program} {w:World} {A:Around} {E:aw} {s:Shared}
end
section
variable {X:Cx}
end
end L2
namespace rf
open PySem PySem.W PySem.Calls PyProof.Rows
variable {P:Params} {h:Heap}
theorem EU:∀(ns:List Int) (vs:List Value),WellAll P h vs (ns.map WData.int)→IntsAre vs ns:=by
 intro ns
 induction ns with
 | nil=>intro vs w;rw [oj] at w;cases w;exact .nil
 | cons n ns ih=>
  intro vs w;rw [iI] at w;cases w with
  | cons a b=>cases a;exact .cons _ _ (ih _ b)
variable {l:OpenLaw} {n:Nat}
theorem EV(hn:l.most=some n){args:List WData}{vals:List Value}
  (rg:l.row.toRowW.claim.pre args=true) (u_:WellAll P h vals args) :
  ∃a vs ns,vals=[Value.ref a]∧args=[WData.list (ns.map WData.int)]∧h.get? a=some {cls:=.type "list",data:=.seq vs.toArray}∧IntsAre vs ns∧ns.length≤n:=by
 have EW:WShape.hasAll [] args [.list .int]=true:=(pre_splitW rg).1;have hc:l.pre.holds [] {args:=args}=true:=(pre_splitW rg).2;obtain ⟨d,r,rfl,h1,h2⟩:=hasAllW_cons EW;obtain rfl:=hasAllW_nil h2;obtain ⟨xs,rfl,h3⟩:=hasW_list h1;obtain ⟨ns,rfl⟩:=items_int h3;have hlen:ns.length≤n:=by
  unfold OpenLaw.pre at hc;have h4:(WTm.not (.lt (.lit (.int (n:Int))) (.len (.arg 0)))).holds [] {args:=[.list (ns.map .int)]}=true:=by have h4:=(holds_andW hc).1;rw [hn] at h4;exact h4
  have h5:=condW_of h4 (w_not (w_lt w_lit (w_len_list (w_arg rfl))));rw [aW] at h5;refine Nat.le_of_not_lt fun q=>?_;have q':(n:Int)<((ns.length:Nat):Int):=by omega
  first
   | (rw [b4 q'] at h5;exact absurd h5 (by decide))
   | (simp at h5;omega)
 cases u_ with
 | cons w1 w2=>
  cases w2;cases w1 with
  | list ho va=>exact ⟨_,_,ns,rfl,rfl,ho,EU ns _ va,hlen⟩
theorem EX(l:OpenLaw)(args:List WData):l.row.toRowW.claim.post args (.bool true) args=true:=
 postW_of (r:=l.row.toRowW) (X:=(true == true))
  (show WShape.has [] (.bool true) .bool=true by first | rfl | decide | simp [WShape.has,WShape.arms,WShape.armsAll])
  (show (WTm.eq .res (.lit (.bool true))).value [] {args:=args,res:=some (.bool true),after:=args}=some (.bool (true == true)) from w_eq_bool (w_res rfl) w_lit) rfl
theorem EY{q:Program}{loose:List Str}{XP:(Str→Option Value)→Heap→Prop}{YP:World→Heap→Prop}{d:DefRec}
  (hn:l.most=some n) (oW:d.params.defaults=[])
  (call:∀(w:World) (s₀ s₁:Shared) (mg mb:bT) (fa:Addr) (o:Obj) (pm cd doc:Value) (a:Addr) (vs:List Value) (ns:List Int),
   Ground q loose [] XP w s₀ mg mb s₁.heap→YP w s₁.heap→
   s₁.heap.get? fa=some o→o.data=.func (docDef d.name d.params d.body d.scope pm cd doc)→s₁.heap.CodeRec cd d.name→mg d.name=some (.ref fa)→
   s₁.heap.get? a=some {cls:=.type "list",data:=.seq vs.toArray}→IntsAre vs ns→ns.length≤n→s₁.gens = #[]→
   codeAny (model l.prog w) callerA (.call (.ref fa) ⟨[.ref a],[]⟩) (fun r s'=>r=.ok (.ret (.bool true))∧OldK s₁.heap s'.heap∧s'.os=s₁.os∧AllBare s'.gens) s₁) :
  WalkO q loose XP YP l.row.toRowW d [] (fun f vs=>PySem.call f vs):=by
 intro w s₀ s₁ mg mb G Y fa o pm cd doc dV kV ho hd eR hD oX hg args vals as rg Nj Nk u_ jF;obtain rfl:dV=.none:=Dflts.none hD oW;obtain rfl:kV=.none:=Dflts.noKw hD;obtain ⟨a,vs,ns,rfl,rfl,vc,hints,hlen⟩:=EV hn rg u_;refine enter_call (n_ (call w s₀ s₁ mg mb fa o pm cd doc a vs ns G Y ho (fd_plain hd) eR oX vc hints hlen hg) fun r s' hq=>?_);obtain ⟨rfl,h2,h3,h4⟩:=hq;exact ⟨.inl ⟨.bool true,.bool true,[],rfl,fun _=>rfl,.bool true,EX l _,fun _=>⟨List.Pairwise.nil,fun _ hm=>(nomatch hm)⟩⟩,h2,h3,h4⟩
section
variable {prog:Program} {w:World} {A:Around} {E:aw} {s:Shared} {K:Frag}
end
end rf
namespace L2
open PySem PySem.Spec PyProof.Rows
theorem zI:∀{vs:List Value} {ns:List Int},IntsAre vs ns→Vals (ns.map V.int) vs
 | _,_,.nil=>.nil
 | _,_,.cons n t h=>.cons ⟨t,rfl⟩ (zI h)
def vd(H:Hp):Prop:=∀b,H b=none∨∃o xs,H b=some (.bh o (.lst xs))
variable {K:aB} {k:Nat} {a:Addr} {x:Str}
theorem EZ{P:Program}{w:World}{mg mb:bT}{CX:d9}{fa:Addr}{fd:FuncData}{sp:Sp}{s₁:Shared}{vs:List Value}{ns:List Int}
  (KX:K.In s₁.heap) (zJ:s₁.heap.Ns mainGlobals mg) (hb:s₁.heap.Ns builtinsNs mb) (kT:∀x:Str,x ≠ "__name__"→mb x=bootBuiltins x) (E1:s₁.heap.NoLimit) (hg:s₁.gens = #[])
  (ha:s₁.heap.get? a=some {cls:=.type "list",data:=.seq vs.toArray}) (hi:IntsAre vs ns) (hl:ns.length≤sizeLine) (hr:cF k callerA)
  (F:∀base:Heap,K.In base→base.Ns mainGlobals mg→bx P w K mg base CX k fa fd [x] sp) (E2:∀(s:Shared) (u:Value),BindsTo s fd ⟨[u],[]⟩ [(x,u)])
  (ic:∀H:Hp,vd H→bL K H a (ns.map V.int)→sp [.ref a] H (fun v _=>v=.bl true) fun _ _ _=>False)
  (ve:∀H e s',CX [] H s₁ (fun _ _ _=>False) e s'→False) :
  codeAny (model P w) callerA (.call (.ref fa) ⟨[.ref a],[]⟩) (fun r s'=>r=.ok (.ret (.bool true))∧OldK s₁.heap s'.heap∧s'.os=s₁.os∧AllBare s'.gens) s₁:=by
 have rv:=zI hi;have E3:=hi.length
 have core:∀H:Hp,vd H→bL K H a (ns.map V.int)→bw P w H s₁.heap→(∀b,H b≠none→b=a)→(H a≠none→K.lookup a=none)→
   codeAny (model P w) callerA (.call (.ref fa) ⟨[.ref a],[]⟩) (fun r s'=>r=.ok (.ret (.bool true))∧OldK s₁.heap s'.heap∧s'.os=s₁.os∧AllBare s'.gens) s₁:=by
  intro H hO hS ao hA hK;have zK:∀{b:Addr} {o:Obj},s₁.heap.get? b=some o→H b=none→(iM s₁.heap H).get? b=some o:=fun e n=>C3 e n;have oS:∀{b:Addr} {o:Obj} {es:Array DictEntry} {ep:Nat},s₁.heap.get? b=some o→o.data=.dict es ep→H b=none:=fun{b o es ep} e d=>by
   cases q:H b with
   | none=>rfl
   | some u=>
    have e':b=a:=hA b (by rw [q];simp)
    subst e';rw [ha] at e;cases e;have d':Data.seq vs.toArray _=Data.dict es ep:=d;cases d'
  have rh:∀{b:Addr} {m:bT},s₁.heap.Ns b m→(iM s₁.heap H).Ns b m:=fun{b m} ⟨o,es,ep,e,d,r⟩=>⟨o,es,ep,zK e (oS e d),d,r⟩;have zL:K.In (iM s₁.heap H):=fun b o e=>zK (KX b o e) (by
   cases q:H b with
   | none=>rfl
   | some u=>
    have e':b=a:=hA b (by rw [q];simp)
    subst e';rw [hK (by rw [q];simp)] at e;cases e)
  have hM:Mod K mg (iM s₁.heap H):=⟨zL,rh zJ,⟨mb,rh hb,kT⟩,let ⟨mc,h1,h2⟩:=E1;⟨mc,rh h1,h2⟩⟩
  have e0:q8 P w K mg (iM s₁.heap H) callerA [] s₁ H:=⟨rfl,hM,fun b o e=>C4 e,Nat.le_of_eq (C2 _ _),trivial,fun b hb=>absurd (show b∈([]:List Addr) from hb) (by simp),ao,.of_eq hg⟩
  refine n_ ((F _ zL (rh zJ)).run callerA [] s₁ H ⟨[.ref a],[]⟩ [.ref a] [.ref a] _ _ hr e0 (E2 s₁ (.ref a)) (.cons rfl .nil) (ic H hO hS)) fun r s' h=>?_;cases r with
  | error e=>exact (ve H e s' h).elim
  | ok fl=>
   cases fl with
   | next=>exact False.elim h
   | brk=>exact False.elim h
   | cont=>exact False.elim h
   | ret u=>
    obtain ⟨v,H',os,bare,un,E4,r',q⟩:=h;have q':v=.bl true:=q;subst q';obtain rfl:u=Value.bool true:=r';refine ⟨rfl,OldK.of_keep fun b o e=>?_,os,bare⟩;cases q:H b with
    | none=>exact un.keep b o e q (by intro z;exact absurd (show b∈([]:List Addr) from z) (by simp)) (by simp)
    | some u=>
     rcases hO b with z | ⟨ob,xs,z⟩;·rw [q] at z;cases z
     ·have z2:=un.cQ b ob _ z
      obtain ⟨e1,_⟩:=ao b _ z;obtain ⟨e2,_⟩:=E4 b _ z2;rw [e] at e1;cases e1;exact e2
 cases hk:K.lookup a with
 | some o=>have e:=KX a o hk;rw [ha] at e;cases e;refine core (fun _=>none) (fun _=>.inl rfl) (.inr ⟨_,vs.toArray,_,hk,rfl,rfl,rfl,by rw [bO,E3];exact hl,by simpa using rv⟩) (fun b u z=>by have z':(none:Option HO)=some u:=z;cases z') (fun b z=>absurd rfl z) fun z=>absurd rfl z
 | none=>
  refine core (fun b=>if b=a then some (.bh {cls:=.type "list",data:=.seq vs.toArray} (.lst (ns.map V.int))) else none) (fun b=>?_) (.inl (.inr ⟨{cls:=.type "list",data:=.seq vs.toArray},ae rfl⟩)) (fun b u z=>?_) (fun b z=>?_) fun _=>hk
  ·by_cases hb:b=a
   ·exact .inr ⟨_,_,ae hb⟩
   ·exact .inl (aa hb)
  ·by_cases hb:b=a
   ·have z':=(ae hb).symm.trans z
    cases z';subst hb;exact ⟨ha,by rw [aW];exact hl,vs,_,rv,ha⟩
   ·have z':=(aa hb).symm.trans z
    cases z'
  ·by_cases hb:b=a
   ·exact hb
   ·exact absurd (aa hb) z
abbrev zM {K:aB} {h:Heap} (_:K.In h):PySem.W.Frag:=K
variable {n:Nat}
theorem E5{l:PySem.W.OpenLaw}{q:Program}{loose:List Str}{XP:(Str→Option Value)→Heap→Prop}{YP:World→Heap→Prop}{d:DefRec}{K:Params→PySem.W.Frag}{CX:World→d9}{sp:World→Sp}
  (hn:l.most=some n) (E6:n≤sizeLine) (oW:d.params.defaults=[]) (hr:cF k callerA)
  (hY:∀(w:World) (h:Heap),YP w h→(K w.params).In h)
  (F:∀(w:World) (mg:bT) (fa:Addr) (h:Heap),(K w.params).In h→h.Ns mainGlobals mg→mg d.name=some (.ref fa)→
   ∃fd:FuncData,(∀(s:Shared) (u:Value),BindsTo s fd ⟨[u],[]⟩ [(x,u)]) ∧
    ∀base:Heap,(K w.params).In base→base.Ns mainGlobals mg→bx l.prog w (K w.params) mg base (CX w) k fa fd [x] (sp w))
  (ic:∀(w:World) (H:Hp) (a:Addr) (ns:List Int),ns.length≤n→vd H→bL (K w.params) H a (ns.map V.int)→sp w [.ref a] H (fun v _=>v=.bl true) fun _ _ _=>False)
  (ve:∀(w:World) (H:Hp) (s:Shared) (e:Value) (s':Shared),CX w [] H s (fun _ _ _=>False) e s'→False) :
  PySem.W.WalkO q loose XP YP l.row.toRowW d [] (fun f vs=>PySem.call f vs):=by
 refine rf.EY hn oW fun w s₀ s₁ mg mb fa o pm cd doc a vs ns G Y ho hd eR oX vc hints hlen hg=>?_;have KX:=hY w _ Y;obtain ⟨fd,hb,hF⟩:=F w mg fa _ KX G.T.g oX;exact EZ KX G.T.g G.T.b G.T.builtins G.T.nolimit hg vc hints (bQ hlen E6) hr hF hb (fun H hO hS=>ic w H a ns hlen hO hS) fun H e s'=>ve w H s₁ e s'
def oY(s:Stmt):Arguments:=match s with
 | .FunctionDef _ a _ _ _ _ _ _ _ _=>a
 | _=>{posonlyargs:=[],args:=[],vararg:=none,kwonlyargs:=[],kw_defaults:=[],kwarg:=none,defaults:=[]}
def iZ(s:Stmt):List Stmt:=match s with
 | .FunctionDef _ _ b _ _ _ _ _ _ _=>b
 | _=>[]
def bu(s:Stmt):Scope:=match s with
 | .FunctionDef _ _ _ _ _ _ sc _ _ _=>sc
 | _=>{kind:=.function,names:=[],isGenerator:=false,isCoroutine:=false}
abbrev dB:d9:=fun _ _ _ _ _ _=>False
abbrev E0:XK:=fun _ _ _=>False
theorem dm{X:Cx}:Passes dB X E0:=fun _ _ _ _ _ _ _ h=>h.elim
structure eX (K:aB) (x qual:Str) (st:Stmt) (f:Addr) (fd:FuncData):Prop where
 ex:∃(oc:Value) (od:Option Addr) (kV doc pm:Value) (an:Option Addr) (a9 ct:Value) (h_:Array (Option Value)),
  fd=PySem.W.fnOf x qual (oY st) (iZ st) (bu st) .none kV doc pm an a9 ct∧K.lookup f=some ⟨oc,od,.func fd,h_⟩∧PySem.W.codeIn K a9 qual=true
 kp:PySem.W.keepIn K (.ref f)=true
abbrev aS (K:aB) (x:Str) (st:Stmt) (f:Addr) (fd:FuncData):Prop:=eX K x x st f fd
section
variable {P:Program} {w:World} {K:aB} {mg:bT} {base:Heap}
variable {qual:Str} {st:Stmt} {f:Addr} {fd:FuncData} {N ps:List Str} {sp:Sp}
theorem eX.ok(F:eX K x qual st f fd)(S:cj N ps (bu st))(len:∀vs H Q E,sp vs H Q E→vs.length=ps.length)
  (iT:∀(a9:Value) (A:Around) (outer:List Env) (s:Shared) (H:Hp) (vs:List V) (Q:VK) (E:XK),cF k (A.deeper (envOfC qual (bu st) s.heap.objs.size f a9))→sp vs H Q E→
   ∃t,dG (gB dB P w K mg base N qual (bu st) f a9 A outer s H E).mG (iZ st) t∧t {nx:=fun _ H'=>Q .aI H',rt:=Q} (start N vs) H):bx P w K mg base dB (k+1) f fd ps sp:=by
 obtain ⟨oc,od,kV,doc,pm,an,a9,ct,h_,rfl,lk,eR⟩:=F.ex;refine zu lk eR S len fun A outer s H vs Q E hr ic=>?_;obtain ⟨t,h,q⟩:=iT a9 A outer s H vs Q E hr ic;exact ⟨t,h.mG,q⟩
theorem eX.i3(F:eX K x qual st f fd)(S:cj N ps (bu st))
  (iT:∀(a9:Value) (A:Around) (outer:List Env) (s:Shared) (H:Hp) (vs:List V) (Q:VK) (E:XK),cF k (A.deeper (envOfC qual (bu st) s.heap.objs.size f a9))→sp vs H Q E→
   ∃t,dG (gB dB P w K mg base N qual (bu st) f a9 A outer s H E).mG (iZ st) t∧t {nx:=fun _ H'=>Q .aI H',rt:=Q} (start N vs) H)
  (len:∀vs H Q E,sp vs H Q E→vs.length=ps.length:=by intro vs H Q E h;repeat first | (obtain ⟨rfl,_⟩:=h;rfl) | (subst h;rfl) | obtain ⟨_,h⟩:=h):bx P w K mg base dB (k+1) f fd ps sp:=F.ok S len iT
theorem eX.binds(F:eX K x qual st f fd)
  (h:∀(kV doc pm:Value) (an:Option Addr) (a9 ct:Value) (us:List Value),us.length=ps.length→bindArgs (PySem.W.fnOf x qual (oY st) (iZ st) (bu st) .none kV doc pm an a9 ct) ⟨us,[]⟩=pure (ps.zip us)):Binds K fd ps []:=by
 obtain ⟨oc,od,kV,doc,pm,an,a9,ct,h_,rfl,lk,eR⟩:=F.ex;exact .all (h kV doc pm an a9 ct)
theorem eX.cm(F:eX K x qual st f fd)
  (h:∀(kV doc pm:Value) (an:Option Addr) (a9 ct:Value) (us:List Value),us.length=ps.length→bindArgs (PySem.W.fnOf x qual (oY st) (iZ st) (bu st) .none kV doc pm an a9 ct) ⟨us,[]⟩=pure (ps.zip us):=by intro _ _ _ _ _ _ us hl;rcases us with _ | ⟨_,_ | ⟨_,_ | ⟨_,_ | ⟨_,_ | ⟨_,_ | ⟨_,_ | ⟨_,_⟩⟩⟩⟩⟩⟩⟩ <;> first | rfl | (simp at hl;done)):Binds K fd ps []:=F.binds h
theorem cn{oc:Value}{od an:Option Addr}{h_:Array (Option Value)}{kV doc pm a9 ct:Value}(l:K.lookup f=some ⟨oc,od,.func (PySem.W.fnOf x qual (oY st) (iZ st) (bu st) .none kV doc pm an a9 ct),h_⟩)
  (c:PySem.W.codeIn K a9 qual=true) (k:PySem.W.keepIn K (.ref f)=true):eX K x qual st f (PySem.W.fnOf x qual (oY st) (iZ st) (bu st) .none kV doc pm an a9 ct):=⟨⟨oc,od,kV,doc,pm,an,a9,ct,h_,rfl,l,c⟩,k⟩
end
theorem il(h:n≤1000):n<sizeLine:=fk h (by decide)
section
variable {X:Cx}
theorem pv(i:Nat){pos:Pos}(hN:X.N[i]?=some x:=by rfl)(hv:kC X.env.scope x:=by first | exact Or.inl rfl | exact Or.inr (Or.inl rfl) | exact Or.inr (Or.inr rfl))(hd:(x == ("__debug__":Str))=false:=by decide)
  (eR:(x == ("__classdict__":Str))=false:=by decide):PE X (.Name x pos) (yH i):=De hN hv hd eR
end
variable {A B:Prop}
theorem rj(h:B):if false=true then A else B:=by rw [aa b_];exact h
theorem mP(h:A):if true=true then A else B:=by rw [ae rfl];exact h
theorem dH{c:Prop}[Decidable c](h1:c→A)(h2:¬c→B):if c then A else B:=by
 by_cases h:c
 ·rw [ae h]
  exact h1 h
 ·rw [aa h]
  exact h2 h
def ak(H H':Hp):Prop:=∀b o,H b=some o→H' b=some o
theorem ak.refl(H:Hp):ak H H:=fun _ _ h=>h
variable {H:Hp}
theorem ak.trans{H1 H2:Hp}(a:ak H H1)(b:ak H1 H2):ak H H2:=fun c o h=>b c o (a c o h)
theorem ak.seq{H':Hp}{xs:List V}(e:ak H H')(h:bL K H a xs):bL K H' a xs:=by
 rcases h with (h | ⟨o,h⟩) | h;·exact .inl (.inl (e _ _ h))
 ·exact .inl (.inr ⟨o,e _ _ h⟩)
 ·exact .inr h
end L2
set_option maxHeartbeats 4000000
namespace L2
open PySem PySem.Spec PyProof.Rows
variable {h:Heap} {a:Addr}
theorem bj.here{P:Program}{w:World}{H:Hp}{o:HO}(x:bj P w H h a o):∃ob,h.get? a=some ob:=by
 cases o with
 | lst xs=>obtain ⟨_,_,_,_,e⟩:=x;exact ⟨_,e⟩
 | tup xs=>obtain ⟨_,_,_,ob,e,_⟩:=x;exact ⟨_,e⟩
 | dK kvs=>obtain ⟨_,_,_,_,ob,_,_,e,_⟩:=x;exact ⟨_,e⟩
 | dT kvs=>obtain ⟨_,_,_,_,ob,_,_,e,_⟩:=x;exact ⟨_,e⟩
 | set S n=>obtain ⟨ob,_,_,_,e,_⟩:=x;exact ⟨_,e⟩
 | ins C dx fs=>obtain ⟨_,_,_,e,_⟩:=x;exact ⟨_,e⟩
 | own y=>exact x
 | xd fs=>obtain ⟨_,⟨_,_,_,e,_⟩,_⟩:=x;exact ⟨_,e⟩
 | fR lo hi=>obtain ⟨_,_,_,e⟩:=x;exact ⟨_,e⟩
 | bh ob u=>obtain ⟨e,_⟩:=x;exact ⟨_,e⟩
 | g9 ps=>exact ⟨_,x⟩
 | met f y=>exact ⟨_,x⟩
 | ext φ=>exact x.2.1
structure eY (P:Program) (w:World) (outer:List Env) (H:Hp) (s:Shared) (H':Hp) (ea C:Addr) (B:Heap) (t:Addr) (s':Shared):Prop where
 os:s'.os=s.os
 bare:AllBare s'.gens
 fl:Heap.FlyingW B outer ea (.ref C) (.ref t) s'.heap
 ao:bw P w H' B
 kb:∀b o,s.heap.get? b=some o→H b=none→b∉bI outer→B.get? b=some o
 tb:∀b o,s.heap.get? b=some o→b∉bI outer→∃o',B.get? b=some o'
 sl:∀b o,s.heap.get? b=some o→H b=none→b∈bI outer→∃l,s'.heap.get? b=some {o with slots:=l}
 E7:∀b∈bI outer,H b=none
 zN:∀b o,s.heap.get? b=some o→H b=none→H' b=none
 cW:∀b xs,H b=some (.tup xs)→H' b=some (.tup xs)
 cQ:∀b o u,H b=some (.bh o u)→H' b=some (.bh o u)
 cX:∀b ps,H b=some (.g9 ps)→∃more,H' b=some (.g9 (ps++more))
def ck(P:Program)(w:World):d9:=fun outer H s E e s'=>∃ea C H' B t,e=.ref ea∧eY P w outer H s H' ea C B t s'∧E (.ref C) none H'
section
variable {P:Program} {w:World} {outer:List Env} {H H':Hp} {s s':Shared} {ea C t:Addr} {B:Heap}
theorem eY.vf(f:eY P w outer H s H' ea C B t s'):H' ea=none:=by
 cases q:H' ea with
 | none=>rfl
 | some u=>obtain ⟨ob,e⟩:=(f.ao ea u q).here;rw [f.fl.2.1] at e;cases e
theorem eY.un(f:eY P w outer H s H' ea C B t s')(st:B.StaysIn h)(up:s'.heap.UpToSlots h):Un (bI outer) [] H H' s.heap h where
 keep:=fun b o e n hb _=>st b o (f.kb b o e n hb)
 slot:=fun b o e n hb _=>by obtain ⟨l,q⟩:=f.sl b o e n hb;obtain ⟨_,o2,q2,nf⟩:=f.fl.2.2.1.mem hb;rw [q] at q2;cases q2;obtain ⟨l2,q3⟩:=up b _ q nf;exact ⟨l2,q3⟩
 free:=fun b o e n _=>f.zN b o e n
 there:=fun b o e _=>by
  by_cases hb:b∈bI outer
  ·obtain ⟨l,q⟩:=f.sl b o e (f.E7 b hb) hb
   obtain ⟨_,o2,q2,nf⟩:=f.fl.2.2.1.mem hb;rw [q] at q2;cases q2;obtain ⟨l2,q3⟩:=up b _ q nf;exact ⟨_,q3⟩
  ·obtain ⟨o',q⟩:=f.tb b o e hb
   exact ⟨o',st b o' q⟩
 cW:=f.cW
 cQ:=f.cQ
 cX:=f.cX
def ExcAt(ea C:Addr)(h:Heap):Prop:=∃oe,h.get? ea=some oe∧oe.cls=.ref C∧PySem.W.notCls oe=true
def gD(ea C:Addr):HO:=.ext (ExcAt ea C)
theorem E8{l:List Env}(x:Heap.FlyingW B l ea (.ref C) (.ref t) h):ExcAt ea C h:=by obtain ⟨oe,vs,e,c,d,_⟩:=x.first;refine ⟨oe,e,c,?_⟩;obtain ⟨_,_,dt,_⟩:=oe;cases d;rfl
theorem bw.exc{h:Heap}(x:bw P w H' h)(n:H' ea=none)(k:ExcAt ea C h):bw P w (upd H' ea (gD ea C)) h:=fun b u e=>by
 by_cases hb:b=ea
 ·subst hb
  rw [ax] at e;cases e;obtain ⟨oe,e1,e2⟩:=k;refine ⟨⟨oe,e1,e2⟩,⟨oe,e1⟩,fun h1 h2 ⟨o1,a1,a2⟩ z=>⟨o1,z o1 a1,a2⟩⟩
 ·rw [aT hb] at e
  refine (x b u e).gx (fun c v _ q=>q) (fun c q=>?_) fun c xs q=>?_
  ·rw [aT (eO q n)]
   exact q
  ·rw [aT (eO q n)]
   exact q
theorem Un.exc{fs ex:List Addr}{h h':Heap}(u:Un fs ex H H' h h')(n:H' ea=none)(k:∀b o,h.get? b=some o→b≠ea){o:HO}:Un fs ex H (upd H' ea o) h h' where
 keep:=u.keep
 slot:=u.slot
 free:=fun b ob e z hx=>by rw [aT (k b ob e)];exact u.free b ob e z hx
 there:=u.there
 cW:=fun b xs e=>by have q:=u.cW b xs e;rw [aT (eO q n)];exact q
 cQ:=fun b ob xs e=>by have q:=u.cQ b ob xs e;rw [aT (eO q n)];exact q
 cX:=fun b ps e=>by obtain ⟨m,q⟩:=u.cX b ps e;refine ⟨m,?_⟩;rw [aT (eO q n)];exact q
theorem eY.apart(f:eY P w outer H s H' ea C B t s'):∀b o,s.heap.get? b=some o→b≠ea:=fun b o e z=>by
 subst z;by_cases hb:b∈bI outer
 ·obtain ⟨_,o2,q2,nf⟩:=f.fl.2.2.1.mem hb
  obtain ⟨oe,vs,q3,_,d,_⟩:=f.fl.first;rw [q2] at q3;cases q3;exact nf _ d
 ·obtain ⟨o',q⟩:=f.tb b o e hb
  rw [f.fl.2.1] at q;cases q
end
section
variable {X:Cx} {pins:aC} {σ:St} {H H':Hp} {s s':Shared} {ea C t:Addr} {B:Heap}
theorem Nl{P:Addr→Prop}:∀b∈([]:List Addr),P b:=fun _ z=>nomatch z
variable {tk:Nat}
theorem eY.land(I:Inv X pins σ H s)(f:eY X.prog X.w X.stack H s H' ea C B t s')(st:B.StaysIn h)(up:s'.heap.UpToSlots h):Inv X pins σ H' {s' with heap:=h,toks:=tk}:=
 I.mF (s':={s' with heap:=h,toks:=tk}) (ch:=[]) f.os (f.un st up) (f.ao.kept fun b o e=>st b o e) f.bare (fun _ z=>nomatch z)
theorem eY.E9(I:Inv X pins σ H s)(f:eY X.prog X.w X.stack H s H' ea C B t s')(x:Heap.FlyingW B X.stack ea (.ref C) (.ref t) h)(up:s'.heap.UpToSlots h):Inv X pins σ (upd H' ea (gD ea C)) {s' with heap:=h,toks:=tk}:=
 I.mF (s':={s' with heap:=h,toks:=tk}) (ch:=[]) f.os ((f.un x.1 up).exc f.vf f.apart) ((f.ao.kept fun b o e=>x.1 b o e).exc f.vf (E8 x)) f.bare (fun _ z=>nomatch z)
structure mQ (X:Cx) (E:XK):Prop where
 eQ:X.stack=X.env::X.outer
 fr:X.env.frame=some X.env.locals
 ex:X.ex=[]
 xe:X.xe=fun e s'=>wpAny (model X.prog X.w) X.A (leaving X.env e) (fun _ dz=>ck X.prog X.w X.outer X.H₀ X.s₀ E e dz) (fun e' dz=>ck X.prog X.w X.outer X.H₀ X.s₀ E e' dz) s'
theorem rp{env:Env}{outer:List Env}{L:Addr}(h:env.frame=some L):bI (env::outer)=L::bI outer:=by unfold bI;rw [qx,h]
variable {E:XK}
theorem eY.leave(L:mQ X E)(I:Inv X pins σ H s)(f:eY X.prog X.w X.stack H s H' ea C B t s')(x:Heap.FlyingW B X.outer ea (.ref C) (.ref t) h)(up:s'.heap.UpToSlots h):eY X.prog X.w X.outer X.H₀ X.s₀ H' ea C B t {s' with heap:=h}:=by
 have nL:∀b o,X.s₀.heap.get? b=some o→b≠X.env.locals:=fun b o e=>bP (b7 (aQ e) I.ok.above);have ns:∀b o,X.s₀.heap.get? b=some o→b∉bI X.outer→b∉bI X.stack:=fun b o e nb z=>by
  rw [L.eQ,rp L.fr] at z;rcases cu.mp z with z | z;·exact nL b o e z
  ·exact nb z
 have nx:∀b:Addr,b∉X.ex:=fun b z=>by rw [L.ex] at z;cases z
 refine ⟨f.os.trans I.os,f.bare,x,f.ao,fun b o e n nb=>?_,fun b o e nb=>?_,fun b o e n hb=>?_,I.ok.iO,fun b o e n=>?_,fun b xs e=>f.cW b xs (I.base.cW b xs e),fun b o u e=>f.cQ b o u (I.base.cQ b o u e),fun b ps e=>?_⟩;·exact f.kb b o (I.base.keep b o e n nb (nx b)) (I.base.free b o e n (nx b)) (ns b o e nb)
 ·obtain ⟨o',e'⟩:=I.base.there b o e (nx b)
  exact f.tb b o' e' (ns b o e nb)
 ·obtain ⟨l,q⟩:=I.base.slot b o e n hb (nx b)
  have hs:b∈bI X.stack:=by rw [L.eQ,rp L.fr];exact dZ _ hb
  obtain ⟨l2,q2⟩:=f.sl b _ q (I.base.free b o e n (nx b)) hs;obtain ⟨_,o2,q3,nf⟩:=f.fl.2.2.1.mem hs;rw [q2] at q3;cases q3;obtain ⟨l3,q4⟩:=up b _ q2 nf;exact ⟨l3,q4⟩
 ·obtain ⟨o',e'⟩:=I.base.there b o e (nx b)
  exact f.zN b o' e' (I.base.free b o e n (nx b))
 ·obtain ⟨m1,e1⟩:=I.base.cX b ps e
  obtain ⟨m2,e2⟩:=f.cX b _ e1;exact ⟨m1++m2,by rw [e2,Array.append_assoc]⟩
theorem rq:Passes (ck X.prog X.w) X (fun _ _ _=>False):=fun pins σ H s e s' I h=>by obtain ⟨_,_,_,_,_,_,_,q⟩:=h;exact q.elim
theorem dR(L:mQ X E):Passes (ck X.prog X.w) X E:=fun pins σ H s e s' I h=>by
 obtain ⟨ea,C,H',B,t,rfl,f,q⟩:=h;rw [L.xe];refine wpAny_leaves_onW (by rw [I.ok.frames,L.eQ]) L.fr (by have z:=f.fl;rw [L.eQ] at z;exact z) fun h' x up=>?_
 exact ⟨ea,C,H',B,t,rfl,f.leave L I x up,q⟩
end
variable {K:aB}
theorem vg{C:Addr}{fD:List Value}{newId:String}(bU:K.In h)(hq:PySem.W.excIn K C fD newId=true) :
  ∃bm N nm qn bs hdct sn sub ab col dd k0 k1 k2 k3 k5 mN,h.get? C=some (excClassObj nm qn C N bs bm hdct sn sub ab col dd k0 k1 k2 k3 k5 newId)∧h.Ns N mN∧mN "__init__"=none∧OwnTail h fD bm∧PySem.W.mroIn K C=fun b=>some ((Value.ref C::bm).contains b):=by
 unfold PySem.W.excIn at hq
 split at hq
 ·rename_i vh cls slt look
  split at hq
  ·rename_i CC rest a0 a1 a2 a3 nn a5 em es
   simp only [qA,beq_iff_eq,Bool.not_eq_true'] at hq;obtain ⟨⟨⟨⟨⟨e1,e2⟩,e3⟩,e4⟩,e5⟩,e6⟩:=hq;subst e1 e2;have rz:PySem.W.mroIn K CC=fun b=>some ((Value.ref CC::rest).contains b):=by
    funext b
    unfold PySem.W.mroIn PySem.W.clsIn;rw [look];simp [em]
   obtain ⟨c1,c2,c3,c4,c5,c6,c7,c8,c9,E_,Nm⟩:=cls;dsimp only at em e3 e5 e6;subst em e3;have Fb:slt = #[a0,a1,a2,a3,some (.builtin nn),a5]:=by obtain ⟨ll⟩:=slt;simp only at es;rw [es]
   subst Fb;exact ⟨rest,c4,c1,c5,c2,c6,c7,c8,c9,E_,vh,a0,a1,a2,a3,a5,_,bU _ _ look,.of_isNs (PySem.W.isNs_of_in bU e5),PySem.W.nsMap_none_of_in bU e5 e6,PySem.W.tail_of_in bU e4,rz⟩
  ·cases hq
 ·cases hq
section
variable {X:Cx} {E:XK} {x:Str} {C:Addr} {np eh pos:Pos} {e:Expr} {es:List Expr} {ta:TA} {B newId Fc:String} {fD:List Value}
def Fd(C:Addr)(E:XK)(ta:TA):TS:=fun _ σ H=>ta σ H fun vs H1=>vs.length≤sizeLine∧E (.ref C) none H1
theorem zO(L:mQ X E)(hc:X.calm=true)(FB:ExcBaseFacts B newId Fc fD)(hq:PySem.W.excIn X.K C fD newId=true)(hg:Gl X x)(hm:X.mg x=some (.ref C))(ha:PA X (e::es) ta)
  (hs:starEach (e::es) X.env=(false,eval e X.env)::starEach es X.env:=by rfl) (hp:(backTo eh (starEach es X.env)).any (·.1)=false:=by rfl) (hd:(x == ("__debug__":Str))=false:=by decide) :
  PS X (.Raise (some (.Call (.Name x np) (e::es) [] eh)) none pos) (Fd C E ta):=by
 intro pins s σ H D I h;obtain ⟨bm,N,nm,qn,bs,hdct,sn,sub,ab,col,dd,k0,k1,k2,k3,k5,mN,hC,hN,zP,T,_⟩:=vg I.ok.mod.bU hq
 refine wpAny_Raise_call_subT (C:=C) (nm:=nm) (q:=qn) (N:=N) (bs:=bs) (bm:=bm) (hdct:=hdct) (sn:=sn) (sub:=sub) (ab:=ab) (col:=col) (dd:=dd) (k0:=k0) (k1:=k1) (k2:=k2) (k3:=k3) (k5:=k5) FB (mN:=mN) (T.hasType FB.hasBase) (I.ok.hd hc)
  (by rw [hs];show (false || (backTo eh (starEach es X.env)).any (·.1))=false;rw [hp];rfl) zP (oM I hg hm ⟨rfl,?_⟩ hd)
 have h1:=ha eh pins s σ H _ I h;rw [hs] at h1 ⊢;refine Calls.evalArgs_plain (aA h1 fun us s2 ⟨vs,H1,I1,r,hl,q⟩=>⟨rfl,by rw [←r.length];exact hl,I1.bk _ _ hC,hN.keeps I1.bk,T.keeps I1.bk,fun h' ea mk=>?_⟩)
 rw [L.xe];have nL:∀b o,X.s₀.heap.get? b=some o→b≠X.env.locals:=fun b o q=>bP (b7 (aQ q) I1.ok.above);have ns:∀b o,X.s₀.heap.get? b=some o→b∉bI X.outer→b∉bI X.stack:=fun b o q nb z=>by
  rw [L.eQ,rp L.fr] at z;rcases cu.mp z with z | z;·exact nL b o q z
  ·exact nb z
 have nx:∀b:Addr,b∉X.ex:=fun b z=>by rw [L.ex] at z;cases z
 have ff:s2.heap.FunFrames (PySem.W.hideAll s2.heap (bI X.stack)) (X.env::X.outer):=by have z:=I1.stack;rw [←L.eQ];exact PySem.W.funFrames_hide z fun env he a hf=>List.mem_filterMap.mpr ⟨env,he,hf⟩
 refine wpAny_leaves_madeW (base:=PySem.W.hideAll s2.heap (bI X.stack)) (h:=s2.heap) (by rw [I1.ok.frames,L.eQ]) L.fr (fun b o q=>PySem.W.of_hideAll _ q) ff mk fun h2 t fl _ _ up=>?_
 refine ⟨ea,C,H1,_,t,rfl,⟨I1.os,I1.bare,fl,fun a o e1=>?_,fun b o e1 n nb=>?_,fun b o e1 nb=>?_,fun b o e1 n hb=>?_,I1.ok.iO,fun b o e1 n=>?_,I1.base.cW,I1.base.cQ,I1.base.cX⟩,q⟩
 ·refine (I1.ao a o e1).gx (fun b u hb e2=>qw _ e2 fun z=>?_) (fun _ z=>z) fun _ _ z=>z
  have n0:=I1.oJ b z;rcases hb with hb | hb
  ·subst hb
   rw [e1] at n0;cases n0
  ·rw [hb] at n0
   cases n0
 ·exact qw _ (I1.base.keep b o e1 n nb (nx b)) (ns b o e1 nb)
 ·obtain ⟨o',e2⟩:=I1.base.there b o e1 (nx b)
  exact ⟨o',qw _ e2 (ns b o e1 nb)⟩
 ·obtain ⟨l,e2⟩:=I1.base.slot b o e1 n hb (nx b)
  have qV:b∈bI X.stack:=by rw [L.eQ,rp L.fr];exact dZ _ hb
  obtain ⟨_,o2,e3,nf⟩:=I1.stack.mem qV;rw [e2] at e3;cases e3;obtain ⟨l2,e4⟩:=up b _ (mk.keeps _ _ e2) nf;exact ⟨l2,e4⟩
 ·obtain ⟨o',e2⟩:=I1.base.there b o e1 (nx b)
  exact I1.base.free b o e1 n (nx b)
end
def vi(X:Cx)(pins:aC)(σ:St)(E:XK)(e:Value)(s':Shared):Prop:=∃s₁ H₁,Inv X pins σ H₁ s₁∧ck X.prog X.w X.stack H₁ s₁ E e s'
abbrev TX:=St→Hp→VK→XK→Prop
def zQ(X:Cx)(e:Expr)(t:TX):Prop:=
 ∀(pins:aC) (s:Shared) (σ:St) (H:Hp) (Q:VK) (E:XK),Inv X pins σ H s→t σ H Q E→wpAny (model X.prog X.w) X.A (eval e X.env) (EP X pins σ Q) (vi X pins σ E) s
abbrev rA:=Ends→XK→St→Hp→Prop
def zR(X:Cx)(st:List Stmt)(t:rA):Prop:=
 ∀(pins:aC) (s:Shared) (σ:St) (H:Hp) (D:Ends) (E:XK),Inv X pins σ H s→t D E σ H→wpAny (model X.prog X.w) X.A (execs st X.env) (SP X pins D) (vi X pins σ E) s
section
variable {X:Cx} {k:Nat} {f C:Addr} {fd:FuncData} {ps:List Str} {sp:Sp} {dy:List V} {ds:List Value} {x m:Str} {p pos apos:Pos} {e o:Expr} {es:List Expr} {ta:TE} {t:TA}
theorem Fe{pins:aC}{σ:St}{H:Hp}{s:Shared}{Q:VK}{E:XK}{us:List Value}{vs:List V}(F:bx X.prog X.w X.K X.mg X.base (ck X.prog X.w) k f fd ps sp)(hr:cF k X.A)(hb:Binds X.K fd ps ds)(hd:Vals dy ds)
  (I:Inv X pins σ H s) (r:Vals vs us) (h:sp (vs++dy) H Q E):wpAny (model X.prog X.w) X.A (call (.ref f) us) (EP X pins σ Q) (vi X pins σ E) s:=by
 have r2:Vals (vs++dy) (us++ds):=r.append hd;have hl:(us++ds).length=ps.length:=by rw [←r2.length];exact F.len _ _ _ _ h
 refine wpAny_call (n_ (F.run X.A X.stack s H ⟨us,[]⟩ (us++ds) (vs++dy) Q E hr I.zg (hb s us I.cz hl) r2 h) fun r s' hq=>?_);cases r with
 | error e=>exact ⟨s,H,I,hq⟩
 | ok fl=>
  cases fl with
  | ret u=>exact I.after hq
  | next=>exact False.elim hq
  | brk=>exact False.elim hq
  | cont=>exact False.elim hq
def Ff(sp:Sp)(dy:List V)(t:TA):TX:=fun σ H Q E=>t σ H fun vs H1=>sp (vs++dy) H1 Q E
theorem Fg(F:bx X.prog X.w X.K X.mg X.base (ck X.prog X.w) k f fd ps sp)(hr:cF k X.A)(hg:Gl X x)(hm:X.mg x=some (.ref f))(hk:PySem.W.keepIn X.K (.ref f)=true)(hb:Binds X.K fd ps ds)(hd:Vals dy ds)
  (ha:PA X.mG (e::es) t) (iS:(x == ("__debug__":Str))=false:=by decide) (he:starEach (e::es) X.env=(false,eval e X.env)::starEach es X.env:=by rfl) (eU:(backTo pos (starEach es X.env)).any (·.1)=false:=by rfl) :
  zQ X (.Call (.Name x p) (e::es) [] pos) (Ff sp dy t):=by
 intro pins s σ H Q E I h;refine md (oM I hg hm ?_ iS);refine PySem.W.callWith_K (h₀:=X.base) I.ok.mod.bU hk (a8 (ha pos pins s σ H _ (I.gz _) h) (fun us s1 ⟨vs,H1,I1,r,q⟩=>⟨I1.cz,?_⟩) fun _ _ z=>z.elim) he eU;exact Fe F hr hb hd I1.iP r q
variable {te:TX} {i:Nat} {pos':Pos}
def Fh(te:TX):rA:=fun D E σ H=>te σ H (fun _ H1=>D.nx σ H1) E
theorem Fi(he:zQ X e te)(hs:swapsWith e none pos.line X.env=pure false:=by rfl):zR X [.Expr e pos] (Fh te):=by intro pins s σ H D E I h;refine wpAny_execs_cons (a8 (Q:=fun f s'=>f=.next∧SP X pins D .next s') (wpAny_Expr_any (a8 (he pins s σ H _ E I h) (fun v s1 ⟨y,H1,I1,r1,q1⟩=>⟨rfl,σ,H1,I1,q1⟩) fun _ _ z=>z) I.quiet hs) (fun f s1 q=>?_) fun _ _ z=>z);obtain ⟨rfl,q⟩:=q;exact l9 q
end
abbrev Cx.fT (X:Cx) (ea:Addr):Cx:={X with A:=X.A.mark (some (.ref ea)),calm:=false,xe:=fun _ _=>False}
section
variable {X:Cx} {pins:aC} {σ:St} {H:Hp} {s:Shared} {ea:Addr}
theorem Cx.Ok.fT(ok:X.Ok):(X.fT ea).Ok:=
 ⟨ok.mod,ok.kind,ok.glob,ok.blt,ok.above,ok.inj,ok.has,ok.mE,(fun z=>nomatch z),ok.frames,ok.eQ,ok.uz,ok.bs,ok.fu,ok.jv,ok.jw,ok.fS,ok.iO⟩
theorem Inv.fT(I:Inv X pins σ H s):Inv (X.fT ea) pins σ H s:=⟨I.ok.fT,I.os,I.bare,I.base,I.loc,I.cell,I.free,I.d4,I.pin,I.ao,I.len⟩
theorem Inv.mR(ok:X.Ok)(I:Inv (X.fT ea) pins σ H s):Inv X pins σ H s:=⟨ok,I.os,I.bare,I.base,I.loc,I.cell,I.free,I.d4,I.pin,I.ao,I.len⟩
theorem SP.mR(ok:X.Ok){D:Ends}{f:Flow}(h:SP (X.fT ea) pins D f s):SP X pins D f s:=by
 cases f with
 | next=>obtain ⟨a,b,I,q⟩:=h;exact ⟨a,b,I.mR ok,q⟩
 | brk=>obtain ⟨a,b,I,q⟩:=h;exact ⟨a,b,I.mR ok,q⟩
 | cont=>obtain ⟨a,b,I,q⟩:=h;exact ⟨a,b,I.mR ok,q⟩
 | ret u=>obtain ⟨v,a,b,I,r,q⟩:=h;exact ⟨v,a,b,I.mR ok,r,q⟩
theorem rB{M:Model}{A:Around}{E:aw}{i:Nat}{n:Str}{pos:Pos}{Q:Unit→Shared→Prop}(I:Inv X pins σ H s)(hN:X.N.Nodup)(hi:X.N[i]?=some n)(hk:X.env.scope.names.lookup n=some .local)
  (h:∀s',Inv X pins (σ.set i none) H s'→Q () s'):wpAny M A (do bindName X.env n .none;unbindBehindTheSuite X.env n pos) Q E s:=by
 obtain ⟨m,hn,hl⟩:=id I.loc
 refine wpAny_nameGoes_keeps hk hn (by rw [I.ok.kind];rfl) fun h' v uD hs=>h _ ?_
 have gy:=I.gy
 have qQ:i<σ.length:=by rw [I.len];exact (cw.mp hi).1
 have old:∀b o,X.s₀.heap.get? b=some o→b≠X.env.locals:=fun b o e=>bP (b7 (aQ e) I.ok.above)
 refine ⟨I.ok,I.os,I.bare,⟨fun b o e z hb hx=>?_,fun b o e z hb hx=>?_,I.base.free,fun b o e hx=>?_,I.base.cW,I.base.cQ,I.base.cX⟩,⟨_,uD,fun j y v' e1 e2 e3=>?_⟩,fun y c e=>?_,I.free,I.d4,fun p hp=>?_,fun b ob e=>?_,by simpa using I.len⟩
 ·exact (hs.2 b (old b o e)).trans (I.base.keep b o e z hb hx)
 ·obtain ⟨sl,q⟩:=I.base.slot b o e z hb hx
  exact ⟨sl,(hs.2 b (old b o e)).trans q⟩
 ·obtain ⟨o',q⟩:=I.base.there b o e hx
  exact ⟨o',(hs.2 b (old b o e)).trans q⟩
 ·by_cases hj:j=i
  ·subst hj
   rw [ud qQ] at e2
   cases e2
  ·rw [List.getElem?_set_ne (dM hj)] at e2
   obtain ⟨u',r',q⟩:=hl j y v' e1 e2 e3
   refine ⟨u',r',?_⟩
   rcases q with ⟨k,z⟩ | ⟨k,c,z1,z2⟩
   ·refine .inl ⟨k,?_⟩
    have ne:y≠n:=fun z=>hj (uB hN e1 (z▸hi))
    simp [ne,z]
   ·exact .inr ⟨k,c,z1,z2.sameBut hs (gy y c z1)⟩
 ·obtain ⟨w',z⟩:=I.cell y c e
  exact ⟨w',z.sameBut hs (gy y c e)⟩
 ·obtain ⟨a1,a2,a3,a4⟩:=I.pin p hp
  exact ⟨(hs.2 _ a3).trans a1,a2,a3,a4⟩
 ·refine (I.ao b ob e).gx (fun c w' hc q=>(hs.2 c ?_).trans q) (fun _ q=>q) fun _ _ q=>q
  intro z
  have z':c=X.env.locals:=z
  have fr:=I.free
  rcases hc with hc | hc
  ·rw [←z',hc,e] at fr
   cases fr
  ·rw [←z',hc] at fr
   cases fr
end
section
variable {M:Model} {A:Around} {E:aw} {h:Heap} {g:Array GenState} {d:Drawn} {t:Nat} {os:OsState} {e:Addr} {oe:Obj} {Q:Bool→Shared→Prop}
variable {nm q zT q':Str} {C N D N':Addr} {bs bm zU rC:List Value} {hdct zV:Bool} {sn zW:List Str} {sub zX:List Value} {ab zY:Bool} {col zZ:Option Bool} {dd fU:Option Addr} {k0 k1 k2 k3 k5 j0 j1 j2 j3 j5:Option Value} {newId Fj:String}
theorem Fl(hC:h.get? C=some (excClassObj nm q C N bs bm hdct sn sub ab col dd k0 k1 k2 k3 k5 newId))(hD:h.get? D=some (excClassObj zT q' D N' zU rC zV zW zX zY zZ fU j0 j1 j2 j3 j5 Fj))(he:h.get? e=some oe)(uC:oe.cls=.ref C)
  (kP:rC.contains (.type "BaseException")=true) (z5:(Value.ref C::bm).contains (.ref D)=true) (hq:Q true ⟨h,g,d,t,os⟩):wpAny M A (excMatches (.ref e) (.ref D)) Q E ⟨h,g,d,t,os⟩:=by
 have Fm:(Value.ref D::rC).contains (.type "BaseException")=true:=by rw [List.contains_cons,kP,Bool.or_true]
 have f:=tc_notTuple;unfold excMatches
 repeat (first | (with_reducible refine kl he ?_;rw [uC]) | with_reducible refine kl hD ?_ | (with_reducible refine wpAny_isSubtype_exc hD ?_;rw [Fm]) | (with_reducible refine wpAny_isSubtype_exc hC ?_;rw [z5]) | wp_step)
 exact hq
end
def Fn(K:aB)(fD:List Value)(newId:String)(C D:Addr):Prop:=PySem.W.excIn K C fD newId=true∧PySem.W.mroIn K C (.ref D)=some true
section
variable {X:Cx} {body:List Stmt} {b₀:Stmt} {z6:List Stmt} {np Fo pos:Pos} {x n:Str} {D:Addr} {tb:rA} {ts:TS} {fD:List Value} {newId:String} {i:Nat}
def Ends.z7(En:Ends)(i:Nat):Ends:={nx:=fun σ H=>En.nx (σ.set i none) H,rt:=En.rt,bk:=fun σ H=>En.bk (σ.set i none) H,ct:=fun σ H=>En.ct (σ.set i none) H}
def Fp(K:aB)(fD:List Value)(newId:String)(D:Addr)(i:Nat)(tb:rA)(ts:TS):TS:=fun En σ H=>
 tb En (fun c _ H'=>∃C,c=.ref C∧Fn K fD newId C D∧∀ea,H' ea=none→ts (En.z7 i) (σ.set i (some (.ref ea))) (upd H' ea (gD ea C))) σ H
theorem Fq(vj:X.stack=X.env::X.outer)(Fs:X.env.frame=some X.env.locals)(hN:X.N.Nodup)(hi:X.N[i]?=some n)(hk:X.env.scope.names.lookup n=some .local)(hb:zR X body tb)(hs:∀ea,dG (X.fT ea) (b₀::z6) ts)(hg:Gl X x)(hm:X.mg x=some (.ref D))
  (hq:PySem.W.excIn X.K D fD newId=true) (kP:fD.contains (.type "BaseException")=true) (hd:(x == ("__debug__":Str))=false:=by decide) :
  PS X (.Try body [.ExceptHandler (some (.Name x np)) (some n) (b₀::z6) Fo] [] [] pos) (Fp X.K fD newId D i tb ts):=by
 intro pins s σ H En I h;refine wpAny_Try_except (a8 (hb pins s σ H En _ I h) (fun f s1 q=>?_) fun e s1 q=>?_)
 ·cases f with
  | next=>exact l9 q
  | brk=>exact q
  | cont=>exact q
  | ret u=>exact q
 ·obtain ⟨s₁,H₁,I₁,ea,C',H',B,t,rfl,f,C,eC,⟨Ft,rz⟩,Fu⟩:=q
  cases eC;have fl:=f.fl;rw [vj] at fl;refine wpAny_looks_onW (by rw [I.ok.frames,vj]) Fs fl fun h₄ held Fv=>?_
  refine wpAny_landsW held fun h₅ vk Fw=>?_;have up:=Fv.trans Fw;have I₅:Inv X pins σ H' {s1 with heap:=h₅}:=f.land (tk:=s1.toks) I₁ vk.1 up;obtain ⟨ob,Fx,Fy⟩:=vk.there;refine wpAny_handleBy_cons (codeAny_handlers_test ?_) (by intro z;cases z)
  refine oM (X:=X.fT ea) I₅.fT hg hm ?_ hd;obtain ⟨bm,N,nm,qn,bs,hdct,sn,sub,ab,col,dd,k0,k1,k2,k3,k5,mN,hC,Nn,zP,T,eM⟩:=vg I₅.cz Ft;obtain ⟨rC,N',zT,Np,zU,zV,zW,zX,zY,zZ,fU,j0,j1,j2,j3,j5,Nq,hD,Nr,Nt,T',_⟩:=vg I₅.cz hq;rw [eM] at rz;refine Fl hC hD Fx Fy (T'.hasType kP) (Option.some.inj rz) (codeAny_handlers_suite_as ?_);refine lands_againW vk fun h₆ Fz FA=>?_;have z8:=Fz;rw [←vj] at z8;have I₆:Inv X pins σ (upd H' ea (gD ea C')) {s1 with heap:=h₆}:=f.E9 (tk:=s1.toks) I₁ z8 (up.trans FA);refine uF (X:=X.fT ea) (v:=.ref ea) I₆.fT hN hi (.inl hk) rfl (fun s2 I2=>?_) (.inr hk);refine a8 (hs ea pins _ _ _ (En.z7 i) I2 (Fu ea f.vf)) (fun f s' q=>?_) fun _ _ z=>z.elim;have q:=q.mR I.ok;cases f with
  | next=>obtain ⟨a,b,J,q⟩:=q;exact rB J hN hi hk fun s3 J3=>⟨_,_,J3,q⟩
  | brk=>obtain ⟨a,b,J,q⟩:=q;exact rB J hN hi hk fun s3 J3=>⟨_,_,J3,q⟩
  | cont=>obtain ⟨a,b,J,q⟩:=q;exact rB J hN hi hk fun s3 J3=>⟨_,_,J3,q⟩
  | ret u=>obtain ⟨v,a,b,J,r,q⟩:=q;exact rB J hN hi hk fun s3 J3=>⟨v,_,_,J3,r,q⟩
end
section
variable {P:Program} {w:World} {K:aB} {mg:bT} {base:Heap}
variable {x qual:Str} {st:Stmt} {f:Addr} {fd:FuncData} {N ps:List Str} {k:Nat} {sp:Sp}
theorem eX.vn(F:eX K x qual st f fd)(S:cj N ps (bu st))(len:∀vs H Q E,sp vs H Q E→vs.length=ps.length)
  (iT:∀(a9:Value) (A:Around) (outer:List Env) (s:Shared) (H:Hp) (vs:List V) (Q:VK) (E:XK),cF k (A.deeper (envOfC qual (bu st) s.heap.objs.size f a9))→sp vs H Q E→
   mQ (gB (ck P w) P w K mg base N qual (bu st) f a9 A outer s H E) E→
   ∃t,dG (gB (ck P w) P w K mg base N qual (bu st) f a9 A outer s H E) (iZ st) t∧t {nx:=fun _ H'=>Q .aI H',rt:=Q} (start N vs) H):bx P w K mg base (ck P w) (k+1) f fd ps sp:=by
 obtain ⟨oc,od,kV,doc,pm,an,a9,ct,h_,rfl,lk,eR⟩:=F.ex;exact zu lk eR S len fun A outer s H vs Q E hr ic=>iT a9 A outer s H vs Q E hr ic ⟨rfl,rfl,rfl,rfl⟩
theorem eX.cY(F:eX K x qual st f fd)(S:cj N ps (bu st))
  (iT:∀(a9:Value) (A:Around) (outer:List Env) (s:Shared) (H:Hp) (vs:List V) (Q:VK) (E:XK),cF k (A.deeper (envOfC qual (bu st) s.heap.objs.size f a9))→sp vs H Q E→
   mQ (gB (ck P w) P w K mg base N qual (bu st) f a9 A outer s H E) E→
   ∃t,dG (gB (ck P w) P w K mg base N qual (bu st) f a9 A outer s H E) (iZ st) t∧t {nx:=fun _ H'=>Q .aI H',rt:=Q} (start N vs) H)
  (len:∀vs H Q E,sp vs H Q E→vs.length=ps.length:=by intro vs H Q E h;repeat first | (obtain ⟨rfl,_⟩:=h;rfl) | (subst h;rfl) | obtain ⟨_,h⟩:=h):bx P w K mg base (ck P w) (k+1) f fd ps sp:=F.vn S len iT
end
structure i4 (K:aB) (C:Addr):Prop where
 ci:PySem.W.hasDictIn K C=true
 ga:PySem.W.findIn K (.ref C) "__getattribute__"=some (some (.builtin "BaseException.__getattribute__"))
 gn:PySem.W.findIn K (.ref C) "__getattr__"=some none
 ca:PySem.W.findIn K (.ref C) "__class__"=some (some (.builtin "object.__class__"))
 mo:PySem.W.mroIn K C (.type "object")=some true
 mb:PySem.W.mroIn K C (.type "BaseException")=some true
section
variable {prog:Program} {w:World} {A:Around} {E:aw} {h:Heap} {g:Array GenState} {d:Drawn} {t:Nat} {os:OsState} {K:aB} {a C:Addr} {o:Obj}
theorem FC{R:Result→Shared→Prop}(bU:K.In h)(c:i4 K C)(hx:h.get? a=some o)(hc:o.cls=.ref C)(hq:R (.ok (.ret (.ref C))) ⟨h,g,d,t,os⟩) :
  codeAny (model prog w) A (.call (.builtin "getset_descriptor.__get__") ⟨[.builtin "object.__class__",.ref a,.ref C],[]⟩) R ⟨h,g,d,t,os⟩:=by
 have z9:(⟨h,g,d,t,os⟩:Shared).TypeIs (.builtin "object.__class__") "getset_descriptor":=uj;have L1:=PySem.W.looks_mroIn (M:=model prog w) bU c.mo;have ow:=F.owner_object_class;refine codeAny_call_builtin F.slot_gs_get.plain F.entry_gs_get (F.slot_gs_get.check _ _ _ _ _ _ _ _ z9 (F.args_gs_get _ _ _) ?_)
 repeat (any_goals (first | assumption | (with_reducible refine kl hx ?_;rw [hc]) | (rw [ow];with_reducible refine L1.at ?_) | wp_step))
 refine ⟨Code.quiet_builtin _ (by decide +kernel),jm F.entry_object_class ?_⟩
 repeat (any_goals (first | assumption | (with_reducible refine kl hx ?_;rw [hc]) | wp_step))
variable {tk:Tok}
theorem FD{Q:Fin→Shared→Prop}(bU:K.In h)(c:i4 K C)(hx:h.get? a=some o)(hc:o.cls=.ref C)(hq:Q (.done (.ret (.ref C))) ⟨h,g,d,t,os⟩) :
  wpAny (model prog w) A (Builtin.«object.__getattribute__» ⟨[.ref a,.str "__class__" tk],[]⟩) Q E ⟨h,g,d,t,os⟩:=by
 have z9:(⟨h,g,d,t,os⟩:Shared).TypeIs (.builtin "object.__class__") "getset_descriptor":=uj;have L1:=PySem.W.looks_findIn (M:=model prog w) bU c.ca;have f5:=uj;have f6:=F.slot_gs_get.lookup;have f7:=F.slot_gs_set.lookup
 repeat (any_goals (first | assumption | (with_reducible refine kl hx ?_;rw [hc]) | with_reducible refine L1.at ?_ | wp_step))
 refine FC bU c hx hc ?_
 repeat (any_goals (first | assumption | wp_step))
theorem FE{M:Model}{nv:Value}{Q:Unit→Shared→Prop}(bU:K.In h)(c:i4 K C)(hx:h.get? a=some o)(hc:o.cls=.ref C)(hq:Q () ⟨h,g,d,t,os⟩) :
  wpAny M A (checkBuiltinCall "BaseException.__getattribute__" ⟨[.ref a,nv],[]⟩) Q E ⟨h,g,d,t,os⟩:=by
 have hk:builtinKind "BaseException.__getattribute__"=some .slot:=by decide +kernel
 have hs:splitId "BaseException.__getattribute__"=some ("BaseException","__getattribute__"):=by decide +kernel
 have L1:=PySem.W.looks_mroIn (M:=M) bU c.mb;have ha:=F.args_bexc_ga (.ref a) nv;simp only [checkBuiltinCall,hk,hs];refine au ?_;unfold isInstance
 repeat (first | (with_reducible refine kl hx ?_;rw [hc]) | with_reducible refine L1.at ?_ | wp_step)
 exact hq
theorem FF{fill expr:Bool}{Q:aw}(bU:K.In h)(c:i4 K C)(hx:h.get? a=some o)(hc:o.cls=.ref C)(hq:Q (.ref C) ⟨h,g,d,t,os⟩) :
  wpAny (model prog w) A (getAttrBy (.ref a) (.str "__class__" tk) fill expr) Q E ⟨h,g,d,t,os⟩:=by
 have f3:=F.attrBase_ValueError.ga.bind (.ref a);have z0:(expr && onTheHeap (Value.builtin "BaseException.__getattribute__"))=false:=by cases expr <;> rfl
 have z2:(Value.builtin "BaseException.__getattribute__" == Value.builtin "object.__getattribute__")=false:=by decide +kernel
 have z1:(onTheHeap (Value.ref C) && Value.builtin "BaseException.__getattribute__" == Value.builtin "object.__getattribute__")=false:=by rw [z2];rfl
 have L1:=PySem.W.looks_findIn (M:=model prog w) bU c.ga;have L2:=PySem.W.looks_findIn (M:=model prog w) bU c.gn
 repeat (any_goals (first | assumption | (with_reducible refine kl hx ?_;rw [hc]) | with_reducible refine L1.at ?_ | with_reducible refine L2.at ?_ | wp_step))
 refine codeAny_call_builtin F.attrBase_ValueError.ga.plain F.entry_bexc_ga (FE bU c hx hc (FD bU c hx hc ?_))
 repeat (any_goals (first | assumption | wp_step))
theorem FG{Q:Option Value→Shared→Prop}(bU:K.In h)(c:i4 K C)(hx:h.get? a=some o)(hc:o.cls=.ref C)(hq:Q (some (.ref C)) ⟨h,g,d,t+1,os⟩) :
  wpAny (model prog w) A (getAttr? (.ref a) "__class__") Q E ⟨h,g,d,t,os⟩:=by
 unfold getAttr? getAttrBy?
 repeat (any_goals (first | assumption | with_reducible apply FF bU c hx hc | wp_step))
theorem z_(c:i4 K C):PySem.W.KitX K (.ref a) (.ref C) (ExcAt a C) where
 ty:=fun M h _ k=>by obtain ⟨oe,e1,e2,_⟩:=k;exact e2▸(PySem.W.Looks.ld e1).andThen .now
 it:=fun M h bU _=>by
  obtain ⟨cd,hc,_⟩:=PySem.W.any_some c.ci;unfold PySem.W.clsIn at hc
  split at hc
  ·rename_i look
   intro A' Q' E' s' k q;unfold isType loadHead;exact au (wpAny_loadPart (k _ _ (bU _ _ look)) (bf q))
  ·cases hc
 ne:=fun h tp dd ai n sl bU FH=>by
  obtain ⟨cd,hc,_⟩:=PySem.W.any_some c.ci;refine Bool.eq_false_iff.mpr fun q=>?_;have e:C=tp:=Value.ref.inj (beq_iff_eq.mp q);subst e;unfold PySem.W.clsIn at hc
  split at hc
  ·rename_i look
   have z:=(bU _ _ look).symm.trans FH;cases z
  ·cases hc
 ca:=fun{prog w A E Q s} bU k z=>by obtain ⟨oe,e1,e2,_⟩:=k;obtain ⟨h,g,d,t,os⟩:=s;exact FG bU c e1 e2 z
end
def rD(a:Addr)(h:Heap):Prop:=∃o ep,h.get? a=some o∧o.ExactDict∧o.data=.dict #[] ep∧(a == sysModules)=false
theorem rD.FI(e:rD a h):PySem.W.KitAt a "dict" h:=by obtain ⟨o,_,e,c,_⟩:=e;exact ⟨o,e,c.1⟩
def FJ(a:Addr):HO:=.ext (rD a)
inductive mS (K:aB) (H:Hp):V→Value→Prop where
 | of {x:V} {t:Value} (h:fB K H x t):mS K H x t
 | exc {a C:Addr} (e:H a=some (gD a C)) (c:i4 K C):mS K H (.ref a) (.ref C)
 | vh {a:Addr} (e:H a=some (FJ a)):mS K H (.ref a) (.type "dict")
def Aa:V→Value
 | .ty n=>.type n
 | .ref a=>.ref a
 | _=>.none
def FK:V→Bool
 | .ty _=>true
 | .ref _=>true
 | _=>false
def FL(K:aB):List V→Hp→VK→Prop:=fun xs H Q=>∃x c t b,xs=[x,c]∧FK c=true∧mS K H x t∧PySem.W.kitOne K t (Aa c)=some b∧Q (.bl b) H
theorem Ab{X:Cx}(hK:X.K=K:=by rfl):fz X (.builtin "isinstance") (FL K):=by
 intro pins s σ H xs us Q I r h;subst hK;obtain ⟨x,c,t,b,rfl,hc,ty,e,q⟩:=h;obtain ⟨u,cv,rfl,rx,rc⟩:=vals2 r;have ec:cv=Aa c:=by
  cases c with
  | ty n=>exact rc
  | ref a=>exact rc
  | _=>cases hc
 subst ec;cases ty with
 | of ty=>exact DU I rx ty e fun tk=>⟨.bl b,H,I.tok tk,rfl,q⟩
 | @vh a ea=>cases rx;obtain ⟨k,_,_⟩:=(show bj X.prog X.w H s.heap a (.ext (rD a)) from I.ao a _ ea);exact fj PySem.W.kitx_dict I.cz k.FI e (fun z=>nomatch z) fun tk=>⟨.bl b,H,I.tok tk,rfl,q⟩
 | @exc a C ea cc=>cases rx;obtain ⟨k,_,_⟩:=(show bj X.prog X.w H s.heap a (.ext (ExcAt a C)) from I.ao a _ ea);exact fj (z_ cc) I.cz k e (fun z=>nomatch z) fun tk=>⟨.bl b,H,I.tok tk,rfl,q⟩
theorem boot_isinstance:bootBuiltins "isinstance"=some (.builtin "isinstance"):=by decide +kernel
theorem boot_min:bootBuiltins "min"=some (.builtin "min"):=by decide +kernel
theorem boot_tuple:bootBuiltins "tuple"=some (.type "tuple"):=by decide +kernel
theorem boot_list:bootBuiltins "list"=some (.type "list"):=by decide +kernel
theorem FN:bootBuiltins "ValueError"=some (.type "ValueError"):=by decide +kernel
end L2
namespace My
open PySem L2
end My
namespace L2
open PySem PySem.Spec PyProof.Rows
abbrev Cx.aZ (X:Cx) (N:List Str) (scope:Scope) (cl:List (Str×Addr)) (s₃:Shared) (H₃:Hp) (fp:List Addr):Cx:=
 {X with N:=N,s₀:=s₃,H₀:=H₃,env:=compEnvC scope cl s₃.heap.objs.size X.env,outer:=X.stack,stack:=X.stack,ex:=fp,fn:=fun _=>false,pn:=[],xe:=fun _ _=>False}
inductive jG (X:Cx):List Expr→TT→Prop where
 | nil:jG X [] (fun _ H Q=>Q true H)
 | one {c:Expr} {t:TT} (h:PT X c t):jG X [c] t
def ip(wi:TI)(ρ:St→St)(tt:TT)(te:TE):TE:=fun σ H Q=>wi σ H fun J H1=>∀D,H1 D=none→∃W:Nat→Nat→List V→Hp→Prop,(∃m,W 0 m [] (upd H1 D (.lst []))) ∧
 ∀i m ys Hc,W i m ys Hc→Hc D=some (.lst ys)∧((J.stop i Hc∧Q (.ref D) Hc)∨(J.go i Hc∧∀x H',J.cI i Hc x H'→tt (some x::ρ σ) H' fun b H2=>
  if b=true then te (some x::ρ σ) H2 fun y H3=>H3 D=some (.lst ys)∧ys.length<sizeLine∧∃m',m'<m∧W (i+1) m' (ys++[y]) (upd H3 D (.lst (ys++[y]))) else ∃m',m'<m∧W (i+1) m' ys H2))
section
variable {X:Cx} {N:List Str} {scope:Scope} {cl:List (Str×Addr)} {x:Str} {px pos:Pos} {iter elt:Expr} {ifs:List Expr} {wi:TI} {ρ:St→St} {tt:TT} {te:TE}
structure vp (X:Cx) (N:List Str) (scope:Scope) (cl:List (Str×Addr)) (x:Str) (ρ:St→St):Prop where
 rE:closureFor scope X.env=pure cl
 kind:scope.kind=.function
 rF:∀y∈scope.names,y.2≠.cell
 names:∀y∈scope.names,y.2=.local→scope.names.lookup y.1=some .local
 sub:∀p∈cl,X.env.cells.lookup p.1=some p.2
 has:∀y,((relabel scope X.env).names.lookup y=some .cell∨(relabel scope X.env).names.lookup y=some .free)→∃c,cl.lookup y=some c
 n0:N[0]?=some x
 nd:N.Nodup
 hx:scope.names.lookup x=some .local
 rG:∀(σ:St) (j:Nat) (v:V),(ρ σ)[j]?=some (some v)→∃(i:Nat) (y:Str),N[j+1]?=some y∧X.N[i]?=some y∧σ[i]?=some (some v)∧kC X.env.scope y∧(X.env.kindOf y=some .cell∨X.env.kindOf y=some .free)∧((relabel scope X.env).names.lookup y=some .cell∨(relabel scope X.env).names.lookup y=some .free)
 len:∀σ:St,σ.length=X.N.length→(ρ σ).length+1=N.length
theorem Ac{names:List (Str×NameKind)}(h:(names.all fun q=>(q.2 != .cell && q.2 != .free) || (cl.lookup q.1).isSome)=true) :
  ∀y,(names.lookup y=some .cell∨names.lookup y=some .free)→∃c,cl.lookup y=some c:=fun y hy=>by
 have key:∀k:NameKind,(k != .cell && k != .free)=false→names.lookup y=some k→∃c,cl.lookup y=some c:=fun k hk e=>by have z:=List.all_eq_true.mp h (y,k) (iH e);rw [hk,Bool.false_or] at z;exact Option.isSome_iff_exists.mp z
 rcases hy with e | e;·exact key .cell rfl e
 ·exact key .free rfl e
theorem join_some{o:Option (Option V)}{v:V}(h:some o.join=some (some v)):o=some (some v):=by
 cases o with
 | none=>cases h
 | some o=>cases h;rfl
def cA(X:Cx)(sc:Scope):List Str→List Nat→Prop
 | n::ns,i::is=>(X.N[i]?=some n∧kC X.env.scope n∧(X.env.kindOf n=some .cell∨X.env.kindOf n=some .free)∧((relabel sc X.env).names.lookup n=some .cell∨(relabel sc X.env).names.lookup n=some .free))∧cA X sc ns is
 | _,[]=>True
 | [],_::_=>False
theorem vt{X:Cx}{sc:Scope}:∀{ns:List Str} {is:List Nat},cA X sc ns is→∀(σ:St) (j:Nat) (v:V),(is.map fun i=>σ[i]?.join)[j]?=some (some v)→∃(i:Nat) (n:Str),ns[j]?=some n∧X.N[i]?=some n∧σ[i]?=some (some v)∧kC X.env.scope n∧(X.env.kindOf n=some .cell∨X.env.kindOf n=some .free)∧((relabel sc X.env).names.lookup n=some .cell∨(relabel sc X.env).names.lookup n=some .free)
 | _,[],_,_,_,_,e=>by cases e
 | [],_::_,h,_,_,_,_=>h.elim
 | n::_,i::_,h,_,0,_,e=>⟨i,n,rfl,h.1.1,join_some e,h.1.2⟩
 | _::_,_::_,h,σ,j+1,v,e=>vt h.2 σ j v e
theorem kU(is:List Nat)(h1:closureFor scope X.env=pure cl)(h:cA X scope N.tail is:=by repeat' first | exact True.intro | refine And.intro ⟨rfl,Or.inr (Or.inl rfl),.inl rfl,.inl rfl⟩ ?_)(h2:scope.kind=.function:=by rfl)(h3:∀y∈scope.names,y.2≠.cell:=by decide +kernel)(h4:∀y∈scope.names,y.2=.local→scope.names.lookup y.1=some .local:=by decide +kernel)(h5:∀p∈cl,X.env.cells.lookup p.1=some p.2:=by repeat' first | exact List.forall_mem_nil _ | refine List.forall_mem_cons.mpr ⟨rfl,?_⟩)(h6:((relabel scope X.env).names.all fun q=>(q.2 != .cell && q.2 != .free) || (cl.lookup q.1).isSome)=true:=by rfl)(h7:N[0]?=some x:=by rfl)(h8:N.Nodup:=by decide +kernel)(h9:scope.names.lookup x=some .local:=by rfl)(hr:∀σ:St,ρ σ=is.map fun i=>σ[i]?.join:=by exact fun _=>rfl)(hl:is.length+1=N.length:=by rfl):vp X N scope cl x ρ:=
 ⟨h1,h2,h3,h4,h5,Ac h6,h7,h8,h9,fun σ j v e=>by rw [hr] at e;rw [←List.getElem?_tail];exact vt h σ j v e,fun σ _=>by rw [hr,aW];exact hl⟩
theorem oZ(B:vp X N scope cl x ρ)(hc:X.calm=true)(hi:PI X (.Name x px) iter wi)(ht:∀s₃ H₃ fp,jG (X.aZ N scope cl s₃ H₃ fp) ifs tt)(he:∀s₃ H₃ fp,PE (X.aZ N scope cl s₃ H₃ fp) elt te)
  (hs:∀x,foldedSetIterable iter X.env x=pure x:=by intro _;rfl):PE X (.ListComp elt [⟨.Name x px,iter,ifs,0⟩] scope pos) (ip wi ρ tt te):=by
 intro pins s σ H Q I h
 rw [eval_ListComp]
 refine um (use:=none) rfl hs B.rE B.kind B.names (aA (hi pins s σ H _ I h) fun v s1 h1=>aA h1 fun oO s2 h2=>?_)
 obtain ⟨it,fp,tn,J,H2,rfl,I2,T,fv,f2,q2⟩:=h2
 have nD:H2 s2.heap.objs.size=none:=I2.ao.fresh (ar _)
 obtain ⟨W,⟨m0,w0⟩,turn⟩:=q2 _ nD
 refine oo (wpAny_newFunctionEnv B.rF (by intro y hy;simp at hy) (fun h₁ eZ e7=>?_) B.kind)
 dsimp only at eZ e7 ⊢
 generalize hD:s2.heap.objs.size=D at nD w0 turn eZ e7 ⊢
 generalize fE:({s2 with heap:=s2.heap.push {cls:=.type "list",dict:=none,data:=.seq ([]:List Value).toArray}}:Shared)=s3
 have I3:Inv X pins σ (upd H2 D (.lst [])) s3:=by
  subst hD fE
  exact I2.laid (t':=s2.toks) (fun b u e=>bA _ e) (ar _) ⟨bK _,[],_,.nil,cP _ rfl⟩
 have e3:s3.heap=s2.heap.push {cls:=.type "list",dict:=none,data:=.seq ([]:List Value).toArray}:=by rw [←fE]
 have e8:∀b o,s2.heap.get? b=some o→s3.heap.get? b=some o:=fun b o e=>by rw [e3];exact bA _ e
 rw [←e3] at eZ e7 ⊢
 have below:∀b o,s3.heap.get? b=some o→b≠s3.heap.objs.size:=fun b o e=>bP (aQ e)
 have cZ:∀b o,s3.heap.get? b=some o→h₁.get? b=some o:=fun b o e=>e7.extBut b o (below b o e) (bA _ e)
 have gE:∀b∈fp,∃o,s2.heap.get? b=some o∧∀v,o.data≠.cell v:=T.obj _ _ fv
 have o6:∀b∈fp,b≠D:=fun b hb z=>by
  obtain ⟨o,e,_⟩:=gE b hb
  rw [z,←hD] at e
  exact absurd (aQ e) (c_ _)
 have cG:∀y c,cl.lookup y=some c→X.env.cells.lookup y=some c:=fun y c e=>B.sub (y,c) (iH e)
 have o7:=I3.oJ
 have cY:(X.aZ N scope cl s3 (upd H2 D (.lst [])) fp).Ok:=by
  refine ⟨I.ok.mod,B.kind,I.ok.glob,I.ok.blt,ar _,fun a b c e1 e2=>I.ok.inj a b c (cG a c e1) (cG b c e2),fun y hy=>B.has y hy,(fun _ _ z _=>absurd z b_),(fun _=>I.ok.hd hc),I.ok.frames,.inl rfl,fun b hb=>⟨?_,fun y c e z=>?_⟩,fun b o e=>?_,bQ I.ok.fu I3.sz,fun b o e hb=>?_,fun b hb z=>?_,I3.stack,o7⟩
  ·obtain ⟨o,e,_⟩:=gE b hb
   exact below b o (e8 b o e)
  ·exact (f2 b hb).2.2.2.2.1 y c (cG y c e) z
  ·exact I3.bs b o e
  ·rcases (f2 b hb).2.2.2.1 with z | z
   ·exact I.ok.jv b o e z
   ·exact absurd (b7 (aQ e) (bQ I.ok.fu z)) (c_ _)
  ·rcases cu.mp (I3.oH b z) with z | z
   ·exact (f2 b hb).2.1 z
   ·exact (f2 b hb).2.2.1 z
 have IB:∀tk:Nat,Inv (X.aZ N scope cl s3 (upd H2 D (.lst [])) fp) [] (none::ρ σ) (upd H2 D (.lst [])) {s3 with heap:=h₁,toks:=tk}:=fun tk=>by
  refine ⟨cY,rfl,I3.bare,Un.kept cZ,⟨_,eZ,fun j y v e1 e2 e3=>?_⟩,fun y c e=>?_,?_,fun y c e=>I3.d4 y c (cG y c e),(fun p hp=>nomatch hp),I3.ao.kept cZ,?_⟩
  ·cases j with
   | zero=>cases e2
   | succ j=>
    obtain ⟨i,y',a1,a2,a3,a4,a5,a6⟩:=B.rG σ j v e2
    have kW:N[j+1]?=some y:=e1
    rw [kW] at a1
    cases a1
    obtain ⟨m,hn,hl⟩:=I3.loc
    obtain ⟨u,r,l⟩:=hl i y v a2 a3 a4
    refine ⟨u,r,.inr ⟨a6,?_⟩⟩
    obtain ⟨c,ec⟩:=B.has y a6
    rcases l with ⟨k,_⟩ | ⟨_,c',jH,z⟩
    ·rcases a5 with q | q <;> (rw [k] at q;cases q)
    ·have:=cG y c ec
     rw [this] at jH
     cases jH
     obtain ⟨o,ho,hd⟩:=z
     exact ⟨c,ec,o,cZ _ _ ho,hd⟩
  ·obtain ⟨v,o,ho,hd⟩:=I3.cell y c (cG y c e)
   exact ⟨v,o,cZ _ _ ho,hd⟩
  ·exact I3.ao.fresh (ar _)
  ·show (none::ρ σ).length=N.length
   rw [du]
   exact B.len σ I.len
 have fin:∀{σ':St} {H':Hp} {s':Shared},Inv (X.aZ N scope cl s3 (upd H2 D (.lst [])) fp) [] σ' H' s'→Q (.ref D) H'→compPost (model X.prog X.w) X.A X.xe none (EP X pins σ Q) (.ref D) s3.heap.objs.size (.ok .next) s':=fun{σ' H' s'} J q=>by
  obtain ⟨m,hn,_⟩:=J.loc
  refine ⟨m,hn,fun h' e_=>⟨.ref D,H',?_,rfl,q⟩⟩
  have old:∀b o,s3.heap.get? b=some o→b≠s3.heap.objs.size:=below
  have u1:Un (bI X.stack) fp (upd H2 D (.lst [])) H' s3.heap h':=by
   refine ⟨fun b o e n hb hx=>?_,fun b o e n hb hx=>?_,J.base.free,fun b o e hx=>?_,J.base.cW,J.base.cQ,J.base.cX⟩
   ·exact (e_.2 b (old b o e)).trans (J.base.keep b o e n hb hx)
   ·obtain ⟨sl,z⟩:=J.base.slot b o e n hb hx
    exact ⟨sl,(e_.2 b (old b o e)).trans z⟩
   ·obtain ⟨o',z⟩:=J.base.there b o e hx
    exact ⟨o',(e_.2 b (old b o e)).trans z⟩
  have o8:bw X.prog X.w H' h':=fun b u e=>by
   refine (J.ao b u e).gx (fun c v hc z=>(e_.2 c fun y=>?_).trans z) (fun _ z=>z) fun _ _ z=>z
   have fr:=J.free
   have y':c=s3.heap.objs.size:=y
   rcases hc with hc | hc
   ·rw [←hc,y'] at e
    exact absurd (fr.symm.trans e) (by simp)
   ·rw [y'] at hc
    exact absurd (fr.symm.trans hc) (by simp)
  refine I3.mF (s':={s' with heap:=h'}) (ch:=fp) (J.os) u1 o8 J.bare fun b hb=>?_
  obtain ⟨g0,g1,g2,g3,g4,g5⟩:=f2 b hb
  exact ⟨g3,g1,g4,g5⟩
 have d7:∀{H':Hp},(∀b∈fp,H' b=none)→∀b∈fp,iQ (X.aZ N scope cl s3 (upd H2 D (.lst [])) fp) [] H' b:=fun hn b hb=>by
  refine ⟨hn b hb,?_,?_,.inl hb,fun y c e z=>(f2 b hb).2.2.2.2.1 y c (cG y c e) z,fun p hp=>nomatch hp⟩
  ·obtain ⟨o,e,_⟩:=gE b hb
   exact below b o (e8 b o e)
  ·exact cY.jw b hb
 have loop:∀tk:Nat,codeAny (model X.prog X.w) X.A (.compLoop (.ListComp elt [⟨.Name x px,iter,ifs,0⟩] scope pos) 0 (.ref it) (.ref D) (compEnvC scope cl s3.heap.objs.size X.env))
   (compPost (model X.prog X.w) X.A X.xe none (EP X pins σ Q) (.ref D) s3.heap.objs.size) {s3 with heap:=h₁,toks:=tk}:=fun tk=>by
  refine codeAny_compLoop_tests (fun n s'=>∃i ys o H',Inv (X.aZ N scope cl s3 (upd H2 D (.lst [])) fp) [] (o::ρ σ) H' s'∧tn i s'.heap∧(∀b∈fp,H' b=none)∧W i n ys H') ?_ m0
   ⟨0,[],none,_,IB tk,T.keep _ _ _ fv fun b hb o e=>cZ _ _ (e8 _ _ e),fun b hb=>by rw [aT (o6 b hb)];exact (f2 b hb).1,w0⟩
  rintro n s4 ⟨i,ys,o,H4,I4,jI,jJ,w4⟩
  obtain ⟨Ad,o9⟩:=turn i n ys H4 w4
  rcases o9 with ⟨stop,qn⟩ | ⟨go,step⟩
  ·refine a8 (T.done (X.aZ N scope cl s3 (upd H2 D (.lst [])) fp) rfl rfl rfl hc i [] s4 _ H4 (fun _ _=>False) I4 (d7 jJ) jI stop) (fun r s5 ⟨hr,I5⟩=>?_) fun _ _ z=>z.elim
   subst hr
   exact fin I5 qn
  ·refine a8 (T.item (X.aZ N scope cl s3 (upd H2 D (.lst [])) fp) rfl rfl rfl hc i [] s4 _ H4 (fun _ _=>False) I4 (d7 jJ) jI go) (fun r s5 ⟨u,hr,h5⟩=>?_) fun _ _ z=>z.elim
   subst hr
   have z:letOwnedTupleGo (.Name x px) (.ref it) u=pure ():=rfl
   rw [z] at h5
   show wpAny _ _ ((pure ():Sem Unit) >>= fun _=>assign (.Name x px) (compEnvC scope cl s3.heap.objs.size X.env) u) _ _ s5
   refine au (a8 h5 (fun _ s5 ⟨y,H5,I5,r5,y5,d8,kH⟩=>?_) fun _ _ z=>z.elim)
   have kJ:=I5.pinned (d7 kH) (T.obj _ _ d8)
   have pg:PG (X.aZ N scope cl s3 (upd H2 D (.lst [])) fp) (.Name x px) (bz 0):=d6 (i:=0) B.nd B.n0 (.inl (jo B.hx)) (.inr (jo B.hx))
   have again:∀{σ7:St} {H7:Hp} {s7:Shared},Inv (X.aZ N scope cl s3 (upd H2 D (.lst [])) fp) ([]++hJ fp s5.heap) σ7 H7 s7→Inv (X.aZ N scope cl s3 (upd H2 D (.lst [])) fp) [] σ7 H7 s7∧tn (i+1) s7.heap∧∀b∈fp,H7 b=none:=fun{σ7 H7 s7} I7=>by
    refine ⟨I7.mI,T.keep _ _ _ d8 fun b hb o e=>(I7.pin (b,o) (cV _ (cV _ (jB hb e)))).1,fun b hb=>?_⟩
    obtain ⟨o,e,d⟩:=T.obj _ _ d8 b hb
    exact (I7.pin (b,o) (cV _ (cV _ (jB hb e)))).2.1
   refine a8 (pg _ s5 _ H5 y u (fun σ2 H6=>σ2=some y::ρ σ∧H6=H5) kJ r5 ⟨rfl,rfl⟩) (fun _ s6 ⟨σ6,H6,I6,q6⟩=>?_) fun _ _ z=>z.elim
   obtain ⟨rfl,rfl⟩:=q6
   have o_:=step y _ y5
   have tests:∀{gF:TT},jG (X.aZ N scope cl s3 (upd H2 D (.lst [])) fp) ifs gF→∀{R:Bool→Hp→Prop},gF (some y::ρ σ) H6 R→wpAny (model X.prog X.w) X.A
     (forIn ifs true fun c r=>if r=true then do let ok ←isTrue c (compEnvC scope cl s3.heap.objs.size X.env) (eval c (compEnvC scope cl s3.heap.objs.size X.env));pure (ForInStep.yield ok) else pure (ForInStep.yield r))
     (fun ok s7=>∃H7,Inv (X.aZ N scope cl s3 (upd H2 D (.lst [])) fp) ([]++hJ fp s5.heap) (some y::ρ σ) H7 s7∧R ok H7) (fun _ _=>False) s6:=fun{gF} p {R} hR=>by
    cases p with
    | nil=>exact wpAny_tests_nil ⟨_,I6,hR⟩
    | one p=>exact wpAny_tests_one (p _ s6 _ _ _ I6 hR)
   refine a8 (tests (ht s3 _ fp) o_) (fun ok s7 ⟨H7,I7,q7⟩=>?_) fun _ _ z=>z.elim
   cases ok with
   | false=>
    obtain ⟨m',gG,w7⟩:=q7
    obtain ⟨a1,a2,a3⟩:=again I7
    exact ⟨m',gG,i+1,ys,_,H7,a1,a2,a3,w7⟩
   | true=>
    refine a8 (he s3 _ fp _ s7 _ H7 _ I7 q7) (fun ev s8 ⟨z,H8,I8,r8,pb,hz,m',gG,w8⟩=>?_) fun _ _ z=>z.elim
    refine a8 (jE (X:=X.aZ N scope cl s3 (upd H2 D (.lst [])) fp) _ s8 _ H8 (.ref D) [z] (.ref D) [ev] (fun _ H9=>H9=upd H8 D (.lst (ys++[z]))) I8 rfl (.cons r8 .nil) ⟨D,ys,z,rfl,rfl,pb,hz,rfl⟩) (fun _ s9 ⟨_,H9,I9,_,q9⟩=>?_) fun _ _ z=>z.elim
    subst q9
    obtain ⟨a1,a2,a3⟩:=again I9
    exact ⟨m',gG,i+1,ys++[z],_,_,a1,a2,a3,w8⟩
 have start:=loop (s3.toks+([]:List (Str×Value)).length)
 have es:({s3 with heap:=h₁,toks:=s3.toks+([]:List (Str×Value)).length}:Shared)={s2 with heap:=h₁,toks:=s2.toks+([]:List (Str×Value)).length}:=by rw [←fE]
 rw [es] at start
 exact uo start (T.self _ 0 _ _ _ (T.keep _ _ _ fv fun b hb o e=>cZ _ _ (e8 _ _ e)) start)
end
def i5(i:Int):Prop:=i.natAbs<2 ^ 2048
theorem i5.log{i:Int}(h:i5 i):i.natAbs.log2<2048:=by
 by_cases z:i.natAbs=0;·rw [z];decide
 ·exact (Nat.log2_lt z).mpr h
theorem vv:∀{xs:List V} {us:List Value},xs.length=us.length→(∀(i:Nat) (x:V) (u:Value),xs[i]?=some x→us[i]?=some u→RelV x u)→Vals xs us
 | [],[],_,_=>.nil
 | [],_::_,h,_=>by simp at h
 | _::_,[],h,_=>by simp at h
 | x::xs,u::us,h,k=>.cons (k 0 x u rfl rfl) (vv (by simpa using h) fun i a b h1 h2=>k (i+1) a b (by simpa using h1) (by simpa using h2))
section
variable {X:Cx}
def FO(i j:Int):Prop:=0<j∧i5 j
theorem FP:cg X (binaryOp .FloorDiv) (rI FO fun i j=>.int (i / j)):=qW fun i j _ _ _ _ _ hc q=>floordiv_int (Int.ne_of_gt hc.1) (by rw [Int.fdiv_eq_ediv_of_nonneg i (bR hc.1)];exact q) (.inl (PyProof.noPylong_of_log2 (b7 hc.2.log (by decide))))
def allR(K:aB):List V→Hp→VK→Prop:=fun xs H Q=>∃(p:Addr) (bs:List Bool),xs=[.ref p]∧bL K H p (bs.map V.bl)∧Q (.bl (bs.all id)) H
theorem Ae{K:aB}(hc:X.calm=true)(hK:X.K=K:=by rfl):fz X (.builtin "all") (allR K):=by
 intro pins s σ H xs us Q I r h;subst hK;obtain ⟨p,bs,rfl,hq,q⟩:=h;obtain ⟨u,rfl,ru⟩:=vals1 r;cases ru;obtain ⟨ai,rv,pl,hz⟩:=I.list hq;have vw:p≠s.heap.objs.size:=by obtain ⟨o,e,_⟩:=pl.isList;exact bP (aQ e)
 have hl:ai.length=bs.length:=by rw [←rv.length,aW]
 refine call_all_walk (wpAny_pyIter_list pl.isList ?_);refine ⟨s.heap.objs.size,_,_,_,_,_,fun i=>bs.getD i true,rfl,Walks.list (A:=X.A.in1) (show X.A.in1.handled=none from I.ok.hd hc) s.heap.objs.size p vw ai.toArray,⟨⟨_,cP _ rfl,rfl,rfl⟩,pl.isList.push _⟩,fun i v s' Q' E' hv FQ=>?_,fun h' tk hk=>?_⟩
 ·have mT:ai[i]?=some v:=by simpa using hv
  cases eb:bs[i]? with
  | none=>
   have:=rv.none_of (i:=i) (by rw [df,eb];rfl)
   rw [this] at mT;cases mT
  | some b=>
   obtain ⟨u,hu,ru⟩:=rv.get (i:=i) (x:=V.bl b) (by rw [df,eb];rfl)
   rw [hu] at mT;cases mT;cases ru;have e:bs.getD i true=b:=by rw [fO,eb];rfl
   have Af:Q' (bs.getD i true) s':=FQ;rw [e] at Af;exact ke Af
 ·refine ⟨.bl (bs.all id),H,I.kept fun b o e=>hk b o (fun z=>?_) (bA _ e),?_,q⟩
  ·exact absurd (aQ e) (by rw [bY.mp z];exact c_ _)
  ·show Value.bool _=Value.bool _
   congr 1
   rw [bO,hl];clear hk q rv pl hz hl hq
   induction bs with
   | nil=>rfl
   | cons b bs ih=>rw [du,List.range_succ_eq_map,List.all_cons,List.all_map,List.all_cons];show (b && (List.range bs.length).all fun i=>bs.getD i true)=(b && bs.all id);rw [ih]
def FR:List V→Hp→VK→Prop:=fun xs H Q=>∃j:Int,xs=[.int j]∧∀p,H p=none→Q (.ref p) (upd H p (.fR 0 j))
theorem Ag:fz X (.type "range") FR:=by intro pins s σ H xs us Q I r h;obtain ⟨j,rfl,q⟩:=h;obtain ⟨u,rfl,ru⟩:=vals1 r;obtain ⟨t,rfl⟩:=ru;refine call_range_1 ⟨.ref s.heap.objs.size,_,I.laid (o:=.fR 0 j) (fun b o e=>bA _ e) (ar _) ⟨_,_,_,cP _ rfl⟩,rfl,q _ (I.ao.fresh (ar _))⟩
def fV(n:Nat):List V:=(List.range n).map fun i:Nat=>V.int (i:Int)
def FT:List V→Hp→VK→Prop:=fun xs H Q=>∃p n,xs=[.ref p]∧H p=some (.fR 0 (n:Nat))∧n≤10000∧∀l,H l=none→Q (.ref l) (upd H l (.lst (fV n)))
theorem FU(hc:X.calm=true):fz X (.type "list") FT:=by
 intro pins s σ H xs us Q I r h;obtain ⟨p,n,rfl,hp,hn,q⟩:=h;obtain ⟨u,rfl,ru⟩:=vals1 r;cases ru;obtain ⟨t,u,v,e⟩:=(show bj X.prog X.w H s.heap p (.fR 0 n) from I.ao p _ hp);refine call_list_range (n:=n) (I.ok.hd hc) e (small_one (by omega) (by omega) (by omega) (by omega)) (by rw [rangeSize_one];split <;> omega) (by omega) fun h' tk acc c hk hD hit=>?_
 refine ⟨.ref s.heap.objs.size,_,I.laid (o:=.lst (fV n)) (fun b o e=>hk b o e) (ar _) ⟨?_,acc.toList,c,?_,?_⟩,rfl,q _ (I.ao.fresh (ar _))⟩
 ·unfold fV
  rw [aW,dv];exact bQ hn (by decide)
 ·refine vv ?_ fun i x u h1 h2=>?_
  ·unfold fV
   rw [aW,dv,eL,hit.1]
  ·have ph:acc[i]?=some u:=by simpa using h2
   obtain ⟨bW,e'⟩:=hit.2 i u ph;unfold fV at h1;rw [df] at h1;have hi:i<n:=by have z:=(Array.getElem?_eq_some_iff.mp ph).1;rw [hit.1] at z;exact z
   rw [me hi] at h1;cases h1;exact ⟨bW,by rw [e'];simp⟩
 ·rw [hD]
end
theorem boot_all:bootBuiltins "all"=some (.builtin "all"):=by decide +kernel
theorem Ah:bootBuiltins "range"=some (.type "range"):=by decide +kernel
def vx:Expr→Bool
 | .Starred _ _=>false
 | _=>true
variable {e:Expr} {es:List Expr}
theorem FV{env:Env}(h:vx e=true):starEach (e::es) env=(false,eval e env)::starEach es env:=by cases e <;> first | rfl | cases h
variable {X:Cx} {te:TE}
theorem FW{t:TA}(hs:vx e=true)(ha:PE X e te)(hr:PA X es t):PA X (e::es) (q5 te t):=
 DV ha hr (FV hs)
theorem ah{t:TA}(ha:PE X e te)(hr:PA X es t)(hs:vx e=true:=by rfl):PA X (e::es) (q5 te t):=FW hs ha hr
variable {pos pos':Pos} {x:Str}
theorem Ai{i:Nat}(hs:swapsWith e (some (.Name x pos')) pos.line X.env=pure false)(hf:X.fn x=true∨X.env.scope.names.lookup x=some .local)(hN:X.N.Nodup)(hi:X.N[i]?=some x)(hx:Loc X.env.scope x)(he:PE X e te) :
  PS X (.Assign [.Name x pos'] e pos) (kG te (bz i)):=Dw hN hi hx he hs hf
theorem putL(i:Nat)(hN:X.N.Nodup)(he:PE X e te)(hs:swapsWith e (some (.Name x pos')) pos.line X.env=pure false:=by rfl)(hi:X.N[i]?=some x:=by rfl)(hx:X.env.scope.names.lookup x=some .local:=by rfl) :
  PS X (.Assign [.Name x pos'] e pos) (kG te (bz i)):=Ai hs (.inr hx) hN hi (.inl hx) he
theorem Nu(i:Nat)(hN:X.N.Nodup)(he:PE X e te)(hs:swapsWith e (some (.Name x pos')) pos.line X.env=pure false:=by rfl)(hf:X.fn x=true∨X.env.scope.names.lookup x=some .local:=by first | exact .inl rfl | exact .inr rfl | assumption)(hi:X.N[i]?=some x:=by rfl)(hx:X.env.scope.names.lookup x=some .cell:=by rfl) :
  PS X (.Assign [.Name x pos'] e pos) (kG te (bz i)):=Ai hs hf hN hi (.inr hx) he
end L2
namespace My
open PySem L2
theorem jK(a b:Int):decide (V.int a=V.int b)=decide (a=b):=by
 by_cases h:a=b;·subst h;simp
 ·rw [b3 h];exact b3 fun e=>h (V.int.inj e)
theorem bb{H:Hp}{p:Addr}{o:HO}(h:H p=none):ak H (upd H p o):=fun b u e=>by rw [aT (eO e h)];exact e
variable {i:Int}
theorem Aj{α:Type}{xs:List α}(h0:0≤i)(h1:i<xs.length):∃v,ig xs i=some v∧v∈xs:=by
 obtain ⟨k,rfl⟩:∃k:Nat,i=(k:Int):=⟨i.toNat,by omega⟩
 have hk:k<xs.length:=by omega
 exact ⟨xs[k],uZ (by simp [hk]),gp _⟩
theorem i5.of_lt(h1:-(10 ^ 70)<i)(h2:i<10 ^ 70):i5 i:=by
 have h3:i.natAbs<2 ^ 240:=by omega
 exact b7 h3 (Nat.pow_le_pow_right (by decide) (by decide))
def rH(K:aB):Sp:=fun vs H Q _=>∃(a:Addr) (ns:List Int),vs=[.ref a]∧bL K H a (ns.map V.int)∧ns.length≤63∧∀H',Q (.bl true) H'
end My
namespace L2
open PySem PySem.Spec PyProof.Rows
end L2
namespace My
open PySem L2
end My
namespace L2
open PySem PySem.Spec PyProof.Rows
section
variable {P:Program} {w:World} {K:aB} {mg:bT} {base:Heap}
end
section
variable {X:Cx} {CX:d9} {k:Nat} {f C:Addr} {fd:FuncData} {ps:List Str} {y:Str} {sp:Sp} {E:XK} {m:Str} {pos apos zi:Pos} {e e' o:Expr} {ta:TE} {t tk:TA}
end
end L2
namespace My
open PySem L2
end My
namespace L2
open PySem PySem.Spec PyProof.Rows
section
variable {X:Cx}
end
end L2
namespace My
open PySem L2
section
variable {C N z:Addr} {q:Int} {v u:V} {t b t' b':Int} {H:Hp} {Q:VK} {E:XK}
end
end My
namespace L2
open PySem PySem.Spec PyProof.Rows
structure i6 (J:It) (xs:List V) (H1:Hp):Prop where
 go:∀i Hc,ak H1 Hc→i<xs.length→J.go i Hc
 cI:∀i Hc x H',ak H1 Hc→J.cI i Hc x H'→H'=Hc∧(i<xs.length→xs[i]?=some x)
 stop:∀i Hc,ak H1 Hc→xs.length≤i→J.stop i Hc
variable {xs:List V} {H1:Hp}
theorem vy{K:aB}{a:Addr}(h:bL K H1 a xs):i6 (jz K a) xs H1 where
 go:=fun i Hc s hi=>⟨xs,xs[i],s.seq h,by simp [hi]⟩
 cI:=fun i Hc x H' s y=>⟨y.1,fun _=>y.2 xs (s.seq h)⟩
 stop:=fun i Hc s hi=>⟨xs,s.seq h,hi⟩
theorem Ak{lo:Int}{n:Nat}:i6 (jA lo n) ((List.range n).map fun i:Nat=>V.int (lo+(i:Int))) H1 where
 go:=fun i Hc s hi=>by
  have hi:i<n:=by simpa using hi
  exact hi
 cI:=fun i Hc x H' s y=>⟨y.1,fun hi=>by
  have hi:i<n:=by simpa using hi
  rw [y.2];simp [hi]⟩
 stop:=fun i Hc s hi=>by
  have hi:n≤i:=by simpa using hi
  exact hi
variable {H:Hp} {D:Addr}
theorem fF{H':Hp}{o:HO}(s:ak H H')(n:H D=none):ak H (upd H' D o):=fun b u e=>by rw [aT (eO e n)];exact s b u e
variable {te:TE} {Q:VK}
theorem FX{J:It}{ρσ:St}(js:i6 J xs H1)(nD:H1 D=none)(hn:xs.length<sizeLine)
  (P:Nat→V→Hp→Prop) (mono:∀i y H H' ys,P i y H→H D=some (.lst ys)→(∀b o,b≠D→H b=some o→H' b=some o)→P i y H')
  (step:∀i x,xs[i]?=some x→∀(Hc:Hp) (R:VK),ak H1 Hc→(∃ys,Hc D=some (.lst ys))→(∀y H3,ak Hc H3→P i y H3→R y H3)→te (some x::ρσ) Hc R)
  (fin:∀ys Hc,ak H1 Hc→ys.length=xs.length→(∀i y,ys[i]?=some y→P i y Hc)→Hc D=some (.lst ys)→Q (.ref D) Hc) :
  ∃W:Nat→Nat→List V→Hp→Prop,(∃m,W 0 m [] (upd H1 D (.lst []))) ∧
   ∀i m ys Hc,W i m ys Hc→Hc D=some (.lst ys)∧((J.stop i Hc∧Q (.ref D) Hc)∨(J.go i Hc∧∀x H',J.cI i Hc x H'→
    if true=true then te (some x::ρσ) H' fun y H3=>H3 D=some (.lst ys)∧ys.length<sizeLine∧∃m',m'<m∧W (i+1) m' (ys++[y]) (upd H3 D (.lst (ys++[y]))) else ∃m',m'<m∧W (i+1) m' ys H')):=by
 refine ⟨fun i m ys Hc=>m=xs.length-i∧i≤xs.length∧Hc D=some (.lst ys)∧ak H1 Hc∧ys.length=i∧∀j y,ys[j]?=some y→P j y Hc,⟨_,rfl,bK _,ax,fF (ak.refl H1) nD,rfl,fun j y e=>by simp at e⟩,?_⟩
 rintro i m ys Hc ⟨rfl,hi,eD,sH,el,hP⟩;refine ⟨eD,?_⟩;by_cases aX:i<xs.length
 ·refine .inr ⟨js.go i Hc sH aX,fun x H' hy=>?_⟩
  obtain ⟨rfl,hx⟩:=js.cI i Hc x H' sH hy;rw [ae rfl];refine step i x (hx aX) _ _ sH ⟨ys,eD⟩ fun y H3 s3 hp=>?_;have e3:=s3 _ _ eD;refine ⟨e3,by omega,xs.length-(i+1),by omega,rfl,aX,ax,fF (sH.trans s3) nD,by simp [el],fun j y' e=>?_⟩
  have cB:∀b o,b≠D→H3 b=some o→upd H3 D (.lst (ys++[y])) b=some o:=fun b o nb e=>by rw [aT nb];exact e
  by_cases hj:j<i
  ·have e':ys[j]?=some y':=by rw [gW (by omega)] at e;exact e
   refine mono j y' H' _ ys (hP j y' e') eD fun b o nb e=>?_;exact cB b o nb (s3 _ _ e)
  ·have hj:j=i:=by have:=(cw.mp e).1;simp at this;omega
   subst hj;have e':y'=y:=by rw [gU (by omega),el,oq] at e;simpa using e.symm
   subst e';exact mono _ _ H3 _ ys hp e3 cB
 ·have e:i=xs.length:=by omega
  subst e;exact .inl ⟨js.stop _ Hc sH (ar _),fin ys Hc sH el hP eD⟩
variable {σ:St}
theorem rJ{g:TG}{D:Ends}(h:te σ H fun x H1=>g x σ H1 D.nx):kG te g D σ H:=h
theorem dS{a b:TS}{D:Ends}(h:a {D with nx:=fun σ H=>b D σ H} σ H):yO a b D σ H:=h
section
variable {X:Cx} {N:List Str} {scope:Scope} {cl:List (Str×Addr)} {x:Str} {px pos:Pos} {iter elt:Expr} {ifs:List Expr} {wi:TI} {ρ:St→St} {tt:TT} {te:TE}
theorem Al{y:Str}{py Am:Pos}{i0:Nat}(B:vp X N scope cl x ρ)(hc:X.calm=true)(hN:X.N.Nodup)(FY:X.N[i0]?=some y)(hy:Loc X.env.scope y)(hi:PI X (.Name x px) iter wi)(ht:∀s₃ H₃ fp,jG (X.aZ N scope cl s₃ H₃ fp) ifs tt)(he:∀s₃ H₃ fp,PE (X.aZ N scope cl s₃ H₃ fp) elt te)
  (FZ:swapsWith (.ListComp elt [⟨.Name x px,iter,ifs,0⟩] scope pos) (some (.Name y py)) Am.line X.env=pure true:=by rfl) (hf:X.fn y=true∨X.env.scope.names.lookup y=some .local:=by first | exact .inl rfl | exact .inr rfl | assumption)
  (hs:∀x,foldedSetIterable iter X.env x=pure x:=by intro _;rfl):PS X (.Assign [.Name y py] (.ListComp elt [⟨.Name x px,iter,ifs,0⟩] scope pos) Am) (kG (ip wi ρ tt te) (bz i0)):=by
 intro pins s σ H D0 I h
 have h:ip wi ρ tt te σ H (fun v H1=>D0.nx (σ.set i0 (some v)) H1):=h
 rw [exec_Assign_Name_used _ _ _ _ FZ]
 refine au (l_ (au ?_))
 show wpAny _ X.A (do let _ ←comprehension (.ListComp elt [⟨.Name x px,iter,ifs,0⟩] scope pos) scope X.env _ (newList []) false (eval iter X.env) (some (assign (.Name y py) X.env))) _ _ s
 refine au (a8 (Q:=fun _ s'=>SP X pins D0 .next s') ?_ (fun _ s' hq=>bf (bf hq)) fun _ _ e=>e)
 refine um (use:=some (assign (.Name y py) X.env)) rfl hs B.rE B.kind B.names (aA (hi pins s σ H _ I h) fun v s1 h1=>aA h1 fun oO s2 h2=>?_)
 obtain ⟨it,fp,tn,J,H2,rfl,I2,T,fv,f2,q2⟩:=h2
 have nD:H2 s2.heap.objs.size=none:=I2.ao.fresh (ar _)
 obtain ⟨W,⟨m0,w0⟩,turn⟩:=q2 _ nD
 refine oo (wpAny_newFunctionEnv B.rF (by intro y hy;simp at hy) (fun h₁ eZ e7=>?_) B.kind)
 dsimp only at eZ e7 ⊢
 generalize hD:s2.heap.objs.size=D at nD w0 turn eZ e7 ⊢
 generalize fE:({s2 with heap:=s2.heap.push {cls:=.type "list",dict:=none,data:=.seq ([]:List Value).toArray}}:Shared)=s3
 have I3:Inv X pins σ (upd H2 D (.lst [])) s3:=by
  subst hD fE
  exact I2.laid (t':=s2.toks) (fun b u e=>bA _ e) (ar _) ⟨bK _,[],_,.nil,cP _ rfl⟩
 have e3:s3.heap=s2.heap.push {cls:=.type "list",dict:=none,data:=.seq ([]:List Value).toArray}:=by rw [←fE]
 have e8:∀b o,s2.heap.get? b=some o→s3.heap.get? b=some o:=fun b o e=>by rw [e3];exact bA _ e
 rw [←e3] at eZ e7 ⊢
 have below:∀b o,s3.heap.get? b=some o→b≠s3.heap.objs.size:=fun b o e=>bP (aQ e)
 have cZ:∀b o,s3.heap.get? b=some o→h₁.get? b=some o:=fun b o e=>e7.extBut b o (below b o e) (bA _ e)
 have gE:∀b∈fp,∃o,s2.heap.get? b=some o∧∀v,o.data≠.cell v:=T.obj _ _ fv
 have o6:∀b∈fp,b≠D:=fun b hb z=>by
  obtain ⟨o,e,_⟩:=gE b hb
  rw [z,←hD] at e
  exact absurd (aQ e) (c_ _)
 have cG:∀y c,cl.lookup y=some c→X.env.cells.lookup y=some c:=fun y c e=>B.sub (y,c) (iH e)
 have o7:=I3.oJ
 have cY:(X.aZ N scope cl s3 (upd H2 D (.lst [])) fp).Ok:=by
  refine ⟨I.ok.mod,B.kind,I.ok.glob,I.ok.blt,ar _,fun a b c e1 e2=>I.ok.inj a b c (cG a c e1) (cG b c e2),fun y hy=>B.has y hy,(fun _ _ z _=>absurd z b_),(fun _=>I.ok.hd hc),I.ok.frames,.inl rfl,fun b hb=>⟨?_,fun y c e z=>?_⟩,fun b o e=>?_,bQ I.ok.fu I3.sz,fun b o e hb=>?_,fun b hb z=>?_,I3.stack,o7⟩
  ·obtain ⟨o,e,_⟩:=gE b hb
   exact below b o (e8 b o e)
  ·exact (f2 b hb).2.2.2.2.1 y c (cG y c e) z
  ·exact I3.bs b o e
  ·rcases (f2 b hb).2.2.2.1 with z | z
   ·exact I.ok.jv b o e z
   ·exact absurd (b7 (aQ e) (bQ I.ok.fu z)) (c_ _)
  ·rcases cu.mp (I3.oH b z) with z | z
   ·exact (f2 b hb).2.1 z
   ·exact (f2 b hb).2.2.1 z
 have IB:∀tk:Nat,Inv (X.aZ N scope cl s3 (upd H2 D (.lst [])) fp) [] (none::ρ σ) (upd H2 D (.lst [])) {s3 with heap:=h₁,toks:=tk}:=fun tk=>by
  refine ⟨cY,rfl,I3.bare,Un.kept cZ,⟨_,eZ,fun j y v e1 e2 e3=>?_⟩,fun y c e=>?_,?_,fun y c e=>I3.d4 y c (cG y c e),(fun p hp=>nomatch hp),I3.ao.kept cZ,?_⟩
  ·cases j with
   | zero=>cases e2
   | succ j=>
    obtain ⟨i,y',a1,a2,a3,a4,a5,a6⟩:=B.rG σ j v e2
    have kW:N[j+1]?=some y:=e1
    rw [kW] at a1
    cases a1
    obtain ⟨m,hn,hl⟩:=I3.loc
    obtain ⟨u,r,l⟩:=hl i y v a2 a3 a4
    refine ⟨u,r,.inr ⟨a6,?_⟩⟩
    obtain ⟨c,ec⟩:=B.has y a6
    rcases l with ⟨k,_⟩ | ⟨_,c',jH,z⟩
    ·rcases a5 with q | q <;> (rw [k] at q;cases q)
    ·have:=cG y c ec
     rw [this] at jH
     cases jH
     obtain ⟨o,ho,hd⟩:=z
     exact ⟨c,ec,o,cZ _ _ ho,hd⟩
  ·obtain ⟨v,o,ho,hd⟩:=I3.cell y c (cG y c e)
   exact ⟨v,o,cZ _ _ ho,hd⟩
  ·exact I3.ao.fresh (ar _)
  ·show (none::ρ σ).length=N.length
   rw [du]
   exact B.len σ I.len
 have vz:∀b o,s3.heap.get? b=some o→b≠s3.heap.objs.size:=below
 have fin:∀{σ':St} {H':Hp} {s':Shared},Inv (X.aZ N scope cl s3 (upd H2 D (.lst [])) fp) [] σ' H' s'→D0.nx (σ.set i0 (some (.ref D))) H'→compPost (model X.prog X.w) X.A X.xe (some (assign (.Name y py) X.env)) (fun _ s'=>SP X pins D0 .next s') (.ref D) s3.heap.objs.size (.ok .next) s':=fun{σ' H' s'} J q=>by
  obtain ⟨m,hn,_⟩:=J.loc
  have hn:s'.heap.Ns s3.heap.objs.size m:=hn
  have JC:H' s3.heap.objs.size=none:=J.free
  have u1:Un (bI X.stack) fp (upd H2 D (.lst [])) H' s3.heap s'.heap:=by
   refine ⟨fun b o e n hb hx=>J.base.keep b o e n hb hx,fun b o e n hb hx=>J.base.slot b o e n hb hx,J.base.free,fun b o e hx=>J.base.there b o e hx,J.base.cW,J.base.cQ,J.base.cX⟩
  have IX:Inv X pins σ H' s':=I3.mF (ch:=fp) (J.os) u1 J.ao J.bare fun b hb=>by
   obtain ⟨g0,g1,g2,g3,g4,g5⟩:=f2 b hb
   exact ⟨g3,g1,g4,g5⟩
  have nl:X.env.locals≠s3.heap.objs.size:=by
   obtain ⟨m3,⟨o3,_,_,e3,_⟩,_⟩:=I3.loc
   exact vz _ _ e3
  have nc:∀z c,X.env.cells.lookup z=some c→c≠s3.heap.objs.size:=fun z c e=>by
   obtain ⟨v3,o3,e3,_⟩:=I3.cell z c e
   exact vz _ _ e3
  refine wpAny_assign_Name (yB (v:=.ref D) IX hN FY hy rfl (fun dz vB vC=>?_) hf)
  obtain ⟨a,vC,ha⟩:=vC
  have na:s3.heap.objs.size≠a:=by
   rcases ha with rfl | e
   ·exact fun z=>nl z.symm
   ·exact fun z=>nc _ _ e z.symm
  refine ⟨m,hn.sameBut vC na,fun h' e_=>⟨σ.set i0 (some (.ref D)),H',?_,q⟩⟩
  have u2:Un (bI X.stack) [s3.heap.objs.size] H' H' dz.heap h':=by
   refine ⟨fun b o e n hb hx=>(e_.2 b (by simpa using hx)).trans e,fun b o e n hb hx=>⟨o.slots,(e_.2 b (by simpa using hx)).trans e⟩,fun b o e n hx=>n,fun b o e hx=>⟨o,(e_.2 b (by simpa using hx)).trans e⟩,fun b xs z=>z,fun b o u z=>z,fun b ps z=>⟨#[],by simpa using z⟩⟩
  have o8:bw X.prog X.w H' h':=fun b u e=>by
   refine (vB.ao b u e).gx (fun c v hc z=>(e_.2 c fun y=>?_).trans z) (fun _ z=>z) fun _ _ z=>z
   have y':c=s3.heap.objs.size:=y
   rcases hc with hc | hc
   ·rw [←hc,y',JC] at e
    cases e
   ·rw [y',JC] at hc
    cases hc
  refine vB.mF (s':={dz with heap:=h'}) (ch:=[s3.heap.objs.size]) rfl u2 o8 vB.bare fun b hb=>?_
  have eb:b=s3.heap.objs.size:=by simpa using hb
  subst eb
  refine ⟨.inr I3.sz,fun z=>nl z.symm,fun z c e=>nc z c e,fun p hp=>?_⟩
  exact vz _ _ (I3.pin p hp).1
 have d7:∀{H':Hp},(∀b∈fp,H' b=none)→∀b∈fp,iQ (X.aZ N scope cl s3 (upd H2 D (.lst [])) fp) [] H' b:=fun hn b hb=>by
  refine ⟨hn b hb,?_,?_,.inl hb,fun y c e z=>(f2 b hb).2.2.2.2.1 y c (cG y c e) z,fun p hp=>nomatch hp⟩
  ·obtain ⟨o,e,_⟩:=gE b hb
   exact below b o (e8 b o e)
  ·exact cY.jw b hb
 have loop:∀tk:Nat,codeAny (model X.prog X.w) X.A (.compLoop (.ListComp elt [⟨.Name x px,iter,ifs,0⟩] scope pos) 0 (.ref it) (.ref D) (compEnvC scope cl s3.heap.objs.size X.env))
   (compPost (model X.prog X.w) X.A X.xe (some (assign (.Name y py) X.env)) (fun _ s'=>SP X pins D0 .next s') (.ref D) s3.heap.objs.size) {s3 with heap:=h₁,toks:=tk}:=fun tk=>by
  refine codeAny_compLoop_tests (fun n s'=>∃i ys o H',Inv (X.aZ N scope cl s3 (upd H2 D (.lst [])) fp) [] (o::ρ σ) H' s'∧tn i s'.heap∧(∀b∈fp,H' b=none)∧W i n ys H') ?_ m0
   ⟨0,[],none,_,IB tk,T.keep _ _ _ fv fun b hb o e=>cZ _ _ (e8 _ _ e),fun b hb=>by rw [aT (o6 b hb)];exact (f2 b hb).1,w0⟩
  rintro n s4 ⟨i,ys,o,H4,I4,jI,jJ,w4⟩
  obtain ⟨Ad,o9⟩:=turn i n ys H4 w4
  rcases o9 with ⟨stop,qn⟩ | ⟨go,step⟩
  ·refine a8 (T.done (X.aZ N scope cl s3 (upd H2 D (.lst [])) fp) rfl rfl rfl hc i [] s4 _ H4 (fun _ _=>False) I4 (d7 jJ) jI stop) (fun r s5 ⟨hr,I5⟩=>?_) fun _ _ z=>z.elim
   subst hr
   exact fin I5 qn
  ·refine a8 (T.item (X.aZ N scope cl s3 (upd H2 D (.lst [])) fp) rfl rfl rfl hc i [] s4 _ H4 (fun _ _=>False) I4 (d7 jJ) jI go) (fun r s5 ⟨u,hr,h5⟩=>?_) fun _ _ z=>z.elim
   subst hr
   have z:letOwnedTupleGo (.Name x px) (.ref it) u=pure ():=rfl
   rw [z] at h5
   show wpAny _ _ ((pure ():Sem Unit) >>= fun _=>assign (.Name x px) (compEnvC scope cl s3.heap.objs.size X.env) u) _ _ s5
   refine au (a8 h5 (fun _ s5 ⟨y,H5,I5,r5,y5,d8,kH⟩=>?_) fun _ _ z=>z.elim)
   have kJ:=I5.pinned (d7 kH) (T.obj _ _ d8)
   have pg:PG (X.aZ N scope cl s3 (upd H2 D (.lst [])) fp) (.Name x px) (bz 0):=d6 (i:=0) B.nd B.n0 (.inl (jo B.hx)) (.inr (jo B.hx))
   have again:∀{σ7:St} {H7:Hp} {s7:Shared},Inv (X.aZ N scope cl s3 (upd H2 D (.lst [])) fp) ([]++hJ fp s5.heap) σ7 H7 s7→Inv (X.aZ N scope cl s3 (upd H2 D (.lst [])) fp) [] σ7 H7 s7∧tn (i+1) s7.heap∧∀b∈fp,H7 b=none:=fun{σ7 H7 s7} I7=>by
    refine ⟨I7.mI,T.keep _ _ _ d8 fun b hb o e=>(I7.pin (b,o) (cV _ (cV _ (jB hb e)))).1,fun b hb=>?_⟩
    obtain ⟨o,e,d⟩:=T.obj _ _ d8 b hb
    exact (I7.pin (b,o) (cV _ (cV _ (jB hb e)))).2.1
   refine a8 (pg _ s5 _ H5 y u (fun σ2 H6=>σ2=some y::ρ σ∧H6=H5) kJ r5 ⟨rfl,rfl⟩) (fun _ s6 ⟨σ6,H6,I6,q6⟩=>?_) fun _ _ z=>z.elim
   obtain ⟨rfl,rfl⟩:=q6
   have o_:=step y _ y5
   have tests:∀{gF:TT},jG (X.aZ N scope cl s3 (upd H2 D (.lst [])) fp) ifs gF→∀{R:Bool→Hp→Prop},gF (some y::ρ σ) H6 R→wpAny (model X.prog X.w) X.A
     (forIn ifs true fun c r=>if r=true then do let ok ←isTrue c (compEnvC scope cl s3.heap.objs.size X.env) (eval c (compEnvC scope cl s3.heap.objs.size X.env));pure (ForInStep.yield ok) else pure (ForInStep.yield r))
     (fun ok s7=>∃H7,Inv (X.aZ N scope cl s3 (upd H2 D (.lst [])) fp) ([]++hJ fp s5.heap) (some y::ρ σ) H7 s7∧R ok H7) (fun _ _=>False) s6:=fun{gF} p {R} hR=>by
    cases p with
    | nil=>exact wpAny_tests_nil ⟨_,I6,hR⟩
    | one p=>exact wpAny_tests_one (p _ s6 _ _ _ I6 hR)
   refine a8 (tests (ht s3 _ fp) o_) (fun ok s7 ⟨H7,I7,q7⟩=>?_) fun _ _ z=>z.elim
   cases ok with
   | false=>
    obtain ⟨m',gG,w7⟩:=q7
    obtain ⟨a1,a2,a3⟩:=again I7
    exact ⟨m',gG,i+1,ys,_,H7,a1,a2,a3,w7⟩
   | true=>
    refine a8 (he s3 _ fp _ s7 _ H7 _ I7 q7) (fun ev s8 ⟨z,H8,I8,r8,pb,hz,m',gG,w8⟩=>?_) fun _ _ z=>z.elim
    refine a8 (jE (X:=X.aZ N scope cl s3 (upd H2 D (.lst [])) fp) _ s8 _ H8 (.ref D) [z] (.ref D) [ev] (fun _ H9=>H9=upd H8 D (.lst (ys++[z]))) I8 rfl (.cons r8 .nil) ⟨D,ys,z,rfl,rfl,pb,hz,rfl⟩) (fun _ s9 ⟨_,H9,I9,_,q9⟩=>?_) fun _ _ z=>z.elim
    subst q9
    obtain ⟨a1,a2,a3⟩:=again I9
    exact ⟨m',gG,i+1,ys++[z],_,_,a1,a2,a3,w8⟩
 have start:=loop (s3.toks+([]:List (Str×Value)).length)
 have es:({s3 with heap:=h₁,toks:=s3.toks+([]:List (Str×Value)).length}:Shared)={s2 with heap:=h₁,toks:=s2.toks+([]:List (Str×Value)).length}:=by rw [←fE]
 rw [es] at start
 exact uo start (T.self _ 0 _ _ _ (T.keep _ _ _ fv fun b hb o e=>cZ _ _ (e8 _ _ e)) start)
end
section
variable {X:Cx}
end
section
variable {prog:Program} {w:World} {A:Around} {R:Result→Shared→Prop} {s:Shared}
theorem F0{elt target iter:Expr}{ifs:List Expr}{scope:Scope}{pos:Pos}{it acc:Value}{env:Env}(I:Nat→Shared→Prop)
  (turn:∀n s,I n s→wpAny (model prog w) A (pyNext it) (fun r s₁=>match r with
   | none=>R (.ok .next) s₁
   | some v=>wpAny (model prog w) A (letOwnedTupleGo target it v) (fun _ s₁=>wpAny (model prog w) A (assign target env v) (fun _ s₂=>
     wpAny (model prog w) A (forIn ifs true fun c r=>if r=true then do let ok ←isTrue c env (eval c env);pure (ForInStep.yield ok) else pure (ForInStep.yield r)) (fun ok s₃=>
      if ok=true then wpAny (model prog w) A (eval elt env) (fun x s₄=>
       wpAny (model prog w) A (call (.builtin "list.append") [acc,x]) (fun _ s₅=>∃m,m<n∧I m s₅) (notedBy (model prog w) A env fun e s'=>R (.error e) s') s₄) (notedBy (model prog w) A env fun e s'=>R (.error e) s') s₃
      else ∃m,m<n∧I m s₃) (notedBy (model prog w) A env fun e s'=>R (.error e) s') s₂) (notedBy (model prog w) A env fun e s'=>R (.error e) s') s₁) (notedBy (model prog w) A env fun e s'=>R (.error e) s') s₁) (notedBy (model prog w) A env fun e s'=>R (.error e) s') s)
  (n:Nat) (h:I n s):codeAny (model prog w) A (.compLoop (.ListComp elt [⟨target,iter,ifs,0⟩] scope pos) 0 it acc env) R s:=by
 refine codeAny_loop rfl I (fun n s hI=>?_) n h
 show wpAny _ A ((compTurn (.ListComp elt [⟨target,iter,ifs,0⟩] scope pos) 0 it acc env).onRaise (fun x=>do noteFrame x env;theTreesLotGoes x)) _ _ s
 refine wpAny_noted ?_
 rw [compTurn_list]
 refine au (l_ (au (a8 (turn n s hI) (fun r s₁ h₁=>?_) fun _ _ h'=>h')))
 cases r with
 | none=>exact bf h₁
 | some v=>
  refine au (a8 h₁ (fun _ s₁ h₁=>?_) fun _ _ h'=>h')
  refine au (a8 h₁ (fun _ s₂ h₂=>au (a8 h₂ (fun ok s₃ h₃=>?_) fun _ _ h'=>h')) fun _ _ h'=>h')
  cases ok with
  | false=>exact bf ⟨rfl,h₃⟩
  | true=>
   exact au (au (a8 h₃ (fun x s₄ h₄=>au (a8 h₄ (fun _ s₅ h₅=>bf (bf ⟨rfl,h₅⟩)) fun _ _ h'=>h')) fun _ _ h'=>h'))
end
def rK(K:aB)(wi:TI)(ρ:St→St)(tt:TT)(te:TE):TE:=fun σ H Q=>wi σ H fun J H1=>∀D,H1 D=none→∃W:Nat→Nat→List V→Hp→Prop,(∃m,W 0 m [] (upd H1 D (.lst []))) ∧
 ∀i m ys Hc,W i m ys Hc→Hc D=some (.lst ys)∧((J.stop i Hc∧Q (.ref D) Hc)∨(J.go i Hc∧∀v H',J.cI i Hc v H'→∃T x1 x2,v=.ref T∧cE K H' T [x1,x2]∧tt (some x1::some x2::ρ σ) H' fun b H2=>
  if b=true then te (some x1::some x2::ρ σ) H2 fun y H3=>H3 D=some (.lst ys)∧ys.length<sizeLine∧∃m',m'<m∧W (i+1) m' (ys++[y]) (upd H3 D (.lst (ys++[y]))) else ∃m',m'<m∧W (i+1) m' ys H2))
section
variable {X:Cx} {N:List Str} {scope:Scope} {cl:List (Str×Addr)} {x y:Str} {px py pos tp:Pos} {pA:Nat} {iter elt:Expr} {ifs:List Expr} {wi:TI} {ρ:St→St} {tt:TT} {te:TE}
structure An (X:Cx) (N:List Str) (scope:Scope) (cl:List (Str×Addr)) (x y:Str) (ρ:St→St):Prop where
 rE:closureFor scope X.env=pure cl
 kind:scope.kind=.function
 rF:∀y∈scope.names,y.2≠.cell
 names:∀y∈scope.names,y.2=.local→scope.names.lookup y.1=some .local
 sub:∀p∈cl,X.env.cells.lookup p.1=some p.2
 has:∀y,((relabel scope X.env).names.lookup y=some .cell∨(relabel scope X.env).names.lookup y=some .free)→∃c,cl.lookup y=some c
 n0:N[0]?=some x
 n1:N[1]?=some y
 nd:N.Nodup
 hx:scope.names.lookup x=some .local
 hy:scope.names.lookup y=some .local
 rG:∀(σ:St) (j:Nat) (v:V),(ρ σ)[j]?=some (some v)→∃(i:Nat) (y:Str),N[j+1+1]?=some y∧X.N[i]?=some y∧σ[i]?=some (some v)∧kC X.env.scope y∧(X.env.kindOf y=some .cell∨X.env.kindOf y=some .free)∧((relabel scope X.env).names.lookup y=some .cell∨(relabel scope X.env).names.lookup y=some .free)
 len:∀σ:St,σ.length=X.N.length→(ρ σ).length+1+1=N.length
theorem Ao(is:List Nat)(h1:closureFor scope X.env=pure cl)(h:cA X scope N.tail.tail is:=by repeat' first | exact True.intro | refine And.intro ⟨rfl,Or.inr (Or.inl rfl),.inl rfl,.inl rfl⟩ ?_)(h2:scope.kind=.function:=by rfl)(h3:∀y∈scope.names,y.2≠.cell:=by decide +kernel)(h4:∀y∈scope.names,y.2=.local→scope.names.lookup y.1=some .local:=by decide +kernel)(h5:∀p∈cl,X.env.cells.lookup p.1=some p.2:=by repeat' first | exact List.forall_mem_nil _ | refine List.forall_mem_cons.mpr ⟨rfl,?_⟩)(h6:((relabel scope X.env).names.all fun q=>(q.2 != .cell && q.2 != .free) || (cl.lookup q.1).isSome)=true:=by rfl)(h7:N[0]?=some x:=by rfl)(F1:N[1]?=some y:=by rfl)(h8:N.Nodup:=by decide +kernel)(h9:scope.names.lookup x=some .local:=by rfl)(F2:scope.names.lookup y=some .local:=by rfl)(hr:∀σ:St,ρ σ=is.map fun i=>σ[i]?.join:=by exact fun _=>rfl)(hl:is.length+1+1=N.length:=by rfl):An X N scope cl x y ρ:=
 ⟨h1,h2,h3,h4,h5,Ac h6,h7,F1,h8,h9,F2,fun σ j v e=>by rw [hr] at e;rw [←List.getElem?_tail,←List.getElem?_tail];exact vt h σ j v e,fun σ _=>by rw [hr,aW];exact hl⟩
theorem Ap(B:An X N scope cl x y ρ)(hc:X.calm=true)(hi:PI X (.Tuple [.Name x px,.Name y py] pA tp) iter wi)(ht:∀s₃ H₃ fp,jG (X.aZ N scope cl s₃ H₃ fp) ifs tt)(he:∀s₃ H₃ fp,PE (X.aZ N scope cl s₃ H₃ fp) elt te)
  (hs:∀x,foldedSetIterable iter X.env x=pure x:=by intro _;rfl):PE X (.ListComp elt [⟨.Tuple [.Name x px,.Name y py] pA tp,iter,ifs,0⟩] scope pos) (rK X.K wi ρ tt te):=by
 intro pins s σ H Q I h
 rw [eval_ListComp]
 refine um (use:=none) rfl hs B.rE B.kind B.names (aA (hi pins s σ H _ I h) fun v s1 h1=>aA h1 fun oO s2 h2=>?_)
 obtain ⟨it,fp,tn,J,H2,rfl,I2,T,fv,f2,q2⟩:=h2
 have nD:H2 s2.heap.objs.size=none:=I2.ao.fresh (ar _)
 obtain ⟨W,⟨m0,w0⟩,turn⟩:=q2 _ nD
 refine oo (wpAny_newFunctionEnv B.rF (by intro y hy;simp at hy) (fun h₁ eZ e7=>?_) B.kind)
 dsimp only at eZ e7 ⊢
 generalize hD:s2.heap.objs.size=D at nD w0 turn eZ e7 ⊢
 generalize fE:({s2 with heap:=s2.heap.push {cls:=.type "list",dict:=none,data:=.seq ([]:List Value).toArray}}:Shared)=s3
 have I3:Inv X pins σ (upd H2 D (.lst [])) s3:=by
  subst hD fE
  exact I2.laid (t':=s2.toks) (fun b u e=>bA _ e) (ar _) ⟨bK _,[],_,.nil,cP _ rfl⟩
 have e3:s3.heap=s2.heap.push {cls:=.type "list",dict:=none,data:=.seq ([]:List Value).toArray}:=by rw [←fE]
 have e8:∀b o,s2.heap.get? b=some o→s3.heap.get? b=some o:=fun b o e=>by rw [e3];exact bA _ e
 rw [←e3] at eZ e7 ⊢
 have below:∀b o,s3.heap.get? b=some o→b≠s3.heap.objs.size:=fun b o e=>bP (aQ e)
 have cZ:∀b o,s3.heap.get? b=some o→h₁.get? b=some o:=fun b o e=>e7.extBut b o (below b o e) (bA _ e)
 have gE:∀b∈fp,∃o,s2.heap.get? b=some o∧∀v,o.data≠.cell v:=T.obj _ _ fv
 have o6:∀b∈fp,b≠D:=fun b hb z=>by
  obtain ⟨o,e,_⟩:=gE b hb
  rw [z,←hD] at e
  exact absurd (aQ e) (c_ _)
 have cG:∀y c,cl.lookup y=some c→X.env.cells.lookup y=some c:=fun y c e=>B.sub (y,c) (iH e)
 have o7:=I3.oJ
 have cY:(X.aZ N scope cl s3 (upd H2 D (.lst [])) fp).Ok:=by
  refine ⟨I.ok.mod,B.kind,I.ok.glob,I.ok.blt,ar _,fun a b c e1 e2=>I.ok.inj a b c (cG a c e1) (cG b c e2),fun y hy=>B.has y hy,(fun _ _ z _=>absurd z b_),(fun _=>I.ok.hd hc),I.ok.frames,.inl rfl,fun b hb=>⟨?_,fun y c e z=>?_⟩,fun b o e=>?_,bQ I.ok.fu I3.sz,fun b o e hb=>?_,fun b hb z=>?_,I3.stack,o7⟩
  ·obtain ⟨o,e,_⟩:=gE b hb
   exact below b o (e8 b o e)
  ·exact (f2 b hb).2.2.2.2.1 y c (cG y c e) z
  ·exact I3.bs b o e
  ·rcases (f2 b hb).2.2.2.1 with z | z
   ·exact I.ok.jv b o e z
   ·exact absurd (b7 (aQ e) (bQ I.ok.fu z)) (c_ _)
  ·rcases cu.mp (I3.oH b z) with z | z
   ·exact (f2 b hb).2.1 z
   ·exact (f2 b hb).2.2.1 z
 have IB:∀tk:Nat,Inv (X.aZ N scope cl s3 (upd H2 D (.lst [])) fp) [] (none::none::ρ σ) (upd H2 D (.lst [])) {s3 with heap:=h₁,toks:=tk}:=fun tk=>by
  refine ⟨cY,rfl,I3.bare,Un.kept cZ,⟨_,eZ,fun j y v e1 e2 e3=>?_⟩,fun y c e=>?_,?_,fun y c e=>I3.d4 y c (cG y c e),(fun p hp=>nomatch hp),I3.ao.kept cZ,?_⟩
  ·cases j with
   | zero=>cases e2
   | succ j=>
   cases j with
   | zero=>cases e2
   | succ j=>
    obtain ⟨i,y',a1,a2,a3,a4,a5,a6⟩:=B.rG σ j v e2
    have kW:N[j+1+1]?=some y:=e1
    rw [kW] at a1
    cases a1
    obtain ⟨m,hn,hl⟩:=I3.loc
    obtain ⟨u,r,l⟩:=hl i y v a2 a3 a4
    refine ⟨u,r,.inr ⟨a6,?_⟩⟩
    obtain ⟨c,ec⟩:=B.has y a6
    rcases l with ⟨k,_⟩ | ⟨_,c',jH,z⟩
    ·rcases a5 with q | q <;> (rw [k] at q;cases q)
    ·have:=cG y c ec
     rw [this] at jH
     cases jH
     obtain ⟨o,ho,hd⟩:=z
     exact ⟨c,ec,o,cZ _ _ ho,hd⟩
  ·obtain ⟨v,o,ho,hd⟩:=I3.cell y c (cG y c e)
   exact ⟨v,o,cZ _ _ ho,hd⟩
  ·exact I3.ao.fresh (ar _)
  ·show (none::none::ρ σ).length=N.length
   rw [du,du]
   exact B.len σ I.len
 have fin:∀{σ':St} {H':Hp} {s':Shared},Inv (X.aZ N scope cl s3 (upd H2 D (.lst [])) fp) [] σ' H' s'→Q (.ref D) H'→compPost (model X.prog X.w) X.A X.xe none (EP X pins σ Q) (.ref D) s3.heap.objs.size (.ok .next) s':=fun{σ' H' s'} J q=>by
  obtain ⟨m,hn,_⟩:=J.loc
  refine ⟨m,hn,fun h' e_=>⟨.ref D,H',?_,rfl,q⟩⟩
  have old:∀b o,s3.heap.get? b=some o→b≠s3.heap.objs.size:=below
  have u1:Un (bI X.stack) fp (upd H2 D (.lst [])) H' s3.heap h':=by
   refine ⟨fun b o e n hb hx=>?_,fun b o e n hb hx=>?_,J.base.free,fun b o e hx=>?_,J.base.cW,J.base.cQ,J.base.cX⟩
   ·exact (e_.2 b (old b o e)).trans (J.base.keep b o e n hb hx)
   ·obtain ⟨sl,z⟩:=J.base.slot b o e n hb hx
    exact ⟨sl,(e_.2 b (old b o e)).trans z⟩
   ·obtain ⟨o',z⟩:=J.base.there b o e hx
    exact ⟨o',(e_.2 b (old b o e)).trans z⟩
  have o8:bw X.prog X.w H' h':=fun b u e=>by
   refine (J.ao b u e).gx (fun c v hc z=>(e_.2 c fun y=>?_).trans z) (fun _ z=>z) fun _ _ z=>z
   have fr:=J.free
   have y':c=s3.heap.objs.size:=y
   rcases hc with hc | hc
   ·rw [←hc,y'] at e
    exact absurd (fr.symm.trans e) (by simp)
   ·rw [y'] at hc
    exact absurd (fr.symm.trans hc) (by simp)
  refine I3.mF (s':={s' with heap:=h'}) (ch:=fp) (J.os) u1 o8 J.bare fun b hb=>?_
  obtain ⟨g0,g1,g2,g3,g4,g5⟩:=f2 b hb
  exact ⟨g3,g1,g4,g5⟩
 have d7:∀{H':Hp},(∀b∈fp,H' b=none)→∀b∈fp,iQ (X.aZ N scope cl s3 (upd H2 D (.lst [])) fp) [] H' b:=fun hn b hb=>by
  refine ⟨hn b hb,?_,?_,.inl hb,fun y c e z=>(f2 b hb).2.2.2.2.1 y c (cG y c e) z,fun p hp=>nomatch hp⟩
  ·obtain ⟨o,e,_⟩:=gE b hb
   exact below b o (e8 b o e)
  ·exact cY.jw b hb
 have loop:∀tk:Nat,codeAny (model X.prog X.w) X.A (.compLoop (.ListComp elt [⟨.Tuple [.Name x px,.Name y py] pA tp,iter,ifs,0⟩] scope pos) 0 (.ref it) (.ref D) (compEnvC scope cl s3.heap.objs.size X.env))
   (compPost (model X.prog X.w) X.A X.xe none (EP X pins σ Q) (.ref D) s3.heap.objs.size) {s3 with heap:=h₁,toks:=tk}:=fun tk=>by
  refine F0 (fun n s'=>∃i ys o o2 H',Inv (X.aZ N scope cl s3 (upd H2 D (.lst [])) fp) [] (o::o2::ρ σ) H' s'∧tn i s'.heap∧(∀b∈fp,H' b=none)∧W i n ys H') ?_ m0
   ⟨0,[],none,none,_,IB tk,T.keep _ _ _ fv fun b hb o e=>cZ _ _ (e8 _ _ e),fun b hb=>by rw [aT (o6 b hb)];exact (f2 b hb).1,w0⟩
  rintro n s4 ⟨i,ys,o,o2,H4,I4,jI,jJ,w4⟩
  obtain ⟨Ad,o9⟩:=turn i n ys H4 w4
  rcases o9 with ⟨stop,qn⟩ | ⟨go,step⟩
  ·refine a8 (T.done (X.aZ N scope cl s3 (upd H2 D (.lst [])) fp) rfl rfl rfl hc i [] s4 _ H4 (fun _ _=>False) I4 (d7 jJ) jI stop) (fun r s5 ⟨hr,I5⟩=>?_) fun _ _ z=>z.elim
   subst hr
   exact fin I5 qn
  ·refine a8 (T.item (X.aZ N scope cl s3 (upd H2 D (.lst [])) fp) rfl rfl rfl hc i [] s4 _ H4 (fun _ _=>False) I4 (d7 jJ) jI go) (fun r s5 ⟨u,hr,h5⟩=>?_) fun _ _ z=>z.elim
   subst hr
   refine a8 h5 (fun _ s5 ⟨y0,H5,I5,r5,y5,d8,kH⟩=>?_) fun _ _ z=>z.elim
   obtain ⟨Tt,x1,x2,e0,F3,o_⟩:=step y0 _ y5
   subst e0
   have kJ:=I5.pinned (d7 kH) (T.obj _ _ d8)
   have pg:PG (X.aZ N scope cl s3 (upd H2 D (.lst [])) fp) (.Tuple [.Name x px,.Name y py] pA tp) (yU X.K 2 (uJ (bz 0) (uJ (bz 1) yR))):=
    yV (X:=X.aZ N scope cl s3 (upd H2 D (.lst [])) fp) hc (qS (d6 (i:=0) B.nd B.n0 (.inl (jo B.hx)) (.inr (jo B.hx))) (qS (d6 (i:=1) B.nd B.n1 (.inl (jo B.hy)) (.inr (jo B.hy))) yT))
   have again:∀{σ7:St} {H7:Hp} {s7:Shared},Inv (X.aZ N scope cl s3 (upd H2 D (.lst [])) fp) ([]++hJ fp s5.heap) σ7 H7 s7→Inv (X.aZ N scope cl s3 (upd H2 D (.lst [])) fp) [] σ7 H7 s7∧tn (i+1) s7.heap∧∀b∈fp,H7 b=none:=fun{σ7 H7 s7} I7=>by
    refine ⟨I7.mI,T.keep _ _ _ d8 fun b hb o e=>(I7.pin (b,o) (cV _ (cV _ (jB hb e)))).1,fun b hb=>?_⟩
    obtain ⟨o,e,d⟩:=T.obj _ _ d8 b hb
    exact (I7.pin (b,o) (cV _ (cV _ (jB hb e)))).2.1
   refine a8 (pg _ s5 _ H5 (.ref Tt) u (fun σ2 H6=>σ2=some x1::some x2::ρ σ∧H6=H5) kJ r5 ⟨Tt,_,rfl,F3,rfl,_,_,rfl,_,_,rfl,rfl,rfl,rfl⟩) (fun _ s6 ⟨σ6,H6,I6,q6⟩=>?_) fun _ _ z=>z.elim
   obtain ⟨rfl,rfl⟩:=q6
   have tests:∀{gF:TT},jG (X.aZ N scope cl s3 (upd H2 D (.lst [])) fp) ifs gF→∀{R:Bool→Hp→Prop},gF (some x1::some x2::ρ σ) H6 R→wpAny (model X.prog X.w) X.A
     (forIn ifs true fun c r=>if r=true then do let ok ←isTrue c (compEnvC scope cl s3.heap.objs.size X.env) (eval c (compEnvC scope cl s3.heap.objs.size X.env));pure (ForInStep.yield ok) else pure (ForInStep.yield r))
     (fun ok s7=>∃H7,Inv (X.aZ N scope cl s3 (upd H2 D (.lst [])) fp) ([]++hJ fp s5.heap) (some x1::some x2::ρ σ) H7 s7∧R ok H7) (fun _ _=>False) s6:=fun{gF} p {R} hR=>by
    cases p with
    | nil=>exact wpAny_tests_nil ⟨_,I6,hR⟩
    | one p=>exact wpAny_tests_one (p _ s6 _ _ _ I6 hR)
   refine a8 (tests (ht s3 _ fp) o_) (fun ok s7 ⟨H7,I7,q7⟩=>?_) fun _ _ z=>z.elim
   cases ok with
   | false=>
    obtain ⟨m',gG,w7⟩:=q7
    obtain ⟨a1,a2,a3⟩:=again I7
    exact ⟨m',gG,i+1,ys,_,_,H7,a1,a2,a3,w7⟩
   | true=>
    refine a8 (he s3 _ fp _ s7 _ H7 _ I7 q7) (fun ev s8 ⟨z,H8,I8,r8,pb,hz,m',gG,w8⟩=>?_) fun _ _ z=>z.elim
    refine a8 (jE (X:=X.aZ N scope cl s3 (upd H2 D (.lst [])) fp) _ s8 _ H8 (.ref D) [z] (.ref D) [ev] (fun _ H9=>H9=upd H8 D (.lst (ys++[z]))) I8 rfl (.cons r8 .nil) ⟨D,ys,z,rfl,rfl,pb,hz,rfl⟩) (fun _ s9 ⟨_,H9,I9,_,q9⟩=>?_) fun _ _ z=>z.elim
    subst q9
    obtain ⟨a1,a2,a3⟩:=again I9
    exact ⟨m',gG,i+1,ys++[z],_,_,_,a1,a2,a3,w8⟩
 have start:=loop (s3.toks+([]:List (Str×Value)).length)
 have es:({s3 with heap:=h₁,toks:=s3.toks+([]:List (Str×Value)).length}:Shared)={s2 with heap:=h₁,toks:=s2.toks+([]:List (Str×Value)).length}:=by rw [←fE]
 rw [es] at start
 exact uo start (T.self _ 0 _ _ _ (T.keep _ _ _ fv fun b hb o e=>cZ _ _ (e8 _ _ e)) start)
end
section
variable {X:Cx}
end
section
variable {M:Model} {A:Around} {E:aw} {s:Shared}
end
section
variable {X:Cx} {N:List Str} {scope:Scope} {cl:List (Str×Addr)} {x:Str} {px pos:Pos} {iter elt:Expr} {ifs:List Expr} {wi:TI} {ρ:St→St} {tt:TT} {te:TE}
end
theorem F4{v:V}(h:gC v=true):iW v v=true:=by
 cases v with
 | aI=>rfl
 | bl b=>show (b == b)=true;simp
 | int i=>show (i == i)=true;simp
 | str x=>show (x == x)=true;simp
 | _=>cases h
section
variable {X:Cx} {pins:aC} {σ:St} {H:Hp} {s:Shared}
end
section
variable {X:Cx}
end
section
variable {X:Cx} {N:List Str} {scope:Scope} {cl:List (Str×Addr)} {x:Str} {px pos:Pos} {iter elt:Expr} {ifs:List Expr} {wi:TI} {ρ:St→St} {tt:TT} {te:TE}
end
theorem Aq{wi:TI}{ρ:St→St}(eV:∀R:It→Hp→Prop,(∀J H1,ak H H1→i6 J xs H1→R J H1)→wi σ H R)(hn:xs.length<sizeLine)
  (P:Addr→Nat→V→Hp→Prop) (mono:∀D i y H H' ys,P D i y H→H D=some (.lst ys)→(∀b o,b≠D→H b=some o→H' b=some o)→P D i y H')
  (step:∀D i x,xs[i]?=some x→∀(Hc:Hp) (R:VK),ak H Hc→(∃ys,Hc D=some (.lst ys))→(∀y H3,ak Hc H3→P D i y H3→R y H3)→te (some x::ρ σ) Hc R)
  (fin:∀D ys Hc,H D=none→ak H Hc→ys.length=xs.length→(∀(i:Nat) (y:V),ys[i]?=some y→P D i y Hc)→Hc D=some (.lst ys)→Q (.ref D) Hc):ip wi ρ (fun _ H Q=>Q true H) te σ H Q:=by
 refine eV _ fun J H1 s1 js=>?_;intro D nD;have hD:H D=none:=by
  cases e:H D with
  | none=>rfl
  | some o=>rw [s1 _ _ e] at nD;cases nD
 exact FX (ρσ:=ρ σ) (te:=te) (Q:=Q) js nD hn (P D) (mono D) (fun i x hx Hc R sc=>step D i x hx Hc R (s1.trans sc)) (fun ys Hc sc=>fin D ys Hc hD (s1.trans sc))
section
variable {X:Cx} {K:aB}
end
end L2
namespace My
open PySem L2
variable {H:Hp}
theorem Ar{te:TE}{D:Ends}{σ:St}(h:te σ H D.rt):yP te D σ H:=h
variable {H':Hp} {b:Addr}
theorem none_of(s:ak H H')(h:H' b=none):H b=none:=by
 cases e:H b with
 | none=>rfl
 | some o=>rw [s _ _ e] at h;cases h
theorem getD_at{α:Type}{xs:List α}{d:α}{i:Nat}(hi:i<xs.length):xs.getD i d=xs[i]:=by
 rw [fO,show xs[i]?=some xs[i] by simp [hi]]
 rfl
def er(P:Addr)(H:Hp):Hp:=fun b=>if b=P then none else H b
variable {P:Addr}
theorem vD:ak (er P H) H:=fun b o e=>by
 unfold er at e
 split at e
 ·cases e
 ·exact e
theorem kX(h:b≠P):er P H b=H b:=aa h
variable {o:HO}
theorem vE(h:b≠P)(e:H b=some o):er P H b=some o:=by rw [kX h];exact e
theorem kY(s:ak H H'):ak (er P H) (er P H'):=fun b o e=>by
 unfold er at e ⊢
 split at e
 ·cases e
 ·rename_i h
  rw [aa h];exact s _ _ e
theorem As:er P (upd H P o)=er P H:=funext fun b=>by
 unfold er
 split
 ·rfl
 ·rename_i h
  exact aT h
def dC(H:Hp)(P a:Addr):Prop:=∃x y:Int,H P=some (.lst [.ref a,.int x,.int y])∧0≤x∧0≤y
variable {a:Addr}
theorem dC.mono(h:dC H P a)(s:ak H H'):dC H' P a:=by obtain ⟨x,y,e,h1,h2⟩:=h;exact ⟨x,y,s _ _ e,h1,h2⟩
variable {D:Addr}
theorem dC.upd(h:dC H P a)(n:D≠P):dC (L2.upd H D o) P a:=by obtain ⟨x,y,e,h1,h2⟩:=h;exact ⟨x,y,by rw [aT n.symm];exact e,h1,h2⟩
theorem dC.ne(h:dC H P a)(n:H D=none):D≠P:=fun z=>by obtain ⟨x,y,e,_⟩:=h;rw [z,e] at n;cases n
def aU(P:Addr)(H H':Hp):Prop:=ak (er P H) (er P H')
theorem aU.refl(H:Hp):aU P H H:=ak.refl _
theorem aU.trans{H2:Hp}(s:aU P H H')(t:aU P H' H2):aU P H H2:=ak.trans s t
theorem aU.of(s:ak H H'):aU P H H':=kY s
theorem aU.iq:aU P H (upd H P o):=by unfold aU;rw [As];exact ak.refl _
theorem aU.but(s:aU P H H')(n:H D=none):aU P H (upd H' D o):=fun b u e=>by
 have e0:=s b u e;have nb:b≠P:=fun z=>by unfold er at e;rw [ae z] at e;cases e
 rw [kX nb] at e e0 ⊢;rw [aT (eO e n)];exact e0
theorem aU.at(s:aU P H H')(nb:b≠P)(e:H b=some o):H' b=some o:=by have z:=s b o (vE nb e);rw [kX nb] at z;exact z
end My
namespace L2
open PySem PySem.Spec PyProof.Rows
end L2
namespace My
open PySem L2
def F5:Sp:=fun vs H Q _=>∃c a:Int,vs=[.int c,.int a]∧0≤a∧∀r:Int,0≤r→Q (.int r) H
def F6(K:aB):Sp:=fun vs H Q _=>∃(P a:Addr) (ns:List Int) (many:Int),vs=[.ref P,.int many]∧dC H P a∧bL K (er P H) a (ns.map V.int)∧1≤many∧i5 many∧∀(r:Int) (H':Hp),0≤r→r<many→aU P H H'→dC H' P a→Q (.int r) H'
end My
namespace L2
open PySem PySem.Spec PyProof.Rows
end L2
namespace My
open PySem L2
end My
namespace L2
open PySem PySem.Spec PyProof.Rows
section
variable {X:Cx}
end
end L2
namespace My
open PySem L2
end My
namespace L2
open PySem PySem.Spec PyProof.Rows
section
variable {X:Cx} {tg:Expr}
end
section
variable {X:Cx} {e:Expr} {te:TE} {pos p2:Pos}
end
end L2
namespace My
open PySem L2
theorem F7{wi:TI}{ρ:St→St}{te:TE}{σ:St}{H:Hp}{Q:VK}{xs:List V}{n:Nat}(hl:xs.length=n)(eV:∀R:It→Hp→Prop,(∀J H1,ak H H1→i6 J xs H1→R J H1)→wi σ H R)(hn:n<sizeLine)
  (P:Addr→Nat→Addr→Hp→Prop) (mono:∀D i y H H' ys,P D i y H→y≠D→H D=some (.lst ys)→(∀b o,b≠D→H b=some o→H' b=some o)→P D i y H')
  (step:∀D (i:Nat) (x:V),xs[i]?=some x→∀(Hc:Hp) (R:VK),ak H Hc→(∃ys,Hc D=some (.lst ys))→(∀y H3,ak Hc H3→Hc y=none→(∃o,H3 y=some o)→P D i y H3→R (.ref y) H3)→te (some x::ρ σ) Hc R)
  (fin:∀D (A:Nat→Addr) Hc,H D=none→ak H Hc→(∀i j,i<n→j<n→A i=A j→i=j)→(∀i,i<n→P D i (A i) Hc∧A i≠D)→Hc D=some (.lst ((List.range n).map fun i=>V.ref (A i)))→Q (.ref D) Hc):ip wi ρ (fun _ H Q=>Q true H) te σ H Q:=by
 refine eV _ fun J H1 s1 js=>?_;intro D nD;have hD:H D=none:=by
  cases e:H D with
  | none=>rfl
  | some o=>rw [s1 _ _ e] at nD;cases nD
 refine ⟨fun i m ys Hc=>m=n-i∧i≤n∧Hc D=some (.lst ys)∧ak H1 Hc∧∃A:Nat→Addr,ys=(List.range i).map (fun j=>V.ref (A j))∧(∀a b,a<i→b<i→A a=A b→a=b)∧∀j,j<i→P D j (A j) Hc∧A j≠D∧∃o,Hc (A j)=some o,⟨_,rfl,bK _,ax,fF (ak.refl H1) nD,fun _=>D,rfl,(fun a b h=>by omega),fun j h=>by omega⟩,?_⟩
 rintro i m ys Hc ⟨rfl,hi,eD,sH,A,rfl,inj,hA⟩;refine ⟨eD,?_⟩;by_cases aX:i<n
 ·refine .inr ⟨js.go i Hc sH (by omega),fun x H' hy=>?_⟩
  obtain ⟨rfl,hx⟩:=js.cI i Hc x H' sH hy;rw [ae rfl];refine step D i x (hx (by omega)) _ _ (s1.trans sH) ⟨_,eD⟩ fun y H3 s3 ny ⟨o,ho⟩ hp=>?_
  have e3:=s3 _ _ eD;have yD:y≠D:=fun e=>by rw [e,eD] at ny;cases ny
  have cB:∀b o,b≠D→H3 b=some o→upd H3 D (.lst ((List.range i).map (fun j=>V.ref (A j))++[.ref y])) b=some o:=fun b o nb e=>by rw [aT nb];exact e
  have nA:∀j,j<i→A j≠y:=fun j hj e=>by obtain ⟨_,_,o',h'⟩:=hA j hj;rw [e,ny] at h';cases h'
  refine ⟨e3,by simp;omega,n-(i+1),by omega,rfl,aX,ax,fF (sH.trans s3) nD,fun j=>if j=i then y else A j,?_,fun a b ha hb e=>?_,fun j hj=>?_⟩
  ·rw [List.range_succ,gq]
   congr 1
   ·refine ot fun j hj=>?_
    dsimp only;rw [aa (by have:=dc.mp hj;omega)]
   ·simp
  ·dsimp only at e
   by_cases z1:a=i
   ·by_cases z2:b=i
    ·omega
    ·rw [ae z1,aa z2] at e
     exact absurd e.symm (nA b (by omega))
   ·by_cases z2:b=i
    ·rw [aa z1,ae z2] at e
     exact absurd e (nA a (by omega))
    ·rw [aa z1,aa z2] at e
     exact inj a b (by omega) (by omega) e
  ·dsimp only
   by_cases z:j=i
   ·rw [ae z,z]
    exact ⟨mono D i y H3 _ _ hp yD e3 cB,yD,o,cB _ _ yD ho⟩
   ·rw [aa z]
    obtain ⟨h1,h2,o',h3⟩:=hA j (by omega)
    exact ⟨mono D j (A j) H' _ _ h1 h2 eD (fun b o nb e=>cB b o nb (s3 _ _ e)),h2,o',cB _ _ h2 (s3 _ _ h3)⟩
 ·have e:i=n:=by omega
  subst e;exact .inl ⟨js.stop _ Hc sH (by omega),fin D A Hc hD (s1.trans sH) inj (fun j hj=>⟨(hA j hj).1,(hA j hj).2.1⟩) eD⟩
end My
namespace L2
open PySem PySem.Spec PyProof.Rows
end L2
namespace My
open PySem L2
end My
namespace L2
open PySem PySem.Spec PyProof.Rows
end L2
namespace My
open PySem L2
end My
namespace L2
open PySem PySem.Spec PyProof.Rows
section
variable {X:Cx}
end
end L2
namespace My
open PySem L2
end My
namespace L2
open PySem PySem.Spec PyProof.Rows
end L2
namespace My
open PySem L2
end My
namespace L2
open PySem PySem.Spec PyProof.Rows
section
variable {X:Cx} {N:List Str} {scope:Scope} {cl:List (Str×Addr)} {x y:Str} {px py pos tp:Pos} {pA:Nat} {iter elt:Expr} {ifs:List Expr} {wi:TI} {ρ:St→St} {tt:TT} {te:TE}
end
section
variable {X:Cx} {pins:aC} {σ:St} {H:Hp} {s:Shared}
end
end L2
namespace My
open PySem PySem.W PyProof.Rows
section
variable {n:Nat} {c:Nat→Int}
end
end My
namespace Tm
open PySem PySem.W PyProof.Rows
def jL:Bool→Keyed→Array Keyed→Nat→Nat→Nat→StateT SortSt Sem (Option Nat):=sortPriv% PySem.Builtin.gallop
def pB:Nat→StateT SortSt Sem Unit:=sortPriv% PySem.Builtin.setMinGallop
def vF:Array Keyed→Array Keyed→StateT SortSt Sem (Array Keyed):=sortPriv% PySem.Builtin.mergeLo
def vG:Array Keyed→Array Keyed→StateT SortSt Sem (Array Keyed):=sortPriv% PySem.Builtin.mergeHi
def kZ(left:Bool)(key:Keyed)(arr:Array Keyed)(base i:Nat):StateT SortSt Sem (Option Bool):=do
 let x ←elem' arr (base+i)
 if left then lt' x key else return (←lt' key x).map (!·)
theorem F8(left:Bool)(key:Keyed)(arr:Array Keyed)(base n hint:Nat):jL left key arr base n hint=(do
 let mut rL:=0
 let mut aP:=1
 let mut lo:=0
 let mut hi:=0
 let some right ←kZ left key arr base hint | return none
 if right then
  let pC:=n-hint
  for _ in [0:n] do
   if aP≥pC then break
   let some more ←kZ left key arr base (hint+aP) | return none
   if !more then break
   rL:=aP
   aP:=2*aP+1
  lo:=hint+rL+1
  hi:=hint+min aP pC
 else
  let pC:=hint+1
  for _ in [0:n] do
   if aP≥pC then break
   let some found ←kZ left key arr base (hint-aP) | return none
   if found then break
   rL:=aP
   aP:=2*aP+1
  lo:=hint+1-min aP pC
  hi:=hint-rL
 for _ in [0:n] do
  if lo≥hi then break
  let m:=lo+(hi-lo) / 2
  let some more ←kZ left key arr base m | return none
  if more then lo:=m+1 else hi:=m
 return some hi):=rfl
section
variable {prog:Program} {w:World} {A:Around} {E:aw} {s:Shared} {κ:SortKind} {key:Keyed→Int} {Ok:Keyed→Prop}
def fW(prog:Program)(w:World)(A:Around)(s:Shared)(κ:SortKind)(key:Keyed→Int)(Ok:Keyed→Prop):Prop:=
 ∀x y,Ok x→Ok y→∀C:Bool→Shared→Prop,C (decide (key x<key y)) s→wpAny (model prog w) A (keyLt' κ x.1 y.1) C (fun _ _=>False) s
variable {st:SortSt} {Q:Option Bool→SortSt→Prop}
theorem pD(h:fW prog w A s κ key Ok){x y:Keyed}(ox:Ok x)(oy:Ok y)(hk:kindOf st=κ)(q:Q (some (decide (key x<key y))) st):wpS (model prog w) A E s (lt' x y) Q st:=by rw [lt'_eq];refine ag (fm ?_);rw [hk];refine ag (wpS_lift (wpAny_attempt (a8 (h x y ox oy (fun c s'=>s'=s∧wpS (model prog w) A E s (pure (some c)) Q st) ⟨rfl,af q⟩) (fun c s' hc=>?_) fun _ _ hF=>hF.elim)));exact hc
def nn:Keyed:=(Value.none,Value.none)
variable {arr:Array Keyed} {i:Nat}
theorem aR(hi:i<arr.size){Q:Keyed→SortSt→Prop}(q:Q (arr.getD i nn) st):wpS (model prog w) A E s (elem' arr i) Q st:=by
 rw [elem'_eq];have e:arr[i]?=some (arr.getD i nn):=by simp [Array.getD,hi]
 rw [e];exact af q
def dq(Ok:Keyed→Prop)(arr:Array Keyed):Prop:=∀i,i<arr.size→Ok (arr.getD i nn)
def bB(left:Bool)(k a:Int):Bool:=if left=true then decide (a<k) else !decide (k<a)
variable {left:Bool} {kx:Keyed} {base:Nat}
theorem fb(h:fW prog w A s κ key Ok)(hi:base+i<arr.size)(ha:dq Ok arr)(ox:Ok kx)(hk:kindOf st=κ)(q:Q (some (bB left (key kx) (key (arr.getD (base+i) nn)))) st):wpS (model prog w) A E s (kZ left kx arr base i) Q st:=by
 unfold kZ;refine ag (aR hi ?_);unfold bB at q;cases left with
 | true=>rw [ae rfl] at q ⊢;exact pD h (ha _ hi) ox hk q
 | false=>
  rw [aa (by simp)] at q ⊢
  exact ag (pD h ox (ha _ hi) hk (af q))
theorem fc{n hint:Nat}{f:Nat→Bool}
  (hb:∀i,i<n→∀Q:Option Bool→SortSt→Prop,Q (some (f i)) st→wpS (model prog w) A E s (kZ left kx arr base i) Q st)
  (hh:hint<n) (mono:∀i j,i≤j→j<n→f j=true→f i=true) {Q:Option Nat→SortSt→Prop}
  (k:∀m,m≤n→(∀i,i<m→f i=true)→(∀i,m≤i→i<n→f i=false)→Q (some m) st):wpS (model prog w) A E s (jL left kx arr base n hint) Q st:=by
 rw [F8];refine ag (hb hint hh _ ?_);dsimp only;have vH:∀i j,i≤j→j<n→f i=false→f j=false:=fun i j h1 h2 h3=>by
  cases e:f j with
  | false=>rfl
  | true=>rw [mono i j h1 h2 e] at h3;cases h3
 have bs:∀(lo hi:Nat) (body:Nat→Option (Option Nat)×Nat×Nat→StateT SortSt Sem (ForInStep (Option (Option Nat)×Nat×Nat))) (R:Option (Option Nat)×Nat×Nat→SortSt→Prop),lo≤hi→hi≤n→(∀i,i<lo→f i=true)→(∀i,hi≤i→i<n→f i=false)→
   (∀x lo hi (R:ForInStep (Option (Option Nat)×Nat×Nat)→SortSt→Prop),lo≥hi→R (.done (none,lo,hi)) st→wpS (model prog w) A E s (body x (none,lo,hi)) R st)→
   (∀x lo hi (R:ForInStep (Option (Option Nat)×Nat×Nat)→SortSt→Prop),lo<hi→hi≤n→R (.yield (if f (lo+(hi-lo) / 2)=true then (none,lo+(hi-lo) / 2+1,hi) else (none,lo,lo+(hi-lo) / 2))) st→wpS (model prog w) A E s (body x (none,lo,hi)) R st)→
   (∀m,m≤n→(∀i,i<m→f i=true)→(∀i,m≤i→i<n→f i=false)→R (none,m,m) st)→
   wpS (model prog w) A E s (forIn [0:n] (none,lo,hi) body) R st:=fun lo hi body R h1 h2 h3 h4 b1 b2 kk=>by
  refine dw (I:=fun x c aj=>aj=st∧∃lo hi,c=(none,lo,hi)∧lo≤hi∧hi≤n∧hi-lo+x≤n∧(∀i,i<lo→f i=true)∧(∀i,hi≤i→i<n→f i=false)) ?_ ?_ ⟨rfl,lo,hi,rfl,h1,h2,by omega,h3,h4⟩
  ·rintro x c aj _ hx ⟨rfl,lo,hi,rfl,g1,g2,g3,g4,g5⟩
   by_cases z:lo≥hi
   ·refine b1 x lo hi _ z ?_
    obtain rfl:lo=hi:=by omega
    exact kk lo g2 g4 g5
   ·refine b2 x lo hi _ (by omega) g2 ?_
    cases e:f (lo+(hi-lo) / 2) with
    | true=>rw [ae rfl];exact ⟨rfl,_,_,rfl,by omega,g2,by omega,fun i aV=>mono i (lo+(hi-lo) / 2) (by omega) (by omega) e,g5⟩
    | false=>
     rw [aa (by simp)]
     exact ⟨rfl,_,_,rfl,by omega,by omega,by omega,g4,fun i h1 h2=>vH (lo+(hi-lo) / 2) i h1 h2 e⟩
  ·rintro c aj ⟨rfl,lo,hi,rfl,g1,g2,g3,g4,g5⟩
   have:lo=hi:=by
    have:max 0 n=n:=by omega
    omega
   subst this;exact kk lo g2 g4 g5
 cases e:f hint with
 | true=>
  rw [ae rfl]
  refine ag (dF (dw (I:=fun x c aj=>aj=st∧∃la aP,c=(none,la,aP)∧x+1≤aP∧la<aP∧la<n-hint∧f (hint+la)=true)
   (Q:=fun c aj=>aj=st∧∃la aP,c=(none,la,aP)∧la<aP∧la<n-hint∧f (hint+la)=true∧(aP≥n-hint∨f (hint+aP)=false)) ?_ ?_ ⟨rfl,0,1,rfl,ar _,by omega,by omega,by simpa using e⟩) ?_)
  ·rintro x c aj _ hx ⟨rfl,la,aP,rfl,g1,g2,g3,g4⟩
   dsimp only;by_cases z:aP≥n-hint
   ·rw [ae z]
    exact af ⟨rfl,la,aP,rfl,g2,g3,g4,.inl z⟩
   ·rw [aa z]
    refine ag (hb _ (by omega) _ ?_)
    dsimp only;cases e':f (hint+aP) with
    | true=>
     rw [aa (by simp)]
     exact af ⟨rfl,_,_,rfl,by omega,by omega,by omega,e'⟩
    | false=>
     rw [ae (by simp)]
     exact af ⟨rfl,la,aP,rfl,g2,g3,g4,.inr e'⟩
  ·rintro c aj ⟨rfl,la,aP,rfl,g1,g2,g3,g4⟩
   have:max 0 n=n:=by omega
   exact ⟨rfl,la,aP,rfl,g2,g3,g4,.inl (by omega)⟩
  ·rintro c aj ⟨rfl,la,aP,rfl,g2,g3,g4,g5⟩
   refine ag (bs (hint+la+1) (hint+min aP (n-hint)) _ _ (by omega) (by omega) (fun i hi=>mono i (hint+la) (by omega) (by omega) g4) (fun i h1 h2=>?_) ?_ ?_ ?_)
   ·rcases g5 with g5 | g5
    ·omega
    ·by_cases z:aP≥n-hint
     ·omega
     ·exact vH (hint+aP) i (by omega) h2 g5
   ·intro x lo hi R z hR
    dsimp only;rw [ae z];exact af hR
   ·intro x lo hi R z z2 hR
    dsimp only;rw [aa (by omega)]
    refine ag (hb _ (by omega) _ ?_)
    dsimp only;cases e:f (lo+(hi-lo) / 2) with
    | true=>rw [e,ae rfl] at hR;rw [ae rfl];exact af hR
    | false=>
     rw [e,aa (by simp)] at hR
     rw [aa (by simp)]
     exact af hR
   ·exact fun m m1 m2 m3=>af (k m m1 m2 m3)
 | false=>
  rw [aa (by simp)]
  refine ag (dF (dw (I:=fun x c aj=>aj=st∧∃la aP,c=(none,la,aP)∧x+1≤aP∧la<aP∧la≤hint∧f (hint-la)=false)
   (Q:=fun c aj=>aj=st∧∃la aP,c=(none,la,aP)∧la<aP∧la≤hint∧f (hint-la)=false∧(aP≥hint+1∨f (hint-aP)=true)) ?_ ?_ ⟨rfl,0,1,rfl,ar _,by omega,by omega,by simpa using e⟩) ?_)
  ·rintro x c aj _ hx ⟨rfl,la,aP,rfl,g1,g2,g3,g4⟩
   dsimp only;by_cases z:aP≥hint+1
   ·rw [ae z]
    exact af ⟨rfl,la,aP,rfl,g2,g3,g4,.inl z⟩
   ·rw [aa z]
    refine ag (hb _ (by omega) _ ?_)
    dsimp only;cases e':f (hint-aP) with
    | true=>rw [ae rfl];exact af ⟨rfl,la,aP,rfl,g2,g3,g4,.inr e'⟩
    | false=>
     rw [aa (by simp)]
     exact af ⟨rfl,_,_,rfl,by omega,by omega,by omega,e'⟩
  ·rintro c aj ⟨rfl,la,aP,rfl,g1,g2,g3,g4⟩
   have:max 0 n=n:=by omega
   exact ⟨rfl,la,aP,rfl,g2,g3,g4,.inl (by omega)⟩
  ·rintro c aj ⟨rfl,la,aP,rfl,g2,g3,g4,g5⟩
   refine ag (bs (hint+1-min aP (hint+1)) (hint-la) _ _ (by omega) (by omega) (fun i hi=>?_) (fun i h1 h2=>vH (hint-la) i (by omega) h2 g4) ?_ ?_ ?_)
   ·rcases g5 with g5 | g5
    ·omega
    ·by_cases z:aP≥hint+1
     ·omega
     ·exact mono i (hint-aP) (by omega) (by omega) g5
   ·intro x lo hi R z hR
    dsimp only;rw [ae z];exact af hR
   ·intro x lo hi R z z2 hR
    dsimp only;rw [aa (by omega)]
    refine ag (hb _ (by omega) _ ?_)
    dsimp only;cases e:f (lo+(hi-lo) / 2) with
    | true=>rw [e,ae rfl] at hR;rw [ae rfl];exact af hR
    | false=>
     rw [e,aa (by simp)] at hR
     rw [aa (by simp)]
     exact af hR
   ·exact fun m m1 m2 m3=>af (k m m1 m2 m3)
end
def aM(K:Keyed→Int)(l:List Keyed):Prop:=l.Pairwise fun x y=>K x≤K y
variable {K:Keyed→Int} {l:List Keyed}
theorem aM.take(h:aM K l)(k:Nat):aM K (l.take k):=List.Pairwise.sublist (List.take_sublist k l) h
theorem aM.drop(h:aM K l)(k:Nat):aM K (l.drop k):=List.Pairwise.sublist (List.drop_sublist k l) h
variable {m:List Keyed}
theorem aM.app(h:aM K l)(h':aM K m)(k:∀x∈l,∀y∈m,K x≤K y):aM K (l++m):=qB.mpr ⟨h,h',k⟩
structure MI (K:Keyed→Int) (A B O:List Keyed) (i j:Nat):Prop where
 pm:O.Perm (A.take i++B.take j)
 so:aM K O
 ca:∀x∈O,∀y∈A.drop i,K x≤K y
 cb:∀x∈O,∀y∈B.drop j,K x≤K y
variable {A B O:List Keyed} {i j:Nat}
theorem MI.flip(h:MI K A B O i j):MI K B A O j i:=⟨h.pm.trans qC,h.so,h.cb,h.ca⟩
theorem MI.rN(h:MI K A B O i j)(sA:aM K A)(k:Nat)(hk:∀x∈(A.drop i).take k,∀y∈B.drop j,K x≤K y):MI K A B (O++(A.drop i).take k) (i+k) j:=by
 have e:A.take (i+k)=A.take i++(A.drop i).take k:=List.take_add;have d:A.drop (i+k)=(A.drop i).drop k:=by rw [List.drop_drop]
 have sd:=sA.drop i;have sp:(A.drop i).take k++(A.drop i).drop k=A.drop i:=mf ..;have cr:∀x∈(A.drop i).take k,∀y∈(A.drop i).drop k,K x≤K y:=by have:=sd;rw [←sp] at this;exact (qB.mp this).2.2
 refine ⟨?_,h.so.app (sd.take k) fun x hx y hy=>h.ca x hx y (List.mem_of_mem_take hy),fun x hx y hy=>?_,fun x hx y hy=>?_⟩
 ·rw [e]
  refine (h.pm.append_right _).trans ?_;rw [gr,gr];exact uq _ qC
 ·rw [d] at hy
  rcases dr.mp hx with hx | hx;·exact h.ca x hx y (List.mem_of_mem_drop hy)
  ·exact cr x hx y hy
 ·rcases dr.mp hx with hx | hx
  ·exact h.cb x hx y hy
  ·exact hk x hx y hy
theorem MI.vI(h:MI K A B O i j)(sB:aM K B)(k:Nat)(hk:∀x∈(B.drop j).take k,∀y∈A.drop i,K x≤K y):MI K A B (O++(B.drop j).take k) i (j+k):=(h.flip.rN sB k hk).flip
theorem MI.done(h:MI K A B O i j)(sA:aM K A)(sB:aM K B)(k:∀x∈A.drop i,∀y∈B.drop j,K x≤K y):(O++A.drop i++B.drop j).Perm (A++B)∧aM K (O++A.drop i++B.drop j):=by
 refine ⟨?_,(h.so.app (sA.drop i) h.ca).app (sB.drop j) fun x hx y hy=>?_⟩
 ·have e1:A.take i++A.drop i=A:=mf ..
  have e2:B.take j++B.drop j=B:=mf ..;have:(A.take i++B.take j++A.drop i++B.drop j).Perm ((A.take i++A.drop i)++(B.take j++B.drop j)):=by rw [gr,gr,gr];refine uq _ ?_;rw [←gr,←gr];exact List.Perm.append_right _ qC
  rw [e1,e2] at this;exact ((h.pm.append_right _).append_right _).trans this
 ·rcases dr.mp hx with hx | hx
  ·exact h.cb x hx y hy
  ·exact k x hx y hy
theorem MI.Au(h:MI K A B O i j)(sA:aM K A)(sB:aM K B)(k:∀x∈A.drop i,∀y∈B.drop j,K y≤K x):(O++B.drop j++A.drop i).Perm (A++B)∧aM K (O++B.drop j++A.drop i):=by have:=h.flip.done sB sA fun x hx y hy=>k y hy x hx;exact ⟨this.1.trans qC,this.2⟩
theorem F9(a b:Array Keyed):vF a b=(do
 rule "list.sort.merge-lo"
 let total:=a.size+b.size
 let done (out:Array Keyed) (ia ib:Nat):=out++a.extract ia a.size++b.extract ib b.size
 let rO (out:Array Keyed) (ia ib:Nat):=out++b.extract ib b.size++a.extract ia a.size
 let mut out:Array Keyed:=#[←elem' b 0]
 let mut ia:=0
 let mut ib:=1
 if ib == b.size then return done out ia ib
 if ia+1 == a.size then return rO out ia ib
 let mut minGallop:=gallopOf (←get)
 for _ in [0:total] do
  let mut fG:=0
  let mut fH:=0
  for _ in [0:total] do
   let some F_ ←lt' (←elem' b ib) (←elem' a ia) | return done out ia ib
   if F_ then
    out:=out.push (←elem' b ib);ib:=ib+1;fH:=fH+1;fG:=0
    if ib == b.size then return done out ia ib
    if fH≥minGallop then break
   else
    out:=out.push (←elem' a ia);ia:=ia+1;fG:=fG+1;fH:=0
    if ia+1 == a.size then return rO out ia ib
    if fG≥minGallop then break
  rule "list.sort.gallop"
  minGallop:=minGallop+1
  for _ in [0:total] do
   if minGallop>1 then minGallop:=minGallop-1
   pB minGallop
   let some k ←jL false (←elem' b ib) a ia (a.size-ia) 0 | return done out ia ib
   fG:=k
   if k>0 then
    out:=out++a.extract ia (ia+k);ia:=ia+k
    if ia+1 == a.size then return rO out ia ib
    if ia == a.size then return done out ia ib
   out:=out.push (←elem' b ib);ib:=ib+1
   if ib == b.size then return done out ia ib
   let some k ←jL true (←elem' a ia) b ib (b.size-ib) 0 | return done out ia ib
   fH:=k
   if k>0 then
    out:=out++b.extract ib (ib+k);ib:=ib+k
    if ib == b.size then return done out ia ib
   out:=out.push (←elem' a ia);ia:=ia+1
   if ia+1 == a.size then return rO out ia ib
   if fG<7 && fH<7 then break
  minGallop:=minGallop+1
  pB minGallop
 unsupported "internal:list.sort.merge-bound"):=rfl
section
variable {prog:Program} {w:World} {A:Around} {E:aw} {s:Shared} {κ:SortKind} {key:Keyed→Int} {Ok:Keyed→Prop}
def setG(st:SortSt)(g:Nat):SortSt:=SortSt.mk' (kindOf st) (arrOf st) (pendingOf st) g (failedOf st)
variable {a:Array Keyed}
theorem pE(hi:i<a.size):(a.toList.drop i).take 1=[a.getD i nn]:=by
 have hl:i<a.toList.length:=by simpa using hi
 rw [List.drop_eq_getElem_cons hl];simp [Array.getD,hi]
theorem fX(a:Array Keyed)(i j:Nat):(a.extract i j).toList=(a.toList.drop i).take (j-i):=by rw [Array.toList_extract,List.extract_eq_take_drop]
theorem rP(a:Array Keyed)(i:Nat):(a.extract i a.size).toList=a.toList.drop i:=by rw [fX];refine List.take_of_length_le ?_;simp
variable {x:Keyed}
theorem k4(h:x∈a.toList.drop i):∃j,i≤j∧j<a.size∧x=a.getD j nn:=by
 obtain ⟨j,hj,rfl⟩:=ou h;have cJ:i+j<a.size:=by simp at hj;omega
 refine ⟨i+j,by omega,cJ,?_⟩
 rw [List.getElem_drop];simp [Array.getD,cJ]
theorem vJ{k:Nat}(h:x∈(a.toList.drop i).take k):∃j,j<k∧i+j<a.size∧x=a.getD (i+j) nn:=by
 obtain ⟨j,hj,rfl⟩:=ou h;have cJ:i+j<a.size∧j<k:=by simp at hj;omega
 refine ⟨j,cJ.2,cJ.1,?_⟩;rw [List.getElem_take,List.getElem_drop];simp [Array.getD,cJ.1]
theorem dD(h:aM key a.toList)(vK:i≤j)(hj:j<a.size):key (a.getD i nn)≤key (a.getD j nn):=by
 have hi:i<a.size:=by omega
 by_cases e:i=j;·subst e;exact gX _
 ·have:=mh.mp h i j (by simpa using hi) (by simpa using hj) (by omega)
  simpa [Array.getD,hi,hj] using this
variable {st:SortSt}
theorem cS{c:Prop}[Decidable c]{α:Type}{m1 m2:StateT SortSt Sem α}{Q:α→SortSt→Prop}(h1:c→wpS (model prog w) A E s m1 Q st)(h2:¬c→wpS (model prog w) A E s m2 Q st):wpS (model prog w) A E s (if c then m1 else m2) Q st:=by
 by_cases h:c;·rw [ae h];exact h1 h
 ·rw [aa h];exact h2 h
theorem mU{g:Nat}{Q:Unit→SortSt→Prop}(q:Q () (setG st g)):wpS (model prog w) A E s (pB g) Q st:=gs q
variable {k:Int}
theorem en{a:Int}(h:bB true k a=true):a<k:=gu h
theorem fe{a:Int}(h:bB true k a=false):k≤a:=Int.not_lt.mp (of_decide_eq_false h)
theorem ir{a:Int}(h:bB false k a=true):a≤k:=by have:(!decide (k<a))=true:=h;simpa using this
theorem jM{a:Int}(h:bB false k a=false):k<a:=by have:(!decide (k<a))=false:=h;simpa using this
variable {b:Array Keyed} {o:Nat}
theorem jN(sb:aM key b.toList):∀i j,i≤j→j<b.size-o→bB true k (key (b.getD (o+j) nn))=true→bB true k (key (b.getD (o+i) nn))=true:=fun i j h1 h2 h3=>b4 (Int.lt_of_le_of_lt (dD sb (by omega) (by omega)) (en h3))
theorem rQ(sb:aM key b.toList):∀i j,i≤j→j<b.size-o→bB false k (key (b.getD (o+j) nn))=true→bB false k (key (b.getD (o+i) nn))=true:=fun i j h1 h2 h3=>by
 have:key (b.getD (o+i) nn)≤k:=bS (dD sb (by omega) (by omega)) (ir h3)
 show (!decide (k<key (b.getD (o+i) nn)))=true;simpa using this
section
variable {a b:Array Keyed} (sa:aM key a.toList) (sb:aM key b.toList) {out:Array Keyed} {ia ib:Nat}
include sa sb
theorem mV(m:MI key a.toList b.toList out.toList ia ib)(hb:ib<b.size)(k:∀j,ia≤j→j<a.size→key (b.getD ib nn)≤key (a.getD j nn)):MI key a.toList b.toList (out.push (b.getD ib nn)).toList ia (ib+1):=by
 have:=m.vI sb 1 fun x hx y hy=>by rw [pE hb,bY] at hx;subst hx;obtain ⟨j,h1,h2,rfl⟩:=k4 hy;exact k j h1 h2
 rw [pE hb] at this;rw [jq];exact this
theorem i7(m:MI key a.toList b.toList out.toList ia ib)(ha:ia<a.size)(k:∀j,ib≤j→j<b.size→key (a.getD ia nn)≤key (b.getD j nn)):MI key a.toList b.toList (out.push (a.getD ia nn)).toList (ia+1) ib:=by
 have:=m.rN sa 1 fun x hx y hy=>by rw [pE ha,bY] at hx;subst hx;obtain ⟨j,h1,h2,rfl⟩:=k4 hy;exact k j h1 h2
 rw [pE ha] at this;rw [jq];exact this
variable {n:Nat}
theorem Av(m:MI key a.toList b.toList out.toList ia ib)(k:∀i j,i<n→ia+i<a.size→ib≤j→j<b.size→key (a.getD (ia+i) nn)≤key (b.getD j nn)):MI key a.toList b.toList (out++a.extract ia (ia+n)).toList (ia+n) ib:=by
 have:=m.rN sa n fun x hx y hy=>by obtain ⟨i,h3,h4,rfl⟩:=vJ hx;obtain ⟨j,h1,h2,rfl⟩:=k4 hy;exact k i j h3 h4 h1 h2
 rw [gY,fX,show ia+n-ia=n by omega]
 exact this
theorem rR(m:MI key a.toList b.toList out.toList ia ib)(k:∀i j,i<n→ib+i<b.size→ia≤j→j<a.size→key (b.getD (ib+i) nn)≤key (a.getD j nn)):MI key a.toList b.toList (out++b.extract ib (ib+n)).toList ia (ib+n):=by
 have:=m.vI sb n fun x hx y hy=>by obtain ⟨i,h3,h4,rfl⟩:=vJ hx;obtain ⟨j,h1,h2,rfl⟩:=k4 hy;exact k i j h3 h4 h1 h2
 rw [gY,fX,show ib+n-ib=n by omega]
 exact this
theorem fY(m:MI key a.toList b.toList out.toList ia ib)(e:ib=b.size∨ia=a.size):(out++a.extract ia a.size++b.extract ib b.size).toList.Perm (a.toList++b.toList)∧aM key (out++a.extract ia a.size++b.extract ib b.size).toList:=by rw [gY,gY,rP,rP];refine m.done sa sb fun x hx y hy=>?_;obtain ⟨i,h1,h2,_⟩:=k4 hx;obtain ⟨j,h3,h4,_⟩:=k4 hy;omega
theorem fZ(m:MI key a.toList b.toList out.toList ia ib)(hl:∀y∈b.toList,key y≤key (a.getD (a.size-1) nn))(e:ia+1=a.size):(out++b.extract ib b.size++a.extract ia a.size).toList.Perm (a.toList++b.toList)∧aM key (out++b.extract ib b.size++a.extract ia a.size).toList:=by
 rw [gY,gY,rP,rP];refine m.Au sa sb fun x hx y hy=>?_;obtain ⟨i,h1,h2,rfl⟩:=k4 hx;have:=hl y (List.mem_of_mem_drop hy);rw [show i=a.size-1 by omega]
 exact this
end
theorem Ga(h:fW prog w A s κ key Ok)(oa:dq Ok a)(ob:dq Ok b)(sa:aM key a.toList)(sb:aM key b.toList)(a1:1≤a.size)(b1:1≤b.size)
  (h0:∀x∈a.toList,key (b.getD 0 nn)≤key x) (hl:∀y∈b.toList,key y≤key (a.getD (a.size-1) nn)) (hk:kindOf st=κ) {Q:Array Keyed→SortSt→Prop}
  (q:∀m g,m.toList.Perm (a.toList++b.toList)→aM key m.toList→Q m (setG st g)):wpS (model prog w) A E s (vF a b) Q st:=by
 rw [F9];refine ag (wpS_lift (gZ ⟨rfl,?_⟩));refine ag (aR (by omega) ?_)
 dsimp only;have m0:MI key a.toList b.toList (#[b.getD 0 nn]:Array Keyed).toList 0 1:=by
  have:MI key a.toList b.toList (#[]:Array Keyed).toList 0 0:=⟨by simp,List.Pairwise.nil,fun x hx=>by simp at hx,fun x hx=>by simp at hx⟩
  exact mV sa sb this (by omega) fun j _ hj=>h0 _ (by simp [Array.getD,hj])
 have bM:∀g,kindOf (setG st g)=κ:=fun _=>hk;by_cases e1:(1 == b.size)=true
 ·rw [ae e1]
  have:=fY sa sb m0 (.inl (eq_of_beq e1));exact af (q _ (gallopOf st) this.1 this.2)
 rw [aa e1];by_cases e2:(0+1 == a.size)=true
 ·rw [ae e2]
  have:=fZ sa sb m0 hl (eq_of_beq e2);exact af (q _ (gallopOf st) this.1 this.2)
 rw [aa e2];have b2:1<b.size:=by
  have:1≠b.size:=fun e=>e1 (by simp [←e])
  omega
 have a2:0+1<a.size:=by
  have:0+1≠a.size:=fun e=>e2 (by simp [←e])
  omega
 refine ag (fm ?_)
 refine ag (dF (dw (I:=fun x c aj=>∃out ia ib mg g,c=(none,out,ia,ib,mg)∧aj=setG st g∧MI key a.toList b.toList out.toList ia ib∧ia+1<a.size∧ib<b.size∧x≤ia+ib)
  (Q:=fun c aj=>∃m g,c.1=some m∧aj=setG st g∧m.toList.Perm (a.toList++b.toList)∧aM key m.toList) ?_ ?_ ⟨_,_,_,_,gallopOf st,rfl,rfl,m0,a2,b2,bK _⟩) ?_)
 ·rintro x c aj _ hx ⟨out,ia,ib,mg,g,rfl,rfl,mi,ha,hb,vL⟩
  dsimp only
  refine ag (dF (dw (I:=fun y c aj=>∃out dU eA ac bc,c=(none,out,dU,eA,ac,bc)∧aj=setG st g∧MI key a.toList b.toList out.toList dU eA∧dU+1<a.size∧eA<b.size∧ia+ib+y≤dU+eA)
   (Q:=fun c aj=>aj=setG st g∧((∃m,c.1=some m∧m.toList.Perm (a.toList++b.toList)∧aM key m.toList)∨∃out dU eA ac bc,c=(none,out,dU,eA,ac,bc)∧MI key a.toList b.toList out.toList dU eA∧dU+1<a.size∧eA<b.size∧ia+ib+1≤dU+eA)) ?_ ?_ ⟨_,_,_,_,_,rfl,rfl,mi,ha,hb,ar _⟩) ?_)
  ·rintro y c aj _ hy ⟨out,dU,eA,ac,bc,rfl,rfl,mi,ha,hb,eB⟩
   dsimp only;refine ag (aR hb (ag (aR (by omega) (ag (pD h (ob _ hb) (oa dU (by omega)) (bM _) ?_)))))
   dsimp only;by_cases z:key (b.getD eA nn)<key (a.getD dU nn)
   ·rw [b4 z,ae rfl]
    refine ag (aR hb ?_);have eE:=mV sa sb mi hb fun j h1 h2=>bS (bR z) (dD sa h1 h2);by_cases z1:(eA+1 == b.size)=true
    ·rw [ae z1]
     exact af ⟨rfl,.inl ⟨_,rfl,fY sa sb eE (.inl (eq_of_beq z1))⟩⟩
    ·rw [aa z1]
     have vM:eA+1≠b.size:=fun e=>z1 (by simp [←e])
     by_cases z2:bc+1≥mg
     ·rw [ae z2]
      exact af ⟨rfl,.inr ⟨_,_,_,_,_,rfl,eE,ha,by omega,by omega⟩⟩
     ·rw [aa z2]
      exact af ⟨_,_,_,_,_,rfl,rfl,eE,ha,by omega,by omega⟩
   ·rw [b3 z,aa (by simp)]
    refine ag (aR (by omega) ?_)
    have eE:=i7 sa sb mi (by omega) fun j h1 h2=>bS (Int.not_lt.mp z) (dD sb h1 h2)
    by_cases z1:(dU+1+1 == a.size)=true
    ·rw [ae z1]
     exact af ⟨rfl,.inl ⟨_,rfl,fZ sa sb eE hl (eq_of_beq z1)⟩⟩
    ·rw [aa z1]
     have vM:dU+1+1≠a.size:=fun e=>z1 (by simp [←e])
     by_cases z2:ac+1≥mg
     ·rw [ae z2]
      exact af ⟨rfl,.inr ⟨_,_,_,_,_,rfl,eE,by omega,hb,by omega⟩⟩
     ·rw [aa z2]
      exact af ⟨_,_,_,_,_,rfl,rfl,eE,by omega,hb,by omega⟩
  ·rintro c aj ⟨out,dU,eA,ac,bc,rfl,rfl,mi,ha,hb,eB⟩
   exact ⟨rfl,.inr ⟨_,_,_,_,_,rfl,mi,ha,hb,by omega⟩⟩
  ·rintro c aj ⟨rfl,⟨m,e,pm⟩ | ⟨out,dU,eA,ac,bc,rfl,mi,ha,hb,eB⟩⟩
   ·obtain ⟨c1,c2⟩:=c
    dsimp only at e;subst e;exact af ⟨m,g,rfl,rfl,pm⟩
   ·dsimp only
    refine ag (wpS_lift (gZ ⟨rfl,?_⟩))
    refine ag (dF (dw (I:=fun y c aj=>∃out i j mg ac bc g,c=(none,out,i,j,mg,ac,bc)∧aj=setG st g∧MI key a.toList b.toList out.toList i j∧i+1<a.size∧j<b.size∧x+1≤i+j)
     (Q:=fun c aj=>(∃m g,c.1=some m∧aj=setG st g∧m.toList.Perm (a.toList++b.toList)∧aM key m.toList)∨∃out i j mg ac bc g,c=(none,out,i,j,mg,ac,bc)∧aj=setG st g∧MI key a.toList b.toList out.toList i j∧i+1<a.size∧j<b.size∧x+1≤i+j) ?_ ?_ ⟨_,_,_,_,_,_,g,rfl,rfl,mi,ha,hb,by omega⟩) ?_)
    ·clear mi ha hb eB
     rintro y c aj _ hy ⟨out,ia,ib,mg,ac,bc,g,rfl,rfl,mi,ha,hb,eB⟩;dsimp only;rcases Nat.lt_or_ge 1 mg with zm | zm
     ·rw [ae zm]
      refine ag (mU ?_);refine ag (aR hb (ag (fc (f:=fun i=>bB false (key (b.getD ib nn)) (key (a.getD (ia+i) nn))) (fun i hi Q q=>fb h (by omega) oa (ob _ hb) (bM _) q) (by omega) (rQ sa) fun k k1 k2 k3=>?_)))
      dsimp only;by_cases zk:k>0
      ·rw [ae zk]
       have eF:=Av sa sb mi (n:=k) fun i j hi aV hj cJ=>bS (ir (k2 i hi)) (dD sb hj cJ);by_cases w1:(ia+k+1 == a.size)=true
       ·rw [ae w1]
        exact af (.inl ⟨_,_,rfl,rfl,fZ sa sb eF hl (eq_of_beq w1)⟩)
       ·rw [aa w1]
        have vN:ia+k+1≠a.size:=fun e=>w1 (by simp [←e])
        by_cases w2:(ia+k == a.size)=true
        ·rw [ae w2]
         exact af (.inl ⟨_,_,rfl,rfl,fY sa sb eF (.inr (eq_of_beq w2))⟩)
        ·rw [aa w2]
         have Gb:ia+k≠a.size:=fun e=>w2 (by simp [←e])
         refine ag (aR hb ?_);have bE:=mV sa sb eF hb fun j h1 h2=>by have:=jM (k3 (j-ia) (by omega) (by omega));rw [show ia+(j-ia)=j by omega] at this;exact bR this
         by_cases x1:(ib+1 == b.size)=true
         ·rw [ae x1]
          exact af (.inl ⟨_,_,rfl,rfl,fY sa sb bE (.inl (eq_of_beq x1))⟩)
         ·rw [aa x1]
          have k6:ib+1≠b.size:=fun e=>x1 (by simp [←e])
          refine ag (aR (by omega) (ag (fc (f:=fun i=>bB true (key (a.getD (ia+k) nn)) (key (b.getD (ib+1+i) nn))) (fun i hi Q q=>fb h (by omega) ob (oa _ (by omega)) (bM _) q) (by omega) (jN sb) fun k' q1 q2 q3=>?_)))
          dsimp only;by_cases cH:k'>0
          ·rw [ae cH]
           have b8:=rR sa sb bE (n:=k') fun i j hi aV hj cJ=>bS (bR (en (q2 i hi))) (dD sa hj cJ);by_cases x2:(ib+1+k' == b.size)=true
           ·rw [ae x2]
            exact af (.inl ⟨_,_,rfl,rfl,fY sa sb b8 (.inl (eq_of_beq x2))⟩)
           ·rw [aa x2]
            have k7:ib+1+k'≠b.size:=fun e=>x2 (by simp [←e])
            refine ag (aR (by omega) ?_)
            have aE:=i7 sa sb b8 (by omega) fun j h1 h2=>by have:=fe (q3 (j-(ib+1)) (by omega) (by omega));rwa [show ib+1+(j-(ib+1))=j by omega] at this
            by_cases y1:(ia+k+1+1 == a.size)=true
            ·rw [ae y1]
             exact af (.inl ⟨_,_,rfl,rfl,fZ sa sb aE hl (eq_of_beq y1)⟩)
            ·rw [aa y1]
             have eG:ia+k+1+1≠a.size:=fun e=>y1 (by simp [←e])
             exact cS (fun _=>af (.inr ⟨_,_,_,_,_,_,_,rfl,rfl,aE,by omega,by omega,by omega⟩)) (fun _=>af ⟨_,_,_,_,_,_,_,rfl,rfl,aE,by omega,by omega,by omega⟩)
          ·rw [aa cH]
           obtain rfl:k'=0:=by omega
           refine ag (aR (by omega) ?_)
           have aE:=i7 sa sb bE (by omega) fun j h1 h2=>by have:=fe (q3 (j-(ib+1)) (by omega) (by omega));rwa [show ib+1+(j-(ib+1))=j by omega] at this
           by_cases y1:(ia+k+1+1 == a.size)=true
           ·rw [ae y1]
            exact af (.inl ⟨_,_,rfl,rfl,fZ sa sb aE hl (eq_of_beq y1)⟩)
           ·rw [aa y1]
            have eG:ia+k+1+1≠a.size:=fun e=>y1 (by simp [←e])
            exact cS (fun _=>af (.inr ⟨_,_,_,_,_,_,_,rfl,rfl,aE,by omega,by omega,by omega⟩)) (fun _=>af ⟨_,_,_,_,_,_,_,rfl,rfl,aE,by omega,by omega,by omega⟩)
      ·rw [aa zk]
       obtain rfl:k=0:=by omega
       refine ag (aR hb ?_);have bE:=mV sa sb mi hb fun j h1 h2=>by have:=jM (k3 (j-ia) (by omega) (by omega));rw [show ia+(j-ia)=j by omega] at this;exact bR this
       by_cases x1:(ib+1 == b.size)=true
       ·rw [ae x1]
        exact af (.inl ⟨_,_,rfl,rfl,fY sa sb bE (.inl (eq_of_beq x1))⟩)
       ·rw [aa x1]
        have k6:ib+1≠b.size:=fun e=>x1 (by simp [←e])
        refine ag (aR (by omega) (ag (fc (f:=fun i=>bB true (key (a.getD (ia) nn)) (key (b.getD (ib+1+i) nn))) (fun i hi Q q=>fb h (by omega) ob (oa _ (by omega)) (bM _) q) (by omega) (jN sb) fun k' q1 q2 q3=>?_)))
        dsimp only;by_cases cH:k'>0
        ·rw [ae cH]
         have b8:=rR sa sb bE (n:=k') fun i j hi aV hj cJ=>bS (bR (en (q2 i hi))) (dD sa hj cJ);by_cases x2:(ib+1+k' == b.size)=true
         ·rw [ae x2]
          exact af (.inl ⟨_,_,rfl,rfl,fY sa sb b8 (.inl (eq_of_beq x2))⟩)
         ·rw [aa x2]
          have k7:ib+1+k'≠b.size:=fun e=>x2 (by simp [←e])
          refine ag (aR (by omega) ?_)
          have aE:=i7 sa sb b8 (by omega) fun j h1 h2=>by have:=fe (q3 (j-(ib+1)) (by omega) (by omega));rwa [show ib+1+(j-(ib+1))=j by omega] at this
          by_cases y1:(ia+1+1 == a.size)=true
          ·rw [ae y1]
           exact af (.inl ⟨_,_,rfl,rfl,fZ sa sb aE hl (eq_of_beq y1)⟩)
          ·rw [aa y1]
           have eG:ia+1+1≠a.size:=fun e=>y1 (by simp [←e])
           exact cS (fun _=>af (.inr ⟨_,_,_,_,_,_,_,rfl,rfl,aE,by omega,by omega,by omega⟩)) (fun _=>af ⟨_,_,_,_,_,_,_,rfl,rfl,aE,by omega,by omega,by omega⟩)
        ·rw [aa cH]
         obtain rfl:k'=0:=by omega
         refine ag (aR (by omega) ?_)
         have aE:=i7 sa sb bE (by omega) fun j h1 h2=>by have:=fe (q3 (j-(ib+1)) (by omega) (by omega));rwa [show ib+1+(j-(ib+1))=j by omega] at this
         by_cases y1:(ia+1+1 == a.size)=true
         ·rw [ae y1]
          exact af (.inl ⟨_,_,rfl,rfl,fZ sa sb aE hl (eq_of_beq y1)⟩)
         ·rw [aa y1]
          have eG:ia+1+1≠a.size:=fun e=>y1 (by simp [←e])
          exact cS (fun _=>af (.inr ⟨_,_,_,_,_,_,_,rfl,rfl,aE,by omega,by omega,by omega⟩)) (fun _=>af ⟨_,_,_,_,_,_,_,rfl,rfl,aE,by omega,by omega,by omega⟩)
     ·rw [aa (by omega)]
      refine ag (mU ?_);refine ag (aR hb (ag (fc (f:=fun i=>bB false (key (b.getD ib nn)) (key (a.getD (ia+i) nn))) (fun i hi Q q=>fb h (by omega) oa (ob _ hb) (bM _) q) (by omega) (rQ sa) fun k k1 k2 k3=>?_)))
      dsimp only;by_cases zk:k>0
      ·rw [ae zk]
       have eF:=Av sa sb mi (n:=k) fun i j hi aV hj cJ=>bS (ir (k2 i hi)) (dD sb hj cJ);by_cases w1:(ia+k+1 == a.size)=true
       ·rw [ae w1]
        exact af (.inl ⟨_,_,rfl,rfl,fZ sa sb eF hl (eq_of_beq w1)⟩)
       ·rw [aa w1]
        have vN:ia+k+1≠a.size:=fun e=>w1 (by simp [←e])
        by_cases w2:(ia+k == a.size)=true
        ·rw [ae w2]
         exact af (.inl ⟨_,_,rfl,rfl,fY sa sb eF (.inr (eq_of_beq w2))⟩)
        ·rw [aa w2]
         have Gb:ia+k≠a.size:=fun e=>w2 (by simp [←e])
         refine ag (aR hb ?_);have bE:=mV sa sb eF hb fun j h1 h2=>by have:=jM (k3 (j-ia) (by omega) (by omega));rw [show ia+(j-ia)=j by omega] at this;exact bR this
         by_cases x1:(ib+1 == b.size)=true
         ·rw [ae x1]
          exact af (.inl ⟨_,_,rfl,rfl,fY sa sb bE (.inl (eq_of_beq x1))⟩)
         ·rw [aa x1]
          have k6:ib+1≠b.size:=fun e=>x1 (by simp [←e])
          refine ag (aR (by omega) (ag (fc (f:=fun i=>bB true (key (a.getD (ia+k) nn)) (key (b.getD (ib+1+i) nn))) (fun i hi Q q=>fb h (by omega) ob (oa _ (by omega)) (bM _) q) (by omega) (jN sb) fun k' q1 q2 q3=>?_)))
          dsimp only;by_cases cH:k'>0
          ·rw [ae cH]
           have b8:=rR sa sb bE (n:=k') fun i j hi aV hj cJ=>bS (bR (en (q2 i hi))) (dD sa hj cJ);by_cases x2:(ib+1+k' == b.size)=true
           ·rw [ae x2]
            exact af (.inl ⟨_,_,rfl,rfl,fY sa sb b8 (.inl (eq_of_beq x2))⟩)
           ·rw [aa x2]
            have k7:ib+1+k'≠b.size:=fun e=>x2 (by simp [←e])
            refine ag (aR (by omega) ?_)
            have aE:=i7 sa sb b8 (by omega) fun j h1 h2=>by have:=fe (q3 (j-(ib+1)) (by omega) (by omega));rwa [show ib+1+(j-(ib+1))=j by omega] at this
            by_cases y1:(ia+k+1+1 == a.size)=true
            ·rw [ae y1]
             exact af (.inl ⟨_,_,rfl,rfl,fZ sa sb aE hl (eq_of_beq y1)⟩)
            ·rw [aa y1]
             have eG:ia+k+1+1≠a.size:=fun e=>y1 (by simp [←e])
             exact cS (fun _=>af (.inr ⟨_,_,_,_,_,_,_,rfl,rfl,aE,by omega,by omega,by omega⟩)) (fun _=>af ⟨_,_,_,_,_,_,_,rfl,rfl,aE,by omega,by omega,by omega⟩)
          ·rw [aa cH]
           obtain rfl:k'=0:=by omega
           refine ag (aR (by omega) ?_)
           have aE:=i7 sa sb bE (by omega) fun j h1 h2=>by have:=fe (q3 (j-(ib+1)) (by omega) (by omega));rwa [show ib+1+(j-(ib+1))=j by omega] at this
           by_cases y1:(ia+k+1+1 == a.size)=true
           ·rw [ae y1]
            exact af (.inl ⟨_,_,rfl,rfl,fZ sa sb aE hl (eq_of_beq y1)⟩)
           ·rw [aa y1]
            have eG:ia+k+1+1≠a.size:=fun e=>y1 (by simp [←e])
            exact cS (fun _=>af (.inr ⟨_,_,_,_,_,_,_,rfl,rfl,aE,by omega,by omega,by omega⟩)) (fun _=>af ⟨_,_,_,_,_,_,_,rfl,rfl,aE,by omega,by omega,by omega⟩)
      ·rw [aa zk]
       obtain rfl:k=0:=by omega
       refine ag (aR hb ?_);have bE:=mV sa sb mi hb fun j h1 h2=>by have:=jM (k3 (j-ia) (by omega) (by omega));rw [show ia+(j-ia)=j by omega] at this;exact bR this
       by_cases x1:(ib+1 == b.size)=true
       ·rw [ae x1]
        exact af (.inl ⟨_,_,rfl,rfl,fY sa sb bE (.inl (eq_of_beq x1))⟩)
       ·rw [aa x1]
        have k6:ib+1≠b.size:=fun e=>x1 (by simp [←e])
        refine ag (aR (by omega) (ag (fc (f:=fun i=>bB true (key (a.getD (ia) nn)) (key (b.getD (ib+1+i) nn))) (fun i hi Q q=>fb h (by omega) ob (oa _ (by omega)) (bM _) q) (by omega) (jN sb) fun k' q1 q2 q3=>?_)))
        dsimp only;by_cases cH:k'>0
        ·rw [ae cH]
         have b8:=rR sa sb bE (n:=k') fun i j hi aV hj cJ=>bS (bR (en (q2 i hi))) (dD sa hj cJ);by_cases x2:(ib+1+k' == b.size)=true
         ·rw [ae x2]
          exact af (.inl ⟨_,_,rfl,rfl,fY sa sb b8 (.inl (eq_of_beq x2))⟩)
         ·rw [aa x2]
          have k7:ib+1+k'≠b.size:=fun e=>x2 (by simp [←e])
          refine ag (aR (by omega) ?_)
          have aE:=i7 sa sb b8 (by omega) fun j h1 h2=>by have:=fe (q3 (j-(ib+1)) (by omega) (by omega));rwa [show ib+1+(j-(ib+1))=j by omega] at this
          by_cases y1:(ia+1+1 == a.size)=true
          ·rw [ae y1]
           exact af (.inl ⟨_,_,rfl,rfl,fZ sa sb aE hl (eq_of_beq y1)⟩)
          ·rw [aa y1]
           have eG:ia+1+1≠a.size:=fun e=>y1 (by simp [←e])
           exact cS (fun _=>af (.inr ⟨_,_,_,_,_,_,_,rfl,rfl,aE,by omega,by omega,by omega⟩)) (fun _=>af ⟨_,_,_,_,_,_,_,rfl,rfl,aE,by omega,by omega,by omega⟩)
        ·rw [aa cH]
         obtain rfl:k'=0:=by omega
         refine ag (aR (by omega) ?_)
         have aE:=i7 sa sb bE (by omega) fun j h1 h2=>by have:=fe (q3 (j-(ib+1)) (by omega) (by omega));rwa [show ib+1+(j-(ib+1))=j by omega] at this
         by_cases y1:(ia+1+1 == a.size)=true
         ·rw [ae y1]
          exact af (.inl ⟨_,_,rfl,rfl,fZ sa sb aE hl (eq_of_beq y1)⟩)
         ·rw [aa y1]
          have eG:ia+1+1≠a.size:=fun e=>y1 (by simp [←e])
          exact cS (fun _=>af (.inr ⟨_,_,_,_,_,_,_,rfl,rfl,aE,by omega,by omega,by omega⟩)) (fun _=>af ⟨_,_,_,_,_,_,_,rfl,rfl,aE,by omega,by omega,by omega⟩)
    ·rintro c aj ⟨out,i,j,mg,ac,bc,g,rfl,rfl,mi,ha,hb,eB⟩
     exact .inr ⟨_,_,_,_,_,_,_,rfl,rfl,mi,ha,hb,eB⟩
    ·rintro c aj (⟨m,g,e,rfl,pm⟩ | ⟨out,i,j,mg,ac,bc,g,rfl,rfl,mi,ha,hb,eB⟩)
     ·obtain ⟨c1,c2⟩:=c
      dsimp only at e;subst e;exact af ⟨m,g,rfl,rfl,pm⟩
     ·dsimp only
      exact ag (mU (af ⟨_,_,_,_,_,rfl,rfl,mi,ha,hb,by omega⟩))
 ·rintro c aj ⟨out,ia,ib,mg,g,rfl,rfl,mi,ha,hb,vL⟩
  exfalso
  omega
 ·rintro c aj ⟨m,g,e,rfl,pm,sm⟩
  obtain ⟨c1,c2⟩:=c;dsimp only at e;subst e;exact af (q m g pm sm)
end
theorem Gd(a b:Array Keyed):vG a b=(do
 rule "list.sort.merge-hi"
 let total:=a.size+b.size
 let done (out:Array Keyed) (na nb:Nat):=a.extract 0 na++b.extract 0 nb++out.reverse
 let rS (out:Array Keyed) (na nb:Nat):=b.extract 0 nb++a.extract 0 na++out.reverse
 let mut na:=a.size-1
 let mut nb:=b.size
 let mut out:Array Keyed:=#[←elem' a na]
 if na == 0 then return done out na nb
 if nb == 1 then return rS out na nb
 let mut minGallop:=gallopOf (←get)
 for _ in [0:total] do
  let mut fG:=0
  let mut fH:=0
  for _ in [0:total] do
   let some Ge ←lt' (←elem' b (nb-1)) (←elem' a (na-1)) | return done out na nb
   if Ge then
    na:=na-1;out:=out.push (←elem' a na);fG:=fG+1;fH:=0
    if na == 0 then return done out na nb
    if fG≥minGallop then break
   else
    nb:=nb-1;out:=out.push (←elem' b nb);fH:=fH+1;fG:=0
    if nb == 1 then return rS out na nb
    if fH≥minGallop then break
  rule "list.sort.gallop"
  minGallop:=minGallop+1
  for _ in [0:total] do
   if minGallop>1 then minGallop:=minGallop-1
   pB minGallop
   let some at_ ←jL false (←elem' b (nb-1)) a 0 na (na-1) | return done out na nb
   let k:=na-at_
   fG:=k
   if k>0 then
    out:=out++(a.extract at_ na).reverse;na:=at_
    if na == 0 then return done out na nb
   nb:=nb-1;out:=out.push (←elem' b nb)
   if nb == 1 then return rS out na nb
   let some at_ ←jL true (←elem' a (na-1)) b 0 nb (nb-1) | return done out na nb
   let k:=nb-at_
   fH:=k
   if k>0 then
    out:=out++(b.extract at_ nb).reverse;nb:=at_
    if nb == 1 then return rS out na nb
    if nb == 0 then return done out na nb
   na:=na-1;out:=out.push (←elem' a na)
   if na == 0 then return done out na nb
   if fG<7 && fH<7 then break
  minGallop:=minGallop+1
  pB minGallop
 unsupported "internal:list.sort.merge-bound"):=rfl
section
variable {key:Keyed→Int}
theorem mW(h:aM key l):aM (fun x=>-key x) l.reverse:=by unfold aM;rw [ur];exact qD (fun h=>Int.neg_le_neg h) h
theorem Aw(h:aM (fun x=>-key x) l):aM key l.reverse:=by unfold aM;rw [ur];exact qD (fun h=>Int.le_of_neg_le_neg h) h
variable {a:Array Keyed} {n:Nat}
theorem gH(h:n≤a.size):a.toList.reverse.drop (a.size-n)=(a.extract 0 n).toList.reverse:=by rw [List.drop_reverse,fX,List.drop_zero,Nat.sub_zero,eL,show a.size-(a.size-n)=n by omega]
theorem rT{m:Nat}(h:n≤a.size)(hm:m≤n):(a.toList.reverse.drop (a.size-n)).take (n-m)=(a.extract m n).reverse.toList:=by rw [gH h,mj,fX,fX,List.drop_zero,Nat.sub_zero,List.take_reverse,og,eL,show min n a.size-(n-m)=m by omega,List.drop_take]
theorem i8{m:Nat}(h:n≤a.size){x:Keyed}(hx:x∈(a.extract m n).toList):∃j,m≤j∧j<n∧x=a.getD j nn:=by rw [fX] at hx;obtain ⟨j,h1,h2,rfl⟩:=vJ hx;exact ⟨m+j,by omega,by omega,rfl⟩
theorem Ax(h:n≤a.size)(h1:1≤n):(a.extract (n-1) n).reverse.toList=[a.getD (n-1) nn]:=by
 rw [mj,fX,show n-(n-1)=1 by omega,pE (by omega)]
 rfl
def MH(key:Keyed→Int)(a b out:Array Keyed)(na nb:Nat):Prop:=MI (fun x=>-key x) a.toList.reverse b.toList.reverse out.toList (a.size-na) (b.size-nb)∧na≤a.size∧nb≤b.size
variable {a b:Array Keyed} (sa:aM key a.toList) (sb:aM key b.toList) {out:Array Keyed} {na nb:Nat}
include sa sb
variable {k:Nat}
theorem vO(m:MH key a b out na nb)(hk:k≤na)(c:∀i j,k≤i→i<na→j<nb→key (b.getD j nn)≤key (a.getD i nn)):MH key a b (out++(a.extract k na).reverse) k nb:=by
 obtain ⟨m,ha,hb⟩:=m;refine ⟨?_,by omega,hb⟩
 have:=m.rN (mW sa) (na-k) fun x hx y hy=>by rw [rT ha hk,mj,jr] at hx;rw [gH hb,jr] at hy;obtain ⟨i,i1,i2,rfl⟩:=i8 ha hx;obtain ⟨j,j1,j2,rfl⟩:=i8 hb hy;have:=c i j i1 i2 j2;omega
 rw [rT ha hk,show a.size-na+(na-k)=a.size-k by omega] at this
 rw [gY];exact this
theorem pF(m:MH key a b out na nb)(hk:k≤nb)(c:∀i j,k≤i→i<nb→j<na→key (a.getD j nn)≤key (b.getD i nn)):MH key a b (out++(b.extract k nb).reverse) na k:=by
 obtain ⟨m,ha,hb⟩:=m;refine ⟨?_,ha,by omega⟩
 have:=m.vI (mW sb) (nb-k) fun x hx y hy=>by rw [rT hb hk,mj,jr] at hx;rw [gH ha,jr] at hy;obtain ⟨i,i1,i2,rfl⟩:=i8 hb hx;obtain ⟨j,j1,j2,rfl⟩:=i8 ha hy;have:=c i j i1 i2 j2;omega
 rw [rT hb hk,show b.size-nb+(nb-k)=b.size-k by omega] at this
 rw [gY];exact this
theorem iu(m:MH key a b out na nb)(h1:1≤na)(c:∀j,j<nb→key (b.getD j nn)≤key (a.getD (na-1) nn)):MH key a b (out.push (a.getD (na-1) nn)) (na-1) nb:=by
 have:=vO sa sb m (k:=na-1) (by omega) fun i j i1 i2 j1=>by
  rw [show i=na-1 by omega]
  exact c j j1
 have e:out++(a.extract (na-1) na).reverse=out.push (a.getD (na-1) nn):=by apply Array.toList_inj.mp;rw [gY,Ax m.2.1 h1,jq]
 rw [e] at this;exact this
theorem pG(m:MH key a b out na nb)(h1:1≤nb)(c:∀j,j<na→key (a.getD j nn)≤key (b.getD (nb-1) nn)):MH key a b (out.push (b.getD (nb-1) nn)) na (nb-1):=by
 have:=pF sa sb m (k:=nb-1) (by omega) fun i j i1 i2 j1=>by
  rw [show i=nb-1 by omega]
  exact c j j1
 have e:out++(b.extract (nb-1) nb).reverse=out.push (b.getD (nb-1) nn):=by apply Array.toList_inj.mp;rw [gY,Ax m.2.2 h1,jq]
 rw [e] at this;exact this
theorem dW(m:MH key a b out na nb)(e:na=0∨nb=0):(a.extract 0 na++b.extract 0 nb++out.reverse).toList.Perm (a.toList++b.toList)∧aM key (a.extract 0 na++b.extract 0 nb++out.reverse).toList:=by
 obtain ⟨m,ha,hb⟩:=m;have:=m.Au (mW sa) (mW sb) fun x hx y hy=>by rw [gH ha,jr] at hx;rw [gH hb,jr] at hy;obtain ⟨i,i1,i2,_⟩:=i8 ha hx;obtain ⟨j,j1,j2,_⟩:=i8 hb hy;omega
 rw [gH ha,gH hb] at this;have er:(a.extract 0 na++b.extract 0 nb++out.reverse).toList=(out.toList++(b.extract 0 nb).toList.reverse++(a.extract 0 na).toList.reverse).reverse:=by simp
 rw [er];refine ⟨(jt _).trans (this.1.trans ?_),Aw this.2⟩;exact (jt _).append (jt _)
theorem iw(m:MH key a b out na nb)(h0:∀x∈a.toList,key (b.getD 0 nn)≤key x)(e:nb=1):(b.extract 0 nb++a.extract 0 na++out.reverse).toList.Perm (a.toList++b.toList)∧aM key (b.extract 0 nb++a.extract 0 na++out.reverse).toList:=by
 obtain ⟨m,ha,hb⟩:=m;have:=m.done (mW sa) (mW sb) fun x hx y hy=>by
  rw [gH ha,jr] at hx;rw [gH hb,jr] at hy;obtain ⟨i,i1,i2,rfl⟩:=i8 ha hx;obtain ⟨j,j1,j2,rfl⟩:=i8 hb hy;have:=h0 (a.getD i nn) (by simp [Array.getD,show i<a.size by omega])
  rw [show j=0 by omega]
  omega
 rw [gH ha,gH hb] at this;have er:(b.extract 0 nb++a.extract 0 na++out.reverse).toList=(out.toList++(a.extract 0 na).toList.reverse++(b.extract 0 nb).toList.reverse).reverse:=by simp
 rw [er];refine ⟨(jt _).trans (this.1.trans ?_),Aw this.2⟩;exact (jt _).append (jt _)
end
section
variable {prog:Program} {w:World} {A:Around} {E:aw} {s:Shared} {κ:SortKind} {key:Keyed→Int} {Ok:Keyed→Prop}
theorem Gf(h:fW prog w A s κ key Ok){a b:Array Keyed}(oa:dq Ok a)(ob:dq Ok b)(sa:aM key a.toList)(sb:aM key b.toList)(a1:1≤a.size)(b1:1≤b.size)
  (h0:∀x∈a.toList,key (b.getD 0 nn)≤key x) (hl:∀y∈b.toList,key y≤key (a.getD (a.size-1) nn)) {st:SortSt} (hk:kindOf st=κ) {Q:Array Keyed→SortSt→Prop}
  (q:∀m g,m.toList.Perm (a.toList++b.toList)→aM key m.toList→Q m (setG st g)):wpS (model prog w) A E s (vG a b) Q st:=by
 rw [Gd];refine ag (wpS_lift (gZ ⟨rfl,?_⟩));refine ag (aR (by omega) ?_)
 dsimp only;have m0:MH key a b (#[a.getD (a.size-1) nn]:Array Keyed) (a.size-1) b.size:=by
  have:MH key a b (#[]:Array Keyed) a.size b.size:=⟨⟨by simp,List.Pairwise.nil,fun x hx=>by simp at hx,fun x hx=>by simp at hx⟩,ar _,ar _⟩
  exact iu sa sb this a1 fun j hj=>hl _ (by simp [Array.getD,hj])
 have bM:∀g,kindOf (setG st g)=κ:=fun _=>hk;by_cases e1:(a.size-1 == 0)=true
 ·rw [ae e1]
  have:=dW sa sb m0 (.inl (eq_of_beq e1));exact af (q _ (gallopOf st) this.1 this.2)
 rw [aa e1];by_cases e2:(b.size == 1)=true
 ·rw [ae e2]
  have:=iw sa sb m0 h0 (eq_of_beq e2);exact af (q _ (gallopOf st) this.1 this.2)
 rw [aa e2];have a2:1≤a.size-1:=by
  have:a.size-1≠0:=fun e=>e1 (by simp [e])
  omega
 have b2:2≤b.size:=by
  have:b.size≠1:=fun e=>e2 (by simp [e])
  omega
 refine ag (fm ?_)
 refine ag (dF (dw (I:=fun x c aj=>∃(out:Array Keyed) (na nb mg g:Nat),c=(none,na,nb,out,mg)∧aj=setG st g∧MH key a b out na nb∧1≤na∧2≤nb∧x+na+nb≤a.size+b.size)
  (Q:=fun c aj=>∃(m:Array Keyed) (g:Nat),c.1=some m∧aj=setG st g∧m.toList.Perm (a.toList++b.toList)∧aM key m.toList) ?_ ?_ ⟨_,a.size-1,b.size,_,gallopOf st,rfl,rfl,m0,a2,b2,show 0+(a.size-1)+b.size≤a.size+b.size by omega⟩) ?_)
 ·rintro x c aj _ hx ⟨out,na,nb,mg,g,rfl,rfl,mi,ha,hb,vL⟩
  dsimp only
  refine ag (dF (dw (I:=fun y c aj=>∃(out:Array Keyed) (aN bt ac bc:Nat),c=(none,aN,bt,out,ac,bc)∧aj=setG st g∧MH key a b out aN bt∧1≤aN∧2≤bt∧y+aN+bt≤na+nb)
   (Q:=fun c aj=>aj=setG st g∧((∃m:Array Keyed,c.1=some m∧m.toList.Perm (a.toList++b.toList)∧aM key m.toList)∨∃(out:Array Keyed) (aN bt ac bc:Nat),c=(none,aN,bt,out,ac,bc)∧MH key a b out aN bt∧1≤aN∧2≤bt∧1+aN+bt≤na+nb)) ?_ ?_ ⟨_,na,nb,_,_,rfl,rfl,mi,ha,hb,show 0+na+nb≤na+nb by omega⟩) ?_)
  ·rintro y c aj _ hy ⟨out,aN,bt,ac,bc,rfl,rfl,mi,ha,hb,eB⟩
   have pH:=mi.2.1;have kT:=mi.2.2;dsimp only;refine ag (aR (by omega) (ag (aR (by omega) (ag (pD h (ob (bt-1) (by omega)) (oa (aN-1) (by omega)) (bM _) ?_)))))
   dsimp only;by_cases z:key (b.getD (bt-1) nn)<key (a.getD (aN-1) nn)
   ·rw [b4 z,ae rfl]
    refine ag (aR (by omega) ?_)
    have eE:=iu sa sb mi ha fun j hj=>bS (dD sb (by omega) (by omega)) (bR z)
    by_cases z1:(aN-1 == 0)=true
    ·rw [ae z1]
     exact af ⟨rfl,.inl ⟨_,rfl,dW sa sb eE (.inl (eq_of_beq z1))⟩⟩
    ·rw [aa z1]
     have vM:aN-1≠0:=fun e=>z1 (by simp [e])
     exact cS (fun _=>af ⟨rfl,.inr ⟨_,_,_,_,_,rfl,eE,by omega,hb,by omega⟩⟩) (fun _=>af ⟨_,_,_,_,_,rfl,rfl,eE,by omega,hb,by omega⟩)
   ·rw [b3 z,aa (by simp)]
    refine ag (aR (by omega) ?_)
    have eE:=pG sa sb mi (by omega) fun j hj=>bS (dD sa (by omega) (by omega)) (Int.not_lt.mp z)
    by_cases z1:(bt-1 == 1)=true
    ·rw [ae z1]
     exact af ⟨rfl,.inl ⟨_,rfl,iw sa sb eE h0 (eq_of_beq z1)⟩⟩
    ·rw [aa z1]
     have vM:bt-1≠1:=fun e=>z1 (by simp [e])
     exact cS (fun _=>af ⟨rfl,.inr ⟨_,_,_,_,_,rfl,eE,ha,by omega,by omega⟩⟩) (fun _=>af ⟨_,_,_,_,_,rfl,rfl,eE,ha,by omega,by omega⟩)
  ·rintro c aj ⟨out,aN,bt,ac,bc,rfl,rfl,mi,ha,hb,eB⟩
   exact ⟨rfl,.inr ⟨_,_,_,_,_,rfl,mi,ha,hb,by omega⟩⟩
  ·rintro c aj ⟨rfl,⟨m,e,pm⟩ | ⟨out,aN,bt,ac,bc,rfl,mi,ha,hb,eB⟩⟩
   ·obtain ⟨c1,c2⟩:=c
    dsimp only at e;subst e;exact af ⟨m,g,rfl,rfl,pm⟩
   ·dsimp only
    refine ag (wpS_lift (gZ ⟨rfl,?_⟩))
    refine ag (dF (dw (I:=fun y c aj=>∃(out:Array Keyed) (i j mg ac bc g:Nat),c=(none,i,j,out,mg,ac,bc)∧aj=setG st g∧MH key a b out i j∧1≤i∧2≤j∧x+1+i+j≤a.size+b.size)
     (Q:=fun c aj=>(∃(m:Array Keyed) (g:Nat),c.1=some m∧aj=setG st g∧m.toList.Perm (a.toList++b.toList)∧aM key m.toList)∨∃(out:Array Keyed) (i j mg ac bc g:Nat),c=(none,i,j,out,mg,ac,bc)∧aj=setG st g∧MH key a b out i j∧1≤i∧2≤j∧x+1+i+j≤a.size+b.size) ?_ ?_ ⟨_,aN,bt,_,_,_,g,rfl,rfl,mi,ha,hb,by omega⟩) ?_)
    ·clear mi ha hb eB
     rintro y c aj _ hy ⟨out,na,nb,mg,ac,bc,g,rfl,rfl,mi,ha,hb,eB⟩;have pH:=mi.2.1;have kT:=mi.2.2;dsimp only;rcases Nat.lt_or_ge 1 mg with zm | zm
     ·rw [ae zm]
      refine ag (mU ?_);refine ag (aR (by omega) (ag (fc (f:=fun i=>bB false (key (b.getD (nb-1) nn)) (key (a.getD (0+i) nn))) (fun i hi Q q=>fb h (by omega) oa (ob _ (by omega)) (bM _) q) (by omega) (fun i j h1 h2 h3=>rQ sa (o:=0) i j h1 (by omega) h3) fun k k1 k2 k3=>?_)))
      dsimp only;by_cases zk:na-k>0
      ·rw [ae zk]
       have eF:=vO sa sb mi (k:=k) k1 fun i j hi aV hj=>by have:=jM (k3 i hi aV);rw [dh] at this;exact bS (dD sb (by omega) (by omega)) (bR this)
       by_cases w1:(k == 0)=true
       ·rw [ae w1]
        exact af (.inl ⟨_,_,rfl,rfl,dW sa sb eF (.inl (eq_of_beq w1))⟩)
       ·rw [aa w1]
        have vN:k≠0:=fun e=>w1 (by simp [e])
        refine ag (aR (by have:=eF.2.2;omega) ?_)
        have bE:=pG sa sb eF (by omega) fun j h1=>by have:=ir (k2 j h1);rw [dh] at this;exact this
        by_cases x1:(nb-1 == 1)=true
        ·rw [ae x1]
         exact af (.inl ⟨_,_,rfl,rfl,iw sa sb bE h0 (eq_of_beq x1)⟩)
        ·rw [aa x1]
         have k6:nb-1≠1:=fun e=>x1 (by simp [e])
         have kT:=bE.2.2;refine ag (aR (by omega) (ag (fc (f:=fun i=>bB true (key (a.getD (k-1) nn)) (key (b.getD (0+i) nn))) (fun i hi Q q=>fb h (by omega) ob (oa _ (by omega)) (bM _) q) (by omega) (fun i j h1 h2 h3=>jN sb (o:=0) i j h1 (by omega) h3) fun k' q1 q2 q3=>?_)))
         dsimp only;by_cases cH:nb-1-k'>0
         ·rw [ae cH]
          have b8:=pF sa sb bE (k:=k') q1 fun i j hi aV hj=>by have:=fe (q3 i hi aV);rw [dh] at this;exact bS (dD sa (by omega) (by omega)) this
          by_cases x2:(k' == 1)=true
          ·rw [ae x2]
           exact af (.inl ⟨_,_,rfl,rfl,iw sa sb b8 h0 (eq_of_beq x2)⟩)
          ·rw [aa x2]
           have k7:k'≠1:=fun e=>x2 (by simp [e])
           by_cases x3:(k' == 0)=true
           ·rw [ae x3]
            exact af (.inl ⟨_,_,rfl,rfl,dW sa sb b8 (.inr (eq_of_beq x3))⟩)
           ·rw [aa x3]
            have vP:k'≠0:=fun e=>x3 (by simp [e])
            refine ag (aR (by omega) ?_)
            have aE:=iu sa sb b8 (by omega) fun j h1=>by have:=en (q2 j h1);rw [dh] at this;exact bR this
            by_cases y1:(k-1 == 0)=true
            ·rw [ae y1]
             exact af (.inl ⟨_,_,rfl,rfl,dW sa sb aE (.inl (eq_of_beq y1))⟩)
            ·rw [aa y1]
             have eG:k-1≠0:=fun e=>y1 (by simp [e])
             exact cS (fun _=>af (.inr ⟨_,_,_,_,_,_,_,rfl,rfl,aE,by omega,by omega,by omega⟩)) (fun _=>af ⟨_,_,_,_,_,_,_,rfl,rfl,aE,by omega,by omega,by omega⟩)
         ·rw [aa cH]
          obtain rfl:k'=nb-1:=by omega
          refine ag (aR (by omega) ?_)
          have aE:=iu sa sb bE (by omega) fun j h1=>by have:=en (q2 j h1);rw [dh] at this;exact bR this
          by_cases y1:(k-1 == 0)=true
          ·rw [ae y1]
           exact af (.inl ⟨_,_,rfl,rfl,dW sa sb aE (.inl (eq_of_beq y1))⟩)
          ·rw [aa y1]
           have eG:k-1≠0:=fun e=>y1 (by simp [e])
           exact cS (fun _=>af (.inr ⟨_,_,_,_,_,_,_,rfl,rfl,aE,by omega,by omega,by omega⟩)) (fun _=>af ⟨_,_,_,_,_,_,_,rfl,rfl,aE,by omega,by omega,by omega⟩)
      ·rw [aa zk]
       obtain rfl:k=na:=by omega
       refine ag (aR (by have:=mi.2.2;omega) ?_)
       have bE:=pG sa sb mi (by omega) fun j h1=>by have:=ir (k2 j h1);rw [dh] at this;exact this
       by_cases x1:(nb-1 == 1)=true
       ·rw [ae x1]
        exact af (.inl ⟨_,_,rfl,rfl,iw sa sb bE h0 (eq_of_beq x1)⟩)
       ·rw [aa x1]
        have k6:nb-1≠1:=fun e=>x1 (by simp [e])
        have kT:=bE.2.2;refine ag (aR (by omega) (ag (fc (f:=fun i=>bB true (key (a.getD (k-1) nn)) (key (b.getD (0+i) nn))) (fun i hi Q q=>fb h (by omega) ob (oa _ (by omega)) (bM _) q) (by omega) (fun i j h1 h2 h3=>jN sb (o:=0) i j h1 (by omega) h3) fun k' q1 q2 q3=>?_)))
        dsimp only;by_cases cH:nb-1-k'>0
        ·rw [ae cH]
         have b8:=pF sa sb bE (k:=k') q1 fun i j hi aV hj=>by have:=fe (q3 i hi aV);rw [dh] at this;exact bS (dD sa (by omega) (by omega)) this
         by_cases x2:(k' == 1)=true
         ·rw [ae x2]
          exact af (.inl ⟨_,_,rfl,rfl,iw sa sb b8 h0 (eq_of_beq x2)⟩)
         ·rw [aa x2]
          have k7:k'≠1:=fun e=>x2 (by simp [e])
          by_cases x3:(k' == 0)=true
          ·rw [ae x3]
           exact af (.inl ⟨_,_,rfl,rfl,dW sa sb b8 (.inr (eq_of_beq x3))⟩)
          ·rw [aa x3]
           have vP:k'≠0:=fun e=>x3 (by simp [e])
           refine ag (aR (by omega) ?_)
           have aE:=iu sa sb b8 (by omega) fun j h1=>by have:=en (q2 j h1);rw [dh] at this;exact bR this
           by_cases y1:(k-1 == 0)=true
           ·rw [ae y1]
            exact af (.inl ⟨_,_,rfl,rfl,dW sa sb aE (.inl (eq_of_beq y1))⟩)
           ·rw [aa y1]
            have eG:k-1≠0:=fun e=>y1 (by simp [e])
            exact cS (fun _=>af (.inr ⟨_,_,_,_,_,_,_,rfl,rfl,aE,by omega,by omega,by omega⟩)) (fun _=>af ⟨_,_,_,_,_,_,_,rfl,rfl,aE,by omega,by omega,by omega⟩)
        ·rw [aa cH]
         obtain rfl:k'=nb-1:=by omega
         refine ag (aR (by omega) ?_)
         have aE:=iu sa sb bE (by omega) fun j h1=>by have:=en (q2 j h1);rw [dh] at this;exact bR this
         by_cases y1:(k-1 == 0)=true
         ·rw [ae y1]
          exact af (.inl ⟨_,_,rfl,rfl,dW sa sb aE (.inl (eq_of_beq y1))⟩)
         ·rw [aa y1]
          have eG:k-1≠0:=fun e=>y1 (by simp [e])
          exact cS (fun _=>af (.inr ⟨_,_,_,_,_,_,_,rfl,rfl,aE,by omega,by omega,by omega⟩)) (fun _=>af ⟨_,_,_,_,_,_,_,rfl,rfl,aE,by omega,by omega,by omega⟩)
     ·rw [aa (by omega)]
      refine ag (mU ?_);refine ag (aR (by omega) (ag (fc (f:=fun i=>bB false (key (b.getD (nb-1) nn)) (key (a.getD (0+i) nn))) (fun i hi Q q=>fb h (by omega) oa (ob _ (by omega)) (bM _) q) (by omega) (fun i j h1 h2 h3=>rQ sa (o:=0) i j h1 (by omega) h3) fun k k1 k2 k3=>?_)))
      dsimp only;by_cases zk:na-k>0
      ·rw [ae zk]
       have eF:=vO sa sb mi (k:=k) k1 fun i j hi aV hj=>by have:=jM (k3 i hi aV);rw [dh] at this;exact bS (dD sb (by omega) (by omega)) (bR this)
       by_cases w1:(k == 0)=true
       ·rw [ae w1]
        exact af (.inl ⟨_,_,rfl,rfl,dW sa sb eF (.inl (eq_of_beq w1))⟩)
       ·rw [aa w1]
        have vN:k≠0:=fun e=>w1 (by simp [e])
        refine ag (aR (by have:=eF.2.2;omega) ?_)
        have bE:=pG sa sb eF (by omega) fun j h1=>by have:=ir (k2 j h1);rw [dh] at this;exact this
        by_cases x1:(nb-1 == 1)=true
        ·rw [ae x1]
         exact af (.inl ⟨_,_,rfl,rfl,iw sa sb bE h0 (eq_of_beq x1)⟩)
        ·rw [aa x1]
         have k6:nb-1≠1:=fun e=>x1 (by simp [e])
         have kT:=bE.2.2;refine ag (aR (by omega) (ag (fc (f:=fun i=>bB true (key (a.getD (k-1) nn)) (key (b.getD (0+i) nn))) (fun i hi Q q=>fb h (by omega) ob (oa _ (by omega)) (bM _) q) (by omega) (fun i j h1 h2 h3=>jN sb (o:=0) i j h1 (by omega) h3) fun k' q1 q2 q3=>?_)))
         dsimp only;by_cases cH:nb-1-k'>0
         ·rw [ae cH]
          have b8:=pF sa sb bE (k:=k') q1 fun i j hi aV hj=>by have:=fe (q3 i hi aV);rw [dh] at this;exact bS (dD sa (by omega) (by omega)) this
          by_cases x2:(k' == 1)=true
          ·rw [ae x2]
           exact af (.inl ⟨_,_,rfl,rfl,iw sa sb b8 h0 (eq_of_beq x2)⟩)
          ·rw [aa x2]
           have k7:k'≠1:=fun e=>x2 (by simp [e])
           by_cases x3:(k' == 0)=true
           ·rw [ae x3]
            exact af (.inl ⟨_,_,rfl,rfl,dW sa sb b8 (.inr (eq_of_beq x3))⟩)
           ·rw [aa x3]
            have vP:k'≠0:=fun e=>x3 (by simp [e])
            refine ag (aR (by omega) ?_)
            have aE:=iu sa sb b8 (by omega) fun j h1=>by have:=en (q2 j h1);rw [dh] at this;exact bR this
            by_cases y1:(k-1 == 0)=true
            ·rw [ae y1]
             exact af (.inl ⟨_,_,rfl,rfl,dW sa sb aE (.inl (eq_of_beq y1))⟩)
            ·rw [aa y1]
             have eG:k-1≠0:=fun e=>y1 (by simp [e])
             exact cS (fun _=>af (.inr ⟨_,_,_,_,_,_,_,rfl,rfl,aE,by omega,by omega,by omega⟩)) (fun _=>af ⟨_,_,_,_,_,_,_,rfl,rfl,aE,by omega,by omega,by omega⟩)
         ·rw [aa cH]
          obtain rfl:k'=nb-1:=by omega
          refine ag (aR (by omega) ?_)
          have aE:=iu sa sb bE (by omega) fun j h1=>by have:=en (q2 j h1);rw [dh] at this;exact bR this
          by_cases y1:(k-1 == 0)=true
          ·rw [ae y1]
           exact af (.inl ⟨_,_,rfl,rfl,dW sa sb aE (.inl (eq_of_beq y1))⟩)
          ·rw [aa y1]
           have eG:k-1≠0:=fun e=>y1 (by simp [e])
           exact cS (fun _=>af (.inr ⟨_,_,_,_,_,_,_,rfl,rfl,aE,by omega,by omega,by omega⟩)) (fun _=>af ⟨_,_,_,_,_,_,_,rfl,rfl,aE,by omega,by omega,by omega⟩)
      ·rw [aa zk]
       obtain rfl:k=na:=by omega
       refine ag (aR (by have:=mi.2.2;omega) ?_)
       have bE:=pG sa sb mi (by omega) fun j h1=>by have:=ir (k2 j h1);rw [dh] at this;exact this
       by_cases x1:(nb-1 == 1)=true
       ·rw [ae x1]
        exact af (.inl ⟨_,_,rfl,rfl,iw sa sb bE h0 (eq_of_beq x1)⟩)
       ·rw [aa x1]
        have k6:nb-1≠1:=fun e=>x1 (by simp [e])
        have kT:=bE.2.2;refine ag (aR (by omega) (ag (fc (f:=fun i=>bB true (key (a.getD (k-1) nn)) (key (b.getD (0+i) nn))) (fun i hi Q q=>fb h (by omega) ob (oa _ (by omega)) (bM _) q) (by omega) (fun i j h1 h2 h3=>jN sb (o:=0) i j h1 (by omega) h3) fun k' q1 q2 q3=>?_)))
        dsimp only;by_cases cH:nb-1-k'>0
        ·rw [ae cH]
         have b8:=pF sa sb bE (k:=k') q1 fun i j hi aV hj=>by have:=fe (q3 i hi aV);rw [dh] at this;exact bS (dD sa (by omega) (by omega)) this
         by_cases x2:(k' == 1)=true
         ·rw [ae x2]
          exact af (.inl ⟨_,_,rfl,rfl,iw sa sb b8 h0 (eq_of_beq x2)⟩)
         ·rw [aa x2]
          have k7:k'≠1:=fun e=>x2 (by simp [e])
          by_cases x3:(k' == 0)=true
          ·rw [ae x3]
           exact af (.inl ⟨_,_,rfl,rfl,dW sa sb b8 (.inr (eq_of_beq x3))⟩)
          ·rw [aa x3]
           have vP:k'≠0:=fun e=>x3 (by simp [e])
           refine ag (aR (by omega) ?_)
           have aE:=iu sa sb b8 (by omega) fun j h1=>by have:=en (q2 j h1);rw [dh] at this;exact bR this
           by_cases y1:(k-1 == 0)=true
           ·rw [ae y1]
            exact af (.inl ⟨_,_,rfl,rfl,dW sa sb aE (.inl (eq_of_beq y1))⟩)
           ·rw [aa y1]
            have eG:k-1≠0:=fun e=>y1 (by simp [e])
            exact cS (fun _=>af (.inr ⟨_,_,_,_,_,_,_,rfl,rfl,aE,by omega,by omega,by omega⟩)) (fun _=>af ⟨_,_,_,_,_,_,_,rfl,rfl,aE,by omega,by omega,by omega⟩)
        ·rw [aa cH]
         obtain rfl:k'=nb-1:=by omega
         refine ag (aR (by omega) ?_)
         have aE:=iu sa sb bE (by omega) fun j h1=>by have:=en (q2 j h1);rw [dh] at this;exact bR this
         by_cases y1:(k-1 == 0)=true
         ·rw [ae y1]
          exact af (.inl ⟨_,_,rfl,rfl,dW sa sb aE (.inl (eq_of_beq y1))⟩)
         ·rw [aa y1]
          have eG:k-1≠0:=fun e=>y1 (by simp [e])
          exact cS (fun _=>af (.inr ⟨_,_,_,_,_,_,_,rfl,rfl,aE,by omega,by omega,by omega⟩)) (fun _=>af ⟨_,_,_,_,_,_,_,rfl,rfl,aE,by omega,by omega,by omega⟩)
    ·rintro c aj ⟨out,i,j,mg,ac,bc,g,rfl,rfl,mi,ha,hb,eB⟩
     exact .inr ⟨_,_,_,_,_,_,_,rfl,rfl,mi,ha,hb,eB⟩
    ·rintro c aj (⟨m,g,e,rfl,pm⟩ | ⟨out,i,j,mg,ac,bc,g,rfl,rfl,mi,ha,hb,eB⟩)
     ·obtain ⟨c1,c2⟩:=c
      dsimp only at e;subst e;exact af ⟨m,g,rfl,rfl,pm⟩
     ·dsimp only
      exact ag (mU (af ⟨_,_,_,_,_,rfl,rfl,mi,ha,hb,by omega⟩))
 ·rintro c aj ⟨out,ia,ib,mg,g,rfl,rfl,mi,ha,hb,vL⟩
  exfalso
  omega
 ·rintro c aj ⟨m,g,e,rfl,pm,sm⟩
  obtain ⟨c1,c2⟩:=c;dsimp only at e;subst e;exact af (q m g pm sm)
end
section
variable {prog:Program} {w:World} {A:Around} {E:aw} {s:Shared} {κ:SortKind} {key:Keyed→Int} {Ok:Keyed→Prop}
def vA(key:Keyed→Int)(arr:Array Keyed)(i:Nat):Int:=key (arr.getD i nn)
def bN(key:Keyed→Int)(arr:Array Keyed)(lo hi:Nat):Prop:=∀i j,lo≤i→i≤j→j<hi→vA key arr i≤vA key arr j
def f9(key:Keyed→Int)(arr:Array Keyed)(lo hi:Nat):Prop:=∀i j,lo≤i→i≤j→j<hi→vA key arr j≤vA key arr i
structure Rl (arr aD:Array Keyed) (lo hi:Nat):Prop where
 pm:aD.Perm arr
 out:∀k,k<lo∨hi≤k→aD[k]?=arr[k]?
theorem Rl.refl(arr:Array Keyed)(lo hi:Nat):Rl arr arr lo hi:=⟨Array.Perm.refl _,fun _ _=>rfl⟩
variable {arr aD:Array Keyed} {lo hi:Nat}
theorem Rl.trans{av:Array Keyed}(h:Rl arr aD lo hi)(h':Rl aD av lo hi):Rl arr av lo hi:=⟨h'.pm.trans h.pm,fun k hk=>(h'.out k hk).trans (h.out k hk)⟩
theorem Rl.size(h:Rl arr aD lo hi):aD.size=arr.size:=h.pm.size_eq
theorem Rl.wide{Ay aV:Nat}(h:Rl arr aD lo hi)(h1:Ay≤lo)(h2:hi≤aV):Rl arr aD Ay aV:=⟨h.pm,fun k hk=>h.out k (by omega)⟩
theorem gJ(arr:Array Keyed)(i:Nat):arr.getD i nn=arr[i]?.getD nn:=by by_cases z:i<arr.size <;> simp [Array.getD,z]
variable {k:Nat}
theorem Rl.v(h:Rl arr aD lo hi)(hk:k<lo∨hi≤k):vA key aD k=vA key arr k:=by unfold vA;rw [gJ,gJ,h.out k hk]
theorem mX(h:dq Ok arr)(p:aD.Perm arr):dq Ok aD:=fun i hi=>by
 have e:aD.getD i nn=aD[i]:=by simp [Array.getD,hi]
 rw [e];have m:aD[i]∈arr:=(Array.Perm.mem_iff p).mp (Array.getElem_mem hi);obtain ⟨j,hj,ej⟩:=Array.getElem_of_mem m;rw [←ej];have:=h j hj;simpa [Array.getD,hj] using this
theorem Rl.ok(h:Rl arr aD lo hi)(ok:dq Ok arr):dq Ok aD:=mX ok h.pm
theorem gK(hj:j≤arr.size):Rl arr (mirror arr i j ((j-i) / 2)) i j:=⟨mirror_perm ..,fun k hk=>by rw [getElem?_mirror_all hj,aa (by omega)]⟩
theorem rU(hj:j≤arr.size)(h1:i≤k)(h2:k<j):vA key (mirror arr i j ((j-i) / 2)) k=vA key arr (i+j-1-k):=by unfold vA;rw [gJ,gJ,getElem?_mirror_all hj,ae ⟨h1,h2⟩]
abbrev aJ (κ:SortKind) (arr:Array Keyed) (pend:Array (Nat×Nat×Nat)) (g:Nat):SortSt:=SortSt.mk' κ arr pend g none
variable {arr:Array Keyed} {pend:Array (Nat×Nat×Nat)} {g:Nat}
theorem gM(h:fW prog w A s κ key Ok)(ok:dq Ok arr)(hi:i<arr.size)(hj:j<arr.size){Q:Option Bool→SortSt→Prop}(q:Q (some (decide (vA key arr i<vA key arr j))) (aJ κ arr pend g)):wpS (model prog w) A E s (ltAt' i j) Q (aJ κ arr pend g):=by rw [ltAt'_eq];refine ag (fm ?_);exact ag (aR hi (ag (aR hj (pD h (ok _ hi) (ok _ hj) rfl q))))
theorem i9{Q:Unit→SortSt→Prop}(q:Q () (aJ κ (mirror arr i j ((j-i) / 2)) pend g)):wpS (model prog w) A E s (reverseSlice' i j) Q (aJ κ arr pend g):=by rw [reverseSlice'_eq];exact gs q
variable {n:Nat}
theorem bN.more(h:bN key arr lo (lo+n))(n1:1≤n)(c:vA key arr (lo+n-1)≤vA key arr (lo+n)):bN key arr lo (lo+(n+1)):=fun i j h1 h2 h3=>by
 by_cases z:j<lo+n;·exact h i j h1 h2 z
 ·obtain rfl:j=lo+n:=by omega
  by_cases y:i=lo+n;·rw [y];exact gX _
  ·exact bS (h i (lo+n-1) h1 (by omega) (by omega)) c
theorem f9.more(h:f9 key arr lo (lo+n))(n1:1≤n)(c:vA key arr (lo+n)≤vA key arr (lo+n-1)):f9 key arr lo (lo+(n+1)):=fun i j h1 h2 h3=>by
 by_cases z:j<lo+n;·exact h i j h1 h2 z
 ·obtain rfl:j=lo+n:=by omega
  by_cases y:i=lo+n;·rw [y];exact gX _
  ·exact bS c (h i (lo+n-1) h1 (by omega) (by omega))
def pI(key:Keyed→Int)(arr:Array Keyed)(lo n q:Nat):Prop:=q+1≤n∧∀i,lo+n-(q+1)≤i→i<lo+n→vA key arr i=vA key arr (lo+n-1)
theorem rV{q:Nat}(hz:lo+n≤arr.size)(d:f9 key arr lo (lo+n))(e:pI key arr lo n q):f9 key (mirror arr (lo+n-(q+1)) (lo+n) ((lo+n-(lo+n-(q+1))) / 2)) lo (lo+n)∧∀k,vA key (mirror arr (lo+n-(q+1)) (lo+n) ((lo+n-(lo+n-(q+1))) / 2)) k=vA key arr k:=by
 have hv:∀k,vA key (mirror arr (lo+n-(q+1)) (lo+n) ((lo+n-(lo+n-(q+1))) / 2)) k=vA key arr k:=fun k=>by
  by_cases z:lo+n-(q+1)≤k∧k<lo+n;·rw [rU hz z.1 z.2,e.2 _ (by have:=e.1;omega) (by omega),e.2 k z.1 z.2]
  ·exact (gK hz).v (by omega)
 refine ⟨fun i j h1 h2 h3=>?_,hv⟩;rw [hv,hv];exact d i j h1 h2 h3
theorem rW(hz:lo+n≤arr.size)(d:f9 key arr lo (lo+n)):bN key (mirror arr lo (lo+n) ((lo+n-lo) / 2)) lo (lo+n):=fun i j h1 h2 h3=>by
 rw [rU hz h1 (by omega),rU hz (by omega) h3]
 exact d _ _ (by omega) (by omega) (by omega)
end
section
variable {prog:Program} {w:World} {A:Around} {E:aw} {s:Shared} {κ:SortKind} {key:Keyed→Int} {Ok:Keyed→Prop} {arr:Array Keyed} {pend:Array (Nat×Nat×Nat)} {g:Nat}
variable {lo bF:Nat}
theorem pJ(h:fW prog w A s κ key Ok)(ok:dq Ok arr){m:Nat}(hz:lo+bF≤arr.size)(m1:1≤m)(mn:m≤bF)(sg:bN key arr lo (lo+m)){body:Nat→Option (Option Nat)×Nat→StateT SortSt Sem (ForInStep (Option (Option Nat)×Nat))}{R:Option (Option Nat)×Nat→SortSt→Prop}
  (hb:∀x n (R:ForInStep (Option (Option Nat)×Nat)→SortSt→Prop),1≤n→n<bF→R (if vA key arr (lo+n)<vA key arr (lo+n-1) then .done (none,n) else .yield (none,n+1)) (aJ κ arr pend g)→wpS (model prog w) A E s (body x (none,n)) R (aJ κ arr pend g))
  (k:∀n,m≤n→n≤bF→bN key arr lo (lo+n)→(n<bF→vA key arr (lo+n)<vA key arr (lo+n-1))→R (none,n) (aJ κ arr pend g)) :
  wpS (model prog w) A E s (forIn [m:bF] (none,m) body) R (aJ κ arr pend g):=by
 refine dw (I:=fun x c aj=>aj=aJ κ arr pend g∧c=(none,x)∧m≤x∧x≤bF∧bN key arr lo (lo+x)) ?_ ?_ ⟨rfl,rfl,ar _,mn,sg⟩
 ·rintro x c aj _ hx ⟨rfl,rfl,g1,g2,g3⟩
  refine hb x x _ (by omega) hx ?_
  by_cases z:vA key arr (lo+x)<vA key arr (lo+x-1)
  ·rw [ae z]
   exact k x g1 g2 g3 fun _=>z
  ·rw [aa z]
   exact ⟨rfl,rfl,by omega,by omega,g3.more (by omega) (Int.not_lt.mp z)⟩
 ·rintro c aj ⟨rfl,rfl,g1,g2,g3⟩
  have e:max m bF=bF:=by omega
  rw [e] at g3 ⊢;exact k bF mn (ar _) g3 fun z=>absurd z (c_ _)
theorem Gg(h:fW prog w A s κ key Ok)(ok:dq Ok arr)(hz:lo+bF≤arr.size)(n1:1≤bF){Q:Option Nat→SortSt→Prop}
  (k:∀n aD,1≤n→n≤bF→Rl arr aD lo (lo+bF)→bN key aD lo (lo+n)→Q (some n) (aJ κ aD pend g)):wpS (model prog w) A E s (countRun' lo bF) Q (aJ κ arr pend g):=by
 rw [countRun'_eq];refine ag (pJ h ok hz (ar 1) n1 (fun i j h1 h2 h3=>by rw [show i=j by omega];exact gX _) ?_ fun n m1 mn sg br=>?_)
 ·intro x n R a1 a2 r
  dsimp only;refine ag (gM h ok (by omega) (by omega) ?_)
  dsimp only;by_cases z:vA key arr (lo+n)<vA key arr (lo+n-1)
  ·rw [ae z] at r
   rw [b4 z,ae rfl];exact af r
  ·rw [aa z] at r
   rw [b3 z,aa (by simp)]
   exact af r
 dsimp only;by_cases e1:(n == bF)=true
 ·rw [ae e1]
  exact af (k n arr m1 mn (Rl.refl ..) sg)
 rw [aa e1];have aX:n<bF:=by
  have:n≠bF:=fun e=>e1 (by simp [e])
  omega
 have Az:=br aX;by_cases e2:n>1
 ·rw [ae e2]
  refine ag (gM h ok (by omega) (by omega) ?_)
  dsimp only;by_cases z:vA key arr lo<vA key arr (lo+n-1)
  ·rw [b4 z,ae rfl]
   exact af (k n arr m1 mn (Rl.refl ..) sg)
  ·rw [b3 z,aa (by simp)]
   refine ag (i9 ?_);have ev:∀i,lo≤i→i<lo+n→vA key arr i=vA key arr (lo+n-1):=fun i h1 h2=>by
    have a1:=sg lo i (ar _) h1 h2;have a2:=sg i (lo+n-1) h1 (by omega) (by omega)
    omega
   have hv:∀i,vA key (mirror arr lo (lo+n) ((lo+n-lo) / 2)) i=vA key arr i:=fun i=>by
    by_cases y:lo≤i∧i<lo+n;·rw [rU (by omega) y.1 y.2,ev _ (by omega) (by omega),ev i y.1 y.2]
    ·exact (gK (by omega)).v (by omega)
   have d1:f9 key (mirror arr lo (lo+n) ((lo+n-lo) / 2)) lo (lo+n):=fun i j h1 h2 h3=>by
    rw [hv,hv,ev i h1 (by omega),ev j (by omega) h3]
    exact gX _
   have rX:Rl arr (mirror arr lo (lo+n) ((lo+n-lo) / 2)) lo (lo+bF):=(gK (by omega)).wide (ar _) (by omega)
   have AA:vA key (mirror arr lo (lo+n) ((lo+n-lo) / 2)) (lo+n)<vA key (mirror arr lo (lo+n) ((lo+n-lo) / 2)) (lo+n-1):=by rw [hv,hv];exact Az
   generalize mirror arr lo (lo+n) ((lo+n-lo) / 2)=Gh at d1 rX AA ⊢;refine ag (wpS_lift (gZ ⟨rfl,?_⟩))
   refine ag (dF (dw (I:=fun x c aj=>∃(av:Array Keyed) (q:Nat),aj=aJ κ av pend g∧c=(none,x,q)∧Rl arr av lo (lo+bF)∧f9 key av lo (lo+x)∧pI key av lo x q∧x≤bF∧1≤x)
    (Q:=fun c aj=>∃(av:Array Keyed) (n q:Nat),aj=aJ κ av pend g∧c=(none,n,q)∧Rl arr av lo (lo+bF)∧f9 key av lo (lo+n)∧pI key av lo n q∧n≤bF∧1≤n) ?_ ?_ ⟨Gh,0,rfl,rfl,rX,d1.more (by omega) (bR AA),⟨by omega,fun i h1 h2=>by rw [show i=lo+(n+1)-1 by omega]⟩,by omega,by omega⟩) ?_)
   ·rintro x c aj _ hx ⟨av,q,rfl,rfl,cq,d2,e2,x1,x2⟩
    have i_:=cq.ok ok;have z2:=cq.size;dsimp only;refine ag (gM h i_ (by omega) (by omega) ?_)
    dsimp only;by_cases z:vA key av (lo+x)<vA key av (lo+x-1)
    ·rw [b4 z,ae rfl]
     by_cases y:q>0
     ·rw [ae y]
      refine ag (i9 (af ?_));obtain ⟨d3,hv⟩:=rV (by omega) d2 e2
      refine ⟨_,0,rfl,rfl,cq.trans ((gK (by omega)).wide (by have:=e2.1;omega) (by omega)),d3.more (by omega) (by rw [hv,hv];exact bR z),⟨by omega,fun i h1 h2=>by rw [show i=lo+(x+1)-1 by omega]⟩,by omega,by omega⟩
     ·rw [aa y]
      exact af ⟨_,0,rfl,rfl,cq,d2.more (by omega) (bR z),⟨by omega,fun i h1 h2=>by rw [show i=lo+(x+1)-1 by omega]⟩,by omega,by omega⟩
    ·rw [b3 z,aa (by simp)]
     refine ag (gM h i_ (by omega) (by omega) ?_)
     dsimp only;by_cases y:vA key av (lo+x-1)<vA key av (lo+x)
     ·rw [b4 y,ae rfl]
      exact af ⟨_,_,_,rfl,rfl,cq,d2,e2,x1,x2⟩
     ·rw [b3 y,aa (by simp)]
      have ev:vA key av (lo+x)=vA key av (lo+x-1):=by omega
      refine af ⟨_,_,rfl,rfl,cq,d2.more (by omega) (by omega),⟨by have:=e2.1;omega,fun i h1 h2=>?_⟩,by omega,by omega⟩
      rw [show lo+(x+1)-1=lo+x by omega]
      by_cases w:i=lo+x;·rw [w]
      ·rw [ev]
       exact e2.2 i (by omega) (by omega)
   ·rintro c aj ⟨av,q,rfl,rfl,cq,d2,e2,x1,x2⟩
    exact ⟨av,_,q,rfl,rfl,cq,d2,e2,x1,x2⟩
   ·rintro c aj ⟨av,n2,q2,rfl,rfl,cq,d2,e2,x1,x2⟩
    have z2:=cq.size;dsimp only;by_cases y:q2>0
    ·rw [ae y]
     obtain ⟨d3,hv⟩:=rV (by omega) d2 e2
     refine ag (i9 (ag (i9 ?_)));have gN:=cq.trans ((gK (arr:=av) (i:=lo+n2-(q2+1)) (j:=lo+n2) (by omega)).wide (by have:=e2.1;omega) (show lo+n2≤lo+bF by omega))
     generalize mirror av (lo+n2-(q2+1)) (lo+n2) _=bG at d3 gN ⊢;have z3:=gN.size;have dI:=rW (by omega) d3
     have a_:=gN.trans ((gK (arr:=bG) (i:=lo) (j:=lo+n2) (by omega)).wide (ar lo) (show lo+n2≤lo+bF by omega))
     generalize mirror bG lo (lo+n2) _=aF at dI a_ ⊢;have gO:=Rl.ok a_ ok;have z4:=Rl.size a_;refine ag (pJ h gO (by omega) (by omega) (by omega) dI ?_ fun m m1 mn k8 _=>af (k m aF (by omega) mn a_ k8))
     intro x n R a1 a2 r;dsimp only;refine ag (gM h gO (by omega) (by omega) ?_)
     dsimp only;by_cases z:vA key aF (lo+n)<vA key aF (lo+n-1)
     ·rw [ae z] at r
      rw [b4 z,ae rfl];exact af r
     ·rw [aa z] at r
      rw [b3 z,aa (by simp)]
      exact af r
    ·rw [aa y]
     refine ag (i9 ?_);have dI:=rW (by omega) d2
     have a_:=cq.trans ((gK (arr:=av) (i:=lo) (j:=lo+n2) (by omega)).wide (ar lo) (show lo+n2≤lo+bF by omega))
     generalize mirror av lo (lo+n2) _=aF at dI a_ ⊢;have gO:=Rl.ok a_ ok;have z4:=Rl.size a_;refine ag (pJ h gO (by omega) (by omega) (by omega) dI ?_ fun m m1 mn k8 _=>af (k m aF (by omega) mn a_ k8))
     intro x n R a1 a2 r;dsimp only;refine ag (gM h gO (by omega) (by omega) ?_)
     dsimp only;by_cases z:vA key aF (lo+n)<vA key aF (lo+n-1)
     ·rw [ae z] at r
      rw [b4 z,ae rfl];exact af r
     ·rw [aa z] at r
      rw [b3 z,aa (by simp)]
      exact af r
 ·rw [aa e2]
  have d1:f9 key arr lo (lo+n):=fun i j h1 h2 h3=>by
   rw [show i=j by omega]
   exact gX _
  have rX:Rl arr arr lo (lo+bF):=Rl.refl ..;refine ag (wpS_lift (gZ ⟨rfl,?_⟩))
  refine ag (dF (dw (I:=fun x c aj=>∃(av:Array Keyed) (q:Nat),aj=aJ κ av pend g∧c=(none,x,q)∧Rl arr av lo (lo+bF)∧f9 key av lo (lo+x)∧pI key av lo x q∧x≤bF∧1≤x)
   (Q:=fun c aj=>∃(av:Array Keyed) (n q:Nat),aj=aJ κ av pend g∧c=(none,n,q)∧Rl arr av lo (lo+bF)∧f9 key av lo (lo+n)∧pI key av lo n q∧n≤bF∧1≤n) ?_ ?_ ⟨arr,0,rfl,rfl,rX,d1.more (by omega) (bR Az),⟨by omega,fun i h1 h2=>by rw [show i=lo+(n+1)-1 by omega]⟩,by omega,by omega⟩) ?_)
  ·rintro x c aj _ hx ⟨av,q,rfl,rfl,cq,d2,e2,x1,x2⟩
   have i_:=cq.ok ok;have z2:=cq.size;dsimp only;refine ag (gM h i_ (by omega) (by omega) ?_)
   dsimp only;by_cases z:vA key av (lo+x)<vA key av (lo+x-1)
   ·rw [b4 z,ae rfl]
    by_cases y:q>0
    ·rw [ae y]
     refine ag (i9 (af ?_));obtain ⟨d3,hv⟩:=rV (by omega) d2 e2
     refine ⟨_,0,rfl,rfl,cq.trans ((gK (by omega)).wide (by have:=e2.1;omega) (by omega)),d3.more (by omega) (by rw [hv,hv];exact bR z),⟨by omega,fun i h1 h2=>by rw [show i=lo+(x+1)-1 by omega]⟩,by omega,by omega⟩
    ·rw [aa y]
     exact af ⟨_,0,rfl,rfl,cq,d2.more (by omega) (bR z),⟨by omega,fun i h1 h2=>by rw [show i=lo+(x+1)-1 by omega]⟩,by omega,by omega⟩
   ·rw [b3 z,aa (by simp)]
    refine ag (gM h i_ (by omega) (by omega) ?_)
    dsimp only;by_cases y:vA key av (lo+x-1)<vA key av (lo+x)
    ·rw [b4 y,ae rfl]
     exact af ⟨_,_,_,rfl,rfl,cq,d2,e2,x1,x2⟩
    ·rw [b3 y,aa (by simp)]
     have ev:vA key av (lo+x)=vA key av (lo+x-1):=by omega
     refine af ⟨_,_,rfl,rfl,cq,d2.more (by omega) (by omega),⟨by have:=e2.1;omega,fun i h1 h2=>?_⟩,by omega,by omega⟩
     rw [show lo+(x+1)-1=lo+x by omega]
     by_cases w:i=lo+x;·rw [w]
     ·rw [ev]
      exact e2.2 i (by omega) (by omega)
  ·rintro c aj ⟨av,q,rfl,rfl,cq,d2,e2,x1,x2⟩
   exact ⟨av,_,q,rfl,rfl,cq,d2,e2,x1,x2⟩
  ·rintro c aj ⟨av,n2,q2,rfl,rfl,cq,d2,e2,x1,x2⟩
   have z2:=cq.size;dsimp only;by_cases y:q2>0
   ·rw [ae y]
    obtain ⟨d3,hv⟩:=rV (by omega) d2 e2
    refine ag (i9 (ag (i9 ?_)));have gN:=cq.trans ((gK (arr:=av) (i:=lo+n2-(q2+1)) (j:=lo+n2) (by omega)).wide (by have:=e2.1;omega) (show lo+n2≤lo+bF by omega))
    generalize mirror av (lo+n2-(q2+1)) (lo+n2) _=bG at d3 gN ⊢;have z3:=gN.size;have dI:=rW (by omega) d3
    have a_:=gN.trans ((gK (arr:=bG) (i:=lo) (j:=lo+n2) (by omega)).wide (ar lo) (show lo+n2≤lo+bF by omega))
    generalize mirror bG lo (lo+n2) _=aF at dI a_ ⊢;have gO:=Rl.ok a_ ok;have z4:=Rl.size a_;refine ag (pJ h gO (by omega) (by omega) (by omega) dI ?_ fun m m1 mn k8 _=>af (k m aF (by omega) mn a_ k8))
    intro x n R a1 a2 r;dsimp only;refine ag (gM h gO (by omega) (by omega) ?_)
    dsimp only;by_cases z:vA key aF (lo+n)<vA key aF (lo+n-1)
    ·rw [ae z] at r
     rw [b4 z,ae rfl];exact af r
    ·rw [aa z] at r
     rw [b3 z,aa (by simp)]
     exact af r
   ·rw [aa y]
    refine ag (i9 ?_);have dI:=rW (by omega) d2
    have a_:=cq.trans ((gK (arr:=av) (i:=lo) (j:=lo+n2) (by omega)).wide (ar lo) (show lo+n2≤lo+bF by omega))
    generalize mirror av lo (lo+n2) _=aF at dI a_ ⊢;have gO:=Rl.ok a_ ok;have z4:=Rl.size a_;refine ag (pJ h gO (by omega) (by omega) (by omega) dI ?_ fun m m1 mn k8 _=>af (k m aF (by omega) mn a_ k8))
    intro x n R a1 a2 r;dsimp only;refine ag (gM h gO (by omega) (by omega) ?_)
    dsimp only;by_cases z:vA key aF (lo+n)<vA key aF (lo+n-1)
    ·rw [ae z] at r
     rw [b4 z,ae rfl];exact af r
    ·rw [aa z] at r
     rw [b3 z,aa (by simp)]
     exact af r
end
section
variable {prog:Program} {w:World} {A:Around} {E:aw} {s:Shared} {κ:SortKind} {key:Keyed→Int} {Ok:Keyed→Prop} {arr:Array Keyed} {pend:Array (Nat×Nat×Nat)} {g:Nat}
theorem Gi{Q:Unit→SortSt→Prop}(q:Q () (aJ κ (bubble arr i (i-j)) pend g)):wpS (model prog w) A E s (moveDown' i j) Q (aJ κ arr pend g):=by rw [moveDown'_eq];exact gs q
variable {d:Nat}
theorem AB{k:Nat}(hi:i<arr.size)(hd:d≤i):vA key (bubble arr i d) k=if k=i-d then vA key arr i else if i-d<k∧k≤i then vA key arr (k-1) else vA key arr k:=by
 unfold vA;rw [gJ,getElem?_bubble hi d hd,gJ arr i,gJ arr (k-1),gJ arr k];by_cases a:k=i-d;·rw [ae a,ae a]
 ·rw [aa a,aa a]
  by_cases b:i-d<k∧k≤i;·rw [ae b,ae b]
  ·rw [aa b,aa b]
variable {lo:Nat}
theorem Gj{hi:Nat}(h:i<arr.size)(hd:d≤i)(h1:lo≤i-d)(h2:i<hi):Rl arr (bubble arr i d) lo hi:=⟨bubble_perm ..,fun k hk=>by rw [getElem?_bubble h d hd,aa (by omega),aa (by omega)]⟩
theorem Gk(h:fW prog w A s κ key Ok)(ok:dq Ok arr){n m:Nat}(hz:lo+n≤arr.size)(m1:1≤m)(mn:m≤n)(sg:bN key arr lo (lo+m)){Q:Bool→SortSt→Prop}
  (k:∀aD,Rl arr aD lo (lo+n)→bN key aD lo (lo+n)→Q true (aJ κ aD pend g)):wpS (model prog w) A E s (binarySort' lo n m) Q (aJ κ arr pend g):=by
 rw [binarySort'_eq];have em:max m 1=m:=by omega
 rw [em]
 refine ag (dF (dw (I:=fun x c aj=>∃av:Array Keyed,aj=aJ κ av pend g∧c=(none,())∧Rl arr av lo (lo+n)∧bN key av lo (lo+x)∧m≤x∧x≤n)
  (Q:=fun c aj=>∃av:Array Keyed,aj=aJ κ av pend g∧c=(none,())∧Rl arr av lo (lo+n)∧bN key av lo (lo+n)) ?_ ?_ ⟨arr,rfl,rfl,Rl.refl ..,sg,ar _,mn⟩) ?_)
 ·rintro x c aj _ hx ⟨av,rfl,rfl,rl,sg,x1,x2⟩
  have i_:=rl.ok ok;have z2:=rl.size;dsimp only
  refine ag (dF (dw (I:=fun y c aj=>∃l r:Nat,aj=aJ κ av pend g∧c=(none,l,r)∧l≤r∧r≤x∧r-l+y≤x∧(∀i,i<l→vA key av (lo+i)≤vA key av (lo+x))∧(∀i,r≤i→i<x→vA key av (lo+x)≤vA key av (lo+i)))
   (Q:=fun c aj=>∃l:Nat,aj=aJ κ av pend g∧c=(none,l,l)∧l≤x∧(∀i,i<l→vA key av (lo+i)≤vA key av (lo+x))∧(∀i,l≤i→i<x→vA key av (lo+x)≤vA key av (lo+i))) ?_ ?_ ⟨0,x,rfl,rfl,by omega,ar _,show x-0+0≤x by omega,fun i hi=>absurd hi (Nat.not_lt_zero _),fun i h1 h2=>by omega⟩) ?_)
  ·rintro y c aj _ hy ⟨l,r,rfl,rfl,g1,g2,g3,g4,g5⟩
   dsimp only;by_cases z:l≥r
   ·rw [ae z]
    obtain rfl:l=r:=by omega
    exact af ⟨l,rfl,rfl,g2,g4,g5⟩
   ·rw [aa z]
    refine ag (gM h i_ (by omega) (by omega) ?_)
    dsimp only;by_cases w:vA key av (lo+x)<vA key av (lo+(l+r) / 2)
    ·rw [b4 w,ae rfl]
     exact af ⟨l,_,rfl,rfl,by omega,by omega,by omega,g4,fun i h1 h2=>bS (bR w) (sg _ _ (by omega) (by omega) (by omega))⟩
    ·rw [b3 w,aa (by simp)]
     exact af ⟨_,r,rfl,rfl,by omega,g2,by omega,fun i h1=>bS (sg _ _ (by omega) (by omega) (by omega)) (Int.not_lt.mp w),g5⟩
  ·rintro c aj ⟨l,r,rfl,rfl,g1,g2,g3,g4,g5⟩
   have:max 0 x=x:=by omega
   obtain rfl:l=r:=by omega
   exact ⟨l,rfl,rfl,g2,g4,g5⟩
  ·rintro c aj ⟨l,rfl,rfl,g2,g4,g5⟩
   dsimp only;refine ag (Gi (af ?_));have ed:lo+x-(lo+l)=x-l:=by omega
   rw [ed];refine ⟨_,rfl,rfl,rl.trans (Gj (by omega) (by omega) (by omega) (by omega)),fun i j h1 h2 h3=>?_,by omega,by omega⟩
   have e0:lo+x-(x-l)=lo+l:=by omega
   rw [AB (by omega) (by omega),AB (by omega) (by omega),e0]
   have f4:∀i,lo≤i→i<lo+l→vA key av i≤vA key av (lo+x):=fun i a b=>by have:=g4 (i-lo) (by omega);rwa [show lo+(i-lo)=i by omega] at this
   have f5:∀i,lo+l≤i→i<lo+x→vA key av (lo+x)≤vA key av i:=fun i a b=>by have:=g5 (i-lo) (by omega) (by omega);rwa [show lo+(i-lo)=i by omega] at this
   by_cases a1:i=lo+l
   ·rw [ae a1]
    by_cases b1:j=lo+l;·rw [ae b1];exact gX _
    ·rw [aa b1,ae (by omega)]
     exact f5 _ (by omega) (by omega)
   ·rw [aa a1]
    by_cases a2:lo+l<i∧i≤lo+x
    ·rw [ae a2,aa (by omega),ae (by omega)]
     exact sg _ _ (by omega) (by omega) (by omega)
    ·rw [aa a2]
     by_cases b1:j=lo+l
     ·rw [ae b1]
      exact f4 i h1 (by omega)
     ·rw [aa b1]
      by_cases b2:lo+l<j∧j≤lo+x
      ·rw [ae b2]
       exact bS (f4 i h1 (by omega)) (f5 _ (by omega) (by omega))
      ·rw [aa b2]
       exact sg _ _ (by omega) (by omega) (by omega)
 ·rintro c aj ⟨av,rfl,rfl,rl,sg,x1,x2⟩
  have:max m n=n:=by omega
  rw [this] at sg;exact ⟨av,rfl,rfl,rl,sg⟩
 ·rintro c aj ⟨av,rfl,rfl,rl,sg⟩
  exact af (k av rl sg)
end
theorem Gm(i:Nat):mergeAt' i=(do
 let s ←get
 let (some (sa,na,power),some (sb,nb,_)):=((pendingOf s)[i]?,(pendingOf s)[i+1]?) | unsupported "internal:list.sort.pending"
 set (setPending s (((pendingOf s).setIfInBounds i (sa,na+nb,power)).eraseIdxIfInBounds (i+1)))
 let some k ←jL false (←elem' (arrOf s) sb) (arrOf s) sa na 0 | return false
 let (sa,na):=(sa+k,na-k)
 if na == 0 then return true
 let some nb ←jL true (←elem' (arrOf s) (sa+na-1)) (arrOf s) sb nb (nb-1) | return false
 if nb == 0 then return true
 let x:=(arrOf s).extract sa sb
 let y:=(arrOf s).extract sb (sb+nb)
 let merged ←if na≤nb then vF x y else vG x y
 modify fun s=>setArr s (merged.toList.zipIdx.foldl (fun a (p,j)=>a.setIfInBounds (sa+j) p) (arrOf s))
 return (failedOf (←get)).isNone):=rfl
def putL(m:List Keyed)(o:Nat)(arr:Array Keyed)(n:Nat):Array Keyed:=(m.zipIdx n).foldl (fun a (p,j)=>a.setIfInBounds (o+j) p) arr
theorem AD(m:List Keyed)(o:Nat):∀(arr:Array Keyed) (n k:Nat),o+n+m.length≤arr.size→(putL m o arr n)[k]?=if o+n≤k∧k<o+n+m.length then m[k-(o+n)]? else arr[k]?:=by
 induction m with
 | nil=>
  intro arr n k _;rw [aa (by simp)]
  rfl
 | cons x m ih=>
  intro arr n k hz;rw [du] at hz ⊢;show (putL m o (arr.setIfInBounds (o+n) x) (n+1))[k]?=_;rw [ih _ _ _ (by simp;omega)]
  by_cases a:o+(n+1)≤k∧k<o+(n+1)+m.length
  ·rw [ae a,ae (by omega),show k-(o+n)=(k-(o+(n+1)))+1 by omega]
   rfl
  ·rw [aa a]
   by_cases b:k=o+n
   ·subst b
    rw [ae (by omega),oq]
    simp [show o+n<arr.size by omega]
   ·rw [aa (by omega)]
    rw [Array.getElem?_setIfInBounds_ne (by omega)]
theorem Gn{o:Nat}{arr:Array Keyed}(hz:o+m.length≤arr.size):(putL m o arr 0).toList=arr.toList.take o++m++arr.toList.drop (o+m.length):=by
 refine List.ext_getElem? fun k=>?_;have e:(putL m o arr 0).toList[k]?=(putL m o arr 0)[k]?:=by simp
 rw [e,AD m o arr 0 k (by omega),Nat.add_zero]
 by_cases a:k<o
 ·rw [aa (by omega),gr,gW (by simp;omega),List.getElem?_take_of_lt a]
  simp
 ·by_cases b:k<o+m.length
  ·rw [ae (by omega),gr,gU (by simp;omega),gW (by simp;omega)]
   congr 1
   simp;omega
  ·rw [aa (by omega),gU (by simp;omega),List.getElem?_drop]
   have:o+m.length+(k-(arr.toList.take o++m).length)=k:=by simp;omega
   rw [this];simp
section
variable {prog:Program} {w:World} {A:Around} {E:aw} {s:Shared} {κ:SortKind} {key:Keyed→Int} {Ok:Keyed→Prop} {arr:Array Keyed} {pend:Array (Nat×Nat×Nat)} {g:Nat}
variable {lo hi:Nat}
theorem AE(h:bN key arr lo hi)(hz:hi≤arr.size):aM key (arr.extract lo hi).toList:=by
 unfold aM;rw [mh];intro i j aV hj vK;have h1:i<hi-lo∧j<hi-lo:=by simp at aV hj;omega
 have:=h (lo+i) (lo+j) (by omega) (by omega) (by omega)
 unfold vA at this;simpa [Array.getD,show lo+i<arr.size by omega,show lo+j<arr.size by omega] using this
theorem vQ(hz:hi≤arr.size)(aV:lo+i<hi):(arr.extract lo hi).getD i nn=arr.getD (lo+i) nn:=by simp [Array.getD,show lo+i<arr.size by omega,show i<min hi arr.size-lo by omega]
theorem AF(ok:dq Ok arr)(hz:hi≤arr.size):dq Ok (arr.extract lo hi):=fun i aV=>by
 have:lo+i<hi:=by simp at aV;omega
 rw [vQ hz this];exact ok _ (by omega)
theorem ext_mem(hz:hi≤arr.size){x:Keyed}(hx:x∈(arr.extract lo hi).toList):∃j,lo≤j∧j<hi∧x=arr.getD j nn:=i8 hz hx
theorem Gp{σ:Type}{st aj:σ}{Q:PUnit→σ→Prop}{M:Model}(q:Q ⟨⟩ aj):wpS M A E s (set aj:StateT σ Sem PUnit) Q st:=by unfold wpS;rw [StateT.run_set];exact bf ⟨rfl,q⟩
variable {sa na nb:Nat}
theorem Gq{sb aN bt:Nat}{m:Array Keyed}(hz:sb+nb≤arr.size)(h0:sa+na=sb)(hk:aN≤na)(hb:bt≤nb)(pm:m.toList.Perm ((arr.extract (sa+aN) sb).toList++(arr.extract sb (sb+bt)).toList))(sm:aM key m.toList)
  (s1:bN key arr sa sb) (s2:bN key arr sb (sb+nb)) (pK:aN<na) (AG:1≤nb)
  (c1:∀i,i<aN→vA key arr (sa+i)≤vA key arr sb) (c2:∀i,bt≤i→i<nb→vA key arr (sb-1)≤vA key arr (sb+i)) :
  Rl arr (putL m.toList (sa+aN) arr 0) sa (sb+nb)∧bN key (putL m.toList (sa+aN) arr 0) sa (sb+nb):=by
 have lm:m.toList.length=(na-aN)+bt:=by rw [pm.length_eq,dg,fX,fX];simp;omega
 have hsz:sa+aN+m.toList.length≤arr.size:=by omega
 have at':=AD m.toList (sa+aN) arr 0;have rl:Rl arr (putL m.toList (sa+aN) arr 0) sa (sb+nb):=by
  refine ⟨Array.perm_iff_toList_perm.mpr ?_,fun k bM=>?_⟩
  ·rw [Gn hsz]
   have e:arr.toList=arr.toList.take (sa+aN)++((arr.extract (sa+aN) sb).toList++(arr.extract sb (sb+bt)).toList)++arr.toList.drop (sa+aN+m.toList.length):=by
    rw [fX,fX,show sa+aN+m.toList.length=sb+bt by omega,show sb+bt-sb=bt by omega]
    have t1:arr.toList.drop (sa+aN)=(arr.toList.drop (sa+aN)).take (sb-(sa+aN))++arr.toList.drop sb:=by
     have:=(mf (sb-(sa+aN)) (arr.toList.drop (sa+aN))).symm;rw [List.drop_drop,show sa+aN+(sb-(sa+aN))=sb by omega] at this
     exact this
    have t2:arr.toList.drop sb=(arr.toList.drop sb).take bt++arr.toList.drop (sb+bt):=by have:=(mf bt (arr.toList.drop sb)).symm;rw [List.drop_drop] at this;exact this
    have t0:=(mf (sa+aN) arr.toList).symm;rw [t1,t2] at t0;rw [gr,gr];exact t0
   refine List.Perm.trans ?_ (List.Perm.of_eq e.symm);exact List.Perm.append_right _ (uq _ pm)
  ·rw [at' k (by omega),aa (by omega)]
 have vo:∀k,k<sa+aN∨sb+bt≤k→vA key (putL m.toList (sa+aN) arr 0) k=vA key arr k:=fun k bM=>by unfold vA;rw [gJ,at' k (by omega),aa (by omega),gJ]
 have vm:∀k,sa+aN≤k→k<sb+bt→∃hj:k-(sa+aN)<m.toList.length,vA key (putL m.toList (sa+aN) arr 0) k=key (m.toList[k-(sa+aN)]'hj):=fun k h1 h2=>by
  have hj:k-(sa+aN)<m.toList.length:=by omega
  refine ⟨hj,?_⟩;unfold vA;rw [gJ,at' k (by omega),ae (by omega),Nat.add_zero,cx hj]
  rfl
 have vq:∀k,sa+aN≤k→k<sb+bt→∃q,sa+aN≤q∧q<sb+bt∧vA key (putL m.toList (sa+aN) arr 0) k=vA key arr q:=fun k h1 h2=>by
  obtain ⟨hj,e⟩:=vm k h1 h2;have mm:=pm.mem_iff.mp (gp hj);rcases dr.mp mm with mm | mm
  ·obtain ⟨q,q1,q2,eq⟩:=ext_mem (by omega) mm
   exact ⟨q,q1,by omega,by rw [e,eq];rfl⟩
  ·obtain ⟨q,q1,q2,eq⟩:=ext_mem (by omega) mm
   exact ⟨q,by omega,q2,by rw [e,eq];rfl⟩
 have d1:∀i,sa≤i→i<sa+aN→vA key arr i≤vA key arr sb:=fun i a b=>by
  have:=c1 (i-sa) (by omega)
  rwa [show sa+(i-sa)=i by omega] at this
 have d2:∀j,sb+bt≤j→j<sb+nb→vA key arr (sb-1)≤vA key arr j:=fun j a b=>by
  have:=c2 (j-sb) (by omega) (by omega)
  rwa [show sb+(j-sb)=j by omega] at this
 refine ⟨rl,fun i j h1 h2 h3=>?_⟩;by_cases i1:i<sa+aN
 ·rw [vo i (.inl i1)]
  by_cases j1:j<sa+aN
  ·rw [vo j (.inl j1)]
   exact s1 i j h1 h2 (by omega)
  ·by_cases j2:j<sb+bt
   ·obtain ⟨q,q1,q2,e⟩:=vq j (by omega) j2
    rw [e];by_cases q3:q<sb;·exact s1 i q h1 (by omega) q3
    ·exact bS (d1 i h1 i1) (s2 sb q (ar _) (by omega) (by omega))
   ·rw [vo j (.inr (by omega))]
    exact bS (d1 i h1 i1) (s2 sb j (ar _) (by omega) h3)
 ·by_cases i2:i<sb+bt
  ·by_cases j2:j<sb+bt
   ·obtain ⟨x1,e1⟩:=vm i (by omega) i2
    obtain ⟨x2,e2⟩:=vm j (by omega) j2
    rw [e1,e2];by_cases z:i=j;·subst z;exact gX _
    ·exact mh.mp sm _ _ x1 x2 (by omega)
   ·obtain ⟨q,q1,q2,e⟩:=vq i (by omega) i2
    rw [e,vo j (.inr (by omega))]
    by_cases q3:q<sb;·exact bS (s1 q (sb-1) (by omega) (by omega) (by omega)) (d2 j (by omega) h3)
    ·exact s2 q j (by omega) (by omega) h3
  ·rw [vo i (.inr (by omega)),vo j (.inr (by omega))]
   exact s2 i j (by omega) h2 h3
theorem Gr(h:fW prog w A s κ key Ok)(ok:dq Ok arr){pw ja:Nat}(e1:pend[i]?=some (sa,na,pw))(e2:pend[i+1]?=some (sa+na,nb,ja))(pK:1≤na)(AG:1≤nb)(hz:sa+na+nb≤arr.size)
  (s1:bN key arr sa (sa+na)) (s2:bN key arr (sa+na) (sa+na+nb)) {Q:Bool→SortSt→Prop}
  (k:∀aD g',Rl arr aD sa (sa+na+nb)→bN key aD sa (sa+na+nb)→Q true (aJ κ aD ((pend.setIfInBounds i (sa,na+nb,pw)).eraseIdxIfInBounds (i+1)) g')):wpS (model prog w) A E s (mergeAt' i) Q (aJ κ arr pend g):=by
 rw [Gm];refine ag (fm ?_);have kW:(pendingOf (aJ κ arr pend g))[i]?=some (sa,na,pw):=e1;have Gs:(pendingOf (aJ κ arr pend g))[i+1]?=some (sa+na,nb,ja):=e2;rw [kW,Gs];dsimp only;refine ag (Gp ?_);refine ag (aR (by show sa+na<arr.size;omega) ?_)
 refine ag (fc (f:=fun j=>bB false (vA key arr (sa+na)) (vA key arr (sa+j))) (fun j hj Q q=>fb (κ:=κ) h (by show sa+j<arr.size;omega) ok (ok _ (by omega)) rfl q) (by omega) ?_ fun t t1 t2 t3=>?_)
 ·intro i j h1 h2 h3
  have:vA key arr (sa+i)≤vA key arr (sa+na):=bS (s1 _ _ (by omega) (by omega) (by omega)) (ir h3)
  show (!decide (vA key arr (sa+na)<vA key arr (sa+i)))=true;simpa using this
 dsimp only;by_cases z1:(na-t == 0)=true
 ·rw [ae z1]
  have tz:t=na:=by have:=eq_of_beq z1;omega
  subst tz;refine af (k arr g (Rl.refl ..) fun i j h1 h2 h3=>?_);by_cases i1:i<sa+t
  ·by_cases j1:j<sa+t
   ·exact s1 i j h1 h2 j1
   ·have:=ir (t2 (i-sa) (by omega))
    rw [show sa+(i-sa)=i by omega] at this
    exact bS this (s2 _ _ (ar _) (by omega) (by omega))
  ·exact s2 i j (by omega) h2 (by omega)
 rw [aa z1];have tn:t<na:=by
  have:na-t≠0:=fun e=>z1 (by simp [e])
  omega
 refine ag (aR (by show sa+t+(na-t)-1<arr.size;omega) ?_)
 have el:sa+t+(na-t)-1=sa+na-1:=by omega
 rw [el];refine ag (fc (f:=fun j=>bB true (vA key arr (sa+na-1)) (vA key arr (sa+na+j))) (fun j hj Q q=>fb (κ:=κ) h (by show sa+na+j<arr.size;omega) ok (ok _ (by omega)) rfl q) (by omega) ?_ fun u u1 u2 u3=>?_)
 ·intro i j h1 h2 h3
  exact b4 (Int.lt_of_le_of_lt (s2 _ _ (by omega) (by omega) (by omega)) (en h3))
 dsimp only;have Gu:=jM (t3 (na-1) (by omega) (by omega))
 rw [show sa+(na-1)=sa+na-1 by omega] at Gu
 by_cases z2:(u == 0)=true
 ·exfalso
  have:=fe (u3 0 (by have:=eq_of_beq z2;omega) (by omega))
  rw [Nat.add_zero] at this;omega
 rw [aa z2];have un:1≤u:=by
  have:u≠0:=fun e=>z2 (by simp [e])
  omega
 have ox:=AF ok (lo:=sa+t) (hi:=sa+na) (by omega)
 have oy:=AF ok (lo:=sa+na) (hi:=sa+na+u) (by omega)
 have sx:aM key (arr.extract (sa+t) (sa+na)).toList:=AE (fun i j h1 h2 h3=>s1 i j (by omega) h2 h3) (by omega)
 have sy:aM key (arr.extract (sa+na) (sa+na+u)).toList:=AE (fun i j h1 h2 h3=>s2 i j h1 h2 (by omega)) (by omega)
 have zx:(arr.extract (sa+t) (sa+na)).size=na-t:=by simp;omega
 have zy:(arr.extract (sa+na) (sa+na+u)).size=u:=by simp;omega
 have h0:∀x∈(arr.extract (sa+t) (sa+na)).toList,key ((arr.extract (sa+na) (sa+na+u)).getD 0 nn)≤key x:=fun x hx=>by
  obtain ⟨j,j1,j2,rfl⟩:=ext_mem (by omega) hx
  rw [vQ (by omega) (by omega),Nat.add_zero]
  have:=jM (t3 (j-sa) (by omega) (by omega))
  rw [show sa+(j-sa)=j by omega] at this
  exact bR this
 have hl:∀y∈(arr.extract (sa+na) (sa+na+u)).toList,key y≤key ((arr.extract (sa+t) (sa+na)).getD ((arr.extract (sa+t) (sa+na)).size-1) nn):=fun y hy=>by
  obtain ⟨j,j1,j2,rfl⟩:=ext_mem (by omega) hy
  rw [zx,vQ (by omega) (by omega),show sa+t+(na-t-1)=sa+na-1 by omega]
  have:=en (u2 (j-(sa+na)) (by omega))
  rw [show sa+na+(j-(sa+na))=j by omega] at this
  exact bR this
 have fin:∀(m:Array Keyed) (g':Nat),m.toList.Perm ((arr.extract (sa+t) (sa+na)).toList++(arr.extract (sa+na) (sa+na+u)).toList)→aM key m.toList→Q true (aJ κ (putL m.toList (sa+t) arr 0) ((pend.setIfInBounds i (sa,na+nb,pw)).eraseIdxIfInBounds (i+1)) g'):=fun m g' pm sm=>by obtain ⟨rl,sg⟩:=Gq (sb:=sa+na) hz rfl (n8 tn) u1 pm sm s1 s2 tn AG (fun i hi=>ir (t2 i hi)) (fun i h1 h2=>fe (u3 i h1 h2));exact k _ g' rl sg
 refine cS (fun _=>?_) (fun _=>?_)
 ·refine ag (Ga (κ:=κ) h ox oy sx sy (by omega) (by omega) h0 hl rfl fun m g' pm sm=>?_)
  exact ag (gs (ag (fm (af (fin m g' pm sm)))))
 ·refine ag (Gf (κ:=κ) h ox oy sx sy (by omega) (by omega) h0 hl rfl fun m g' pm sm=>?_)
  exact ag (gs (ag (fm (af (fin m g' pm sm)))))
end
def bJ(key:Keyed→Int)(arr:Array Keyed):List (Nat×Nat×Nat)→Nat→Nat→Prop
 | [],lo,hi=>lo=hi
 | p::r,lo,hi=>p.1=lo∧1≤p.2.1∧bN key arr lo (lo+p.2.1)∧bJ key arr r (lo+p.2.1) hi
section
variable {key:Keyed→Int} {arr aD:Array Keyed}
theorem bJ.le:∀{l:List (Nat×Nat×Nat)} {lo hi:Nat},bJ key arr l lo hi→lo+l.length≤hi
 | [],lo,hi,h=>by have:lo=hi:=h;simp;omega
 | p::r,lo,hi,h=>by have:=bJ.le h.2.2.2;have:=h.2.1;simp only [du];omega
variable {hi:Nat}
theorem bN.cB{lo a b:Nat}(h:bN key arr lo hi)(rl:Rl arr aD a b)(d:hi≤a∨b≤lo):bN key aD lo hi:=fun i j h1 h2 h3=>by
 rw [rl.v (by omega),rl.v (by omega)]
 exact h i j h1 h2 h3
theorem bJ.cB:∀{l:List (Nat×Nat×Nat)} {lo hi a b:Nat},bJ key arr l lo hi→Rl arr aD a b→hi≤a∨b≤lo→bJ key aD l lo hi
 | [],lo,hi,a,b,h,_,_=>h
 | p::r,lo,hi,a,b,h,rl,d=>by have:=h.2.2.2.le;refine ⟨h.1,h.2.1,h.2.2.1.cB rl (by omega),h.2.2.2.cB rl (by omega)⟩
theorem bJ.snoc:∀{l:List (Nat×Nat×Nat)} {lo hi n pw:Nat},bJ key arr l lo hi→1≤n→bN key arr hi (hi+n)→bJ key arr (l++[(hi,n,pw)]) lo (hi+n)
 | [],lo,hi,n,pw,h,n1,s=>by obtain rfl:lo=hi:=h;exact ⟨rfl,n1,s,rfl⟩
 | p::r,lo,hi,n,pw,h,n1,s=>⟨h.1,h.2.1,h.2.2.1,h.2.2.2.snoc n1 s⟩
theorem bJ.two:∀{l:List (Nat×Nat×Nat)} {lo hi i:Nat},bJ key arr l lo hi→i+1<l.length→∃sa na pw nb ja,l[i]?=some (sa,na,pw)∧l[i+1]?=some (sa+na,nb,ja)∧1≤na∧1≤nb∧lo≤sa∧sa+na+nb≤hi∧bN key arr sa (sa+na)∧bN key arr (sa+na) (sa+na+nb) ∧
  ∀aD,Rl arr aD sa (sa+na+nb)→bN key aD sa (sa+na+nb)→bJ key aD ((l.set i (sa,na+nb,pw)).eraseIdx (i+1)) lo hi
 | [],lo,hi,i,h,aV=>by simp at aV
 | [p],lo,hi,i,h,aV=>by simp at aV
 | p::q::r,lo,hi,0,h,_=>by
  obtain ⟨p1,p2,pw⟩:=p;obtain ⟨q1,q2,ja⟩:=q;obtain ⟨e1,n1,s1,e2,n2,s2,c⟩:=h;dsimp only at e1 n1 s1 e2 n2 s2 c;subst e1;subst e2;have:=c.le;refine ⟨p1,p2,pw,q2,ja,rfl,rfl,n1,n2,ar _,by omega,s1,s2,fun aD rl sg=>?_⟩
  show bJ key aD ((p1,p2+q2,pw)::r) p1 hi;refine ⟨rfl,by show 1≤p2+q2;omega,by show bN key aD p1 (p1+(p2+q2));rw [←Nat.add_assoc];exact sg,?_⟩
  show bJ key aD r (p1+(p2+q2)) hi;rw [←Nat.add_assoc];exact c.cB rl (.inr (ar _))
 | p::q::r,lo,hi,i+1,h,aV=>by
  obtain ⟨sa,na,pw,nb,ja,e1,e2,n1,n2,l1,l2,s1,s2,k⟩:=h.2.2.2.two (i:=i) (by simpa using aV)
  refine ⟨sa,na,pw,nb,ja,e1,e2,n1,n2,by omega,l2,s1,s2,fun aD rl sg=>?_⟩
  exact ⟨h.1,h.2.1,h.2.2.1.cB rl (.inl l1),k aD rl sg⟩
theorem bJ.last:∀{l:List (Nat×Nat×Nat)} {lo hi pw:Nat},bJ key arr l lo hi→bJ key arr (l.modify (l.length-1) fun x=>(x.1,x.2.1,pw)) lo hi
 | [],lo,hi,pw,h=>h
 | [p],lo,hi,pw,h=>h
 | p::q::r,lo,hi,pw,h=>⟨h.1,h.2.1,h.2.2.1,h.2.2.2.last⟩
theorem bJ.one{l:List (Nat×Nat×Nat)}(h:bJ key arr l 0 hi)(hl:l.length≤1):bN key arr 0 hi:=by
 match l,h,hl with
 | [],h,_=>have:0=hi:=h;exact fun i j h1 h2 h3=>by omega
 | [p],h,_=>have:=h.2.2.1;have e:0+p.2.1=hi:=h.2.2.2;rw [←e];exact this
 | p::q::r,_,hl=>simp at hl
end
section
variable {prog:Program} {w:World} {A:Around} {E:aw} {s:Shared} {κ:SortKind} {key:Keyed→Int} {Ok:Keyed→Prop} {arr:Array Keyed} {pend:Array (Nat×Nat×Nat)} {g:Nat}
theorem vR(h:fW prog w A s κ key Ok)(ok:dq Ok arr){hi:Nat}(c:bJ key arr pend.toList 0 hi)(hz:hi≤arr.size)(aV:i+1<pend.size){Q:Bool→SortSt→Prop}
  (k:∀aD vS g',Rl arr aD 0 hi→bJ key aD vS.toList 0 hi→vS.size+1=pend.size→Q true (aJ κ aD vS g')):wpS (model prog w) A E s (mergeAt' i) Q (aJ κ arr pend g):=by
 obtain ⟨sa,na,pw,nb,ja,e1,e2,n1,n2,l1,l2,s1,s2,kk⟩:=c.two (i:=i) (by simpa using aV)
 refine Gr h ok (by simpa using e1) (by simpa using e2) n1 n2 (by omega) s1 s2 fun aD g' rl sg=>?_
 refine k _ _ _ (rl.wide (bK _) l2) ?_ ?_
 ·have:=kk aD rl sg
  simpa using this
 ·rw [←eL,Array.toList_eraseIdxIfInBounds,List.length_eraseIdx,ae (by simpa using aV)]
  simp;omega
theorem Gv(h:fW prog w A s κ key Ok)(ok:dq Ok arr){Q:Unit→SortSt→Prop}
  (k:∀aD aj,aD.Perm arr→bN key aD 0 arr.size→arrOf aj=aD→failedOf aj=none→Q () aj):wpS (model prog w) A E s sortRuns' Q (aJ κ arr #[] g):=by
 rw [sortRuns'_eq];refine ag (fm ?_);dsimp only;have es:(arrOf (aJ κ arr #[] g)).size=arr.size:=rfl;rw [es]
 refine ag (dF (dw (I:=fun x c aj=>∃(av:Array Keyed) (cK:Array (Nat×Nat×Nat)) (g2 lo:Nat),aj=aJ κ av cK g2∧c=(none,lo)∧av.Perm arr∧bJ key av cK.toList 0 lo∧lo≤arr.size∧x≤lo)
  (Q:=fun c aj=>∃(av:Array Keyed) (cK:Array (Nat×Nat×Nat)) (g2:Nat),aj=aJ κ av cK g2∧c=(none,arr.size)∧av.Perm arr∧bJ key av cK.toList 0 arr.size) ?_ ?_ ⟨arr,#[],g,0,rfl,rfl,Array.Perm.refl _,rfl,bK _,ar _⟩) ?_)
 ·rintro x c aj _ hx ⟨av,cK,g2,lo,rfl,rfl,jO,k9,l1,l2⟩
  have i_:=mX ok jO;have z2:=jO.size_eq;dsimp only;by_cases z:lo≥arr.size
  ·rw [ae z]
   obtain rfl:lo=arr.size:=by omega
   exact af ⟨av,cK,g2,rfl,rfl,jO,k9⟩
  rw [aa z];refine ag (Gg h i_ (by omega) (by omega) fun n bG n1 nn gN sg=>?_)
  have cL:=gN.pm.trans jO;have AH:=mX ok cL;have z3:=cL.size_eq;have fg:=k9.cB gN (.inl (ar _));dsimp only;by_cases y:n<minRun' arr.size arr.size 0
  ·rw [ae y]
   refine ag (wpS_lift (gZ ⟨rfl,?_⟩));refine ag (Gk h AH (n:=min (arr.size-lo) (minRun' arr.size arr.size 0)) (by omega) n1 (by omega) sg fun aF a_ dI=>?_)
   rw [aa (by simp)]
   have dJ:=fg.cB a_ (.inl (ar _));have vT:=a_.pm.trans cL;clear fg cL AH z3 sg gN a_;have f1:1≤min (arr.size-lo) (minRun' arr.size arr.size 0):=by omega
   have f2:lo+min (arr.size-lo) (minRun' arr.size arr.size 0)≤arr.size:=by omega
   generalize min (arr.size-lo) (minRun' arr.size arr.size 0)=fo at dI f1 f2 ⊢
   revert dJ vT dI
   generalize aF=bG;intro fg cL dI;refine ag (fm ?_);have eb:(pendingOf (aJ κ bG cK g2)).back?=cK.back?:=rfl;rw [eb];cases cK.back? with
   | none=>dsimp only;exact ag (gs (af ⟨bG,cK.push (lo,fo,0),g2,lo+fo,rfl,rfl,cL,by rw [jq];exact fg.snoc f1 dI,f2,by have:=f1;omega⟩))
   | some p=>
    obtain ⟨Gw,Gx,Gy⟩:=p;dsimp only;have z3:=cL.size_eq
    refine ag (dF (dw (I:=fun y c aj=>∃(aF:Array Keyed) (aY:Array (Nat×Nat×Nat)) (g4:Nat),aj=aJ κ aF aY g4∧c=(none,())∧Rl bG aF 0 lo∧bJ key aF aY.toList 0 lo)
     (Q:=fun c aj=>∃(aF:Array Keyed) (aY:Array (Nat×Nat×Nat)) (g4:Nat),aj=aJ κ aF aY g4∧c=(none,())∧Rl bG aF 0 lo∧bJ key aF aY.toList 0 lo) ?_ (fun c aj hh=>hh) ⟨bG,cK,g2,rfl,rfl,Rl.refl ..,fg⟩) ?_)
    ·rintro y c aj _ hy ⟨aF,aY,g4,rfl,rfl,a_,dJ⟩
     have z4:=a_.size;refine ag (fm ?_);have hx:∀o,o=(if (pendingOf (aJ κ aF aY g4)).size>1 then (pendingOf (aJ κ aF aY g4))[(pendingOf (aJ κ aF aY g4)).size-2]? else none)→o.isSome=true→aY.size>1:=fun o ho hs=>by
      by_cases z:aY.size>1;·exact z
      ·rw [aa z] at ho
       rw [ho] at hs;cases hs
     generalize eo:(if (pendingOf (aJ κ aF aY g4)).size>1 then (pendingOf (aJ κ aF aY g4))[(pendingOf (aJ κ aF aY g4)).size-2]? else none)=o
     cases o with
     | none=>exact af ⟨aF,aY,g4,rfl,rfl,a_,dJ⟩
     | some p=>
      have gt:=hx _ eo.symm rfl;obtain ⟨q1,q2,Gz⟩:=p;dsimp only;refine cS (fun _=>af ⟨aF,aY,g4,rfl,rfl,a_,dJ⟩) (fun _=>?_);refine ag (vR h (mX ok (a_.pm.trans cL)) dJ (by omega) (show aY.size-2+1<aY.size by omega) fun vU vV g5 vW vX _=>?_)
      rw [aa (by simp)]
      exact af ⟨vU,vV,g5,rfl,rfl,a_.trans vW,vX⟩
    ·rintro c aj ⟨aF,aY,g4,rfl,rfl,a_,dJ⟩
     dsimp only;refine ag (gs (ag (gs (af ⟨aF,_,g4,lo+fo,rfl,rfl,a_.pm.trans cL,?_,f2,by have:=f1;omega⟩))))
     rw [jq];refine bJ.snoc ?_ f1 (bN.cB dI a_ (.inr (ar _)));rw [Array.toList_modify];exact dJ.last
  ·rw [aa y]
   have f2:lo+n≤arr.size:=by omega
   refine ag (fm ?_);have eb:(pendingOf (aJ κ bG cK g2)).back?=cK.back?:=rfl;rw [eb];cases cK.back? with
   | none=>dsimp only;exact ag (gs (af ⟨bG,cK.push (lo,n,0),g2,lo+n,rfl,rfl,cL,by rw [jq];exact fg.snoc n1 sg,f2,by have:=n1;omega⟩))
   | some p=>
    obtain ⟨Gw,Gx,Gy⟩:=p;dsimp only;have z3:=cL.size_eq
    refine ag (dF (dw (I:=fun y c aj=>∃(aF:Array Keyed) (aY:Array (Nat×Nat×Nat)) (g4:Nat),aj=aJ κ aF aY g4∧c=(none,())∧Rl bG aF 0 lo∧bJ key aF aY.toList 0 lo)
     (Q:=fun c aj=>∃(aF:Array Keyed) (aY:Array (Nat×Nat×Nat)) (g4:Nat),aj=aJ κ aF aY g4∧c=(none,())∧Rl bG aF 0 lo∧bJ key aF aY.toList 0 lo) ?_ (fun c aj hh=>hh) ⟨bG,cK,g2,rfl,rfl,Rl.refl ..,fg⟩) ?_)
    ·rintro y c aj _ hy ⟨aF,aY,g4,rfl,rfl,a_,dJ⟩
     have z4:=a_.size;refine ag (fm ?_);have hx:∀o,o=(if (pendingOf (aJ κ aF aY g4)).size>1 then (pendingOf (aJ κ aF aY g4))[(pendingOf (aJ κ aF aY g4)).size-2]? else none)→o.isSome=true→aY.size>1:=fun o ho hs=>by
      by_cases z:aY.size>1;·exact z
      ·rw [aa z] at ho
       rw [ho] at hs;cases hs
     generalize eo:(if (pendingOf (aJ κ aF aY g4)).size>1 then (pendingOf (aJ κ aF aY g4))[(pendingOf (aJ κ aF aY g4)).size-2]? else none)=o
     cases o with
     | none=>exact af ⟨aF,aY,g4,rfl,rfl,a_,dJ⟩
     | some p=>
      have gt:=hx _ eo.symm rfl;obtain ⟨q1,q2,Gz⟩:=p;dsimp only;refine cS (fun _=>af ⟨aF,aY,g4,rfl,rfl,a_,dJ⟩) (fun _=>?_);refine ag (vR h (mX ok (a_.pm.trans cL)) dJ (by omega) (show aY.size-2+1<aY.size by omega) fun vU vV g5 vW vX _=>?_)
      rw [aa (by simp)]
      exact af ⟨vU,vV,g5,rfl,rfl,a_.trans vW,vX⟩
    ·rintro c aj ⟨aF,aY,g4,rfl,rfl,a_,dJ⟩
     dsimp only;refine ag (gs (ag (gs (af ⟨aF,_,g4,lo+n,rfl,rfl,a_.pm.trans cL,?_,f2,by have:=n1;omega⟩))))
     rw [jq];refine bJ.snoc ?_ n1 (bN.cB sg a_ (.inr (ar _)));rw [Array.toList_modify];exact dJ.last
 ·rintro c aj ⟨av,cK,g2,lo,rfl,rfl,jO,k9,l1,l2⟩
  obtain rfl:lo=arr.size:=by omega
  exact ⟨av,cK,g2,rfl,rfl,jO,k9⟩
 ·rintro c aj ⟨av,cK,g2,rfl,rfl,jO,k9⟩
  dsimp only;have pz:=k9.le
  refine ag (dF (dw (I:=fun x c aj=>∃(bG:Array Keyed) (cM:Array (Nat×Nat×Nat)) (g3:Nat),aj=aJ κ bG cM g3∧c=(none,())∧bG.Perm arr∧bJ key bG cM.toList 0 arr.size∧cM.size+x≤arr.size)
   (Q:=fun c aj=>∃(bG:Array Keyed) (cM:Array (Nat×Nat×Nat)) (g3:Nat),aj=aJ κ bG cM g3∧c=(none,())∧bG.Perm arr∧bJ key bG cM.toList 0 arr.size∧cM.size≤1) ?_ ?_ ⟨av,cK,g2,rfl,rfl,jO,k9,show cK.size+0≤arr.size by simpa using pz⟩) ?_)
  ·rintro x c aj _ hx ⟨bG,cM,g3,rfl,rfl,cL,fg,l3⟩
   have z3:=cL.size_eq;refine ag (fm ?_);by_cases z:(pendingOf (aJ κ bG cM g3)).size≤1
   ·rw [ae z]
    exact af ⟨bG,cM,g3,rfl,rfl,cL,fg,z⟩
   ·rw [aa z]
    have z':1<cM.size:=Nat.lt_of_not_le z;have go:∀i,i+1<cM.size→wpS (model prog w) A E s (mergeAt' i) (fun b aj=>b=true∧∃(aF:Array Keyed) (aY:Array (Nat×Nat×Nat)) (g4:Nat),aj=aJ κ aF aY g4∧aF.Perm arr∧bJ key aF aY.toList 0 arr.size∧aY.size+(x+1)≤arr.size) (aJ κ bG cM g3):=fun i hi=>by refine vR h (mX ok cL) fg (by omega) hi fun aF aY g4 a_ dJ sz=>⟨rfl,aF,aY,g4,rfl,a_.pm.trans cL,dJ,by omega⟩
    refine ag (dF (go _ ?_) ?_)
    ·show (if _ then _ else _)+1<cM.size
     have e:(pendingOf (aJ κ bG cM g3)).size=cM.size:=rfl;rw [e];have:∀c:Bool,(if c=true then cM.size-2-1 else cM.size-2)+1<cM.size:=fun c=>by cases c <;> simp <;> omega
     exact this _
    ·rintro b aj ⟨rfl,aF,aY,g4,rfl,vT,dJ,l4⟩
     rw [aa (by simp)]
     exact af ⟨aF,aY,g4,rfl,rfl,vT,dJ,l4⟩
  ·rintro c aj ⟨bG,cM,g3,rfl,rfl,cL,fg,l3⟩
   exact ⟨bG,cM,g3,rfl,rfl,cL,fg,by omega⟩
  ·rintro c aj ⟨bG,cM,g3,rfl,rfl,cL,fg,l3⟩
   exact af (k bG _ cL (fg.one (by simpa using l3)) rfl rfl)
end
end Tm
namespace My
open PySem PySem.W PyProof.Rows Tm
section
variable {prog:Program} {w:World} {A:Around} {E:aw} {s:Shared}
def AI(h:Heap)(v:Value)(x y:Int):Prop:=∃a o t u e,v=.ref a∧h.get? a=some o∧o.cls=.type "tuple"∧o.data=.seq #[.int x t,.int y u] e
theorem perm_back{α β:Type}{f:α→β}{l m:List β}(h:l.Perm m):∀q:List α,m=q.map f→∃p:List α,p.Perm q∧l=p.map f:=by
 induction h with
 | nil=>intro q e;exact ⟨q,List.Perm.refl _,e⟩
 | cons x _ ih=>
  intro q e
  match q,e with
  | a::q,e=>obtain ⟨rfl,e'⟩:=List.cons.inj e;obtain ⟨p,hp,rfl⟩:=ih q e';exact ⟨a::p,hp.cons a,rfl⟩
 | swap x y _=>
  intro q e
  match q,e with
  | a::b::q,e=>obtain ⟨rfl,e'⟩:=List.cons.inj e;obtain ⟨rfl,rfl⟩:=List.cons.inj e';exact ⟨b::a::q,List.Perm.swap ..,rfl⟩
 | trans _ _ GA GB=>intro q e;obtain ⟨p,hp,e1⟩:=GB q e;obtain ⟨p',GC,e2⟩:=GA p e1;exact ⟨p',GC.trans hp,e2⟩
end
open PySem PySem.W PyProof.Rows
section
variable {prog:Program} {w:World} {A:Around} {E:aw} {s:Shared}
end
end My
namespace L2
open PySem PySem.W PyProof.Rows My
theorem AJ{xs:List V}{us:List Value}(r:Vals xs us):∀(ns:List Nat),(∀i∈ns,i<xs.length)→Vals (ns.map fun i=>xs.getD i .aI) (ns.map fun i=>us.getD i Value.none)
 | [],_=>.nil
 | i::ns,h=>by
  have hi:=h i dY;obtain ⟨u,e,ru⟩:=r.get (i:=i) (x:=xs[i]) (by simp [hi])
  refine .cons ?_ (AJ r ns fun j hj=>h j (dZ _ hj));dsimp only;rw [show xs.getD i .aI=xs[i] by simp [hi],show us.getD i Value.none=u by rw [fO,e];rfl]
  exact ru
end L2
namespace My
open PySem L2
variable {σ:St} {H:Hp}
theorem GD{c:TT}{t u:TS}{D:Ends}(M:St→Hp→Prop)(hM:∀σ H,M σ H→D.nx σ H)(k:∀R:St→Hp→Prop,(∀σ H,M σ H→R σ H)→uH c t u {D with nx:=R} σ H):uH c t u D σ H:=k D.nx hM
def cN(H:Hp)(vs:List V)(L:aK):Prop:=vs.length=L.length∧∀(k:Nat) (v:V) (p:Int×Int),vs[k]?=some v→L[k]?=some p→∃b,v=.ref b∧H b=some (.tup [.int p.1,.int p.2])
theorem cN.nil(H:Hp):cN H [] []:=⟨rfl,fun k v p h=>by simp at h⟩
variable {H':Hp} {vs:List V} {L:aK}
theorem cN.mono(h:cN H vs L)(s:ak H H'):cN H' vs L:=⟨h.1,fun k v p h1 h2=>by obtain ⟨b,e,g⟩:=h.2 k v p h1 h2;exact ⟨b,e,s _ _ g⟩⟩
variable {r:Addr} {xs:List V}
theorem cN.cB(h:cN H vs L)(e:H r=some (.lst xs))(k:∀b o,b≠r→H b=some o→H' b=some o):cN H' vs L:=⟨h.1,fun i v p h1 h2=>by obtain ⟨b,eb,g⟩:=h.2 i v p h1 h2;refine ⟨b,eb,k b _ (fun z=>?_) g⟩;rw [z,e] at g;cases g⟩
variable {b:Addr}
theorem cN.push{p:Int×Int}(h:cN H vs L)(e:H b=some (.tup [.int p.1,.int p.2])):cN H (vs++[.ref b]) (L++[p]):=⟨by simp [h.1],fun k v q h1 h2=>by
 have hl:=h.1;by_cases z:k<vs.length
 ·rw [gW z] at h1
  rw [gW (by omega)] at h2
  exact h.2 k v q h1 h2
 ·have hk:=(cw.mp h1).1
  rw [dg,kj] at hk;obtain rfl:k=vs.length:=by omega
  rw [gU (ar _),oq] at h1;rw [gU (by omega),show vs.length-L.length=0 by omega] at h2
  cases h1;cases h2;exact ⟨b,rfl,e⟩⟩
def eJ(H:Hp)(t:Addr)(n:Nat)(L:aK):Prop:=∃(lt:Addr) (us:List V),H t=some (.tup [.int (n:Int),.ref lt])∧H lt=some (.tup us)∧cN H us L
variable {P:Addr}
theorem vY{o:HO}:∀b o',b≠r→er P H b=some o'→er P (upd H r o) b=some o':=fun b o' nb e=>by
 by_cases z:b=P
 ·subst z
  unfold er at e;rw [ae rfl] at e;cases e
 ·rw [kX z] at e ⊢
  rw [aT nb];exact e
theorem vZ{a:Addr}(p:dC H P a)(e:H b=some (.tup xs)):er P H b=some (.tup xs):=by refine vE (fun z=>?_) e;obtain ⟨x,y,eP,_⟩:=p;rw [z,eP] at e;cases e
theorem eJ.mono{t:Addr}{n:Nat}(h:eJ H t n L)(s:ak H H'):eJ H' t n L:=by obtain ⟨lt,us,h1,h2,h3⟩:=h;exact ⟨lt,us,s _ _ h1,s _ _ h2,h3.mono s⟩
theorem GF{wi:TI}{ρ:St→St}{tt:TT}{te:TE}{Q:VK}(pr:Nat→Bool)(eV:∀R:It→Hp→Prop,(∀J,i6 J xs H→R J H)→wi σ H R)(hn:xs.length<sizeLine)
  (P:Addr→Nat→V→Hp→Prop) (mono:∀D i y H H' ys,P D i y H→H D=some (.lst ys)→(∀b o,b≠D→H b=some o→H' b=some o)→P D i y H')
  (test:∀(i:Nat) (x:V),xs[i]?=some x→∀(Hc:Hp) (R:Bool→Hp→Prop),ak H Hc→R (pr i) Hc→tt (some x::ρ σ) Hc R)
  (step:∀D (i:Nat) (x:V),xs[i]?=some x→∀(Hc:Hp) (R:VK),ak H Hc→(∃ys,Hc D=some (.lst ys))→(∀y H3,ak Hc H3→P D i y H3→R y H3)→te (some x::ρ σ) Hc R)
  (fin:∀D ys Hc,H D=none→ak H Hc→ys.length=((List.range xs.length).filter pr).length→(∀(k i:Nat) (y:V),ys[k]?=some y→((List.range xs.length).filter pr)[k]?=some i→P D i y Hc)→Hc D=some (.lst ys)→Q (.ref D) Hc):ip wi ρ tt te σ H Q:=by
 refine eV _ fun J js=>?_;intro D nD;refine ⟨fun i m ys Hc=>m=xs.length-i∧i≤xs.length∧Hc D=some (.lst ys)∧ak H Hc∧ys.length=((List.range i).filter pr).length∧∀(k i':Nat) (y:V),ys[k]?=some y→((List.range i).filter pr)[k]?=some i'→P D i' y Hc,⟨_,rfl,bK _,ax,fF (ak.refl H) nD,rfl,fun k i y h=>by simp at h⟩,?_⟩
 rintro i m ys Hc ⟨rfl,hi,eD,sH,ly,hP⟩;refine ⟨eD,?_⟩;by_cases aX:i<xs.length
 ·refine .inr ⟨js.go i Hc sH aX,fun x H' hy=>?_⟩
  obtain ⟨rfl,hx⟩:=js.cI i Hc x H' sH hy;refine test i x (hx aX) _ _ sH ?_;have fs:(List.range (i+1)).filter pr=(List.range i).filter pr++(if pr i=true then [i] else []):=by
   rw [List.range_succ,List.filter_append]
   congr 1
   cases e:pr i <;> simp [e]
  have fl:((List.range i).filter pr).length≤i:=bQ (qE _ _) (by simp)
  cases e:pr i with
  | true=>
   rw [ae rfl];refine step D i x (hx aX) _ _ sH ⟨_,eD⟩ fun y H3 s3 hp=>?_;have e3:=s3 _ _ eD;have cB:∀b o,b≠D→H3 b=some o→upd H3 D (.lst (ys++[y])) b=some o:=fun b o nb e=>by rw [aT nb];exact e
   refine ⟨e3,by omega,xs.length-(i+1),by omega,rfl,aX,ax,fF (sH.trans s3) nD,?_,fun k i' y' h1 h2=>?_⟩
   ·rw [fs,e,ae rfl,dg,dg,ly]
    rfl
   ·rw [fs,e,ae rfl] at h2
    by_cases z:k<ys.length
    ·rw [gW z] at h1
     rw [gW (by omega)] at h2
     refine mono D i' y' H' _ ys (hP k i' y' h1 h2) eD fun b o nb e=>cB b o nb (s3 _ _ e)
    ·have hk:=(cw.mp h1).1
     rw [dg,kj] at hk;obtain rfl:k=ys.length:=by omega
     rw [gU (ar _),oq] at h1;rw [gU (by omega),show ys.length-((List.range i).filter pr).length=0 by omega] at h2
     cases h1;cases h2;exact mono D _ _ H3 _ ys hp e3 cB
  | false=>
   rw [aa (by simp)]
   refine ⟨xs.length-(i+1),by omega,rfl,aX,eD,sH,?_,fun k i' y' h1 h2=>?_⟩
   ·rw [fs,e,aa (by simp),qz]
    exact ly
   ·rw [fs,e,aa (by simp),qz] at h2
    exact hP k i' y' h1 h2
 ·have e:i=xs.length:=by omega
  subst e;exact .inl ⟨js.stop _ Hc sH (ar _),fin D ys Hc nD sH ly hP eD⟩
end My
namespace L2
open PySem PySem.Spec PyProof.Rows
def GG(K:aB):List V→Hp→VK→Prop:=fun xs H Q=>∃(a C tp:Addr) (cs:List Addr),xs=[.ref a,.ref tp]∧H a=some (gD a C)∧i4 K C∧H tp=some (.tup (cs.map V.ref))∧(∀c∈cs,PySem.W.kitOne K (.ref C) (.ref c)=some false)∧Q (.bl false) H
theorem AK:∀{cs:List Addr} {us:List Value},Vals (cs.map V.ref) us→us=cs.map Value.ref
 | [],_,.nil=>rfl
 | c::cs,_,.cons r t=>by cases r;rw [AK t];rfl
theorem AL{K:aB}{C:Addr}:∀{cs:List Addr},(∀c∈cs,PySem.W.kitOne K (.ref C) (.ref c)=some false)→PySem.W.kitAny K (.ref C) (cs.map Value.ref)=some false
 | [],_=>rfl
 | c::cs,h=>by
  show (match PySem.W.kitOne K (.ref C) (.ref c) with
   | some true=>some true
   | some false=>PySem.W.kitAny K (.ref C) (cs.map Value.ref)
   | none=>none)=some false
  rw [h c dY];exact AL fun x hx=>h x (dZ _ hx)
theorem GH{X:Cx}{K:aB}(hK:X.K=K:=by rfl):fz X (.builtin "isinstance") (GG K):=by intro pins s σ H xs us Q I r h;subst hK;obtain ⟨a,C,tp,cs,rfl,ea,cc,et,hn,q⟩:=h;obtain ⟨u,v,rfl,rx,rt⟩:=vals2 r;cases rx;cases rt;obtain ⟨k,_,_⟩:=(show bj X.prog X.w H s.heap a (.ext (ExcAt a C)) from I.ao a _ ea);obtain ⟨_,ai,rv,o,g,hc,n,hd⟩:=(show bj X.prog X.w H s.heap tp (.tup (cs.map V.ref)) from I.ao tp _ et);have ei:=AK rv;subst ei;obtain ⟨cl,dd,da,sl⟩:=o;dsimp only at hc hd;subst hc;subst hd;exact PySem.W.kia_tup (z_ cc) I.cz k g (AL hn) (fun z=>nomatch z) fun tk=>⟨.bl false,H,I.tok tk,rfl,q⟩
end L2
namespace My
open PySem L2
end My
namespace L2
open PySem PySem.Spec PyProof.Rows
section
variable (P:Program) (w:World)
end
section
variable {P:Program} {w:World} {H H':Hp} {h h':Heap} {a:Addr} {o:HO}
end
section
variable {P:Program} {w:World} {H:Hp} {h h':Heap} {x e:Addr} {o':HO}
end
section
variable {fs uy ex C1:List Addr} {H H1 H2:Hp} {h h1 h2 h':Heap} {a x e:Addr} {o:HO}
end
section
variable {X:Cx} {pins:aC} {σ:List (Option V)} {H H':Hp} {s:Shared} {h':Heap}
end
section
variable {X:Cx}
variable {a b:Expr} {ta tb:TE} {pos:Pos}
variable {tA oN:TT} {rest:List Expr}
end
section
variable {X:Cx} {pins:aC} {σ:St} {H:Hp} {s:Shared} {a:Addr} {xs ys:List V}
end
section
variable {X:Cx} {pins:aC} {σ:St} {H:Hp} {s:Shared} {E:aw}
end
section
variable {X:Cx} {st:Stmt} {rest:List Stmt} {t u:TS} {e:Expr} {te:TE} {pos:Pos}
end
section
variable {X:Cx} {pos:Pos}
end
section
variable {X:Cx} {pos:Pos}
end
section
variable {X:Cx} {tg:Expr}
end
section
variable {X:Cx} {a b c:Expr} {ta tb tc:TE} {pos:Pos}
end
section
variable {X:Cx} {a b c:Expr} {ta tb tc:TE} {pos:Pos}
end
section
variable {prog:Program} {w:World} {A:Around} {E:aw} {s:Shared} {K:aB} {x dx C f:Addr} {mA:bT} {name:Str} {v:Value}
end
section
variable {P:Program} {w:World} {H H':Hp} {h h':Heap} {a C dx:Addr} {fs uy:List (Str×V)}
end
section
variable {X:Cx} {pins:aC} {σ:St} {H:Hp} {s:Shared} {a C dx:Addr} {fs:List (Str×V)} {f:Str} {v:V} {A:Around} {E:aw}
end
section
variable {X:Cx} {o e value:Expr} {f:Str} {pos pos' zd:Pos} {ta tv:TE}
end
section
variable {X:Cx} {pins:aC} {σ:St} {H:Hp} {s:Shared} {A:Around} {E:aw} {Q:aw} {c:Value} {b:Bool}
end
section
variable {X:Cx} {e:Expr} {es:List Expr} {te:TE} {t:TA} {pos:Pos}
end
section
variable {X:Cx} {pins:aC} {σ:St} {H:Hp} {s s':Shared}
end
section
variable {X:Cx} {CX:d9} {k:Nat} {f C:Addr} {fd:FuncData} {ps:List Str} {sp:Sp} {dy:List V} {ds:List Value} {E:XK} {x m:Str} {p pos apos:Pos} {e o:Expr} {es:List Expr} {ta:TE} {t:TA}
end
section
variable {X:Cx} {CX:d9} {k:Nat} {f C:Addr} {fd:FuncData} {ps ks:List Str} {sp:Sp} {E:XK} {x m:Str} {p pos apos zi:Pos} {e o:Expr} {es:List Expr} {D4:List Keyword} {te ta:TE} {t tk:TA} {nm:Option Str}
variable {g:List Value→List Value→List Value} {gV:List V→List V→List V}
end
section
variable {X:Cx} {x:Str} {p pos:Pos} {e:Expr} {es:List Expr} {t:TA} {id T:String} {r:List V→Hp→VK→Prop}
end
section
variable {κ:Type} [DecidableEq κ]
def dE(kvs:List (κ×V))(k:κ):Option V:=(kvs.find? fun kv=>decide (kv.1=k)).map (·.2)
def putK(kvs:List (κ×V))(k:κ)(v:V):List (κ×V):=
 if (kvs.any fun kv=>decide (kv.1=k))=true then kvs.map (fun kv=>if kv.1=k then (kv.1,v) else kv) else kvs++[(k,v)]
variable {p:κ×V} {r:List (κ×V)} {k:κ}
theorem pL(e:p.1=k):dE (p::r) k=some p.2:=by simp [dE,ml,e]
theorem pM(e:¬p.1=k):dE (p::r) k=dE r k:=by simp [dE,ml,e]
theorem AM(k:κ):∀kvs:List (κ×V),(kvs.any fun kv=>decide (kv.1=k))=(dE kvs k).isSome
 | []=>rfl
 | p::r=>by
  rw [om];by_cases e:p.1=k;·simp only [pL e,b4 e,Bool.true_or,Option.isSome_some]
  ·rw [pM e,b3 e,Bool.false_or];exact AM k r
theorem rY(kvs:List (κ×V))(k:κ)(v:V):(putK kvs k v).length≤kvs.length+1:=by
 unfold putK
 split
 ·rw [aW];omega
 ·rw [dg,du,oi];omega
theorem gw.pN{o:Option V}{u:Option Value}(r:gw o u):o.isSome=u.isSome:=by
 cases o with
 | none=>cases u with
  | none=>rfl
  | some _=>exact (show False from r).elim
 | some _=>cases u with
  | none=>exact (show False from r).elim
  | some _=>rfl
variable {kvs:List (κ×V)} {vs:List (κ×Value)}
theorem KV.val(r:KV kvs vs)(k:κ):gw (dE kvs k) (valueAt vs k):=by
 unfold KV at r
 induction r with
 | nil=>exact True.intro
 | @cons p q ps qs h t ih=>
  obtain ⟨h1,h2⟩:=h;by_cases e:p.1=k
  ·have e':q.1=k:=h1.symm.trans e
   have b:valueAt (q::qs) k=some q.2:=by simp [valueAt,ml,e']
   rw [pL e,b];exact h2
  ·have e':¬q.1=k:=fun z=>e (h1.trans z)
   have b:valueAt (q::qs) k=valueAt qs k:=by simp [valueAt,ml,e']
   rw [pM e,b];exact ih
theorem KV.any(r:KV kvs vs)(k:κ):(kvs.any fun kv=>decide (kv.1=k))=vs.any fun kv=>decide (kv.1=k):=by
 unfold KV at r
 induction r with
 | nil=>rfl
 | cons h t ih=>rw [om,om,ih,h.1]
variable {y:V} {u:Value}
theorem KV.v7(r:KV kvs vs)(k:κ)(ry:RelV y u) :
  KV (kvs.map fun kv=>if kv.1=k then (kv.1,y) else kv) (vs.map fun kv=>if kv.1=k then (kv.1,u) else kv):=by
 unfold KV at r ⊢
 induction r with
 | nil=>exact .nil
 | @cons p q ps qs h t ih=>
  rw [iI,iI];refine .cons ?_ ih;obtain ⟨h1,h2⟩:=h;by_cases e:p.1=k;·rw [ae e,ae (h1.symm.trans e)];exact ⟨h1,ry⟩
  ·rw [aa e,aa (fun z=>e (h1.trans z))];exact ⟨h1,h2⟩
theorem KV.put(r:KV kvs vs)(k:κ)(ry:RelV y u):KV (putK kvs k y) (stored vs k u):=by
 unfold putK stored;rw [r.any k];by_cases e:(vs.any fun kv=>decide (kv.1=k))=true;·rw [ae e,ae e];exact r.v7 k ry
 ·rw [aa e,aa e];exact Paired.snoc r ⟨rfl,ry⟩
theorem KV.length(r:KV kvs vs):kvs.length=vs.length:=Paired.length r
end
variable {P:Program} {w:World} {u:Value}
theorem mY{k:Key}(r:RelV (kV k) u):(dO P w).is k u=true:=by
 cases k with
 | inl i=>obtain ⟨t,e⟩:=(show ∃t,u=Value.int i t from r);subst e;exact CY P w i t
 | inr x=>obtain ⟨t,e⟩:=(show ∃t,u=Value.str x t from r);subst e;exact CZ P w x t
theorem AN{P:Program}{w:World}:∀{ks:List Key} {us:List Value},Vals (ks.map kV) us→ItemsAre (dO P w) ks us
 | [],_,r=>by rw [oj] at r;cases r;exact .nil
 | k::ks,_,r=>by
  rw [iI] at r;cases r with
  | cons h t=>exact .cons (mY h) (AN t)
abbrev KT (H:Hp):List (List Key×V)→List (List Key×Addr×Value)→Prop:=Paired fun p q=>p.1=q.1∧H q.2.1=some (.tup (p.1.map kV))∧RelV p.2 q.2.2
variable {H:Hp} {kvs:List (List Key×V)} {xs:List (List Key×Addr×Value)}
theorem KT.val(r:KT H kvs xs)(k:List Key):gw (dE kvs k) ((atKey xs k).map (·.2)):=by
 induction r with
 | nil=>exact True.intro
 | @cons p q ps qs h t ih=>
  obtain ⟨h1,_,h2⟩:=h;by_cases e:p.1=k
  ·have e':q.1=k:=h1.symm.trans e
   have b:atKey (q::qs) k=some q.2:=by simp [atKey,ml,e']
   rw [pL e,b];exact h2
  ·have e':¬q.1=k:=fun z=>e (h1.trans z)
   have b:atKey (q::qs) k=atKey qs k:=by simp [atKey,ml,e']
   rw [pM e,b];exact ih
variable {y:V}
theorem KT.v7(r:KT H kvs xs)(k:List Key)(ry:RelV y u) :
  KT H (kvs.map fun kv=>if kv.1=k then (kv.1,y) else kv) (xs.map (putAt k u)):=by
 induction r with
 | nil=>exact .nil
 | @cons p q ps qs h t ih=>
  rw [iI,iI];refine .cons ?_ ih;obtain ⟨h1,h2,h3⟩:=h;unfold putAt;by_cases e:p.1=k;·rw [ae e,ae (h1.symm.trans e)];exact ⟨h1,h2,ry⟩
  ·rw [aa e,aa (fun z=>e (h1.trans z))];exact ⟨h1,h2,h3⟩
variable {b:Addr}
theorem KT.put(r:KT H kvs xs)(k:List Key)(hb:H b=some (.tup (k.map kV)))(ry:RelV y u) :
  KT H (putK kvs k y) (storedH xs k b u):=by
 have e:(kvs.any fun kv=>decide (kv.1=k))=(atKey xs k).isSome:=by rw [AM,(r.val k).pN,Option.isSome_map]
 unfold putK storedH;rw [e];by_cases q:(atKey xs k).isSome=true;·rw [ae q,ae q];exact r.v7 k ry
 ·rw [aa q,aa q];exact Paired.snoc r ⟨rfl,hb,ry⟩
theorem KT.keeps{H':Hp}(r:KT H kvs xs)(ht:∀b ys,H b=some (.tup ys)→H' b=some (.tup ys)):KT H' kvs xs:=
 Paired.ux r fun _ _ z=>⟨z.1,ht _ _ z.2.1,z.2.2⟩
section
variable {P:Program} {w:World} {H:Hp} {h:Heap} {a:Addr}
theorem AO{u:HO}(ok:bw P w H h)(e:Rd H a u):bj P w H h a u:=e.ok ok
theorem pO{kvs:List (Key×V)}(ok:bw P w H h)(e:Rd H a (.dK kvs)):kvs.length≤sizeLine∧(a == sysModules)=false∧∃vs,KV kvs vs∧h.DictOf (dO P w) a vs:=
 show bj P w H h a (.dK kvs) from AO ok e
theorem AQ{kvs:List (Key×V)}(ok:bw P w H h)(e:H a=some (.dK kvs)):kvs.length≤sizeLine∧(a == sysModules)=false∧∃vs,KV kvs vs∧h.DictOf (dO P w) a vs:=pO ok (.inl e)
theorem mZ{ks:List Key}(ok:bw P w H h)(e:H a=some (.tup (ks.map kV))):(tupleKind (dO P w)).is h ks a:=by obtain ⟨_,ai,r,o,h1,h2,n,h3⟩:=(show bj P w H h a (.tup (ks.map kV)) from ok a _ e);exact ⟨o,ai.toArray,n,h1,h2,h3,by simpa using AN r⟩
theorem pP(ok:bw P w H h)(e:Rd H a (.dT kvs)):kvs.length≤sizeLine∧(a == sysModules)=false ∧
  ∃xs,KT H kvs xs∧h.DictOfH (tupleKind (dO P w)) a xs:=by
 obtain ⟨z,y,xs,r,o,es,ep,h1,h2,h3,h4,h5⟩:=(show bj P w H h a (.dT kvs) from AO ok e);refine ⟨z,y,xs,r,o,es,ep,h1,h2,h3,h4,fun x hx=>?_,h5⟩;have all:∀{l:List (List Key×V)} {m:List (List Key×Addr×Value)},KT H l m→∀x∈m,(tupleKind (dO P w)).is h x.1 x.2.1:=by
  intro l m q
  induction q with
  | nil=>intro x hx;exact nomatch hx
  | @cons p q ps qs hq t ih=>
   intro x hx;rcases cu.mp hx with e | hx
   ·subst e
    exact mZ ok (by rw [←hq.1];exact hq.2.1)
   ·exact ih x hx
 exact all r x hx
theorem v8(ok:bw P w H h)(e:H a=some (.dT kvs)):kvs.length≤sizeLine∧(a == sysModules)=false ∧
  ∃xs,KT H kvs xs∧h.DictOfH (tupleKind (dO P w)) a xs:=pP ok (.inl e)
end
def gP(H:Hp)(a:Addr)(y:V)(r:Option V):Prop:=
 (∃kvs k,Rd H a (.dK kvs)∧y=kV k∧r=dE kvs k)∨∃kvs k b,Rd H a (.dT kvs)∧y=.ref b∧H b=some (.tup (k.map kV))∧r=dE kvs k
def m4(H:Hp)(a:Addr)(y v:V)(H':Hp):Prop:=
 (∃kvs k,H a=some (.dK kvs)∧y=kV k∧kvs.length<sizeLine∧H'=upd H a (.dK (putK kvs k v))) ∨
 ∃kvs k b,H a=some (.dT kvs)∧y=.ref b∧H b=some (.tup (k.map kV))∧kvs.length<sizeLine∧H'=upd H a (.dT (putK kvs k v))
variable {a:Addr} {k:List Key}
theorem gP.t(e:H a=some (.dT kvs))(eb:H b=some (.tup (k.map kV))):gP H a (.ref b) (dE kvs k):=.inr ⟨kvs,k,b,.inl e,rfl,eb,rfl⟩
theorem m4.t{v:V}(e:H a=some (.dT kvs))(eb:H b=some (.tup (k.map kV)))(hl:kvs.length<sizeLine) :
  m4 H a (.ref b) v (upd H a (.dT (putK kvs k v))):=.inr ⟨kvs,k,b,e,rfl,eb,hl,rfl⟩
section
variable {X:Cx} {pins:aC} {σ:St} {H:Hp} {s:Shared} {a:Addr} {y v:V} {u r:Value} {o:Option V} {A:Around} {E:aw}
theorem Inv.big(I:Inv X pins σ H s):sysModules<s.heap.objs.size:=by have h:mainGlobals<s.heap.objs.size:=(I.mod.glob.keeps I.bk).lt;exact Nat.lt_trans (by decide) h
variable {Q:aw}
theorem GI(hu:A.units+1<cLine)(I:Inv X pins σ H s)(g:gP H a y (some v))(ry:RelV y u)(h:∀w' s',Inv X pins σ H s'→RelV v w'→Q w' s') :
  wpAny (model X.prog X.w) A (getItem (.ref a) u) Q E s:=by
 rcases g with ⟨kvs,k,e,ey,l⟩ | ⟨kvs,k,b,e,ey,eb,l⟩
 ·subst ey
  obtain ⟨z,hd,vs,rel,dd⟩:=pO I.ao e;obtain ⟨w',hw,iV⟩:=gw.some_of (v:=v) (o:=valueAt vs k) (by rw [l];exact rel.val k)
  exact wpAny_getItem_of (mY ry) dd.mapOf hw (h w' _ (I.tok _) iV)
 ·subst ey
  cases (show u=Value.ref b from ry);obtain ⟨z,hd,xs,rel,dd⟩:=pP I.ao e;obtain ⟨w',hw,iV⟩:=gw.some_of (v:=v) (o:=(atKey xs k).map (·.2)) (by rw [l];exact rel.val k)
  obtain ⟨p,hp,GJ⟩:=Option.map_eq_some_iff.mp hw;refine wpAny_getItem_heap (qF hu) (mZ I.ao eb) dd hp ?_;rw [GJ];exact h w' _ (I.tok _) iV
theorem GK(hu:A.units+1<cLine)(I:Inv X pins σ H s)(g:gP H a y o)(ry:RelV y u)(h:∀s',Inv X pins σ H s'→Q (.bool o.isSome) s') :
  wpAny (model X.prog X.w) A (compareOp .In u (.ref a)) Q E s:=by
 rcases g with ⟨kvs,k,e,ey,l⟩ | ⟨kvs,k,b,e,ey,eb,l⟩
 ·subst ey
  obtain ⟨z,hd,vs,rel,dd⟩:=pO I.ao e;refine wpAny_in_of (mY ry) hd dd.mapOf ?_;rw [←(rel.val k).pN,←l];exact h _ (I.tok _)
 ·subst ey
  cases (show u=Value.ref b from ry);obtain ⟨z,hd,xs,rel,dd⟩:=pP I.ao e;refine wpAny_in_heap (qF hu) (mZ I.ao eb) hd dd ?_;have q:=(rel.val k).pN;rw [Option.isSome_map] at q;rw [←q,←l];exact h _ (I.tok _)
theorem GL(hu:A.units+1<cLine)(I:Inv X pins σ H s)(g:gP H a y o)(ry:RelV y u)(h:∀s',Inv X pins σ H s'→Q (.bool (!o.isSome)) s') :
  wpAny (model X.prog X.w) A (compareOp .NotIn u (.ref a)) Q E s:=by
 rcases g with ⟨kvs,k,e,ey,l⟩ | ⟨kvs,k,b,e,ey,eb,l⟩
 ·subst ey
  obtain ⟨z,hd,vs,rel,dd⟩:=pO I.ao e;refine wpAny_notIn_of (mY ry) hd dd.mapOf ?_;rw [←(rel.val k).pN,←l];exact h _ (I.tok _)
 ·subst ey
  cases (show u=Value.ref b from ry);obtain ⟨z,hd,xs,rel,dd⟩:=pP I.ao e;refine wpAny_notIn_heap (qF hu) (mZ I.ao eb) hd dd ?_;have q:=(rel.val k).pN;rw [Option.isSome_map] at q;rw [←q,←l];exact h _ (I.tok _)
variable {h':Heap}
theorem rZ{t':Nat}{ob:HO}(I:Inv X pins σ H s)(mu:oG (H a))(hs:Heap.SameBut a s.heap h')(he:∃q,h'.get? a=some q)(new:bj X.prog X.w (upd H a ob) h' a ob) :
  Inv X pins σ (upd H a ob) {s with heap:=h',toks:=t'}:=
 I.write (x:=a) (e:=a) mu (.inl rfl) (fun b q hb z=>(hs.2 b hb).trans z) he new
variable {H':Hp}
theorem AR{kvs:List (Key×V)}{vs:List (Key×Value)}(z:kvs.length≤sizeLine)(hd:(a == sysModules)=false)(rel:KV kvs vs)(dd:h'.DictOf (dO P w) a vs) :
  bj P w H' h' a (.dK kvs):=⟨z,hd,vs,rel,dd⟩
theorem GN{Q:Unit→Shared→Prop}(hu:A.units+1<cLine)(I:Inv X pins σ H s)(g:m4 H a y v H')(ry:RelV y u)(rv:RelV v r)(h:∀s',Inv X pins σ H' s'→Q () s') :
  wpAny (model X.prog X.w) A (setItem (.ref a) u r) Q E s:=by
 rcases g with ⟨kvs,k,e,ey,l,eH⟩ | ⟨kvs,k,b,e,ey,eb,l,eH⟩
 ·subst ey eH
  obtain ⟨z,hd,vs,rel,dd⟩:=AQ I.ao e;have hz:vs.length≤sizeLine:=by rw [←rel.length];exact z
  have hl:(putK kvs k v).length≤sizeLine:=by have:=rY kvs k v;omega
  refine wpAny_setItem_pairs (hsz:=hz) (mY ry) dd fun h' fU hs=>h _ ?_;have he:∃q,h'.get? a=some q:=let ⟨q,_,_,hq,_⟩:=fU;⟨q,hq⟩
  exact rZ I (by rw [e];exact True.intro) hs he (AR hl hd (rel.put k rv) fU)
 ·subst ey eH
  cases (show u=Value.ref b from ry);obtain ⟨z,hd,xs,rel,dd⟩:=v8 I.ao e;have hz:xs.length≤sizeLine:=by rw [←Paired.length rel];exact z
  have hl:(putK kvs k v).length≤sizeLine:=by have:=rY kvs k v;omega
  refine wpAny_setItem_heap (hsz:=hz) (qF hu) (mZ I.ao eb) dd fun h' fU hs=>h _ ?_;obtain ⟨q,es,ep,hq,h2,h3,h4,_,h5⟩:=fU;refine rZ I (by rw [e];exact True.intro) hs ⟨q,hq⟩ ⟨hl,hd,_,(rel.put k eb rv).keeps fun c ys ec=>?_,q,es,ep,hq,h2,h3,h4,h5⟩
  rw [aT (xI ec e (fun z=>nomatch z))];exact ec
end
section
variable {X:Cx} {pins:aC} {σ:St} {H:Hp} {s:Shared} {a:Addr} {kvs:List (Key×V)} {k:Key} {u:Value} {A:Around} {E:aw}
end
def AS(i:Expr):Prop:=∀ov iv,subscripted i false ov iv=operate [ov,iv] (getItem ov iv)
variable {s:Shared} {pos:Pos}
theorem GO{prog:Program}{A:Around}{E:aw}{env:Env}{value slice:Expr}{T id:String}{Q:aw}
  (hl:typeLookup (.type T) "__getitem__"=pure (some (.builtin id))) (hs:AS slice)
  (h:wpAny (model prog w) A (eval value env) (fun o s₁=>wpAny (model prog w) A (eval slice env) (fun i s₂=>s₂.TypeIs o T∧wpAny (model prog w) A (getItem o i) Q E s₂) E s₁) E s) :
  wpAny (model prog w) A (eval (.Subscript value slice pos) env) Q E s:=by
 refine Subscript_ (a8 h (fun o s₁ h₁=>a8 h₁ (fun i s₂ h₂=>?_) fun _ _ x=>x) fun _ _ x=>x);obtain ⟨hT,h₂⟩:=h₂;unfold subscriptTail;refine au ?_;rw [getitemInPython_of_ne hT.not_modules];refine au (wpAny_specialOf hT hl ?_);have fin:wpAny (model prog w) A (subscripted slice false o i) (fun r s₃=>wpAny (model prog w) A (letTemporaryGo value o r >>= fun _=>pure r) Q E s₃) E s₂:=by rw [hs o i];exact wpAny_operating (a8 h₂ (fun r s₃ h₃=>au (wpAny_letTemporaryGo (bf h₃))) fun _ _ x=>x)
 first
  | exact bf (au fin)
  | exact au (bf (au fin))
  | exact au fin
variable {X:Cx}
theorem GP{pins:aC}{σ:St}{o:Option V}(I:Inv X pins σ H s)(g:gP H a y o):s.TypeIs (.ref a) "dict":=by
 rcases g with ⟨kvs,k,e,_,_⟩ | ⟨kvs,k,b,e,_,_,_⟩
 ·obtain ⟨_,_,vs,_,dd⟩:=pO I.ao e
  exact dd.typeIs
 ·obtain ⟨_,_,xs,_,dd⟩:=pP I.ao e
  exact dd.typeIs
def GQ(td ty:TE):TE:=fun σ H Q=>td σ H fun x H1=>ty σ H1 fun y H2=>∃a v,x=.ref a∧gP H2 a y (some v)∧Q v H2
def GR(ty td:TE):TE:=fun σ H Q=>ty σ H fun y H1=>td σ H1 fun x H2=>∃a o,x=.ref a∧gP H2 a y o∧Q (.bl o.isSome) H2
def GS(ty td:TE):TE:=fun σ H Q=>ty σ H fun y H1=>td σ H1 fun x H2=>∃a o,x=.ref a∧gP H2 a y o∧Q (.bl (!o.isSome)) H2
def GU(td ty tv:TE):TS:=fun D σ H=>tv σ H fun v H1=>td σ H1 fun x H2=>ty σ H2 fun y H3=>∃a H4,x=.ref a∧m4 H3 a y v H4∧D.nx σ H4
section
variable {X:Cx} {o i e value:Expr} {pos pos' zd:Pos} {td ty tv:TE}
theorem pQ(hu:X.A.units+1<cLine)(ho:PE X o td)(hi:PE X i ty)(hs:AS i):PE X (.Subscript o i pos) (GQ td ty):=by intro pins s σ H Q I h;refine GO PySem.F.slot_dict_getitem.lookup hs (aA (ho pins s σ H _ I h) fun u s1 ⟨x,H1,I1,rx,q1⟩=>aA (hi pins s1 σ H1 _ I1 q1) fun iv s2 ⟨y,H2,I2,ry,a,v,ex,g,q2⟩=>?_);subst ex;obtain rfl:u=Value.ref a:=rx;exact ⟨GP I2 g,GI hu I2 g ry fun w' s3 I3 iV=>⟨v,H2,I3,iV,q2⟩⟩
theorem GV(hu:X.A.units+1<cLine)(hi:PE X i ty)(ho:PE X o td):PC X .In i o (GR ty td):=by intro pins s σ H Q I h;refine aA (hi pins s σ H _ I h) fun iv s1 ⟨y,H1,I1,ry,q1⟩=>aA (ho pins s1 σ H1 _ I1 q1) fun u s2 ⟨x,H2,I2,rx,a,ov,ex,g,q2⟩=>?_;subst ex;obtain rfl:u=Value.ref a:=rx;exact GK hu I2 g ry fun s3 I3=>⟨.bl ov.isSome,H2,I3,rfl,q2⟩
theorem GW(hu:X.A.units+1<cLine)(hi:PE X i ty)(ho:PE X o td):PC X .NotIn i o (GS ty td):=by intro pins s σ H Q I h;refine aA (hi pins s σ H _ I h) fun iv s1 ⟨y,H1,I1,ry,q1⟩=>aA (ho pins s1 σ H1 _ I1 q1) fun u s2 ⟨x,H2,I2,rx,a,ov,ex,g,q2⟩=>?_;subst ex;obtain rfl:u=Value.ref a:=rx;exact GL hu I2 g ry fun s3 I3=>⟨.bl (!ov.isSome),H2,I3,rfl,q2⟩
theorem pR(hu:X.A.units+1<cLine)(ho:PE X o td)(hi:PE X i ty)(hv:PE X value tv)(hs:swapsWith value (some (.Subscript o i pos')) pos.line X.env=pure false) :
  PS X (.Assign [.Subscript o i pos'] value pos) (GU td ty tv):=by
 intro pins s σ H D I h;refine wpAny_Assign_Subscript (aA (hv pins s σ H _ I h) fun r s1 ⟨v,H1,I1,rv,q1⟩=>aA (ho pins s1 σ H1 _ I1 q1) fun u s2 ⟨x,H2,I2,rx,q2⟩=>aA (hi pins s2 σ H2 _ I2 q2) fun iv s3 ⟨y,H3,I3,ry,a,H4,ex,g,q3⟩=>?_) hs;subst ex;obtain rfl:u=Value.ref a:=rx;exact GN hu I3 g ry rv fun s4 I4=>⟨σ,H4,I4,q3⟩
end
theorem AU(h:Heap)(hb:sysModules<h.objs.size):bj P w H (h.push {cls:=.type "dict",data:=.dict #[]}) h.objs.size (.dK []):=
 ⟨bK _,beq_eq_false_iff_ne.mpr (dM (bP hb)),[],.nil,Heap.DictOf.new h⟩
theorem AV(h:Heap)(hb:sysModules<h.objs.size):bj P w H (h.push {cls:=.type "dict",data:=.dict #[]}) h.objs.size (.dT []):=
 ⟨bK _,beq_eq_false_iff_ne.mpr (dM (bP hb)),[],.nil,_,#[],0,cP _ rfl,⟨rfl,rfl,rfl⟩,rfl,rfl,List.nodup_nil⟩
def GX:TE:=fun _ H Q=>∀p,H p=none→Q (.ref p) (upd H p (.dK []))
def GY:TE:=fun _ H Q=>∀p,H p=none→Q (.ref p) (upd H p (.dT []))
section
variable {X:Cx} {pos:Pos}
theorem GZ:PE X (.Dict [] [] pos) GX:=fun pins s σ H Q I h=>wpAny_Dict_empty ⟨.ref s.heap.objs.size,_,I.laid (a:=s.heap.objs.size) (o:=.dK []) (t':=s.toks) (fun _ _ q=>bA _ q) (ar _) (AU s.heap I.big),rfl,h _ (I.ao.fresh (ar _))⟩
theorem AW:PE X (.Dict [] [] pos) GY:=fun pins s σ H Q I h=>wpAny_Dict_empty ⟨.ref s.heap.objs.size,_,I.laid (a:=s.heap.objs.size) (o:=.dT []) (t':=s.toks) (fun _ _ q=>bA _ q) (ar _) (AV s.heap I.big),rfl,h _ (I.ao.fresh (ar _))⟩
end
def v9:List (TE×TE)→St→Hp→(List (V×V)→Hp→Prop)→Prop
 | [],_,H,Q=>Q [] H
 | (tk,tv)::r,σ,H,Q=>tk σ H fun x H1=>tv σ H1 fun y H2=>v9 r σ H2 fun ps H3=>Q ((x,y)::ps) H3
abbrev VV:List (V×V)→List (Value×Value)→Prop:=Paired fun p q=>RelV p.1 q.1∧RelV p.2 q.2
def r6(X:Cx)(pos:Pos)(keys:List (Option Expr))(values:List Expr)(jb:List (TE×TE)):Prop:=
 ∀(pins:aC) (s:Shared) (σ:St) (H:Hp) (Q:List (V×V)→Hp→Prop),Inv X pins σ H s→v9 jb σ H Q→
  wpAny (model X.prog X.w) X.A (evalPairs (pairTrees keys values X.env pos)) (fun vs s'=>∃ps H',Inv X pins σ H' s'∧VV ps vs∧Q ps H') X.xe s
theorem G0:r6 X pos [] [] []:=fun pins s σ H Q I h=>pairTrees_nil_walk ⟨[],H,I,.nil,h⟩
variable {jb:List (TE×TE)}
theorem G1{k v:Expr}{ks:List (Option Expr)}{vs:List Expr}{tk tv:TE}(hk:PE X k tk)(hv:PE X v tv)(hr:r6 X pos ks vs jb) :
  r6 X pos (some k::ks) (v::vs) ((tk,tv)::jb):=fun pins s σ H Q I h=>
 pairTrees_cons_walk (aA (hk pins s σ H _ I h) fun u s1 ⟨x,H1,I1,rx,q1⟩=>aA (hv pins s1 σ H1 _ I1 q1) fun w2 s2 ⟨y,H2,I2,ry,q2⟩=>aA (hr pins s2 σ H2 _ I2 q2) fun ws s3 ⟨ps,H3,I3,rel,q3⟩=>⟨(x,y)::ps,H3,I3,.cons ⟨rx,ry⟩ rel,q3⟩)
def jP(kvs more:List (Key×V)):List (Key×V):=more.foldl (fun acc kv=>putK acc kv.1 kv.2) kvs
theorem KV.merge:∀{more:List (Key×V)} {rs:List (Key×Value)} {kvs:List (Key×V)} {vs:List (Key×Value)},KV more rs→KV kvs vs→KV (jP kvs more) (merged vs rs):=by
 intro more rs kvs vs r;unfold KV at r
 induction r generalizing kvs vs with
 | nil=>intro q;exact q
 | @cons p q ps qs h t ih=>
  intro r0;have e:KV (putK kvs p.1 p.2) (stored vs q.1 q.2):=by have:=r0.put p.1 h.2;rw [←h.1];exact this
  exact ih e
theorem AX:∀(more kvs:List (Key×V)),(jP kvs more).length≤kvs.length+more.length
 | [],kvs=>by show kvs.length≤kvs.length+0;omega
 | p::r,kvs=>by have h1:=AX r (putK kvs p.1 p.2);have h2:=rY kvs p.1 p.2;show (jP (putK kvs p.1 p.2) r).length≤_;rw [du];omega
theorem AY{P:Program}{w:World}:∀{kvs:List (Key×V)} {ws:List (Value×Value)},VV (kvs.map fun kv=>(kV kv.1,kv.2)) ws→∃rs,Carries (dO P w) ws rs∧KV kvs rs
 | [],_,r=>by rw [oj] at r;cases r;exact ⟨[],True.intro,.nil⟩
 | p::kvs,_,r=>by
  rw [iI] at r;cases r with
  | @cons a b as bs h t=>obtain ⟨rs,c,q⟩:=AY (P:=P) (w:=w) t;obtain ⟨b1,b2⟩:=b;exact ⟨(p.1,b2)::rs,⟨mY h.1,rfl,c⟩,.cons ⟨rfl,h.2⟩ q⟩
def G2(jb:List (TE×TE)):TE:=fun σ H Q=>∀p,H p=none→v9 jb σ (upd H p (.dK [])) fun ps H2=>H2 p=some (.dK [])∧∃kvs:List (Key×V),ps=kvs.map (fun kv=>(kV kv.1,kv.2))∧kvs.length≤15∧Q (.ref p) (upd H2 p (.dK (jP [] kvs)))
theorem G3{keys:List (Option Expr)}{values:List Expr}(h:r6 X pos keys values jb)(va:keys.all (·.isSome)=true)(hl:keys.length=values.length)(h0:keys≠[])
  (G4:keys.length≤15):PE X (.Dict keys values pos) (G2 jb):=by
 intro pins s σ H Q I q;have hn:=I.ao.fresh (ar s.heap.objs.size);have I1:=I.laid (a:=s.heap.objs.size) (o:=.dK []) (h':=s.heap.push {cls:=.type "dict",data:=.dict #[]}) (t':=s.toks) (fun _ _ q=>bA _ q) (ar _) (AU s.heap I.big);refine wpAny_Dict_walk (knd:=dO X.prog X.w) va hl h0 G4 (aA (h pins _ σ _ _ I1 (q _ hn)) fun ws s2 ⟨ps,H2,I2,rel,e,kvs,ep,lk,q2⟩=>?_);subst ep;obtain ⟨rs,c,rk⟩:=AY (P:=X.prog) (w:=X.w) rel;obtain ⟨z,hd,Nv,r0,dd⟩:=AQ I2.ao e;cases r0;refine ⟨rs,c,dd,fun h' fU hs=>⟨.ref s.heap.objs.size,_,?_,rfl,q2⟩⟩;have hz:(jP [] kvs).length≤sizeLine:=by have h1:=AX kvs [];rw [oi] at h1;rw [gm];omega
 have he:∃q,h'.get? s.heap.objs.size=some q:=let ⟨q,_,_,hq,_⟩:=fU;⟨q,hq⟩
 exact rZ I2 (by rw [e];exact True.intro) hs he (AR hz hd (rk.merge .nil) fU)
section
variable {X:Cx} {pins:aC} {σ:St} {H:Hp} {s:Shared} {a:Addr} {y d:V} {u r:Value} {o:Option V} {A:Around} {E:aw}
end
section
variable {X:Cx} {o e f:Expr} {apos eh:Pos} {td ty tx:TE}
end
section
variable {X:Cx} {pins:aC} {σ:St} {H:Hp} {s:Shared} {a:Addr} {kvs:List (Key×V)} {A:Around} {E:aw}
end
section
variable {X:Cx} {pins:aC} {σ:St} {H:Hp} {s:Shared} {a:Addr} {y:V} {u:Value} {A:Around} {E:aw}
end
end L2
namespace rf
open PySem PySem.W PySem.Calls PyProof.Rows
section
variable {prog:Program} {w:World} {A:Around} {E:aw} {s:Shared} {K:Frag}
end
end rf
namespace L2
open PySem PySem.Spec PyProof.Rows
section
variable {P:Program} {w:World} {K:aB} {mg:bT} {base:Heap}
end
section
variable {X:Cx}
end
section
variable {κ:Type} [DecidableEq κ]
end
def v_(o:Obj):Nat:=match o.data with
 | .dict _ ep=>ep
 | _=>0
def fI(a:Addr)(o:Obj)(kvs:List (Key×V)):It:=
 ⟨fun i H=>H a=some (.bh o (.dK kvs))∧i<kvs.length,fun i H x H'=>H'=H∧∃kv,kvs[i]?=some kv∧x=kV kv.1,fun i H=>H a=some (.bh o (.dK kvs))∧kvs.length≤i⟩
theorem G5{k:Key}{v:Value}(h:ky k v=true):RelV (kV k) v:=by
 rcases g8 h with ⟨i,t,rfl,rfl⟩ | ⟨x,t,rfl,rfl⟩;·exact ⟨t,rfl⟩
 ·exact ⟨t,rfl⟩
theorem AZ{kvs:List (Key×V)}{vs:List (Key×Value)}:∀{i:Nat} {kv:Key×V},KV kvs vs→kvs[i]?=some kv→∃v,vs[i]?=some (kv.1,v)
 | _,_,.nil,h=>by simp at h
 | 0,kv,.cons (b:=b) r _,h=>by simp at h;subst h;obtain ⟨k,v⟩:=b;have e:_=k:=r.1;exact ⟨v,by rw [e];rfl⟩
 | i+1,kv,.cons _ t,h=>by simp at h;obtain ⟨v,e⟩:=AZ t h;exact ⟨v,by simpa using e⟩
section
variable {X:Cx} {pins:aC} {σ:St} {H:Hp} {s:Shared}
theorem Inv.wa{a:Addr}{o:Obj}{kvs:List (Key×V)}(I:Inv X pins σ H s)(h:H a=some (.bh o (.dK kvs))):∃vs,KV kvs vs∧s.heap.DictAt (dO X.prog X.w) a vs (v_ o):=by obtain ⟨g,_,_,vs,r,o',es,ep,g',c,d,rest⟩:=(show bj X.prog X.w H s.heap a (.bh o (.dK kvs)) from I.ao a _ h);rw [g] at g';cases g';refine ⟨vs,r,o,es,g,c,?_,rest⟩;rw [d];unfold v_;rw [d]
end
theorem G6{P:Program}{w:World}{K:aB}{tg:Expr}(a it:Addr)(o:Obj)(kvs:List (Key×V)):Turn P w K tg (fI a o kvs) [it] it (fun i h=>h.IsKeyIter it a i kvs.length (v_ o)) where
 mem:=by simp
 obj:=fun i h st b hb=>by
  have e:b=it:=by simpa using hb
  subst e;obtain ⟨o,e,c,d⟩:=st;exact ⟨o,e,fun v z=>by rw [d] at z;cases z⟩
 keep:=fun i h h' st k=>by obtain ⟨o,e,c,d⟩:=st;exact ⟨o,k it (by simp) o e,c,d⟩
 item:=by
  intro X hP hw hK hc i pins s σ H E I hf st hg;subst hP hw hK;obtain ⟨eH,hi⟩:=hg;obtain ⟨vs,r,hm⟩:=I.wa eH;have lr:kvs.length=vs.length:=Paired.length r;have ek:kvs[i]?=some kvs[i]:=by simp [hi]
  obtain ⟨v,ev⟩:=AZ r ek;obtain ⟨f0,f1,f2,f3,f4,f5⟩:=hf it (by simp)
  rw [lr] at st;refine wpAny_pyNext_dict_item st hm ev fun key h' hk aj sb=>?_;have I1:Inv X pins σ H {s with heap:=h'}:=I.turned (t':=s.toks) (fun b o hb e=>(sb.2 b hb).trans e) f0 f1 f3 f4 f5;obtain ⟨o',e,c,d⟩:=id aj;rw [←lr] at aj;exact ⟨key,rfl,qU (s:={s with heap:=h'}) e c d (by decide) ⟨kV kvs[i].1,H,I1,G5 hk,⟨rfl,_,ek,rfl⟩,aj,fun b hb=>(hf b hb).1⟩⟩
 done:=by
  intro X hP hw hK hc i pins s σ H E I hf st hg;subst hP hw hK;obtain ⟨eH,hi⟩:=hg;obtain ⟨vs,r,hm⟩:=I.wa eH;have lr:kvs.length=vs.length:=Paired.length r;obtain ⟨f0,f1,f2,f3,f4,f5⟩:=hf it (by simp)
  rw [lr] at st;exact wpAny_pyNext_dict_end (I.ok.hd hc) st hm (by simp;omega) fun h' eb=>⟨rfl,I.turned (t':=s.toks) (fun b o hb e=>eb b o hb e) f0 f1 f3 f4 f5⟩
 self:=fun _ _ _ _ _ st h=>wpAny_pyIter_keyiter st h
section
variable {X:Cx} {tg:Expr}
def A0(tl:TE):TI:=fun σ H R=>tl σ H fun x H1=>∃a kvs,x=.ref a∧((H1 a=some (.dK kvs)∧∀o,R (fI a o kvs) (upd H1 a (.bh o (.dK kvs))))∨∃o,H1 a=some (.bh o (.dK kvs))∧R (fI a o kvs) H1)
theorem A1{l:Expr}{tl:TE}(hl:PE X l tl):PI X tg l (A0 tl):=by
 intro pins s σ H R I h;refine aA (hl pins s σ H _ I h) fun v s1 ⟨x,H1,I1,r1,q1⟩=>?_;obtain ⟨a,kvs,e,q⟩:=q1;subst e;cases r1;have main:∀{H2:Hp} {o:Obj},Inv X pins σ H2 s1→H2 a=some (.bh o (.dK kvs))→R (fI a o kvs) H2→wpAny (model X.prog X.w) X.A (pyIter (.ref a)) (uO X pins σ tg R) X.xe s1:=fun{H2 o} I2 eH q=>by
  obtain ⟨vs,r,hm⟩:=I2.wa eH;obtain ⟨_,_,sys,_⟩:=(show bj X.prog X.w H2 s1.heap a (.bh o (.dK kvs)) from I2.ao a _ eH);have lr:kvs.length=vs.length:=Paired.length r;refine wpAny_pyIter_dict sys hm ?_;refine ⟨s1.heap.objs.size,[s1.heap.objs.size],_,_,H2,rfl,I2.kept (t':=s1.toks) fun b o e=>bA _ e,G6 a _ o kvs,⟨_,cP _ rfl,rfl,by rw [lr];rfl⟩,fun b hb=>?_,q⟩
  have e:b=s1.heap.objs.size:=by simpa using hb
  subst e;exact I2.qT (ar _) (I2.ao.fresh (ar _))
 rcases q with ⟨eH,q⟩ | ⟨o,eH,q⟩
 ·obtain ⟨hz,sys,vs,r,o,es,ep,g,c,d,rest⟩:=(show bj X.prog X.w H1 s1.heap a (.dK kvs) from I1.ao a _ eH)
  refine main (H2:=upd H1 a (.bh o (.dK kvs))) ?_ ax (q o);exact I1.write (t':=s1.toks) (x:=a) (e:=a) (by rw [eH];exact trivial) (.inl rfl) (fun b u _ e=>e) ⟨o,g⟩ ⟨g,hz,sys,vs,r,o,es,ep,g,c,d,rest⟩
 ·exact main I1 eH q
end
theorem A2:∀{us:List Value} {ns:List Int},IntsAre us ns→Vals (ns.map V.int) us
 | _,_,.nil=>.nil
 | _,_,.cons a u r=>.cons ⟨u,rfl⟩ (A2 r)
end L2
namespace My
open PySem L2
def dk(ks:List Nat):List (Key×V):=ks.map fun k:Nat=>((Sum.inl (k:Int):Key),V.bl true)
def bX(ks:List Nat)(k:Nat):List Nat:=if k∈ks then ks else ks++[k]
theorem A3{a b:Nat}:((Sum.inl (a:Int):Key)=Sum.inl (b:Int))↔a=b:=by
 constructor
 ·intro h
  have:=Sum.inl.inj h;omega
 ·rintro rfl;rfl
theorem r9(ks:List Nat):(dk ks).length=ks.length:=aW _
theorem G7(ks:List Nat)(k:Nat):((dk ks).any fun kv=>decide (kv.1=(Sum.inl (k:Int):Key)))=decide (k∈ks):=by
 rw [ma,List.any_eq_true,g6];constructor
 ·rintro ⟨kv,h1,h2⟩
  obtain ⟨j,hj,rfl⟩:=dN.mp h1;have:=A3.mp (gu h2);subst this;exact hj
 ·intro h
  exact ⟨_,dN.mpr ⟨k,h,rfl⟩,b4 rfl⟩
theorem A4(ks:List Nat)(k:Nat):putK (dk ks) (Sum.inl (k:Int):Key) (V.bl true)=dk (bX ks k):=by
 unfold putK bX;rw [G7];by_cases h:k∈ks
 ·rw [ae (b4 h),ae h]
  unfold dk;rw [fP];refine ot fun j _=>?_;show (if _ then _ else _)=_
  split <;> rfl
 ·rw [aa (by rw [g6];exact h),aa h]
  unfold dk;rw [gq];rfl
theorem G8(ks:List Nat)(k:Nat):dE (dk ks) (Sum.inl (k:Int):Key)=if k∈ks then some (V.bl true) else none:=by
 induction ks with
 | nil=>simp [dk,dE]
 | cons j r ih=>
  by_cases h:j=k
  ·subst h
   rw [ae (dY ..)];exact pL rfl
  ·show dE ((Sum.inl (j:Int),V.bl true)::dk r) _=_
   rw [pM (fun e=>h (A3.mp e)),ih];by_cases m:k∈r;·rw [ae m,ae (dZ _ m)]
   ·rw [aa m,aa (fun x=>by rcases cu.mp x with e | e;exact h e.symm;exact m e)]
variable {ks:List Nat} {k j:Nat}
theorem fJ:j∈bX ks k↔j∈ks∨j=k:=by
 unfold bX;by_cases h:k∈ks
 ·rw [ae h]
  constructor;·exact .inl
  ·rintro (e | rfl)
   ·exact e
   ·exact h
 ·rw [aa h,dr,bY]
theorem G9(h:ks.Nodup):(bX ks k).Nodup:=by
 unfold bX;by_cases m:k∈ks;·rw [ae m];exact h
 ·rw [aa m]
  refine List.nodup_append.mpr ⟨h,(by simp),fun a ha b hb=>?_⟩
  rw [bY] at hb;subst hb;rintro rfl;exact m ha
def gQ(n:Nat)(ks:List Nat):Prop:=ks.Nodup∧∀k∈ks,k<n
theorem gQ.nil(n:Nat):gQ n []:=⟨List.nodup_nil,fun _ h=>by cases h⟩
variable {n:Nat}
theorem gQ.add(h:gQ n ks)(hk:k<n):gQ n (bX ks k):=⟨G9 h.1,fun j hj=>by
 rcases fJ.mp hj with e | rfl;·exact h.2 j e
 ·exact hk⟩
theorem A5:∀{n:Nat} {ks:List Nat},ks.Nodup→(∀k∈ks,k<n)→ks.length≤n
 | 0,ks,_,h=>by
  cases ks with
  | nil=>exact ar _
  | cons a r=>exact absurd (h a (dY ..)) (Nat.not_lt_zero _)
 | n+1,ks,nd,h=>by
  have e:=A5 (n:=n) (ks:=ks.erase n) (nd.erase n) (fun k hk=>by have m:=(List.Nodup.mem_erase_iff nd).mp hk;have:=h k m.2;have:=m.1;omega)
  by_cases hm:n∈ks
  ·have:=List.length_erase_of_mem hm
   omega
  ·rw [List.erase_of_not_mem hm] at e
   omega
theorem gQ.len(h:gQ n ks):ks.length≤n:=A5 h.1 h.2
structure fh (H:Hp) (D:Addr) (n:Nat) (ds:Nat→Addr) (un:Nat→Prop) (f:Nat→List Nat):Prop where
 lst:H D=some (.lst ((List.range n).map fun i=>V.ref (ds i)))
 inj:∀i j,i<n→j<n→ds i=ds j→i=j
 ne:∀i,i<n→ds i≠D
 at':∀i,i<n→un i→H (ds i)=some (.dK (dk (f i)))
 pl:∀i,i<n→gQ n (f i)
def fK(f:Nat→List Nat)(i:Nat)(ks:List Nat):Nat→List Nat:=fun j=>if j=i then ks else f j
variable {H:Hp} {D:Addr} {ds:Nat→Addr} {f:Nat→List Nat} {i:Nat}
theorem fh.put{un:Nat→Prop}(h:fh H D n ds un f)(hi:i<n)(hj:j<n)(ui:un i)(hn:n≤1000) :
  m4 H (ds i) (.int (j:Int)) (.bl true) (upd H (ds i) (.dK (dk (bX (f i) j))))∧fh (upd H (ds i) (.dK (dk (bX (f i) j)))) D n ds un (fK f i (bX (f i) j)):=by
 refine ⟨.inl ⟨dk (f i),Sum.inl (j:Int),h.at' i hi ui,rfl,?_,by rw [A4]⟩,?_,h.inj,h.ne,fun k hk uk=>?_,fun k hk=>?_⟩
 ·rw [r9]
  have:=(h.pl i hi).len;exact fk this (fk hn (by rw [gm];decide))
 ·rw [aT (dM (h.ne i hi))]
  exact h.lst
 ·unfold fK
  by_cases e:k=i
  ·subst e
   rw [ae rfl,ax]
  ·rw [aa e,aT (fun z=>e (h.inj k i hk hi z))]
   exact h.at' k hk uk
 ·unfold fK
  by_cases e:k=i;·rw [ae e];exact (h.pl i hi).add hj
  ·rw [aa e];exact h.pl k hk
theorem fh.ix{un:Nat→Prop}(h:fh H D n ds un f)(hi:i<n):ig ((List.range n).map fun i=>V.ref (ds i)) (i:Int)=some (V.ref (ds i)):=
 uZ (by rw [df,me hi];rfl)
def f_(n:Nat)(L:aK):Prop:=∀p∈L,0≤p.1∧p.1<(n:Int)∧0≤p.2∧p.2<(n:Int)
def fi(n:Nat)(L:aK)(f:Nat→List Nat):Prop:=∀i j:Nat,i<n→(j∈f i↔((i:Int),(j:Int))∈L∨((j:Int),(i:Int))∈L)
theorem fi.nil(n:Nat):fi n [] (fun _=>[]):=fun i j _=>by simp
theorem fi.more{L:aK}(h:fi n L f)(hi:i<n)(hj:j<n):fi n (L++[((i:Int),(j:Int))]) (fK (fK f i (bX (f i) j)) j (bX (fK f i (bX (f i) j) j) i)):=fun a b ha=>by
 have e1:∀x y:Nat,y∈fK f i (bX (f i) j) x↔y∈f x∨(x=i∧y=j):=fun x y=>by
  unfold fK;by_cases e:x=i
  ·subst e
   rw [ae rfl,fJ];simp
  ·rw [aa e]
   simp [e]
 have e2:b∈fK (fK f i (bX (f i) j)) j (bX (fK f i (bX (f i) j) j) i) a↔b∈fK f i (bX (f i) j) a∨(a=j∧b=i):=by
  unfold fK;by_cases e:a=j
  ·subst e
   rw [ae rfl,fJ];simp
  ·rw [aa e]
   simp [e]
 rw [e2,e1,h a b ha];simp only [dr,bY,Prod.mk.injEq];constructor
 ·rintro ((e | e) | ⟨rfl,rfl⟩)
  ·rcases e with e | e
   ·exact .inl (.inl e)
   ·exact .inr (.inl e)
  ·exact .inl (.inr ⟨by omega,by omega⟩)
  ·exact .inr (.inr ⟨rfl,rfl⟩)
 ·rintro ((e | ⟨e1,e2⟩) | (e | ⟨e1,e2⟩))
  ·exact .inl (.inl (.inl e))
  ·exact .inl (.inr ⟨by omega,by omega⟩)
  ·exact .inl (.inl (.inr e))
  ·exact .inr ⟨by omega,by omega⟩
def G_:Sp:=fun vs H Q _=>∃(t:Addr) (n:Nat) (L:aK),vs=[.ref t]∧eJ H t n L∧f_ n L∧n≤1000 ∧
 ∀(H':Hp) (D:Addr) (ds:Nat→Addr) (f:Nat→List Nat),ak H H'→H D=none→(∀i,i<n→H (ds i)=none)→fh H' D n ds (fun _=>True) f→fi n L f→Q (.ref D) H'
end My
namespace L2
open PySem PySem.Spec PyProof.Rows
end L2
namespace My
open PySem L2
def iN(k:Nat):Int:=(k:Int)
theorem take_snoc{α:Type}{xs:List α}{i:Nat}{x:α}(h:xs[i]?=some x):xs.take (i+1)=xs.take i++[x]:=by rw [oz,h];rfl
variable {H:Hp} {n:Nat}
theorem fh.mono{H':Hp}{D:Addr}{ds:Nat→Addr}{un:Nat→Prop}{f:Nat→List Nat}(h:fh H D n ds un f)(s:ak H H'):fh H' D n ds un f:=⟨s _ _ h.lst,h.inj,h.ne,fun i hi ui=>s _ _ (h.at' i hi ui),h.pl⟩
variable {a:Addr}
theorem Hh{o:Obj}{kvs:List (Key×V)}{H1:Hp}(h:H1 a=some (.bh o (.dK kvs))):i6 (fI a o kvs) (kvs.map fun kv=>kV kv.1) H1 where
 go:=fun i Hc s hi=>⟨s _ _ h,by simpa using hi⟩
 cI:=fun i Hc x H' s y=>⟨y.1,fun _=>by obtain ⟨kv,e,rfl⟩:=y.2;rw [df,e];rfl⟩
 stop:=fun i Hc s hi=>⟨s _ _ h,by simpa using hi⟩
theorem Hi(ks:List Nat):(dk ks).map (fun kv=>kV kv.1)=ks.map fun k:Nat=>V.int (k:Int):=by unfold dk;rw [fP];rfl
theorem Hj(ks:List Nat):(List.range ks.length).map (fun i=>ks.getD i 0)=ks:=by
 refine qG (by simp) fun i h1 h2=>?_
 simp [fO,h2]
theorem Hk(ks:List Nat)(pr:Nat→Bool):((List.range ks.length).filter fun i=>pr (ks.getD i 0)).map (fun i=>ks.getD i 0)=ks.filter pr:=by have e:=List.filter_map (f:=fun i=>ks.getD i 0) (l:=List.range ks.length) (p:=pr);rw [Hj] at e;exact e.symm
variable {ρ:St→St} {tt:TT} {te:TE} {σ:St} {Q:VK}
theorem Hl{ks:List Nat}{ob:Obj}(h:H a=some (.bh ob (.dK (dk ks))))(pr:Nat→Bool)(hl:ks.length<sizeLine)
  (test:∀k∈ks,∀(Hc:Hp) (R:Bool→Hp→Prop),ak H Hc→R (pr k) Hc→tt (some (.int (k:Int))::ρ σ) Hc R)
  (step:∀k∈ks,∀(Hc:Hp) (R:VK),R (.int (k:Int)) Hc→te (some (.int (k:Int))::ρ σ) Hc R)
  (fin:∀D Hc,H D=none→ak H Hc→Hc D=some (.lst ((ks.filter pr).map fun k:Nat=>V.int (k:Int)))→Q (.ref D) Hc):ip (fun _ H R=>R (fI a ob (dk ks)) H) ρ tt te σ H Q:=by
 have at':∀{i:Nat} {x:V},(ks.map fun k:Nat=>V.int (k:Int))[i]?=some x→i<ks.length∧x=.int ((ks.getD i 0:Nat):Int)∧ks.getD i 0∈ks:=fun{i x} hx=>by
  have hi:i<ks.length:=by have:=(cw.mp hx).1;simpa using this
  rw [df] at hx;simp [hi] at hx;rw [getD_at hi];exact ⟨hi,hx.symm,gp hi⟩
 refine GF (xs:=ks.map fun k:Nat=>V.int (k:Int)) (fun i=>pr (ks.getD i 0)) (fun R k=>k _ (by rw [←Hi];exact Hh h)) (by rw [aW];exact hl) (fun _ i y _=>y=.int ((ks.getD i 0:Nat):Int)) (fun _ _ _ _ _ _ h _ _=>h) ?_ ?_ ?_
 ·intro i x hx Hc R sc hR
  obtain ⟨_,rfl,m⟩:=at' hx;exact test _ m Hc R sc hR
 ·intro D i x hx Hc R sc _ kc
  obtain ⟨_,rfl,m⟩:=at' hx;exact step _ m Hc R (kc _ Hc (ak.refl _) rfl)
 ·intro D ys Hc nD sc ly hP eD
  refine fin D Hc nD sc ?_;rw [eD,←Hk ks pr,fP];rw [aW] at ly hP
  congr 2
  refine qG (by simpa using ly) fun k h1 h2=>?_
  have h3:k<((List.range ks.length).filter fun i=>pr (ks.getD i 0)).length:=by simpa using h2
  rw [List.getElem_map];exact hP k _ _ (cx h1) (cx h3)
theorem Hm{g:Nat→V}{p:Nat}(h:p<n):ig ((List.range n).map g) (p:Int)=some (g p):=uZ (by rw [df,me h];rfl)
theorem Hn{wi:TI}(h:wi σ H fun J H1=>ip (fun _ H R=>R J H) ρ tt te σ H1 Q):ip wi ρ tt te σ H Q:=h
end My
namespace L2
open PySem PySem.Spec PyProof.Rows
section
variable {X:Cx} {pins:aC} {σ:St} {H:Hp} {s:Shared}
end
end L2
namespace My
open PySem L2
end My
namespace L2
open PySem PySem.Spec PyProof.Rows
theorem r_{X:Cx}{E:XK}(L:mQ X E):PassesOwn (model X.prog X.w) X.A X.env X.xe:=by rw [L.xe];exact PassesOwn.leaving
end L2
namespace My
open PySem L2
def Ho:Sp:=fun vs H Q _=>∃m:Nat,vs=[.int (m:Int)]∧m≤1000∧Q (.int ((m:Int)*m+3*m+1)) H
def Hq:Sp:=fun vs H Q _=>∃(t:Addr) (n:Nat) (L:aK),vs=[.ref t]∧eJ H t n L∧n≤9∧Q .aI H
end My
namespace L2
open PySem PySem.Spec PyProof.Rows
def A6(K:aB):R2:=fun x y H Q=>∃a b xs ys,x=.ref a∧y=.ref b∧cE K H a xs∧cE K H b ys∧ys≠[]∧xs.length+ys.length≤sizeLine ∧
 (xs=[]→Q (.ref b) H)∧(xs≠[]→∀p,H p=none→Q (.ref p) (upd H p (.tup (xs++ys))))
theorem Hr{X:Cx}:cg X (binaryOp .Add) (A6 X.K):=by
 intro pins s σ H x y v u Q I rx ry h;by_cases hx:∃a b xs ys,x=.ref a∧y=.ref b∧cE X.K H a xs∧cE X.K H b ys∧xs=[]∧Q (.ref b) H
 ·obtain ⟨a,b,xs,ys,rfl,rfl,ha,hb,rfl,q⟩:=hx
  cases rx;cases ry;obtain ⟨ai,r1,p1,_⟩:=I.tuple ha;obtain ⟨fC,r2,p2,_⟩:=I.tuple hb;have e0:ai=[]:=r1.rb.mpr rfl;subst e0;obtain ⟨⟨cls,dd,data,sl⟩,ho,hc,n,hd⟩:=id p1;obtain ⟨⟨zA,jC,data2,jD⟩,ie,dQ,n2,hd2⟩:=id p2;simp only at hc hd dQ hd2;subst hc hd dQ hd2
  exact concat_meets ⟨_,ho,rfl⟩ ⟨_,ie,rfl⟩ noFill_tuple_add seq_tuple_add uf ug (uh _ _)
   (tuple_addW0 a b _ fC.toArray n n2 dd jC sl jD (by simp)) ⟨ho,ie,⟨.ref b,H,I,rfl,q⟩⟩
 ·obtain ⟨a,b,xs,ys,rfl,rfl,ha,hb,hy,hz,q1,q2⟩:=h
  have ne:xs≠[]:=fun z=>hx ⟨a,b,xs,ys,rfl,rfl,ha,hb,z,q1 z⟩;exact El pins s σ H _ _ v u Q I rx ry ⟨a,b,xs,ys,rfl,rfl,ha,hb,ne,hz,fun z=>absurd z hy,fun _=>q2 ne⟩
end L2
namespace My
open PySem L2
end My
namespace L2
open PySem PySem.Spec PyProof.Rows
theorem A7{X:Cx}{K:aB}(hk:X.K=K:=by rfl):cg X (binaryOp .Add) (A6 K):=by subst hk;exact Hr
end L2
namespace My
open PySem L2
end My
namespace L2
open PySem PySem.Spec PyProof.Rows
end L2
namespace My
open PySem L2
inductive eK (b5:Nat→Nat→Prop) (cC:Nat→Prop) (s:Nat):Nat→Prop where
 | start:eK b5 cC s s
 | step {a b:Nat}:eK b5 cC s a→(a=s∨cC a)→b5 a b→eK b5 cC s b
structure cT (n:Nat) (b5:Nat→Nat→Prop) (cC:Nat→Prop) (s:Nat) (here:Option Nat) (dn:Nat→Prop) (ks ws:List Nat):Prop where
 pl:gQ n ks
 st:s∈ks
 rc:∀k∈ks,eK b5 cC s k
 wt:∀w∈ws,w∈ks∧(w=s∨cC w)
 cl:∀k∈ks,(k=s∨cC k)→k∈ws∨∀b,b5 k b→b∈ks∨(here=some k∧¬dn b)
variable {n:Nat} {b5:Nat→Nat→Prop} {cC:Nat→Prop} {s:Nat}
variable {dn:Nat→Prop}
theorem cT.start(hs:s<n):cT n b5 cC s none dn [s] [s]:=
 ⟨⟨by simp,fun k hk=>by rw [bY.mp hk];exact hs⟩,bY.mpr rfl,fun k hk=>by rw [bY.mp hk];exact .start,fun w hw=>⟨hw,.inl (bY.mp hw)⟩,fun k hk _=>.inl hk⟩
variable {ks ws:List Nat} {h:Nat}
theorem cT.pop(k:cT n b5 cC s none dn ks (ws++[h])):cT n b5 cC s (some h) (fun _=>False) ks ws:=
 ⟨k.pl,k.st,k.rc,fun w hw=>k.wt w (qy _ hw),fun x hx ox=>by
  rcases k.cl x hx ox with e | e
  ·rcases dr.mp e with e | e
   ·exact .inl e
   ·exact .inr fun b _=>.inr ⟨by rw [bY.mp e],fun z=>z⟩
  ·exact .inr fun b hb=>.inl ((e b hb).resolve_right fun z=>by cases z.1)⟩
variable {b:Nat}
theorem cT.old(k:cT n b5 cC s (some h) dn ks ws)(hb:b∈ks):cT n b5 cC s (some h) (fun x=>dn x∨x=b) ks ws:=
 ⟨k.pl,k.st,k.rc,k.wt,fun x hx ox=>by
  rcases k.cl x hx ox with e | e;·exact .inl e
  ·refine .inr fun c hc=>?_
   rcases e c hc with e | e;·exact .inl e
   ·by_cases z:c=b
    ·rw [z];exact .inl hb
    ·exact .inr ⟨e.1,fun q=>q.elim e.2 z⟩⟩
theorem cT.new{vs:List Nat}(k:cT n b5 cC s (some h) dn ks ws)(hb:b∉ks)(bn:b<n)(hh:h∈ks)(oh:h=s∨cC h)(ab:b5 h b)(hv:(cC b∧vs=ws++[b])∨(¬cC b∧vs=ws)):cT n b5 cC s (some h) (fun x=>dn x∨x=b) (bX ks b) vs:=by
 have bs:b≠s:=fun z=>hb (z▸k.st);have sub:∀w∈ws,w∈vs:=fun w hw=>by
  rcases hv with ⟨_,rfl⟩ | ⟨_,rfl⟩;·exact qy _ hw
  ·exact hw
 refine ⟨k.pl.add bn,fJ.mpr (.inl k.st),fun x hx=>?_,fun w hw=>?_,fun x hx ox=>?_⟩
 ·rcases fJ.mp hx with e | rfl
  ·exact k.rc x e
  ·exact .step (k.rc h hh) oh ab
 ·rcases hv with ⟨tb,rfl⟩ | ⟨_,rfl⟩
  ·rcases dr.mp hw with e | e
   ·exact ⟨fJ.mpr (.inl (k.wt w e).1),(k.wt w e).2⟩
   ·rw [bY.mp e]
    exact ⟨fJ.mpr (.inr rfl),.inr tb⟩
  ·exact ⟨fJ.mpr (.inl (k.wt w hw).1),(k.wt w hw).2⟩
 ·rcases fJ.mp hx with e | rfl
  ·rcases k.cl x e ox with e | e
   ·exact .inl (sub x e)
   ·refine .inr fun c hc=>?_
    rcases e c hc with e | e;·exact .inl (fJ.mpr (.inl e))
    ·by_cases z:c=b
     ·exact .inl (fJ.mpr (.inr z))
     ·exact .inr ⟨e.1,fun q=>q.elim e.2 z⟩
  ·rcases hv with ⟨tb,rfl⟩ | ⟨tb,rfl⟩
   ·exact .inl (cV _ (bY.mpr rfl))
   ·exact absurd ox (fun z=>z.elim bs tb)
theorem cT.next{Hs:Nat→Prop}(k:cT n b5 cC s (some h) dn ks ws)(all:∀b,b5 h b→dn b):cT n b5 cC s none Hs ks ws:=
 ⟨k.pl,k.st,k.rc,k.wt,fun x hx ox=>by
  rcases k.cl x hx ox with e | e;·exact .inl e
  ·refine .inr fun c hc=>.inl ?_
   rcases e c hc with e | ⟨e,e2⟩;·exact e
   ·cases e
    exact absurd (all c hc) e2⟩
theorem cT.done(k:cT n b5 cC s none dn ks [])(x:Nat):x∈ks↔eK b5 cC s x:=by
 refine ⟨k.rc x,fun h=>?_⟩
 induction h with
 | start=>exact k.st
 | step _ o ab ih=>
  rcases k.cl _ ih o with e | e;·cases e
  ·exact (e _ ab).resolve_right fun z=>by cases z.1
theorem Ht{ms:List Nat}(h1:ks.Nodup)(h2:ms.Nodup)(e:∀x,x∈ks↔x∈ms)(p:Nat→Bool):(ks.filter p).length=(ms.filter p).length:=by have pm:ks.Perm ms:=(qH h1 h2).mpr e;exact (pm.filter p).length_eq
theorem Hu(h:b∉ks):(bX ks b).length=ks.length+1:=by unfold bX;rw [aa h,dg];rfl
end My
namespace L2
open PySem PySem.Spec PyProof.Rows
theorem A8{X:Cx}{K:aB}(hk:X.K=K:=by rfl):cg X (compareOp .NotIn) (u0 K true):=by subst hk;exact EA
end L2
namespace My
open PySem L2
def gc(n:Nat)(f:Nat→List Nat)(a b:Nat):Prop:=a<n∧b∈f a
def iy(n:Nat)(f:Nat→List Nat)(done:List Nat)(p:Nat)(c:Nat):Prop:=∃ks:List Nat,gQ n ks∧(∀x,x∈ks↔eK (gc n f) (·∈done) p x)∧c=(ks.filter fun q=>!decide (q=p) && !decide (q∈done)).length
def Hv:Sp:=fun vs H Q _=>∃(D d:Addr) (n:Nat) (ds:Nat→Addr) (f:Nat→List Nat) (done:List Nat) (p:Nat),vs=[.ref D,.ref d,.int (p:Int)]∧fh H D n ds (fun _=>True) f∧H d=some (.tup (done.map fun k:Nat=>V.int (k:Int)))∧done.length≤1000∧p<n∧n≤60 ∧
 ∀(H':Hp) (r:Addr) (xs:List V),(∀b o,H b=some o→(∀i,i<n→b≠ds i)→H' b=some o)→H' r=some (.lst xs)→iy n f done p xs.length→Q (.ref r) H'
variable {a:Addr} {σ:St} {H:Hp}
theorem Hw{ob:Obj}{ks:List Nat}{g:TG}{tb:TS}{D:Ends}(Pv:Nat→St→Hp→Prop)(h0:Pv 0 σ H)(hl:∀i σ H,i≤ks.length→Pv i σ H→H a=some (.bh ob (.dK (dk ks))))
  (hs:∀(i k:Nat) σ H,ks[i]?=some k→Pv i σ H→g (.int (k:Int)) σ H fun σ2 H2=>tb {D with nx:=Pv (i+1),ct:=Pv (i+1),bk:=D.nx} σ2 H2) (hd:∀σ H,Pv ks.length σ H→D.nx σ H) :
  ∃W:Nat→Nat→St→Hp→Prop,(∃m,W 0 m σ H)∧∀i m σ H,W i m σ H→
   ((fI a ob (dk ks)).stop i H∧D.nx σ H)∨((fI a ob (dk ks)).go i H∧∃N:St→Hp→Prop,(∀σ' H',N σ' H'→∃m',m'<m∧W (i+1) m' σ' H')∧∀x H',(fI a ob (dk ks)).cI i H x H'→g x σ H' fun σ2 H2=>tb {D with nx:=N,ct:=N,bk:=D.nx} σ2 H2):=by
 refine ⟨fun i m σ H=>m=ks.length-i∧i≤ks.length∧Pv i σ H,⟨ks.length,by simp,bK _,h0⟩,?_⟩
 rintro i m σ H ⟨rfl,hi,p⟩;have q:=hl i σ H hi p;by_cases aX:i<ks.length
 ·refine .inr ⟨⟨q,by rw [r9];exact aX⟩,Pv (i+1),fun σ' H' p'=>⟨ks.length-(i+1),by omega,rfl,aX,p'⟩,fun x H' y=>?_⟩
  obtain ⟨e,kv,ek,rfl⟩:=y;subst e;unfold dk at ek;rw [df,cx aX] at ek;cases ek;exact hs i _ σ _ (cx aX) p
 ·have e:i=ks.length:=by omega
  subst e;exact .inl ⟨⟨q,by rw [r9];exact ar _⟩,hd σ H p⟩
structure jc (H:Hp) (D:Addr) (n:Nat) (ds:Nat→Addr) (f:Nat→List Nat):Prop where
 lst:H D=some (.lst ((List.range n).map fun i=>V.ref (ds i)))
 at':∀i,i<n→H (ds i)=some (.dK (dk (f i)))∨∃ob,H (ds i)=some (.bh ob (.dK (dk (f i))))
variable {D:Addr} {n:Nat} {ds:Nat→Addr} {f:Nat→List Nat}
theorem fh.fr(h:fh H D n ds (fun _=>True) f):jc H D n ds f:=⟨h.lst,fun i hi=>.inl (h.at' i hi trivial)⟩
theorem si(done:List Nat)(k:Nat):iX (.int (k:Int)) (done.map fun k:Nat=>V.int (k:Int))=decide (k∈done):=by
 unfold iX;rw [ma,List.any_eq_true,g6];constructor
 ·rintro ⟨y,hy,e⟩
  obtain ⟨j,hj,rfl⟩:=dN.mp hy;have e:((j:Int) == (k:Int))=true:=e;rw [beq_iff_eq] at e;have:j=k:=by omega
  subst this;exact hj
 ·intro h
  exact ⟨_,dN.mpr ⟨k,h,rfl⟩,F4 rfl⟩
theorem A9(done:List Nat):(done.map fun k:Nat=>V.int (k:Int)).all gC=true:=by rw [List.all_eq_true];intro x hx;obtain ⟨j,_,rfl⟩:=dN.mp hx;rfl
variable {kvs:List (Key×V)} {R:It→Hp→Prop}
theorem HA(h:H a=some (.dK kvs)∨∃ob,H a=some (.bh ob (.dK kvs)))(k:∀(ob:Obj) (Hf:Hp),Hf a=some (.bh ob (.dK kvs))→(∀b u,b≠a→H b=some u→Hf b=some u)→R (fI a ob kvs) Hf) :
  (H a=some (.dK kvs)∧∀o,R (fI a o kvs) (upd H a (.bh o (.dK kvs))))∨∃o,H a=some (.bh o (.dK kvs))∧R (fI a o kvs) H:=by
 rcases h with e | ⟨ob,e⟩;·exact .inl ⟨e,fun o=>k o _ ax fun b u ne hb=>by rw [aT ne];exact hb⟩
 ·exact .inr ⟨ob,e,k ob H e fun _ _ _ h=>h⟩
theorem jc.keep{H':Hp}(h:jc H D n ds f)(k:∀b u,b≠a→H b=some u→H' b=some u)(nD:a≠D)(nd:∀i,i<n→ds i≠a):jc H' D n ds f:=⟨k _ _ (dM nD) h.lst,fun i hi=>by
 rcases h.at' i hi with e | ⟨ob,e⟩;·exact .inl (k _ _ (nd i hi) e)
 ·exact .inr ⟨ob,k _ _ (nd i hi) e⟩⟩
theorem jc.bh{H H':Hp}{D:Addr}{n:Nat}{ds:Nat→Addr}{f:Nat→List Nat}(h:jc H D n ds f){j:Nat}{ob:Obj}(k:∀b u,b≠ds j→H b=some u→H' b=some u)(hj:j<n)(e:H' (ds j)=some (.bh ob (.dK (dk (f j)))))(inj:∀i j,i<n→j<n→ds i=ds j→i=j)(nD:ds j≠D):jc H' D n ds f:=⟨k _ _ (dM nD) h.lst,fun i hi=>by
 by_cases z:i=j;·subst z;exact .inr ⟨ob,e⟩
 ·rcases h.at' i hi with e | ⟨ob,e⟩
  ·exact .inl (k _ _ (fun q=>z (inj i j hi hj q)) e)
  ·exact .inr ⟨ob,k _ _ (fun q=>z (inj i j hi hj q)) e⟩⟩
def k_(n:Nat)(ds:Nat→Addr)(H H':Hp):Prop:=∀b o,H b=some o→(∀i,i<n→b≠ds i)→H' b=some o
theorem A_{tl:TE}(hp:∀Q:VK,Q (.ref a) H→tl σ H Q)(h:H a=some (.dK kvs)∨∃ob,H a=some (.bh ob (.dK kvs)))(k:∀(ob:Obj) (Hf:Hp),Hf a=some (.bh ob (.dK kvs))→(∀b u,b≠a→H b=some u→Hf b=some u)→R (fI a ob kvs) Hf):A0 tl σ H R:=hp _ ⟨a,kvs,rfl,HA h k⟩
def HB:Sp:=fun vs H Q _=>∃(t d:Addr) (n:Nat) (L:aK) (done:List Nat) (p:Nat),vs=[.ref t,.ref d,.int (p:Int)]∧eJ H t n L∧f_ n L∧n≤9∧H d=some (.tup (done.map fun k:Nat=>V.int (k:Int)))∧done.length≤1000∧p<n ∧
 ∀(H':Hp) (f:Nat→List Nat) (c:Nat),ak H H'→fi n L f→iy n f done p c→Q (.int ((c:Int)*c+3*c+1)) H'
variable {p c:Nat}
theorem iy.le{done:List Nat}(h:iy n f done p c):c≤n:=by obtain ⟨ks,pl,_,rfl⟩:=h;exact bQ (qE _ _) pl.len
theorem iy.same{L:aK}{g:Nat→List Nat}{done:List Nat}{e:Nat}(hf:fi n L f)(hg:fi n L g)(h:iy n f done p c)(k:iy n g done p e):c=e:=by
 obtain ⟨ks,pk,ik,rfl⟩:=h;obtain ⟨ms,pm,im,rfl⟩:=k;have ad:gc n f=gc n g:=by
  funext a b
  unfold gc;refine propext ⟨fun⟨x,y⟩=>⟨x,(hg a b x).mpr ((hf a b x).mp y)⟩,fun⟨x,y⟩=>⟨x,(hf a b x).mpr ((hg a b x).mp y)⟩⟩
 refine Ht pk.1 pm.1 (fun x=>?_) _;rw [ik,im,ad]
end My
namespace L2
open PySem PySem.Spec PyProof.Rows
end L2
namespace My
open PySem L2
end My
namespace L2
open PySem PySem.Spec PyProof.Rows My
structure Ba (J:It) (Z:aK) (H1:Hp):Prop where
 go:∀i Hc,ak H1 Hc→i<Z.length→J.go i Hc
 cI:∀i Hc v H',ak H1 Hc→J.cI i Hc v H'→ak Hc H'∧∀z,Z[i]?=some z→∃T,v=.ref T∧H' T=some (.tup [.int z.1,.int z.2])
 stop:∀i Hc,ak H1 Hc→Z.length≤i→J.stop i Hc
end L2
namespace My
open PySem L2
end My
namespace L2
open PySem PySem.Spec PyProof.Rows My
end L2
namespace My
open PySem L2
section
variable {b5:Nat→Nat→Prop} {cC Nw:Nat→Prop} {s t:Nat}
end
def aL(n:Nat)(L:aK)(a b:Nat):Prop:=a<n∧b<n∧(((a:Int),(b:Int))∈L∨((b:Int),(a:Int))∈L)
end My
namespace L2
open PySem PySem.Spec PyProof.Rows
section
variable {X:Cx} {a b:Expr} {rest:List Expr} {pos:Pos} {ta tb:TE}
end
end L2
namespace My
open PySem L2
end My
namespace L2
open PySem PySem.Spec PyProof.Rows
section
variable {prog:Program} {w:World} {A:Around} {E:aw} {s:Shared}
end
section
variable {prog:Program} {w:World} {A:Around} {E:aw} {s:Shared}
end
section
variable {X:Cx}
end
section
variable {prog:Program} {w:World} {A:Around} {E:aw} {s:Shared}
end
end L2
namespace My
open PySem L2
end My
namespace L2
open PySem PySem.Spec PyProof.Rows
end L2
namespace My
open PySem L2
end My
namespace L2
open PySem PySem.Spec PyProof.Rows
section
variable {X:Cx}
end
end L2
namespace My
open PySem L2
theorem Bb:∀{A B:List Nat},A.Pairwise (· < ·)→B.Pairwise (· < ·)→(∀p,p∈A↔p∈B)→A=B:=fun{A B} h1 h2 e=>by have nA:A.Nodup:=qD (fun h=>bP h) h1;have nB:B.Nodup:=qD (fun h=>bP h) h2;exact ((qH nA nB).mpr e).eq_of_pairwise (fun a b _ _ h h'=>by omega) h1 h2
theorem HC{A B:List Nat}(p:A.Perm B)(nd:B.Nodup)(s:(A.map iN).Pairwise (·≤·)):A.Pairwise (· < ·):=by rw [List.pairwise_map] at s;refine List.Pairwise.imp₂ (fun a b h1 h2=>?_) s (p.nodup_iff.mpr nd);have h1:(a:Int)≤(b:Int):=h1;have h2:a≠b:=h2;omega
theorem HD(n:Nat):(List.range n).Pairwise (· < ·):=List.pairwise_lt_range
end My
namespace L2
open PySem
section
variable {prog:Program} {w:World} {A:Around} {E:aw} {s:Shared}
def wb(h:Heap)(d:Addr)(es:Array DictEntry)(ep:Nat):Prop:=∃o,h.get? d=some o∧o.ExactDict∧o.data=.dict es ep
theorem wb.ty{d:Addr}{es:Array DictEntry}{ep:Nat}(h:wb s.heap d es ep):s.TypeIs (.ref d) "dict":=let ⟨o,ho,hc,_⟩:=h;⟨o,ho,hc.1⟩
end
end L2
namespace My
open PySem L2
end My
namespace L2
open PySem PySem.Spec PyProof.Rows My
theorem HE{wi:TI}{ρ:St→St}{tt:TT}{te:TE}{σ:St}{H:Hp}{Q:VK}{xs:List V}(c:V→Bool)(eV:∀R:It→Hp→Prop,(∀J H1,ak H H1→i6 J xs H1→R J H1)→wi σ H R)(hn:xs.length<sizeLine)
  (test:∀x∈xs,∀(Hc:Hp) (R:Bool→Hp→Prop),ak H Hc→R (c x) Hc→tt (some x::ρ σ) Hc R)
  (elem:∀(x:V) (Hc:Hp) (R:VK),R x Hc→te (some x::ρ σ) Hc R)
  (fin:∀D Hc,H D=none→ak H Hc→Hc D=some (.lst (xs.filter c))→Q (.ref D) Hc):ip wi ρ tt te σ H Q:=by
 refine eV _ fun J H1 s1 js=>?_;intro D nD;refine ⟨fun i m ys Hc=>m=xs.length-i∧i≤xs.length∧Hc D=some (.lst ys)∧ak H1 Hc∧ys.length≤i∧ys=(xs.take i).filter c,⟨_,rfl,bK _,ax,fF (ak.refl H1) nD,ar _,rfl⟩,?_⟩;rintro i m ys Hc ⟨rfl,hi,eD,sH,ly,hP⟩;refine ⟨eD,?_⟩;by_cases aX:i<xs.length
 ·refine .inr ⟨js.go i Hc sH aX,fun x H' hy=>?_⟩
  obtain ⟨rfl,hx⟩:=js.cI i Hc x H' sH hy;have ex:=hx aX;have mx:x∈xs:=jl ex;have tk:xs.take (i+1)=xs.take i++[x]:=by rw [oz,ex];rfl
  refine test x mx _ _ (s1.trans sH) ?_;by_cases hb:c x=true
  ·rw [ae hb]
   refine elem x _ _ ⟨eD,by omega,xs.length-(i+1),by omega,rfl,aX,ax,fF sH nD,by simp;omega,?_⟩
   rw [tk,List.filter_append,←hP,qI,ae hb];rfl
  ·rw [aa hb]
   refine ⟨xs.length-(i+1),by omega,rfl,aX,eD,sH,by omega,?_⟩
   rw [tk,List.filter_append,←hP,qI,aa hb,List.filter_nil,qz]
 ·have e:i=xs.length:=by omega
  subst e;rw [oA] at hP;subst hP;exact .inl ⟨js.stop _ Hc sH (ar _),fin D Hc (none_of s1 nD) (s1.trans sH) eD⟩
end L2
namespace My
open PySem L2
section
variable {P a d:Addr} {H Hc:Hp} {n m:Nat} {L:aK}
end
section
variable {n:Nat} {E:Nat→Nat→Prop} {pos rk:Nat→Nat}
end
open PySem PySem.W PyProof.Rows Tm
section
variable {prog:Program} {w:World} {A:Around} {E:aw} {s:Shared}
def wc(k:Keyed):Int:=match k.1 with | .int n _=>n | _=>0
structure jQ (n:Nat) (kz:Nat→Int) (p:List Nat):Prop where
 pm:p.Perm (List.range n)
 dn:p.Pairwise fun i j=>kz j≤kz i
variable {vs:List Value}
theorem HF{ns:List Int}(h:IntsAre vs ns):∀(i:Nat) (z:Int),ns[i]?=some z→∃t,vs[i]?=some (.int z t):=by
 induction h with
 | nil=>intro i z hz;cases hz
 | cons _ _ _ ih=>
  intro i z hz;cases i with
  | zero=>cases hz;exact ⟨_,rfl⟩
  | succ i=>exact ih i z hz
variable {kz:Nat→Int}
theorem HG{keys:Array Value}(hk:IntsAre keys.toList ((List.range vs.length).map kz)){Q:SortSt→Shared→Prop}
  (hQ:∀(p:List Nat) (st:SortSt),jQ vs.length kz p→((arrOf st).map (·.2)).reverse.toList=p.map (fun i=>vs.getD i Value.none)→failedOf st=none→Q st s) :
  wpAny (model prog w) A (sortRuns'.run (SortSt.mk' oneType' (keys.zip vs.toArray).reverse #[] 7 none)) (fun r s'=>Q r.2 s') E s:=by
 have hl:=hk.length;rw [eL,aW,dv] at hl;have ki:∀i,i<vs.length→∃t,keys.toList.getD i Value.none=.int (kz i) t:=fun i hi=>by
  obtain ⟨t,e⟩:=HF hk i (kz i) (by rw [df,me hi];rfl)
  exact ⟨t,by rw [fO,e];rfl⟩
 have el:(keys.zip vs.toArray).toList=(List.range vs.length).map fun i=>(keys.toList.getD i Value.none,vs.getD i Value.none):=by
  refine qG (by simp [hl]) fun i h1 h2=>?_
  have hi:i<vs.length:=by simpa using h2
  have aV:i<keys.size:=by omega
  simp [hi,aV]
 have er:(keys.zip vs.toArray).reverse.toList=((List.range vs.length).reverse).map fun i=>(keys.toList.getD i Value.none,vs.getD i Value.none):=by rw [mj,el,List.map_reverse]
 have az:(keys.zip vs.toArray).reverse.size=vs.length:=by simp [hl]
 have lt:fW prog w A s oneType' wc (fun k=>∃n t,k.1=.int n t):=by rintro ⟨u,u'⟩ ⟨v,v'⟩ ⟨a,t,rfl⟩ ⟨b,t',rfl⟩ C hC;exact kat_lt_int hC
 have ok:dq (fun k=>∃n t,k.1=.int n t) (keys.zip vs.toArray).reverse:=fun i hi=>by
  have e1:(keys.zip vs.toArray).reverse.getD i nn=(keys.zip vs.toArray).reverse.toList[i]'(by rw [eL];exact hi):=by rw [Array.getD_eq_getD_getElem?,Array.getElem?_eq_getElem hi];simp
  have e2:=eN (fun l=>l[i]?) er;have hm:(keys.zip vs.toArray).reverse.toList[i]'(by rw [eL];exact hi)∈(keys.zip vs.toArray).reverse.toList:=gp _
  rw [e1];generalize (keys.zip vs.toArray).reverse.toList[i]'(by rw [eL];exact hi)=x at hm
  rw [er] at hm;obtain ⟨j,hj,rfl⟩:=dN.mp hm;obtain ⟨t,e⟩:=ki j (by simpa using hj)
  exact ⟨_,_,e⟩
 refine a8 (Gv (E:=E) (Q:=fun _ st=>Q st s) (g:=7) lt ok fun aD st pm sg ha hf=>?_) (fun r s' h'=>by obtain ⟨rfl,h'⟩:=h';exact h') fun _ _ e=>e
 obtain ⟨p,hp,ep⟩:=perm_back (Array.perm_iff_toList_perm.mp pm) _ er;have pl:p.length=vs.length:=by rw [hp.length_eq,List.length_reverse,dv]
 have HH:∀i∈p,i<vs.length:=fun i hi=>by simpa using hp.mem_iff.mp hi
 have hsz:aD.size=vs.length:=by rw [pm.size_eq,az]
 have kv:∀i (hi:i<p.length),vA wc aD i=kz p[i]:=fun i hi=>by
  have e1:aD.getD i nn=(keys.toList.getD p[i] Value.none,vs.getD p[i] Value.none):=by
   have e2:aD.toList[i]?=some (keys.toList.getD p[i] Value.none,vs.getD p[i] Value.none):=by rw [ep,df,cx hi];rfl
   rw [Array.getD_eq_getD_getElem?,←Array.getElem?_toList,e2];rfl
  unfold vA;rw [e1];obtain ⟨t,e⟩:=ki p[i] (HH _ (gp _));unfold wc;rw [e]
 refine hQ p.reverse st ⟨(jt p).trans (hp.trans (jt _)),?_⟩ ?_ hf
 ·rw [ur]
  refine mh.mpr fun i j hi hj ij=>?_;have:=sg i j (bK _) (by omega) (by rw [az];omega)
  rw [kv i hi,kv j hj] at this;exact this
 ·rw [ha,mj,Array.toList_map,ep,fP,List.map_reverse]
  rfl
variable {n:Nat}
theorem HI(h:n<2):jQ n kz (List.range n):=by
 refine ⟨List.Perm.refl _,?_⟩
 match n,h with
 | 0,_=>exact .nil
 | 1,_=>exact uu _ _
theorem HJ{kA:Array Value}(h:vs.length<2)(hs:kA.size=vs.length):(((kA.zip vs.toArray).reverse).map (·.2)).reverse.toList=(List.range vs.length).map (fun i=>vs.getD i Value.none):=by
 match vs,h,hs with
 | [],_,_=>simp
 | [v],_,hs=>obtain ⟨k,rfl⟩:=Array.size_eq_one_iff.mp hs;simp
theorem HK{a:Addr}{P:PySem.Fin→Shared→Prop}(ho:s.heap.get? a=some (seqObj "list" vs.toArray n))(h1:vs.length<10000)
  (turn:∀i v,vs[i]?=some v→∀(h:Heap) (tk:Nat) (Q:aw),(∀b o,b≠a→s.heap.get? b=some o→h.get? b=some o)→(∀t bW,Q (.int (kz i) t) {s with heap:=h,toks:=bW})→wpAny (model prog w) A (call (.builtin "len") [v]) Q (fun _ _=>False) {s with heap:=h,toks:=tk})
  (h:∀h' tk out c p,jQ vs.length kz p→(∀b o,b≠a→s.heap.get? b=some o→h'.get? b=some o)→h'.get? a=some (seqObj "list" out c)→out.toList=p.map (fun i=>vs.getD i Value.none)→P (.done (.ret .none)) {s with heap:=h',toks:=tk}) :
  wpAny (model prog w) A (ksk_tree a (.builtin "len") true) P E s:=by
 have sl:vs.length≤sizeLine:=by rw [gm];omega
 have lt:=aQ ho;obtain ⟨e1,g1⟩:∃e,(s.heap.update a (Obj.mapSeq fun _=>#[])).get? a=some (seqObj "list" #[] e):=⟨_,oB ho fun _=>#[]⟩;have z1:(s.heap.update a (Obj.mapSeq fun _=>#[])).objs.size=s.heap.objs.size:=Heap.size_update _ _ _;have z2:((s.heap.update a (Obj.mapSeq fun _=>#[])).push (seqObj "tuple" vs.toArray 0)).objs.size=s.heap.objs.size+1:=by rw [size_push',z1]
 unfold ksk_tree;refine au (listItems_at ho rfl (au (listUpdate_at ho rfl ?_ (by rw [bO];omega) (bK _))))
 refine au (seqEpoch_at g1 rfl (au (wpAny_newTuple ?_ (by show vs.length≤_;omega))))
 refine au (wpAny_newList (jk ?_) (bK _));show wpAny (model prog w) A (ksk_rest a (.builtin "len") true vs.toArray e1 (.ref ((s.heap.update a (Obj.mapSeq fun _=>#[])).push (seqObj "tuple" vs.toArray 0)).objs.size)) P E {s with heap:=((s.heap.update a (Obj.mapSeq fun _=>#[])).push (seqObj "tuple" vs.toArray 0)).push (seqObj "list" #[] 0)};have gk:(((s.heap.update a (Obj.mapSeq fun _=>#[])).push (seqObj "tuple" vs.toArray 0)).push (seqObj "list" #[] 0)).get? (s.heap.objs.size+1)=some (seqObj "list" #[] 0):=by rw [←z2];exact cP _ rfl
 have up:∀b u,(s.heap.update a (Obj.mapSeq fun _=>#[])).get? b=some u→(((s.heap.update a (Obj.mapSeq fun _=>#[])).push (seqObj "tuple" vs.toArray 0)).push (seqObj "list" #[] 0)).get? b=some u:=fun b u hu=>bA _ (bA _ hu);have ga:=up a _ g1;have Bc:∀b o,b≠a→s.heap.get? b=some o→(((s.heap.update a (Obj.mapSeq fun _=>#[])).push (seqObj "tuple" vs.toArray 0)).push (seqObj "list" #[] 0)).get? b=some o:=fun b o nb g=>up b o (by rw [Heap.get?_update_ne _ _ _ _ nb];exact g)
 rw [z2];generalize ((s.heap.update a (Obj.mapSeq fun _=>#[])).push (seqObj "tuple" vs.toArray 0)).push (seqObj "list" #[] 0)=hp at gk ga Bc;have ka:s.heap.objs.size+1≠a:=Nat.ne_of_gt (oC lt);have old:∀b o,s.heap.get? b=some o→b≠s.heap.objs.size+1:=fun b o g=>bP (oC (aQ g));generalize s.heap.objs.size+1=kS at gk ka old;unfold ksk_rest;refine au (gZ ?_)
 first
  | rw [List.forIn_toArray]
  | (rw [←Array.forIn_toList];simp only [List.toList_toArray])
  | rw [←Array.forIn_toList]
 refine au (ksk_fold (fun i s'=>∃h' tk kA e,s'={s with heap:=h',toks:=tk}∧h'.get? kS=some (seqObj "list" kA e)∧h'.get? a=some (seqObj "list" #[] e1)∧(∀b o,b≠a→s.heap.get? b=some o→h'.get? b=some o)∧IntsAre kA.toList (((List.range vs.length).map kz).take i)) vs 0 _
  ⟨hp,s.toks,#[],0,rfl,gk,ga,Bc,by simpa using IntsAre.nil⟩ ?step ?done)
 case step=>
  rintro j x s' hx ⟨h',tk,kA,e,rfl,pT,pH,sj,hk⟩;simp only [dh] at hk ⊢;have hj:j<vs.length:=(cw.mp hx).1;have hz:kA.size≤vs.length:=by have h1:=hk.length;rw [eL,og,aW,dv] at h1;omega
  refine au (wpAny_attempt (a8 (turn j x hx h' tk (fun v dz=>∃t bW,v=.int (kz j) t∧dz={s with heap:=h',toks:=bW}) sj fun t bW=>⟨t,bW,rfl,rfl⟩) (fun v dz he=>?_) fun _ _ hF=>hF.elim));obtain ⟨t,bW,rfl,rfl⟩:=he
  try dsimp only
  have sb:=ko h' kS (Obj.mapSeq (·.push (.int (kz j) t)));obtain ⟨c2,dQ⟩:∃c2,(h'.update kS (Obj.mapSeq (·.push (.int (kz j) t)))).get? kS=some (seqObj "list" (kA.push (.int (kz j) t)) c2):=⟨_,oB pT (·.push (.int (kz j) t))⟩;have ek:((List.range vs.length).map kz).take (j+1)=((List.range vs.length).map kz).take j++[kz j]:=by rw [List.take_add_one,df,me hj];rfl
  have ea:(kA.push (Value.int (kz j) t)).toList=kA.toList++[Value.int (kz j) t]:=by simp
  refine au (listUpdate_at pT rfl ?_ (by rw [gm];omega) (bQ (Nat.le_of_eq (Array.size_push ..)) (by rw [gm];omega)))
  exact bf ⟨rfl,_,_,kA.push (.int (kz j) t),c2,rfl,dQ,(sb.2 a ka.symm).trans pH,fun b o nb g=>(sb.2 b (old b o g)).trans (sj b o nb g),by rw [ea,ek];exact ksk_snoc hk⟩
 case done=>
  rintro s' ⟨h',tk,kA,e,rfl,pT,pH,sj,hk⟩;have bM:IntsAre kA.toList ((List.range vs.length).map kz):=by
   rw [List.take_of_length_le (by rw [aW,dv];omega)] at hk
   exact hk
  have hsz:kA.size=vs.length:=by have h1:=bM.length;rw [eL,aW,dv] at h1;exact h1
  try dsimp only
  refine au (listItems_at pT rfl ?_);have fin:∀(st:SortSt) (p:List Nat),jQ vs.length kz p→((arrOf st).map (·.2)).reverse.toList=p.map (fun i=>vs.getD i Value.none)→failedOf st=none→wpAny (model prog w) A (ksk_tail a true e1 (.ref kS) st) P E {s with heap:=h',toks:=tk}:=fun st p fp Bd hf=>by
   have sb:=ko h' kS (Obj.mapSeq fun _=>(#[]:Array Value));have pK:(h'.update kS (Obj.mapSeq fun _=>(#[]:Array Value))).get? a=some (seqObj "list" #[] e1):=(sb.2 a ka.symm).trans pH;have HL:=ko (h'.update kS (Obj.mapSeq fun _=>(#[]:Array Value))) a (Obj.mapSeq fun _=>((arrOf st).map (·.2)).reverse);obtain ⟨c2,dQ⟩:∃c2,((h'.update kS (Obj.mapSeq fun _=>(#[]:Array Value))).update a (Obj.mapSeq fun _=>((arrOf st).map (·.2)).reverse)).get? a=some (seqObj "list" ((arrOf st).map (·.2)).reverse c2):=⟨_,oB pK fun _=>((arrOf st).map (·.2)).reverse⟩;have lo:((arrOf st).map (·.2)).reverse.size=vs.length:=by rw [←eL,Bd,aW,fp.pm.length_eq,dv]
   unfold ksk_tail
   try dsimp only
   refine au (listUpdate_at pT rfl ?_ (by rw [hsz];omega) (bK _))
   refine au (wpAny_letGo (au (seqEpoch_at pK rfl ?_)));refine au (listUpdate_at pK rfl ?_ (bK _) (by simp only [if_true];rw [lo];omega))
   rw [hf];simp only [bne_self_eq_false,Bool.false_eq_true,if_false,if_true];exact bf (h _ _ _ c2 p fp (fun b o nb g=>(HL.2 b nb).trans ((sb.2 b (old b o g)).trans (sj b o nb g))) dQ Bd)
  unfold ksk_end
  try dsimp only
  simp only [if_true];refine au (gZ ?_);by_cases h2:vs.toArray.size<2
  ·rw [ae h2,ae h2]
   refine au (bf ?_);rw [StateT.run_pure];refine au (bf ?_);have len:vs.length<2:=by simpa using h2
   exact fin _ (List.range vs.length) (HI len) (HJ len hsz) rfl
  ·rw [aa h2,aa h2]
   have len:2≤vs.length:=by simpa using h2
   rw [ksk_kind bM (by rw [hsz];exact len)]
   refine au (bf ?_);refine au (a8 (HG (s:={s with heap:=h',toks:=tk}) (vs:=vs) (keys:=kA) (kz:=kz) bM (Q:=fun st s'=>s'={s with heap:=h',toks:=tk}∧∃p,jQ vs.length kz p∧((arrOf st).map (·.2)).reverse.toList=p.map (fun i=>vs.getD i Value.none)∧failedOf st=none) fun p st a1 a2 a3=>⟨rfl,p,a1,a2,a3⟩) ?_ fun _ _ e=>e);rintro ⟨⟨⟩,st⟩ s' ⟨rfl,p,a1,a2,a3⟩;exact fin st p a1 a2 a3
end
open PySem PySem.W PyProof.Rows
section
variable {prog:Program} {w:World} {A:Around} {E:aw} {s:Shared}
theorem IsTup.to{h h':Heap}{a:Addr}{ai:Array Value}(t:IsTup h a ai)(k:∀o,h.get? a=some o→h'.get? a=some o):IsTup h' a ai:=let ⟨o,g,r⟩:=t;⟨o,k _ g,r⟩
theorem HM{l:Addr}{vs:List Value}{kz:Nat→Int}{Q:aw}(hl:s.heap.IsList l vs.toArray)(h1:vs.length<10000)(hv:∀i v,vs[i]?=some v→∃b ai,v=.ref b∧IsTup s.heap b ai∧kz i=ai.size∧ai.size<10000)
  (h:∀h' tk out c p,jQ vs.length kz p→(∀b o,s.heap.get? b=some o→h'.get? b=some o)→h'.get? (s.heap.objs.size+1)=some (seqObj "list" out c)→out.toList=p.map (fun i=>vs.getD i Value.none)→Q (.ref (s.heap.objs.size+1)) {s with heap:=h',toks:=tk}) :
  wpAny (model prog w) A (call (.builtin "sorted") [.ref l] [(Str.ofString "key",.builtin "len"),(Str.ofString "reverse",.bool true)]) Q E s:=by
 have sl:vs.length≤sizeLine:=by rw [gm];omega
 refine call_function_entry_kw kind_sorted plain_sorted entry_sorted (ksk_s2 _ _ _) ?_;unfold Builtin.«sorted»;refine au (m:=checkCount "sorted" 1 1 _) (bf (au (collect_list hl (au (wpAny_newList ?_ sl)) sl)));have zz:((s.heap.push (seqObj "list" #[] 0)).update s.heap.objs.size (Obj.mapSeq (·++vs.toArray))).objs.size=s.heap.objs.size+1:=by rw [Heap.size_update,size_push']
 have kp:∀b o,s.heap.get? b=some o→(((s.heap.push (seqObj "list" #[] 0)).update s.heap.objs.size (Obj.mapSeq (·++vs.toArray))).push (seqObj "list" vs.toArray 0)).get? b=some o:=fun b o g=>by
  have lt:=aQ g;rw [Heap.get?_push_ne _ _ _ (bP (by rw [zz];exact oC lt)),Heap.get?_update_ne _ _ _ _ (bP lt),Heap.get?_push_ne _ _ _ (bP lt)]
  exact g
 have gL:(((s.heap.push (seqObj "list" #[] 0)).update s.heap.objs.size (Obj.mapSeq (·++vs.toArray))).push (seqObj "list" vs.toArray 0)).get? (s.heap.objs.size+1)=some (seqObj "list" vs.toArray 0):=by rw [←zz];exact cP _ rfl
 show wpAny _ _ _ _ _ {s with heap:=((s.heap.push (seqObj "list" #[] 0)).update s.heap.objs.size (Obj.mapSeq (·++vs.toArray))).push (seqObj "list" vs.toArray 0)};rw [zz];generalize ((s.heap.push (seqObj "list" #[] 0)).update s.heap.objs.size (Obj.mapSeq (·++vs.toArray))).push (seqObj "list" vs.toArray 0)=hp at kp gL;have ne:∀b o,s.heap.get? b=some o→b≠s.heap.objs.size+1:=fun b o g=>bP (oC (aQ g));refine au (jk (wpAny_call_entry_kw slot_list_sort ⟨_,gL,rfl⟩ entry_list_sort ?_ (ksk_l2 _ _ _)));rw [ksk_t5];refine HK (s:={s with heap:=hp}) (kz:=kz) gL h1 (fun i v hi h' tk Q' kk hQ=>?_) fun h' tk out c p fp kk g e=>⟨_,rfl,bf ⟨_,rfl,h h' tk out c p fp (fun b o gb=>kk b o (ne b o gb) (kp b o gb)) g e⟩⟩;obtain ⟨b,ai,rfl,t,ek,i1⟩:=hv i v hi;rw [ek] at hQ;refine len_tuple (s:={s with heap:=h',toks:=tk}) (items:=ai) (IsTup.to t fun o g=>kk b o (ne b o g) (kp b o g)) (by omega) ?_
 exact hQ _ _
end
end My
namespace L2
open PySem PySem.W PyProof.Rows My
def HN(t:TA):TE:=fun σ H Q=>t σ H fun xs H1=>∃(l:Addr) (vs:List V) (ks:Nat→Nat),xs=[.ref l]∧H1 l=some (.lst vs)∧vs.length<10000∧(∀(i:Nat) (v:V),vs[i]?=some v→∃b ys,v=.ref b∧H1 b=some (.tup ys)∧ks i=ys.length∧ys.length<10000) ∧
 ∀(D:Addr) (p:List Nat),H1 D=none→jQ vs.length (fun i=>(ks i:Int)) p→Q (.ref D) (upd H1 D (.lst (p.map fun i=>vs.getD i .aI)))
variable {X:Cx}
theorem Be{e:Expr}{es:List Expr}{t:TA}{p p2 pos wd HP cp:Pos}{j:Nat}(ha:PA X (e::es) t)(hg:Gl X (Str.ofString "sorted"))(hm:X.mg (Str.ofString "sorted")=none)(hv:bootBuiltins (Str.ofString "sorted")=some (.builtin "sorted"))
  (HQ:Gl X (Str.ofString "len")) (HR:X.mg (Str.ofString "len")=none) (HS:bootBuiltins (Str.ofString "len")=some (.builtin "len"))
  (he:backTo pos (starEach (e::es) X.env)=(false,eval e X.env)::backTo pos (starEach es X.env):=by rfl) (eU:(backTo pos (starEach (e::es) X.env)).any (·.1)=false:=by rfl) :
  PE X (.Call (.Name (Str.ofString "sorted") p) (e::es) [⟨some (Str.ofString "key"),.Name (Str.ofString "len") p2,wd⟩,⟨some (Str.ofString "reverse"),.Constant (.bool true) j cp,HP⟩] pos) (HN t):=by
 intro pins s σ H Q I h
 refine md (jy I hg hm hv ?_)
 refine callWith_kw (aA (ha pos pins s σ H _ I h) fun us s1 ⟨xs,H1,I1,r1,q1⟩=>?_) he eU
 obtain ⟨l,vs,ks,rfl,hl,h1,mT,k⟩:=q1
 obtain ⟨u,rfl,ru⟩:=vals1 r1
 cases ru
 show wpAny _ _ (evalAll [(do let v ←eval (.Name (Str.ofString "len") p2) X.env;standAt pos;pure v),(do let v ←eval (.Constant (.bool true) j cp) X.env;standAt pos;pure v)]) _ _ s1
 refine wpAny_evalAll_cons (au (jy I1 HQ HR HS (au (l_ (bf ?_)))))
 refine wpAny_evalAll_cons (au (Constant_bool (au (l_ (bf ?_)))))
 refine wpAny_evalAll_nil ?_
 show wpAny _ _ (call (.builtin "sorted") [.ref l] [(Str.ofString "key",.builtin "len"),(Str.ofString "reverse",.bool true)]) _ _ s1
 obtain ⟨ai,rv,pl,hz⟩:=I1.list (.of hl)
 have m5:=rv.length
 refine HM (kz:=fun i=>(ks i:Int)) pl.isList (by omega) (fun i v hi=>?_) fun h' tk out c p fp kp g e=>?_
 ·have aV:i<vs.length:=by
   have:=(cw.mp hi).1
   omega
  have gi:vs[i]?=some vs[i]:=by simp [aV]
  obtain ⟨b,ys,eb,hb,ek,y1⟩:=mT i _ gi
  obtain ⟨u,eu,ru⟩:=rv.get gi
  rw [hi] at eu
  cases eu
  rw [eb] at ru
  cases ru
  obtain ⟨fC,r2,tp,_⟩:=I1.tuple (.of hb)
  have l2:=r2.length
  exact ⟨b,fC.toArray,rfl,tp,by rw [bO,←l2,ek],by rw [bO];omega⟩
 ·rw [←m5] at fp
  refine ⟨.ref (s1.heap.objs.size+1),_,I1.laid (t':=tk) (o:=.lst (p.map fun i=>vs.getD i .aI)) kp (Nat.le_succ _) ⟨?_,p.map fun i=>ai.getD i Value.none,c,?_,?_⟩,rfl,k _ p (I1.ao.fresh (Nat.le_succ _)) fp⟩
  ·rw [aW,fp.pm.length_eq,dv]
   exact bQ (n8 h1) (by decide)
  ·exact AJ rv p fun i hi=>dc.mp (fp.pm.mem_iff.mp hi)
  ·rw [g,←e,Array.toArray_toList]
def Bf:List V→Hp→VK→Prop:=fun xs H Q=>∃(a:Addr) (zs:List Int),xs=[.ref a]∧H a=some (.tup (zs.map V.int))∧zs.length<64∧∀(ws:List Int) (D:Addr),ws.Perm zs→ws.Pairwise (·≤·)→H D=none→Q (.ref D) (upd H D (.lst (ws.map V.int)))
theorem HU:fz X (.builtin "sorted") Bf:=by
 intro pins s σ H xs us Q I r h;obtain ⟨a,zs,rfl,ha,Nx,k⟩:=h;obtain ⟨u,rfl,ru⟩:=vals1 r;cases ru;obtain ⟨ai,rv,⟨o,g,c,n,d⟩,hz⟩:=I.tuple (.of ha);have hl:=rv.length;rw [aW] at hl;have sl:ai.length≤sizeLine:=by rw [gm];omega
 refine Calls.call_function_entry kind_sorted plain_sorted entry_sorted (args_sorted1 _) ?_;unfold Builtin.«sorted»;refine au (m:=checkCount "sorted" 1 1 _) (bf (au (wpAny_collect_seq a (.inr rfl) g c d (fun h1 k1=>au (wpAny_newList ?_ sl)) (by rw [bO];exact sl))))
 have I1:Inv X pins σ H {s with heap:=h1}:=I.kept (t':=s.toks) k1;have gL:(h1.push (seqObj "list" ai.toArray 0)).get? h1.objs.size=some (seqObj "list" ai.toArray 0):=cP _ rfl;show wpAny _ _ _ _ _ {s with heap:=h1.push (seqObj "list" ai.toArray 0)};refine au (jk (wpAny_call_entry slot_list_sort ⟨_,gL,rfl⟩ entry_list_sort (list_sort_tree (s:={s with heap:=h1.push (seqObj "list" ai.toArray 0)}) gL (intsAre_of rv) (by omega) fun out iU a1 a2 a3=>⟨_,rfl,?_⟩) (args_list_sort _)))
 obtain ⟨e,he⟩:=sortedHeap_at (out:=out) gL;refine bf ⟨_,rfl,.ref h1.objs.size,_,I1.laid (t':=s.toks) (o:=.lst (iU.map .int)) (fun b u gb=>?_) (ar _) ⟨?_,out.toList,e,A2 a1,?_⟩,rfl,k iU _ a2 a3 (I1.ao.fresh (ar _))⟩
 ·have lt:=aQ gb
  rw [sortedHeap_old (bP lt) (by rw [size_push'];exact oC lt)]
  exact bA _ gb
 ·rw [aW,a2.length_eq]
  rw [gm];omega
 ·simpa using he
end L2
namespace My
open PySem PySem.W PyProof.Rows
section
variable {prog:Program} {w:World} {A:Around} {E:aw} {s:Shared} {R:Result→Shared→Prop}
def gf(s:Shared)(h:Heap):Prop:=∀b o,s.heap.get? b=some o→h.get? b=some o
def sk(prog:Program)(w:World)(A:Around)(s:Shared)(vs:List Value)(kf:Nat→Int):Prop:=∀i j v u,vs[i]?=some v→vs[j]?=some u→∀(h:Heap) (tk:Nat) (Q:aw),gf s h→(∀bW,Q (.bool (decide (kf i<kf j))) {s with heap:=h,toks:=bW})→wpAny (model prog w) A (richCompare .Lt v u) Q (fun _ _=>False) {s with heap:=h,toks:=tk}
variable {l:Addr} {vs:List Value} {kf:Nat→Int} {kw:List (Str×Value)}
theorem HV{I S:Addr}(hh:A.handled=none)(hl:s.heap.IsList l vs.toArray)(hI:s.heap.objs.size≤I)(hS:s.heap.objs.size≤S)(lg:S≠I)(cmp:sk prog w A.in1 s vs kf)
  (hR:∀i v h' bW,vs[i]?=some v→(∀j,j<vs.length→kf i≤kf j∧(j<i→kf i<kf j))→gf s h'→R (.ok (.ret v)) {s with heap:=h',toks:=bW}) :
  ∀(r j i:Nat) (h:Heap) (tk:Nat) (vb:Value) (c:Nat),vs.length-(j+1)=r→j+1≤vs.length→gf s h→h.get? S=some (seqObj "list" #[vb,vb] c)→h.IsListIter I l (j+1)→vs[i]?=some vb→i≤j→(∀j',j'≤j→kf i≤kf j'∧(j'<i→kf i<kf j'))→
   codeAny (model prog w) A (.builtin "min.loop" ⟨[.ref I,.none,.ref S],kw⟩) R {s with heap:=h,toks:=tk}:=by
 have pU:(toString "min"++toString ".loop":String)="min.loop":=by decide
 have lI:l≠I:=fun e=>by obtain ⟨o,g,_⟩:=hl;exact c_ _ (b7 (aQ g) (e▸hI))
 have W:=Walks.list (prog:=prog) (w:=w) (A:=A.in1) hh I l lI vs.toArray;have hsz:vs.toArray.size=vs.length:=bO ..;have lk:∀{h:Heap},gf s h→h.IsList l vs.toArray:=fun{h} kp=>by obtain ⟨o,g,r⟩:=hl;exact ⟨o,kp _ _ g,r⟩
 have kI:∀{h h':Heap},gf s h→(∀b o,b∉[I]→h.get? b=some o→h'.get? b=some o)→gf s h':=fun kp k b o g=>k b o (fun z=>by rw [bY.mp z] at g;exact c_ _ (b7 (aQ g) hI)) (kp b o g)
 have kS:∀{h:Heap} {f:Obj→Obj},gf s h→gf s (h.update S f):=fun{h f} kp b o g=>((ko h S f).2 b (fun z=>by rw [z] at g;exact c_ _ (b7 (aQ g) hS))).trans (kp b o g)
 intro r
 induction r with
 | zero=>
  intro j i h tk vb c hr hj kp gS hit sr vK lh;have we:j+1=vs.length:=by omega
  refine jm qJ ?_;rw [kq ju _];show wpAny _ A.in1 (seqItems? (.ref S) >>= _) _ _ _;refine au (wpAny_seqItems gS rfl ?_);show wpAny _ A.in1 (tryCatch (pyNext (.ref I)) _ >>= _) _ _ _;refine au (oD (W.done _ _ _ ⟨by rw [hsz,←we];exact hit,lk kp⟩ fun h' bW bM=>?_))
  have jR:=bM S _ (by simpa using lg) gS
  show wpAny _ A.in1 (updateSeq S (fun _=>#[]) >>= _) _ _ _;refine au (wpAny_updateSeq jR rfl (au (wpAny_letGo (bf ?_))));exact hR i vb _ _ sr (fun j' cJ=>lh j' (by omega)) (kS (kI kp bM))
 | succ r ih=>
  intro j i h tk vb c hr hj kp gS hit sr vK lh;have aX:j+1<vs.length:=by omega
  refine jm qJ ?_;rw [kq ju _];show wpAny _ A.in1 (seqItems? (.ref S) >>= _) _ _ _;refine au (wpAny_seqItems gS rfl ?_);show wpAny _ A.in1 (tryCatch (pyNext (.ref I)) _ >>= _) _ _ _;refine au (oD (W.item (j+1) _ _ _ (by rw [hsz];exact aX) ⟨hit,lk kp⟩ fun v h' bW hP su bM=>?_))
  have hv:vs[j+1]?=some v:=by simpa using hP
  have pV:=kI kp bM;have jR:=bM S _ (by simpa using lg) gS
  show wpAny _ A.in1 (tryCatch (holding [v,v] (richCompare .Lt v vb >>= _)) _ >>= _) _ _ _;refine au (oD (jk (au (a8 (cmp (j+1) i v vb hv sr h' bW (fun a dz=>∃sv,a=.bool (decide (kf (j+1)<kf i))∧dz={s with heap:=h',toks:=sv}) pV fun sv=>⟨sv,rfl,rfl⟩) (fun a dz he=>?_) fun _ _ hF=>hF.elim))));obtain ⟨sv,rfl,rfl⟩:=he;refine au (jk (ke ?_));refine au (wpAny_letGo (bf ?_));by_cases kN:kf (j+1)<kf i
  ·obtain ⟨c2,dQ⟩:∃c2,(h'.update S (Obj.mapSeq fun _=>#[v,v])).get? S=some (seqObj "list" #[v,v] c2):=⟨_,oB jR fun _=>#[v,v]⟩
   simp only [kN,decide_true,if_true];refine au (wpAny_updateSeq jR rfl (au (wpAny_letGo ?_)));rw [pU];obtain ⟨oI,g1,g2⟩:=id su.1;refine bf ⟨mq ju _,ih (j+1) (j+1) _ _ v c2 (by omega) aX (kS pV) dQ ⟨oI,((ko h' S _).2 I lg.symm).trans g1,g2⟩ hv (ar _) fun j' cJ=>?_⟩
   by_cases e:j'=j+1
   ·subst e
    exact ⟨by omega,fun _=>by omega⟩
   ·have HW:=lh j' (by omega)
    have Ny:=HW.1;exact ⟨by omega,fun _=>by omega⟩
  ·simp only [kN,decide_false,Bool.false_eq_true,if_false]
   refine au (wpAny_letGo ?_);rw [pU];refine bf ⟨mq ju _,ih (j+1) i _ _ vb c (by omega) aX pV jR su.1 sr (by omega) fun j' cJ=>?_⟩
   by_cases e:j'=j+1
   ·subst e
    exact ⟨by omega,fun _=>by omega⟩
   ·exact lh j' (by omega)
theorem Bg{dflt:Option Value}{Q:aw}(hh:A.handled=none)(ha:argsOk "min" ⟨[.ref l],kw⟩)(hb:Builtin.Builtins.bindParams "min" ["key","default"] 0 ⟨[],kw⟩=pure [none,dflt])
  (hl:s.heap.IsList l vs.toArray) (cmp:sk prog w A.in1 s vs kf) (vw:0<vs.length∨∃d,dflt=some d)
  (hQ:∀i v h' bW,vs[i]?=some v→(∀j,j<vs.length→kf i≤kf j∧(j<i→kf i<kf j))→gf s h'→Q v {s with heap:=h',toks:=bW})
  (hD:vs.length=0→∀d,dflt=some d→∀h' bW,gf s h'→Q d {s with heap:=h',toks:=bW}) :
  wpAny (model prog w) A (call (.builtin "min") [.ref l] kw) Q E s:=by
 have pU:(toString "min"++toString ".loop":String)="min.loop":=by decide
 obtain ⟨ol,HX,_⟩:=id hl;have m5:l<s.heap.objs.size:=aQ HX;refine kmk_tree PySem.F.kind_min PySem.F.plain_min PySem.F.entry_min ha ?_;show wpAny _ A.in1 (Builtin.Builtins.bindParams "min" ["key","default"] 0 ⟨[],kw⟩ >>= _) _ _ s;refine au (wpAny_of_eq hb ?_);refine au (bf ?_);refine au (wpAny_pyIter_list hl ?_);refine au (wpAny_newList ?_ (bK _));rw [pU];have hS:(s.heap.push {cls:=.type "list_iterator",data:=.fields #[.ref l,.int 0 0]}).objs.size=s.heap.objs.size+1:=size_push' ..;have gI:((s.heap.push {cls:=.type "list_iterator",data:=.fields #[.ref l,.int 0 0]}).push (seqObj "list" #[] 0)).get? s.heap.objs.size=some {cls:=.type "list_iterator",data:=.fields #[.ref l,.int 0 0]}:=bA _ (cP _ rfl);have gS:((s.heap.push {cls:=.type "list_iterator",data:=.fields #[.ref l,.int 0 0]}).push (seqObj "list" #[] 0)).get? (s.heap.objs.size+1)=some (seqObj "list" #[] 0):=by rw [←hS];exact cP _ rfl
 have kp:gf s ((s.heap.push {cls:=.type "list_iterator",data:=.fields #[.ref l,.int 0 0]}).push (seqObj "list" #[] 0)):=fun b o e=>bA _ (bA _ e);refine bf ⟨mq ju _,?_⟩;rw [hS];show codeAny _ _ _ _ {s with heap:=(s.heap.push {cls:=.type "list_iterator",data:=.fields #[.ref l,.int 0 0]}).push (seqObj "list" #[] 0)};generalize (s.heap.push {cls:=.type "list_iterator",data:=.fields #[.ref l,.int 0 0]}).push (seqObj "list" #[] 0)=hp at gI gS kp;obtain ⟨S,eS⟩:∃S,S=s.heap.objs.size+1:=⟨_,rfl⟩;obtain ⟨I,eI⟩:∃I,I=s.heap.objs.size:=⟨_,rfl⟩;have lg:S≠I:=by rw [eS,eI];exact Nat.ne_of_gt (Nat.lt_succ_self _)
 have Bh:s.heap.objs.size≤I:=Nat.le_of_eq eI.symm;have m6:s.heap.objs.size≤S:=by rw [eS];exact Nat.le_succ _
 have HY:l≠I:=by rw [eI];exact bP m5
 rw [←eS] at gS ⊢;rw [←eI] at gI ⊢;have W:=Walks.list (prog:=prog) (w:=w) (A:=A.in1) hh I l HY vs.toArray;have hsz:vs.toArray.size=vs.length:=bO ..;have lk:hp.IsList l vs.toArray:=by obtain ⟨o,g,r⟩:=hl;exact ⟨o,kp _ _ g,r⟩
 have kI:∀{h':Heap},(∀b o,b∉[I]→hp.get? b=some o→h'.get? b=some o)→gf s h':=fun k b o g=>k b o (fun z=>by rw [bY.mp z] at g;exact c_ _ (b7 (aQ g) Bh)) (kp b o g)
 by_cases hz:0<vs.length
 ·refine jm qJ ?_
  rw [kq ju _];show wpAny _ A.in1 (seqItems? (.ref S) >>= _) _ _ _;refine au (wpAny_seqItems gS rfl ?_);show wpAny _ A.in1 (tryCatch (pyNext (.ref I)) _ >>= _) _ _ _;refine au (oD (W.item 0 _ _ _ (by rw [hsz];exact hz) ⟨⟨_,gI,rfl,rfl⟩,lk⟩ fun v h' bW hP su bM=>?_))
  have hv:vs[0]?=some v:=by simpa using hP
  obtain ⟨HZ,H_,Ia⟩:=id su.1;have jR:=bM S _ (by simpa using lg) gS
  have pV:=kI bM;obtain ⟨c2,dQ⟩:∃c2,(h'.update S (Obj.mapSeq fun _=>#[v,v])).get? S=some (seqObj "list" #[v,v] c2):=⟨_,oB jR fun _=>#[v,v]⟩;show wpAny _ A.in1 (updateSeq S (fun _=>#[v,v]) >>= _) _ _ _;refine au (wpAny_updateSeq jR rfl ?_);rw [pU];refine bf ⟨mq ju _,HV hh hl Bh m6 lg cmp hQ _ 0 0 _ _ v c2 rfl hz (fun b o g=>((ko h' S _).2 b (fun z=>?_)).trans (pV b o g)) dQ ⟨HZ,((ko h' S _).2 I lg.symm).trans H_,Ia⟩ hv (ar _) fun j' cJ=>?_⟩
  ·rw [z] at g
   exact c_ _ (b7 (aQ g) m6)
  ·have e:j'=0:=by omega
   subst e;exact ⟨gX _,fun h=>absurd h (c_ _)⟩
 ·have z0:vs.length=0:=by omega
  obtain ⟨d,rfl⟩:∃d,dflt=some d:=vw.elim (fun h=>absurd h hz) id;refine jm qJ ?_;rw [kq ju _];show wpAny _ A.in1 (seqItems? (.ref S) >>= _) _ _ _;refine au (wpAny_seqItems gS rfl ?_);show wpAny _ A.in1 (tryCatch (pyNext (.ref I)) _ >>= _) _ _ _;refine au (oD (W.done _ _ _ ⟨⟨_,gI,rfl,by rw [hsz,z0];rfl⟩,lk⟩ fun h' bW bM=>?_))
  exact au (gZ (bf (hD z0 d rfl h' bW (kI bM))))
end
open PySem PySem.W PyProof.Rows L2
theorem Ib(a v:Value):argsOk "min" ⟨[a],[(Str.ofString "default",v)]⟩:=by unfold argsOk;kernel_rfl
theorem Ic(a:Value):argsOk "min" ⟨[a],[]⟩:=by unfold argsOk;kernel_rfl
section
variable {prog:Program} {w:World} {A:Around} {s:Shared}
variable {vs:List Value}
theorem Ie{kf:Nat→Int}(hv:∀(i:Nat) (v:Value),vs[i]?=some v→∃t,v=Value.int (kf i) t):sk prog w A s vs kf:=fun i j v u hi hj h tk Q kp hQ=>by obtain ⟨t,rfl⟩:=hv i v hi;obtain ⟨t',rfl⟩:=hv j u hj;exact HT.zv A _ _ _ _ _ prog w _ Q (hQ tk)
theorem Ig{x y:Nat→Int}(hu:A.units<cLine)(hv:∀i v,vs[i]?=some v→AI s.heap v (x i) (y i)∧0≤y i∧y i<1000):sk prog w A s vs (fun i=>x i*1000+y i):=fun i j v u hi hj h tk Q kp hQ=>by
 obtain ⟨⟨a,o,t1,t2,e,rfl,g,c,d⟩,y0,y1⟩:=hv i v hi;obtain ⟨⟨b,o',t3,t4,e',rfl,g',c',d'⟩,y2,y3⟩:=hv j u hj;have:=hQ tk;rw [show decide (x i*1000+y i<x j*1000+y j)=HT.lexLt [x i,y i] [x j,y j] from by
  rw [HT.uX,HT.uX];by_cases q:x i=x j
  ·rw [ae q]
   by_cases q':y i=y j
   ·rw [ae q']
    exact b3 (by omega)
   ·rw [aa q']
    exact decide_eq_decide.mpr (by omega)
  ·rw [aa q]
   exact decide_eq_decide.mpr (by omega)] at this
 exact HT.Eg (s:={s with heap:=h,toks:=tk}) (items:=#[.int (x i) t1,.int (y i) t2]) (items2:=#[.int (x j) t3,.int (y j) t4]) ⟨o,kp _ _ g,c,e,d⟩ ⟨o',kp _ _ g',c',e',d'⟩ (.cons _ _ (.cons _ _ .nil)) (.cons _ _ (.cons _ _ .nil)) hu this
end
end My
namespace L2
open PySem PySem.W PyProof.Rows My
def wg(zs:List Int)(d m:Int):Prop:=(zs=[]∧m=d)∨(m∈zs∧∀z∈zs,m≤z)
def Bi(t:TA)(td:TE):TE:=fun σ H Q=>t σ H fun xs H1=>td σ H1 fun y H2=>∃(l:Addr) (zs:List Int) (d:Int),xs=[.ref l]∧y=.int d∧H2 l=some (.lst (zs.map V.int))∧zs.length≤10000∧∀m,wg zs d m→Q (.int m) H2
variable {X:Cx}
theorem Bj{e de:Expr}{es:List Expr}{t:TA}{td:TE}{p pos wd:Pos}(hc:X.calm=true)(ha:PA X (e::es) t)(hd:PE X de td)(hg:Gl X (Str.ofString "min"))(hm:X.mg (Str.ofString "min")=none)(hv:bootBuiltins (Str.ofString "min")=some (.builtin "min"))
  (he:backTo pos (starEach (e::es) X.env)=(false,eval e X.env)::backTo pos (starEach es X.env):=by rfl) (eU:(backTo pos (starEach (e::es) X.env)).any (·.1)=false:=by rfl) :
  PE X (.Call (.Name (Str.ofString "min") p) (e::es) [⟨some (Str.ofString "default"),de,wd⟩] pos) (Bi t td):=by
 intro pins s σ H Q I h
 refine md (jy I hg hm hv ?_)
 refine callWith_kw (aA (ha pos pins s σ H _ I h) fun us s1 ⟨xs,H1,I1,r1,q1⟩=>?_) he eU
 show wpAny _ _ (evalAll [(do let v ←eval de X.env;standAt pos;pure v)]) _ _ s1
 refine wpAny_evalAll_cons (au (aA (hd pins s1 σ H1 _ I1 q1) fun u s2 ⟨y,H2,I2,r2,q2⟩=>au (l_ (bf (wpAny_evalAll_nil ?_)))))
 obtain ⟨l,zs,d,rfl,rfl,hl,h1,k⟩:=q2
 obtain ⟨u',rfl,ru⟩:=vals1 r1
 cases ru
 obtain ⟨wj,rfl⟩:=r2
 show wpAny _ _ (call (.builtin "min") [.ref l] [(Str.ofString "default",.int d wj)]) _ _ s2
 obtain ⟨ai,rv,pl,hz⟩:=I2.list (.of hl)
 have m5:=rv.length
 rw [aW] at m5
 have at':∀(i:Nat) (v:Value),ai[i]?=some v→∃t,v=Value.int (zs.getD i 0) t:=fun i v hi=>by
  have aV:i<zs.length:=by
   have:=(cw.mp hi).1
   omega
  obtain ⟨u,eu,ru⟩:=rv.get (i:=i) (x:=.int (zs[i])) (by simp [aV])
  rw [hi] at eu
  cases eu
  obtain ⟨t,rfl⟩:=ru
  exact ⟨t,by rw [fO,cx aV];rfl⟩
 refine Bg (kf:=fun i=>zs.getD i 0) (dflt:=some (.int d wj)) (I2.ok.hd hc) (Ib _ _) rfl pl.isList (Ie at') (.inr ⟨_,rfl⟩) (fun i v h' bW hi best kp=>?_) (fun z0 d' e' h' bW kp=>?_)
 ·obtain ⟨t,rfl⟩:=at' i v hi
  have aV:i<zs.length:=by
   have:=(cw.mp hi).1
   omega
  have gd:∀j (hj:j<zs.length),zs.getD j 0=zs[j]:=fun j hj=>by rw [fO,cx hj];rfl
  refine ⟨.int (zs.getD i 0),H2,I2.kept (t':=bW) kp,⟨t,rfl⟩,k _ (.inr ⟨by rw [gd i aV];exact gp _,fun z hz=>?_⟩)⟩
  obtain ⟨j,hj,rfl⟩:=ou hz
  have:=(best j (by omega)).1
  rw [gd j hj] at this
  exact this
 ·cases e'
  have z1:zs=[]:=List.length_eq_zero_iff.mp (by omega)
  exact ⟨.int d,H2,I2.kept (t':=bW) kp,⟨wj,rfl⟩,k _ (.inl ⟨z1,rfl⟩)⟩
def Ih:List V→Hp→VK→Prop:=fun xs H Q=>∃(l:Addr) (vs:List V) (x y:Nat→Int),xs=[.ref l]∧H l=some (.lst vs)∧0<vs.length∧(∀(i:Nat) (v:V),vs[i]?=some v→(∃b,v=.ref b∧H b=some (.tup [.int (x i),.int (y i)]))∧0≤y i∧y i<1000) ∧
 ∀(i:Nat) (v:V),vs[i]?=some v→(∀j,j<vs.length→x i*1000+y i≤x j*1000+y j)→Q v H
theorem Bk(hc:X.calm=true)(hu:X.A.units+64<cLine):fz X (.builtin "min") Ih:=by
 intro pins s σ H xs us Q I r h;obtain ⟨l,vs,x,y,rfl,hl,h0,hv,k⟩:=h;obtain ⟨u,rfl,ru⟩:=vals1 r;cases ru;obtain ⟨ai,rv,pl,hz⟩:=I.list (.of hl);have m5:=rv.length;have at':∀i v,ai[i]?=some v→AI s.heap v (x i) (y i)∧0≤y i∧y i<1000:=fun i v hi=>by
  have aV:i<vs.length:=by have:=(cw.mp hi).1;omega
  have gi:vs[i]?=some vs[i]:=by simp [aV]
  obtain ⟨⟨b,eb,hb⟩,Ii⟩:=hv i _ gi;obtain ⟨u,eu,ru⟩:=rv.get gi;rw [hi] at eu;cases eu;rw [eb] at ru;cases ru;obtain ⟨_,fC,r2,o,g,cl,e,d⟩:=(show bj X.prog X.w H s.heap b (.tup [.int (x i),.int (y i)]) from I.ao b _ hb);obtain ⟨u1,u2,rfl,q1,q2⟩:=vals2 r2;obtain ⟨t1,rfl⟩:=q1;obtain ⟨t2,rfl⟩:=q2;exact ⟨⟨b,o,t1,t2,e,rfl,g,cl,d⟩,Ii⟩
 have Ij:X.A.in1.units<cLine:=by show X.A.units+1<cLine;omega
 refine Bg (kf:=fun i=>x i*1000+y i) (dflt:=none) (I.ok.hd hc) (Ic _) rfl pl.isList (Ig Ij at') (.inl (by omega)) (fun i v h' bW hi best kp=>?_) (fun z0=>by omega)
 have aV:i<vs.length:=by have:=(cw.mp hi).1;omega
 have gi:vs[i]?=some vs[i]:=by simp [aV]
 obtain ⟨u,eu,ru⟩:=rv.get gi;rw [hi] at eu;cases eu;exact ⟨vs[i],H,I.kept (t':=bW) kp,ru,k i _ gi fun j hj=>(best j (by omega)).1⟩
end L2
namespace My
open PySem L2
theorem Ik{k:Nat}(h:k≤1000):k≤sizeLine:=bQ h (by decide)
def Il:Sp:=fun vs H Q _=>∃(d:Addr) (done:List Int) (p:Int),vs=[.ref d,.int p]∧H d=some (.tup (done.map V.int))∧done.length≤60 ∧
 ∀(H':Hp) (t:Addr) (ws:List Int),ws.Perm (done++[p])→ws.Pairwise (·≤·)→H t=none→ak H H'→H' t=some (.tup (ws.map V.int))→Q (.ref t) H'
def a7:Nat→List (List Nat)
 | 0=>[[]]
 | k+1=>a7 k++(a7 k).map (·++[k])
theorem wm:∀n,(a7 n).length=2 ^ n
 | 0=>rfl
 | n+1=>by unfold a7;rw [dg,aW,wm n,Nat.pow_succ];omega
theorem cO:∀{n:Nat} {q:List Nat},q∈a7 n↔q.Pairwise (· < ·)∧∀x∈q,x<n
 | 0,q=>by
  show q∈[[]]↔_;rw [bY];constructor
  ·rintro rfl
   exact ⟨.nil,fun x h=>by cases h⟩
  ·rintro ⟨_,h⟩
   cases q with
   | nil=>rfl
   | cons a _=>exact absurd (h a dY) (Nat.not_lt_zero _)
 | n+1,q=>by
  show q∈a7 n++(a7 n).map (·++[n])↔_;rw [dr,dN];constructor
  ·rintro (h | ⟨p,h,rfl⟩)
   ·obtain ⟨h1,h2⟩:=cO.mp h
    exact ⟨h1,fun x hx=>by have:=h2 x hx;omega⟩
   ·obtain ⟨h1,h2⟩:=cO.mp h
    refine ⟨qB.mpr ⟨h1,uu _ _,fun a ha b hb=>?_⟩,fun x hx=>?_⟩
    ·rw [bY.mp hb]
     exact h2 a ha
    ·rcases dr.mp hx with hx | hx
     ·have:=h2 x hx
      omega
     ·rw [bY.mp hx]
      omega
  ·rintro ⟨h1,h2⟩
   by_cases hn:n∈q
   ·right
    obtain ⟨a,b,rfl⟩:=List.append_of_mem hn;obtain ⟨p1,p2,p3⟩:=qB.mp h1;have b0:b=[]:=by
     cases b with
     | nil=>rfl
     | cons c b=>
      have c1:=(qK.mp p2).1 c dY;have c2:=h2 c (by simp)
      omega
    subst b0;exact ⟨a,cO.mpr ⟨p1,fun x hx=>p3 x hx n dY⟩,rfl⟩
   ·left
    refine cO.mpr ⟨h1,fun x hx=>?_⟩;have:=h2 x hx;have:x≠n:=fun e=>hn (e▸hx);omega
variable {n:Nat}
theorem pW{q:List Nat}(h1:q.Pairwise (· < ·))(h2:∀x∈q,x<n):q.length≤n:=by
 have:=(mw (n:=n));have sub:q ⊆ List.range n:=fun x hx=>dc.mpr (h2 x hx);have nd:q.Nodup:=h1.imp fun h=>bP h;have:=nd.length_le_of_subset sub
 rwa [dv] at this
def gg(H:Hp)(xs:List V)(qs:List (List Nat)):Prop:=xs.length=qs.length∧∀(i:Nat) (v:V) (q:List Nat),xs[i]?=some v→qs[i]?=some q→∃b,v=.ref b∧H b=some (.tup (q.map fun k:Nat=>V.int (k:Int)))
variable {H:Hp} {xs:List V} {qs:List (List Nat)}
theorem gg.mono{H':Hp}(h:gg H xs qs)(s:ak H H'):gg H' xs qs:=⟨h.1,fun i v q h1 h2=>by obtain ⟨b,e,g⟩:=h.2 i v q h1 h2;exact ⟨b,e,s _ _ g⟩⟩
theorem gg.cat{ys:List V}{rs:List (List Nat)}(h:gg H xs qs)(h':gg H ys rs):gg H (xs++ys) (qs++rs):=⟨by rw [dg,dg,h.1,h'.1],fun i v q h1 h2=>by
 by_cases z:i<xs.length
 ·rw [gW z] at h1
  rw [gW (by have:=h.1;omega)] at h2
  exact h.2 i v q h1 h2
 ·rw [gU (by omega)] at h1
  rw [gU (by have:=h.1;omega),←h.1] at h2
  exact h'.2 _ v q h1 h2⟩
def Im:Sp:=fun vs H Q _=>∃n:Nat,vs=[.int (n:Int)]∧n≤9∧∀(D:Addr) (xs:List V) (H':Hp),ak H H'→H D=none→H' D=some (.lst xs)→gg H' xs (a7 n)→Q (.ref D) H'
def Bl(n:Nat)(L:aK)(done:List Nat)(p c:Nat):Prop:=∃f,fi n L f∧iy n f done p c
open Classical in
noncomputable def b9 (n:Nat) (L:aK) (done:List Nat) (p:Nat):Int:=if h:∃c,Bl n L done p c then ((choose h:Nat):Int)*(choose h:Nat)+3*(choose h:Nat)+1 else 0
variable {p:Nat}
theorem wq{L:aK}{f:Nat→List Nat}{done:List Nat}{c:Nat}(nb:fi n L f)(h:iy n f done p c):(c:Int)*c+3*c+1=b9 n L done p:=by have e:∃c,Bl n L done p c:=⟨c,f,nb,h⟩;unfold b9;rw [dif_pos e];obtain ⟨g,bt,h'⟩:=Classical.choose_spec e;rw [iy.same nb bt h h']
def ba(n:Nat)(done:List Nat):List Nat:=(List.range n).filter fun p=>!decide (p∈done)
def bg:List Nat→Nat→List Nat
 | [],p=>[p]
 | x::l,p=>if p<x then p::x::l else x::bg l p
theorem jS:∀{l:List Nat} {p q:Nat},q∈bg l p↔q=p∨q∈l
 | [],p,q=>by simp [bg]
 | x::l,p,q=>by
  unfold bg
  split
  ·simp
  ·rw [cu,jS,cu]
   constructor
   ·rintro (h | h | h)
    ·exact .inr (.inl h)
    ·exact .inl h
    ·exact .inr (.inr h)
   ·rintro (h | h | h)
    ·exact .inr (.inl h)
    ·exact .inl h
    ·exact .inr (.inr h)
theorem lj:∀{l:List Nat} {p:Nat},l.Pairwise (· < ·)→p∉l→(bg l p).Pairwise (· < ·)
 | [],p,_,_=>uu _ _
 | x::l,p,h,hp=>by
  obtain ⟨h1,h2⟩:=qK.mp h;unfold bg
  split
  ·rename_i lt
   exact qK.mpr ⟨fun a ha=>by
    rcases cu.mp ha with rfl | ha;·exact lt
    ·have:=h1 a ha
     omega,h⟩
  ·rename_i lt
   have px:p≠x:=fun e=>hp (e▸dY);refine qK.mpr ⟨fun a ha=>?_,lj h2 fun z=>hp (dZ _ z)⟩;rcases jS.mp ha with rfl | ha;·omega
   ·exact h1 a ha
theorem pX:∀{l:List Nat} {p:Nat},(bg l p).length=l.length+1
 | [],p=>rfl
 | x::l,p=>by
  unfold bg
  split
  ·rfl
  ·rw [du,pX,du]
theorem Bm{done:List Nat}{ws:List Int}(up:done.Pairwise (· < ·))(hp:p∉done)(pm:ws.Perm (done.map iN++[(p:Int)]))(so:ws.Pairwise (·≤·)):ws=(bg done p).map iN:=by
 obtain ⟨vs,pv,rfl⟩:=perm_back pm (done++[p]) (by rw [gq];rfl)
 have nd:(done++[p]).Nodup:=by
  rw [List.nodup_append];refine ⟨up.imp fun h=>bP h,by simp,fun a ha b hb e=>?_⟩
  rw [bY] at hb;subst hb;subst e;exact hp ha
 have vu:vs.Pairwise (· < ·):=HC pv nd so;rw [Bb vu (lj up hp) fun q=>by rw [pv.mem_iff,jS,dr,bY];exact Or.comm]
def pY(done:List Nat):V→Bool
 | .int z=>!decide (z.toNat∈done)
 | _=>false
theorem Io(done:List Nat)(q:Nat):pY done (.int (0+(q:Int))) = !iX (.int (0+(q:Int))) (done.map fun k:Nat=>V.int (k:Int)):=by rw [g7,si];show (!decide (((q:Nat):Int).toNat∈done))=_;rw [kr]
theorem Ip(n:Nat)(done:List Nat):((List.range n).map fun i:Nat=>V.int (0+(i:Int))).filter (pY done)=(ba n done).map fun k:Nat=>V.int (k:Int):=by
 rw [List.filter_map];unfold ba;rw [show (List.range n).filter (pY done ∘ fun i:Nat=>V.int (0+(i:Int)))=(List.range n).filter (fun p=>!decide (p∈done)) from List.filter_congr fun q _=>by show pY done (.int (0+(q:Int)))=_;rw [g7];show (!decide (((q:Nat):Int).toNat∈done))=_;rw [kr]]
 exact ot fun q _=>by rw [g7]
def dX(q:List Nat):List Key:=q.map fun k:Nat=>.inl (k:Int)
def Bn(H:Hp)(n:Nat)(L:aK)(W:List Nat→Int)(done:List Nat)(xs:List V):Prop:=xs.length=(ba n done).length∧∀(i:Nat) (v:V) (p:Nat),xs[i]?=some v→(ba n done)[i]?=some p→∃b,v=.ref b∧H b=some (.tup [.int (b9 n L done p+W (bg done p)),.int (p:Int)])
def Iq:Sp:=fun vs H Q _=>∃(tp d wo:Addr) (n:Nat) (L:aK) (done:List Nat) (kvs:List (List Key×V)) (W:List Nat→Int),vs=[.ref tp,.ref d,.ref wo]∧eJ H tp n L∧f_ n L∧n≤9∧H d=some (.tup (done.map fun k:Nat=>V.int (k:Int)))∧done∈a7 n∧H wo=some (.dT kvs) ∧
 (∀p,p<n→p∉done→dE kvs (dX (bg done p))=some (.int (W (bg done p))))∧∀(H':Hp) (D:Addr) (xs:List V),ak H H'→H' D=some (.lst xs)→Bn H' n L W done xs→Q (.ref D) H'
end My
namespace L2
open PySem PySem.Spec PyProof.Rows My
variable {K:aB} {Z:aK}
theorem Ir{a:Addr}{us:List V}{H1:Hp}(h:H1 a=some (.lst us))(hZ:cN H1 us Z):Ba (jz K a) Z H1:=by
 have js:i6 (jz K a) us H1:=vy (.of h);refine ⟨fun i Hc s hi=>js.go i Hc s (by rw [hZ.1];exact hi),fun i Hc v H' s y=>?_,fun i Hc s hi=>js.stop i Hc s (by rw [hZ.1];exact hi)⟩
 obtain ⟨rfl,hx⟩:=js.cI i Hc v H' s y;refine ⟨ak.refl _,fun z hz=>?_⟩;have hi:i<us.length:=by rw [hZ.1];exact (cw.mp hz).1
 obtain ⟨b,e,g⟩:=hZ.2 i v z (hx hi) hz;exact ⟨b,e,s _ _ g⟩
theorem Iu{wi:TI}{ρ:St→St}{te:TE}{σ:St}{H:Hp}{Q:VK}(eV:∀R:It→Hp→Prop,(∀J H1,ak H H1→Ba J Z H1→R J H1)→wi σ H R)(hn:Z.length<sizeLine)
  (step:∀z∈Z,∀(Hc:Hp) (R:VK),R (.int z.1) Hc→te (some (.int z.1)::some (.int z.2)::ρ σ) Hc R)
  (fin:∀D Hc,H D=none→ak H Hc→Hc D=some (.lst ((Z.map (·.1)).map V.int))→Q (.ref D) Hc):rK K wi ρ (fun _ H Q=>Q true H) te σ H Q:=by
 refine eV _ fun J H1 s1 js=>?_;intro D nD;refine ⟨fun i m us Hc=>m=Z.length-i∧i≤Z.length∧Hc D=some (.lst us)∧ak H1 Hc∧us.length≤i∧us=((Z.take i).map (·.1)).map V.int,⟨_,rfl,bK _,ax,fF (ak.refl H1) nD,ar _,rfl⟩,?_⟩;rintro i m us Hc ⟨rfl,hi,eD,sH,lu,hL⟩;refine ⟨eD,?_⟩;by_cases aX:i<Z.length
 ·refine .inr ⟨js.go i Hc sH aX,fun v H' hy=>?_⟩
  obtain ⟨s',k⟩:=js.cI i Hc v H' sH hy;obtain ⟨T,rfl,eT⟩:=k Z[i] (by simp [aX])
  have tk:Z.take (i+1)=Z.take i++[Z[i]]:=by rw [oz,cx aX];rfl
  have mz:Z[i]∈Z:=gp aX;generalize Z[i]=z at eT tk mz;refine ⟨T,_,_,rfl,.of eT,?_⟩;dsimp only;rw [ae rfl];refine step z mz _ _ ?_;refine ⟨s' _ _ eD,by omega,Z.length-(i+1),by omega,rfl,aX,ax,fF (sH.trans s') nD,by simp;omega,?_⟩
  rw [tk,gq,gq,←hL];rfl
 ·have e:i=Z.length:=by omega
  subst e;rw [oA] at hL;subst hL;exact .inl ⟨js.stop _ Hc sH (ar _),fin D Hc (none_of s1 nD) (s1.trans sH) eD⟩
end L2
namespace My
open PySem L2
def lp(d:Int):List Int→Int
 | []=>d
 | z::zs=>zs.foldl min z
theorem fold_min:∀(zs:List Int) (z:Int),zs.foldl min z∈z::zs∧∀y∈z::zs,zs.foldl min z≤y
 | [],z=>⟨dY,fun y hy=>by rw [bY.mp hy];exact gX _⟩
 | x::zs,z=>by
  obtain ⟨h1,h2⟩:=fold_min zs (min z x);show zs.foldl min (min z x)∈_∧_;constructor
  ·rcases cu.mp h1 with e | h
   ·rw [e]
    by_cases q:z≤x
    ·rw [Int.min_eq_left q]
     exact dY
    ·rw [Int.min_eq_right (by omega)]
     exact dZ _ dY
   ·exact dZ _ (dZ _ h)
  ·intro y hy
   have h0:=h2 _ dY;rcases cu.mp hy with e | hy
   ·rw [e]
    exact bS h0 (Int.min_le_left _ _)
   ·rcases cu.mp hy with e | hy
    ·rw [e]
     exact bS h0 (Int.min_le_right _ _)
    ·exact h2 y (dZ _ hy)
variable {zs:List Int}
theorem Iv{d m:Int}(h:wg zs d m):m=lp d zs:=by
 rcases h with ⟨rfl,rfl⟩ | ⟨h1,h2⟩;·rfl
 ·cases zs with
  | nil=>cases h1
  | cons z zs=>obtain ⟨f1,f2⟩:=fold_min zs z;exact Int.le_antisymm (h2 _ f1) (f2 _ h1)
noncomputable def wF (n:Nat) (L:aK):Nat→List Nat→Int
 | 0,_=>0
 | k+1,S=>lp 0 ((ba n S).map fun p=>b9 n L S p+wF n L k (bg S p))
noncomputable def wW (n:Nat) (L:aK) (S:List Nat):Int:=wF n L (n-S.length) S
variable {n:Nat} {S:List Nat}
theorem Bo(h:S∈a7 n)(hl:n≤S.length):ba n S=[]:=by
 obtain ⟨h1,h2⟩:=cO.mp h;refine List.eq_nil_iff_forall_not_mem.mpr fun p hp=>?_;obtain ⟨p1,p2⟩:=cU.mp hp;have pn:=dc.mp p1;have pS:p∉S:=by simpa using p2
 have up:=lj h1 pS;have:=pW (n:=n) up fun x hx=>by
  rcases jS.mp hx with rfl | hx;·exact pn
  ·exact h2 x hx
 rw [pX] at this;omega
variable {L:aK}
theorem wu(h:S∈a7 n):wW n L S=lp 0 ((ba n S).map fun p=>b9 n L S p+wW n L (bg S p)):=by
 unfold wW;by_cases hl:S.length<n
 ·obtain ⟨k,hk⟩:∃k,n-S.length=k+1:=⟨n-S.length-1,by omega⟩
  rw [hk];show lp 0 _=_
  congr 1
  refine ot fun p hp=>?_;rw [pX,show n-(S.length+1)=k by omega]
 ·rw [Bo h (by omega),show n-S.length=0 by omega]
  rfl
theorem Bp{a b:List Nat}(h:dX a=dX b):a=b:=by
 have h1:∀l:List Nat,(dX l).map (fun k=>match k with | .inl z=>z.toNat | .inr _=>0)=l:=fun l=>by
  unfold dX
  rw [fP]
  conv=>rhs;rw [←List.map_id l]
  exact ot fun k _=>kr k
 rw [←h1 a,←h1 b,h]
def wD(W:List Nat→Int)(qs:List (List Nat)):List (List Key×V):=qs.map fun q=>(dX q,.int (W q))
theorem wx(W:List Nat→Int):∀{qs:List (List Nat)} {q:List Nat},q∈qs→dE (wD W qs) (dX q)=some (.int (W q))
 | [],_,h=>by cases h
 | r::qs,q,h=>by
  by_cases e:r=q
  ·subst e
   exact pL rfl
  ·show dE ((dX r,V.int (W r))::wD W qs) (dX q)=_
   rw [pM fun z=>e (Bp z)];exact wx W ((cu.mp h).resolve_left fun z=>e z.symm)
variable {qs:List (List Nat)} {q:List Nat}
theorem Iw(W:List Nat→Int)(h:q∉qs):putK (wD W qs) (dX q) (.int (W q))=wD W (qs++[q]):=by
 unfold putK;rw [aa fun z=>?_]
 ·unfold wD
  rw [gq];rfl
 ·obtain ⟨kv,hm,e⟩:=List.any_eq_true.mp z
  obtain ⟨r,hr,rfl⟩:=dN.mp hm;exact h (Bp (gu e)▸hr)
theorem wz:∀n,(a7 n).Nodup
 | 0=>by show [[]].Nodup;simp
 | n+1=>by
  show (a7 n++(a7 n).map (·++[n])).Nodup;rw [List.nodup_append];refine ⟨wz n,(List.pairwise_map.mpr ((wz n).imp fun h e=>h (List.append_cancel_right e))),fun a ha b hb e=>?_⟩;obtain ⟨c,_,rfl⟩:=dN.mp hb;have:=(cO.mp ha).2 n (by rw [e];simp)
  omega
def Iy:Sp:=fun vs H Q _=>∃(tp:Addr) (n:Nat) (L:aK),vs=[.ref tp]∧eJ H tp n L∧f_ n L∧n≤9 ∧
 ∀(H':Hp) (D:Addr) (qs:List (List Nat)),ak H H'→H D=none→H' D=some (.dT (wD (wW n L) qs))→qs.Perm (a7 n)→Q (.ref D) H'
variable {H:Hp}
theorem Iz{K:aB}{wi:TI}{ρ:St→St}{tt:TT}{te td:TE}{σ:St}{Q:VK}(h:rK K wi ρ tt te σ H fun x H1=>td σ H1 fun y H2=>∃(l:Addr) (zs:List Int) (d:Int),[x]=[V.ref l]∧y=.int d∧H2 l=some (.lst (zs.map V.int))∧zs.length≤10000∧∀m,wg zs d m→Q (.int m) H2):Bi (q5 (rK K wi ρ tt te) zf) td σ H Q:=h
structure wA (n:Nat) (qs:List (List Nat)):Prop where
 pm:qs.Perm (a7 n)
 dn:qs.Pairwise fun a b=>b.length≤a.length
variable {p:List Nat}
theorem IA(h:jQ (a7 n).length (fun i=>((((a7 n).getD i []).length:Nat):Int)) p):wA n (p.map fun i=>(a7 n).getD i []):=by
 refine ⟨?_,?_⟩
 ·have e:(List.range (a7 n).length).map (fun i=>(a7 n).getD i [])=a7 n:=by
   refine qG (by simp) fun i h1 h2=>?_
   simp [h2]
  have:=h.pm.map fun i=>(a7 n).getD i [];rw [e] at this;exact this
 ·rw [List.pairwise_map]
  exact h.dn.imp fun h=>Int.ofNat_le.mp h
variable {j:Nat}
theorem IC(h:wA n qs)(hq:qs[j]?=some q){p:Nat}(pn:p<n)(pq:p∉q):bg q p∈qs.take j:=by
 have hj:=(cw.mp hq).1;obtain ⟨q1,q2⟩:=cO.mp (h.pm.mem_iff.mp (jl hq));have hm:bg q p∈qs:=h.pm.mem_iff.mpr (cO.mpr ⟨lj q1 pq,fun x hx=>by
  rcases jS.mp hx with rfl | hx;·exact pn
  ·exact q2 x hx⟩)
 obtain ⟨i,hi,e⟩:=ou hm;by_cases ij:i<j;·exact List.mem_take_iff_getElem.mpr ⟨i,by omega,e⟩
 ·exfalso
  have jd:qs[j]=q:=by have:=cx hj;rw [hq] at this;exact (Option.some.inj this).symm
  have l1:=pX (l:=q) (p:=p);by_cases z:i=j
  ·subst z
   rw [←e,jd] at l1;omega
  ·have:=mh.mp h.dn j i hj hi (by omega)
   rw [e,jd,l1] at this;omega
theorem ID(h:wA n qs)(hq:qs[j]?=some q):q∉qs.take j∧qs.take (j+1)=qs.take j++[q]:=by
 have hj:=(cw.mp hq).1;have nd:qs.Nodup:=h.pm.nodup_iff.mpr (wz n);refine ⟨fun hm=>?_,by rw [oz,hq];rfl⟩
 obtain ⟨i,hi,e⟩:=List.mem_take_iff_getElem.mp hm;have jd:qs[j]=q:=by have:=cx hj;rw [hq] at this;exact (Option.some.inj this).symm
 exact mh.mp (List.nodup_iff_pairwise_ne.mp nd) i j (by omega) hj (by omega) (e.trans jd.symm)
variable {xs:List V}
theorem IE(h:gg H xs qs)(hp:∀i∈p,i<qs.length):gg H (p.map fun i=>xs.getD i .aI) (p.map fun i=>qs.getD i []):=by
 refine ⟨by rw [aW,aW],fun k v q h1 h2=>?_⟩
 rw [df] at h1 h2;cases e:p[k]? with
 | none=>rw [e] at h1;cases h1
 | some i=>
  rw [e] at h1 h2;cases h1;cases h2;have hi:=hp i (jl e);have hx:i<xs.length:=by rw [h.1];exact hi
  refine h.2 i _ _ ?_ ?_
  ·show xs[i]?=some (xs.getD i V.aI)
   rw [fO,cx hx];rfl
  ·show qs[i]?=some (qs.getD i [])
   rw [fO,cx hi];rfl
theorem Bq{W:List Nat→Int}{done:List Nat}(h:Bn H n L W done xs):cN H xs ((ba n done).map fun p=>(b9 n L done p+W (bg done p),(p:Int))):=by
 refine ⟨by rw [h.1,aW],fun k v z h1 h2=>?_⟩
 rw [df] at h2;cases e:(ba n done)[k]? with
 | none=>rw [e] at h2;cases h2
 | some p=>rw [e] at h2;cases h2;exact h.2 k v p h1 e
noncomputable def lz (n:Nat) (L:aK):List Nat→List Nat→Int
 | _,[]=>0
 | S,p::o=>b9 n L S p+lz n L (bg S p) o
theorem Br(n:Nat)(L:aK):∀(o:List Nat) (S:List Nat) (p:Nat),lz n L S (o++[p])=lz n L S o+b9 n L (o.foldl bg S) p
 | [],S,p=>by show b9 n L S p+0=0+b9 n L S p;omega
 | x::o,S,p=>by show b9 n L S x+lz n L (bg S x) (o++[p])=b9 n L S x+lz n L (bg S x) o+b9 n L (o.foldl bg (bg S x)) p;rw [Br n L o (bg S x) p];omega
theorem IF{z:Int}(h:zs≠[]):lp z zs∈zs∧∀y∈zs,lp z zs≤y:=by
 cases zs with
 | nil=>exact absurd rfl h
 | cons x zs=>exact fold_min zs x
structure lA (n:Nat) (L:aK) (o S:List Nat):Prop where
 eq:S=o.foldl bg []
 pm:S.Perm o
 mem:S∈a7 n
 Bs:lz n L [] o+wW n L S=wW n L []
theorem lA.start(n:Nat)(L:aK):lA n L [] []:=⟨rfl,.nil,cO.mpr ⟨.nil,fun x h=>by cases h⟩,by show 0+_=_;omega⟩
theorem Bt:∀(l:List Nat) (p:Nat),(bg l p).Perm (l++[p])
 | [],p=>.refl _
 | x::l,p=>by
  unfold bg
  split
  ·exact (List.perm_append_singleton p (x::l)).symm
  ·exact (Bt l p).cons x
theorem lA.next{o:List Nat}(h:lA n L o S){p:Nat}(hp:p∈ba n S)(hm:∀q∈ba n S,b9 n L S p+wW n L (bg S p)≤b9 n L S q+wW n L (bg S q)):lA n L (o++[p]) (bg S p):=by
 obtain ⟨p1,p2⟩:=cU.mp hp;have pn:=dc.mp p1;have pS:p∉S:=by simpa using p2
 obtain ⟨m1,m2⟩:=cO.mp h.mem;refine ⟨by rw [List.foldl_append,←h.eq];rfl,(Bt S p).trans (h.pm.append_right [p]),cO.mpr ⟨lj m1 pS,fun x hx=>?_⟩,?_⟩
 ·rcases jS.mp hx with rfl | hx
  ·exact pn
  ·exact m2 x hx
 ·have st:=wu (L:=L) h.mem
  obtain ⟨f1,f2⟩:=IF (z:=0) (zs:=(ba n S).map fun p=>b9 n L S p+wW n L (bg S p)) (fun e=>by rw [qL] at e;rw [e] at hp;cases hp)
  rw [←st] at f1 f2;obtain ⟨q,hq,e⟩:=dN.mp f1;have h1:=hm q hq;have h2:=f2 _ (dN.mpr ⟨p,hp,rfl⟩);have:=h.Bs;rw [Br,←h.eq];omega
theorem IG(h:S∈a7 n)(hl:S.length<n):0<(ba n S).length:=by
 refine Nat.pos_of_ne_zero fun e=>?_;have e:=List.length_eq_zero_iff.mp e;have sub:List.range n ⊆ S:=fun x hx=>by
  refine Classical.byContradiction fun no=>?_;have:x∈ba n S:=cU.mpr ⟨hx,by simpa using no⟩
  rw [e] at this;cases this
 have:=(mw (n:=n)).length_le_of_subset sub;rw [dv] at this;omega
theorem IH(h:S∈a7 n)(hl:S.length=n):S=List.range n:=by
 obtain ⟨h1,h2⟩:=cO.mp h;refine Bb h1 (HD n) fun p=>⟨fun hp=>dc.mpr (h2 p hp),fun hp=>?_⟩;refine Classical.byContradiction fun no=>?_;have:p∈ba n S:=cU.mpr ⟨hp,by simpa using no⟩
 rw [Bo h (by omega)] at this
 cases this
def II:Sp:=fun vs H Q _=>∃(tp:Addr) (n:Nat) (L:aK),vs=[.ref tp]∧eJ H tp n L∧f_ n L∧n≤9 ∧
 ∀(H':Hp) (t lo:Addr) (o:List Nat),ak H H'→H lo=none→H' t=some (.tup [.ref lo,.int (wW n L [])])→H' lo=some (.lst (o.map fun k:Nat=>V.int (k:Int)))→o.Perm (List.range n)→lz n L [] o=wW n L []→Q (.ref t) H'
end My
namespace L2
open PySem
section
variable {prog:Program} {w:World} {A:Around} {E:aw} {s:Shared}
theorem IJ{d:Addr}{es:Array DictEntry}{ep:Nat}{Q:aw}(hd:(d == sysModules)=false)(hm:wb s.heap d es ep)(Nz:(es.size:Int)<2 ^ 63)
  (h:Q (.int es.size (s.toks+1)) {s with toks:=s.toks+1+1}):wpAny (model prog w) A (call (.builtin "len") [.ref d]) Q E s:=by
 refine PyProof.Rows.call_len_slot (n:=es.size) hm.ty F.slot_dict_len (fun Q' hq=>?_) (by omega) (by omega) h
 refine wpAny_call_entry F.slot_dict_len hm.ty F.entry_dict_len ?_ (F.args_dict_len_1 _);obtain ⟨o,ho,hc,IK⟩:=hm;show wpAny _ _ (dictSize d >>= _) _ _ s;unfold dictSize;refine au (au (wpAny_dictEntries ho IK (bf ?_)));show wpAny _ _ (Builtin.Dict.pendingCount d >>= _) _ _ s;refine au (wpAny_pendingCount_other hd ?_);refine wpAny_ret_mkInt ?_;show Q' (.int ((es.size:Int)+(0:Int)) s.toks) _;rw [Int.add_zero];exact hq
end
theorem IL{X:Cx}:fz X (.builtin "len") (fun xs H Q=>∃a kvs,xs=[V.ref a]∧H a=some (.dT kvs)∧kvs.length≤10000∧Q (.int kvs.length) H):=by
 intro pins s σ H xs us Q I r h;obtain ⟨d,kvs,rfl,hp,hn,q⟩:=h;obtain ⟨u,rfl,ru⟩:=vals1 r;cases ru;obtain ⟨_,sys,qP,kt,o,es,ep,g,c,dd,e4,e5,e6⟩:=v8 I.ao hp;have sz:es.size=kvs.length:=by rw [size_of_entries e4,←Paired.length kt]
 exact IJ sys ⟨o,g,c,dd⟩ (by omega) ⟨.int kvs.length,H,I.tok _,⟨s.toks+1,by rw [sz]⟩,q⟩
open PySem PySem.Spec PyProof.Rows My
end L2
namespace My
open PySem L2
end My
namespace L2
open PySem PySem.W PyProof.Rows
section
variable {prog:Program} {w:World} {A:Around} {E:aw} {s:Shared}
theorem IM{Q:List Value→Shared→Prop}{r:Addr}{b:Int}{t u v:Tok}{n:Nat}(hh:A.handled=none)(hr:IsRange s.heap r 0 b 1 t u v)(pZ:Builtin.Range.small 0 b 1=true)(hn:Builtin.Range.rangeSize 0 b 1=n)(hlen:n≤2 ^ 24)
  (hQ:∀h' tk (acc:Array Value),(∀b o',s.heap.get? b=some o'→h'.get? b=some o')→ItemsOf (fun i v=>∃t,v=.int (0+(i:Int)*1) t) acc n→Q acc.toList {s with heap:=h',toks:=tk}):wpAny (model prog w) A (collect (.ref r)) Q E s:=by
 unfold collect
 refine au (wpAny_runValue (jm F.entry_proto_collect ?_))
 rw [kq F.plain_proto_collect _]
 show wpAny _ A.in1 (newList [] >>= fun l=>again (.builtin "list.__iadd__" ⟨[l,.ref r],[]⟩)) _ _ s
 refine au (oo ?_)
 refine bf ⟨mq F.plain_list_iadd _,jm F.entry_list_iadd ?_⟩
 rw [kq F.plain_list_iadd _]
 show wpAny _ A.in1 (Builtin.List.listExtendWith (.ref s.heap.objs.size) (.ref r) (.ref s.heap.objs.size)) _ _ _
 have hS:(s.heap.push {cls:=.type "list",data:=.seq ([]:List Value).toArray}).get? s.heap.objs.size=some {cls:=.type "list",data:=.seq #[] 0}:=cP _ rfl
 refine a8 (wpAny_extend_range (A:=A) (R:=fun r' s'=>∃h' tk acc c,r'=.ok (.ret (.ref s.heap.objs.size))∧s'={s with heap:=h',toks:=tk}∧(∀b o',s.heap.get? b=some o'→h'.get? b=some o')∧h'.get? s.heap.objs.size=some {cls:=.type "list",dict:=none,data:=.seq acc c,slots:=#[]}∧ItemsOf (fun i v=>∃t,v=.int (0+(i:Int)*1) t) acc n)
  (s:={s with heap:=s.heap.push {cls:=.type "list",data:=.seq ([]:List Value).toArray}}) hh (bA _ hr) pZ hn hlen _ _ 0 hS fun h' tk acc c k g it=>⟨h',tk,acc,c,rfl,rfl,fun b o' hb=>k b o' (bP (aQ hb)) (bA _ hb),g,it⟩) (fun fin s' h=>?_) (fun e s' h=>?_)
 ·have done:∀s',(∃h' tk acc c,s'={s with heap:=h',toks:=tk}∧(∀b o',s.heap.get? b=some o'→h'.get? b=some o')∧h'.get? s.heap.objs.size=some {cls:=.type "list",dict:=none,data:=.seq acc c,slots:=#[]}∧ItemsOf (fun i v=>∃t,v=.int (0+(i:Int)*1) t) acc n)→wpAny (model prog w) A (match Value.ref s.heap.objs.size with
    | Value.ref a=>do
     match (←load a).data with
      | Data.seq xs _=>pure xs.toList
      | _=>unsupported "internal:collect"
    | _=>unsupported "internal:collect") Q E s':=fun s' ⟨h',tk,acc,c,e,k,g,it⟩=>by
   subst e
   show wpAny _ A (load s.heap.objs.size >>= _) _ _ _
   exact au (wpAny_load g (bf (hQ h' tk acc k it)))
  cases fin with
  | done f=>
   obtain ⟨h',tk,acc,c,e,es,k,g,it⟩:=h
   cases e
   exact done s' ⟨h',tk,acc,c,es,k,g,it⟩
  | again c'=>exact ⟨h.1,n_ h.2 fun r dz hr=>by
    obtain ⟨h',tk,acc,c,e,es,k,g,it⟩:=hr
    subst e
    exact done dz ⟨h',tk,acc,c,es,k,g,it⟩⟩
 ·obtain ⟨_,_,_,_,e,_⟩:=h
  exact absurd e (by simp)
end
open AutoSeq1 (wpAny_loadPart')
section
variable {prog:Program} {w:World} {A:Around} {E:aw} {s:Shared}
variable {r:Addr} {b:Int} {u:Tok} {n:Nat}
theorem IP{Q₁:aw}{t v:Tok}(hh:A.handled=none)(hr:IsRange s.heap r 0 b 1 t u v)(pZ:Builtin.Range.small 0 b 1=true)(hn:Builtin.Range.rangeSize 0 b 1=n)(hlen:n≤10000)
  (h:∀(h':Heap) (tk:Nat) (acc:Array Value),(∀b o',s.heap.get? b=some o'→h'.get? b=some o')→ItemsOf (fun i v=>∃t,v=.int (0+(i:Int)*1) t) acc n→Q₁ (.ref h'.objs.size) {s with heap:=h'.push {cls:=.type "tuple",data:=.seq acc},toks:=tk}) :
  codeAny (model prog w) A (.call (.builtin "tuple.__new__") ⟨[.type "tuple",.ref r],[]⟩) (wants Q₁ E) s:=by
 refine codeAny_of_tree ?_
 show wpAny _ A.in1 (do checkBuiltinCall "tuple.__new__" ⟨[.type "tuple",.ref r],[]⟩;again (.builtin "tuple.__new__" ⟨[.type "tuple",.ref r],[]⟩)) _ _ s
 refine au (wpAny_of_eq (F.newCall_tuple_1 _) (bf ⟨mq F.plain_tuple_new _,jm F.entry_tuple_new ?_⟩))
 rw [kq F.plain_tuple_new _]
 have z5:=sub_tuple_self
 have NA:=init_tuple_lookup
 have NB:=madeHere_tuple
 have IQ:s.TypeIs (.ref r) "range":=⟨_,hr,rfl⟩
 have IS:=fun(Q:List Value→Shared→Prop) (E:aw)=>IM (prog:=prog) (w:=w) (A:=A.in1) (E:=E) (Q:=Q) (show A.in1.handled=none from hh) hr pZ hn (by omega)
 wp_walk using wpAny_typeOf IQ,IS
 intro h' tk acc hk sC
 show wpAny _ _ (Builtin.Tuple.tupleExact acc.toList.toArray >>= fun v=>ret v) _ _ _
 unfold Builtin.Tuple.tupleExact
 refine au (oo ?_ (by show acc.toList.toArray.size≤sizeLine;simp only [Array.toArray_toList];rw [sC.1,gm];omega))
 refine bf ?_
 have e:acc.toList.toArray=acc:=by simp
 rw [e]
 exact h h' tk acc hk sC
theorem IT{Q:aw}{t v:Tok}(hh:A.handled=none)(hr:IsRange s.heap r 0 b 1 t u v)(pZ:Builtin.Range.small 0 b 1=true)(hn:Builtin.Range.rangeSize 0 b 1=n)(hlen:n≤10000)
  (hQ:∀(h':Heap) (tk:Nat) (acc:Array Value),(∀b o',s.heap.get? b=some o'→h'.get? b=some o')→ItemsOf (fun i v=>∃t,v=.int (0+(i:Int)*1) t) acc n→Q (.ref h'.objs.size) {s with heap:=h'.push {cls:=.type "tuple",data:=.seq acc},toks:=tk}) :
  wpAny (model prog w) A (call (.type "tuple") [.ref r]) Q E s:=by
 refine callType_codes (Q₁:=fun obj s₁=>s₁.TypeIs obj "tuple"∧Q obj s₁) F.called_tuple (F.typeCall_tuple_1 _) F.entry_object_init
  (IP hh hr pZ hn hlen fun h' tk acc hk sC=>⟨⟨_,cP _ rfl,rfl⟩,hQ h' tk acc hk sC⟩) fun obj s₁ h₁=>?_
 exact ⟨h₁.1,F.args_object_init_2 obj _,object_init_meets F.called_tuple.init.lookup F.called_tuple.made (by decide) prog w A.in1 _ s₁ ⟨h₁.1,rfl,h₁.2⟩⟩
end
def IU:List V→Hp→VK→Prop:=fun xs H Q=>∃p n,xs=[.ref p]∧H p=some (.fR 0 (n:Nat))∧n≤10000∧∀l,H l=none→Q (.ref l) (upd H l (.tup (fV n)))
theorem IV{X:Cx}(hc:X.calm=true):fz X (.type "tuple") IU:=by
 intro pins s σ H xs us Q I r h;obtain ⟨p,n,rfl,hp,hn,q⟩:=h;obtain ⟨u,rfl,ru⟩:=vals1 r;cases ru;obtain ⟨t,u,v,e⟩:=(show bj X.prog X.w H s.heap p (.fR 0 n) from I.ao p _ hp);refine IT (n:=n) (I.ok.hd hc) e (small_one (by omega) (by omega) (by omega) (by omega)) (by rw [rangeSize_one];split <;> omega) hn fun h' tk acc hk hit=>?_
 have I1:Inv X pins σ H {s with heap:=h',toks:=tk}:=I.kept (t':=tk) hk;refine ⟨.ref h'.objs.size,_,I1.laid (t':=tk) (o:=.tup (fV n)) (fun b o e=>bA _ e) (ar _) ⟨?_,acc.toList,?_,?_⟩,rfl,q _ (I1.ao.fresh (ar _))⟩
 ·unfold fV
  rw [aW,dv];exact bQ hn (by decide)
 ·refine vv ?_ fun i x u h1 h2=>?_
  ·unfold fV
   rw [aW,dv,eL,hit.1]
  ·have ph:acc[i]?=some u:=by simpa using h2
   obtain ⟨bW,e'⟩:=hit.2 i u ph;unfold fV at h1;rw [df] at h1;have hi:i<n:=by have z:=(Array.getElem?_eq_some_iff.mp ph).1;rw [hit.1] at z;exact z
   rw [me hi] at h1;cases h1;exact ⟨bW,by rw [e'];simp⟩
 ·rw [Array.toArray_toList]
  exact IsTup.new _ _
end L2
namespace My
open PySem L2
end My
namespace L2
open PySem PySem.Spec PyProof.Rows My
end L2
namespace My
open PySem L2
open PySem L2 Classical
theorem IW(n:Nat):[]∈a7 n:=cO.mpr ⟨List.Pairwise.nil,fun _ h=>by cases h⟩
end My
namespace L2
open PySem PySem.Spec PyProof.Rows
def IY(tk tv:TE):TE:=fun σ H Q=>∀p,H p=none→tk σ (upd H p (.dT [])) fun x H1=>tv σ H1 fun y H2=>H2 p=some (.dT [])∧∃(b:Addr) (k:List Key),x=.ref b∧H2 b=some (.tup (k.map kV))∧Q (.ref p) (upd H2 p (.dT [(k,y)]))
theorem IZ{X:Cx}{pos:Pos}{k v:Expr}{tk tv:TE}(hu:X.A.units+1<cLine)(hk:PE X k tk)(hv:PE X v tv):PE X (.Dict [some k] [v] pos) (IY tk tv):=by
 intro pins s σ H Q I q;have hn:=I.ao.fresh (ar s.heap.objs.size);have I1:=I.laid (a:=s.heap.objs.size) (o:=.dT []) (h':=s.heap.push {cls:=.type "dict",data:=.dict #[]}) (t':=s.toks) (fun _ _ q=>bA _ q) (ar _) (AV s.heap I.big);refine wpAny_Dict_any rfl rfl (by simp) (by simp) ?_
 refine pairTrees_cons_walk (aA (hk pins _ σ _ _ I1 (q _ hn)) fun u s1 ⟨x,H1,J1,rx,q1⟩=>aA (hv pins s1 σ H1 _ J1 q1) fun w2 s2 ⟨y,H2,J2,ry,e,b,ks,ex,eb,q2⟩=>pairTrees_nil_walk ?_);subst ex;cases (show u=Value.ref b from rx);obtain ⟨z,hd,xs,rel,dd⟩:=v8 J2.ao e;have hz:xs.length≤sizeLine:=by rw [←Paired.length rel];exact z
 unfold storeAll;rw [List.forIn_cons];refine au (au (wpAny_dictSet_heap (hsz:=hz) (show X.A.units<cLine by omega) (mZ J2.ao eb) dd fun h' fU hs=>bf ?_))
 refine bf ⟨.ref s.heap.objs.size,_,?_,rfl,q2⟩;have hl:(putK ([]:List (List Key×V)) ks y).length≤sizeLine:=by have:=rY ([]:List (List Key×V)) ks y;rw [gm];simp at this;omega
 obtain ⟨q,es,ep,hq,h2,h3,h4,_,h5⟩:=fU;refine rZ J2 (by rw [e];exact True.intro) hs ⟨q,hq⟩ ⟨hl,hd,_,(rel.put ks eb ry).keeps fun c ys ec=>?_,q,es,ep,hq,h2,h3,h4,h5⟩
 rw [aT (xI ec e (fun z=>nomatch z))];exact ec
end L2
namespace My
open PySem L2 Classical
structure fL (n:Nat) (L:aK) (cy:Nat→Nat):Prop where
 lt:∀k,k<n→cy k<n
 inj:∀j k,j<n→k<n→cy j=cy k→j=k
 p7:∀x,x<n→∃k,k<n∧cy k=x
 b5:∀j k,j<n→k<n→(aL n L (cy j) (cy k)↔(k=j+1∨j=k+1∨(j=0∧k+1=n)∨(k=0∧j+1=n)))
variable {n i:Nat} {L:aK} {cy:Nat→Nat}
theorem fL.I0(r:fL n L cy)(n3:3≤n)(hi:i<n):fL n L (fun k=>cy (if i+k<n then i+k else i+k-n)):=by
 refine ⟨fun k hk=>?_,fun j k hj hk e=>?_,fun x hx=>?_,fun j k hj hk=>?_⟩
 ·refine r.lt _ ?_
  split <;> omega
 ·have:=r.inj _ _ ?_ ?_ e
  ·split at this <;> split at this <;> omega
  ·split <;> omega
  ·split <;> omega
 ·obtain ⟨k,hk,e⟩:=r.p7 x hx
  by_cases h:i≤k
  ·refine ⟨k-i,by omega,?_⟩
   rw [ae (by omega),show i+(k-i)=k by omega]
   exact e
  ·refine ⟨k+n-i,by omega,?_⟩
   rw [aa (by omega),show i+(k+n-i)-n=k by omega]
   exact e
 ·rw [r.b5 _ _ (by split <;> omega) (by split <;> omega)]
  split <;> split <;> omega
theorem Bu{P:Nat→Prop}:∀k,P k→∃m,P m∧∀j,j<m→¬P j:=fun k=>by
 induction k using Nat.strongRecOn with
 | ind k ih=>
  intro h;by_cases e:∃j,j<k∧P j
  ·obtain ⟨j,hj,pj⟩:=e
   exact ih j hj pj
  ·exact ⟨k,h,fun j hj pj=>e ⟨j,hj,pj⟩⟩
noncomputable def m7 (n:Nat) (L:aK) (i:Nat):List Nat:=(List.range n).filter fun j=>decide (aL n L i j)
theorem I_(b6:f_ n L):fi n L (m7 n L):=fun i j hi=>by
 unfold m7;rw [cU,dc,g6];constructor;·exact fun h=>h.2.2.2
 ·intro h
  have:j<n:=by rcases h with h | h <;> (have:=b6 _ h;omega)
  exact ⟨this,hi,this,h⟩
variable {S:List Nat} {p:Nat}
theorem wB(b6:f_ n L)(pn:p<n)(l:List Nat)(nd:l.Nodup)(h:∀x,x∈l↔x≠p∧x∉S∧eK (aL n L) (·∈S) p x):b9 n L S p=(l.length:Int)*l.length+3*l.length+1:=by
 have ra:∀{x},eK (gc n (m7 n L)) (·∈S) p x↔eK (aL n L) (·∈S) p x:=fun{x}=>by
  have e:∀a b,gc n (m7 n L) a b↔aL n L a b:=fun a b=>by unfold gc m7;rw [cU,dc,g6];exact ⟨fun h=>h.2.2,fun h=>⟨h.1,h.2.1,h⟩⟩
  constructor
  ·intro h
   induction h with
   | start=>exact .start
   | step _ t a ih=>exact .step ih t ((e _ _).mp a)
  ·intro h
   induction h with
   | start=>exact .start
   | step _ t a ih=>exact .step ih t ((e _ _).mpr a)
 have rn:∀{x},eK (aL n L) (·∈S) p x→x<n:=fun h=>by
  cases h with
  | start=>exact pn
  | step _ _ a=>exact a.2.1
 refine (wq (I_ b6) ⟨(List.range n).filter fun x=>decide (eK (gc n (m7 n L)) (·∈S) p x),⟨mw.filter _,fun k hk=>dc.mp (cU.mp hk).1⟩,fun x=>?_,?_⟩).symm
 ·rw [cU,dc,g6]
  exact ⟨fun h=>h.2,fun h=>⟨rn (ra.mp h),h⟩⟩
 ·refine List.Perm.length_eq ((qH nd ((mw.filter _).filter _)).mpr fun x=>?_)
  rw [h,cU,cU,dc,g6,ra,qA,Bool.not_eq_true',Bool.not_eq_true',decide_eq_false_iff_not,decide_eq_false_iff_not];exact ⟨fun⟨a,b,c⟩=>⟨⟨rn c,c⟩,a,b⟩,fun⟨⟨_,c⟩,a,b⟩=>⟨a,b,c⟩⟩
theorem fL.reach(r:fL n L cy)(n3:3≤n)(pS:cy 0∉S){a b:Nat}(a1:1≤a)(ab:a≤b)(bn:b<n)(ha:cy a∉S)(hb:cy b∉S)(jF:∀k,1≤k→k<a→cy k∈S)(lB:∀k,b<k→k<n→cy k∈S)(x:Nat) :
  (x≠cy 0∧x∉S∧eK (aL n L) (·∈S) (cy 0) x)↔(x=cy a∨x=cy b):=by
 have up:∀k,k≤a→eK (aL n L) (·∈S) (cy 0) (cy k):=fun k=>by
  induction k with
  | zero=>exact fun _=>.start
  | succ k ih=>
   intro hk;refine .step (ih (by omega)) ?_ ((r.b5 k (k+1) (by omega) (by omega)).mpr (.inl rfl))
   by_cases e:k=0;·exact .inl (by rw [e])
   ·exact .inr (jF k (by omega) (by omega))
 have dn:∀d,d<n→b≤n-1-d→eK (aL n L) (·∈S) (cy 0) (cy (n-1-d)):=fun d=>by
  induction d with
  | zero=>exact fun _ _=>.step .start (.inl rfl) ((r.b5 0 (n-1-0) (by omega) (by omega)).mpr (by omega))
  | succ d ih=>intro hd kN;exact .step (ih (by omega) (by omega)) (.inr (lB _ (by omega) (by omega))) ((r.b5 _ _ (by omega) (by omega)).mpr (by omega))
 constructor
 ·rintro ⟨xp,xS,h⟩
  have Ja:∃k,k<n∧x=cy k∧(k≤a∨b≤k):=by
   clear xp xS
   induction h with
   | start=>exact ⟨0,by omega,rfl,.inl (by omega)⟩
   | @step y z _ t e ih=>
    obtain ⟨k,kn,ey,hk⟩:=ih;obtain ⟨k',Bv,ez⟩:=r.p7 z e.2.1;rw [ey,←ez] at e;have NC:=(r.b5 k k' kn Bv).mp e;refine ⟨k',Bv,ez.symm,?_⟩;rcases t with t | t
    ·have k0:=r.inj k 0 kn (by omega) (ey▸t)
     omega
    ·have ka:k≠a:=fun e=>ha (by rw [←e,←ey];exact t)
     have kb:k≠b:=fun e=>hb (by rw [←e,←ey];exact t)
     omega
  obtain ⟨k,kn,rfl,hk⟩:=Ja;have k0:k≠0:=fun e=>xp (by rw [e])
  rcases hk with hk | hk
  ·by_cases e:k=a
   ·exact .inl (by rw [e])
   ·exact absurd (jF k (by omega) (by omega)) xS
  ·by_cases e:k=b
   ·exact .inr (by rw [e])
   ·exact absurd (lB k (by omega) kn) xS
 ·have ne:∀k,1≤k→k<n→cy k≠cy 0:=fun k k1 kn e=>by
   have:=r.inj k 0 kn (by omega) e
   omega
  rintro (rfl | rfl);·exact ⟨ne a a1 (by omega),ha,up a (ar _)⟩
  ·refine ⟨ne b (by omega) bn,hb,?_⟩
   have:=dn (n-1-b) (by omega) (by omega)
   rwa [show n-1-(n-1-b)=b by omega] at this
theorem fL.cost(r:fL n L cy)(n3:3≤n)(b6:f_ n L)(pn:p<n)(pS:p∉S) :
  ((∃x y,x<n∧y<n∧x≠y∧x≠p∧y≠p∧x∉S∧y∉S)→b9 n L S p=11)∧((∃x,x<n∧x≠p∧x∉S∧∀y,y<n→y≠p→y∉S→y=x)→b9 n L S p=5)∧((∀x,x<n→x≠p→x∈S)→b9 n L S p=1):=by
 obtain ⟨i,hi,rfl⟩:=r.p7 p pn;have r':=r.I0 n3 hi;have e0:(fun k=>cy (if i+k<n then i+k else i+k-n)) 0=cy i:=by
  dsimp only;rw [ae (by omega)]
  rfl
 rw [←e0] at pS pn ⊢;generalize (fun k=>cy (if i+k<n then i+k else i+k-n))=c at r' pS pn ⊢
 clear e0 r hi i cy;have main:∀x,x<n→x≠c 0→x∉S→∃a b,1≤a∧a≤b∧b<n∧c a∉S∧c b∉S∧(∀k,1≤k→k<a→c k∈S)∧∀k,b<k→k<n→c k∈S:=fun x xn xp xS=>by
  obtain ⟨k,kn,ek⟩:=r'.p7 x xn;have k0:k≠0:=fun e=>xp (by rw [←ek,e])
  obtain ⟨a,⟨a1,an,Bw⟩,Jb⟩:=Bu (P:=fun k=>1≤k∧k<n∧c k∉S) k ⟨by omega,kn,by rw [ek];exact xS⟩
  obtain ⟨d,⟨d1,Jc⟩,Bx⟩:=Bu (P:=fun d=>d<n∧c (n-1-d)∉S) (n-1-k) ⟨by omega,by rw [show n-1-(n-1-k)=k by omega,ek];exact xS⟩
  have dk:d≤n-1-a:=by
   rcases Nat.lt_or_ge (n-1-a) d with h | h;·exact absurd ⟨by omega,by rw [show n-1-(n-1-a)=a by omega];exact Bw⟩ (Bx _ h)
   ·exact h
  refine ⟨a,n-1-d,a1,by omega,by omega,Bw,Jc,fun k k1 ka=>?_,fun k kb kn=>?_⟩
  ·exact byContradiction fun h=>Jb k ka ⟨k1,by omega,h⟩
  ·exact byContradiction fun h=>Bx (n-1-k) (by omega) ⟨by omega,by rw [show n-1-(n-1-k)=k by omega];exact h⟩
 refine ⟨fun⟨x,y,xn,yn,xy,xp,yp,xS,yS⟩=>?_,fun⟨x,xn,xp,xS,one⟩=>?_,fun Jd=>?_⟩
 ·obtain ⟨a,b,a1,ab,bn,ha,hb,jF,lB⟩:=main x xn xp xS
  have p8:a≠b:=fun e=>by
   subst e;have only:∀z,z<n→z≠c 0→z∉S→z=c a:=fun z zn zp zS=>by
    obtain ⟨k,kn,rfl⟩:=r'.p7 z zn;have k0:k≠0:=fun e=>zp (by rw [e])
    by_cases e:k=a;·rw [e]
    ·exact absurd (if h:k<a then jF k (by omega) h else lB k (by omega) kn) zS
   exact xy ((only x xn xp xS).trans (only y yn yp yS).symm)
  rw [wB b6 pn [c a,c b] (by simp;exact fun e=>p8 (r'.inj a b (by omega) bn e)) fun z=>by rw [r'.reach n3 pS a1 ab bn ha hb jF lB z];simp]
  rfl
 ·obtain ⟨a,b,a1,ab,bn,ha,hb,jF,lB⟩:=main x xn xp xS
  have c0:∀k,1≤k→k<n→c k≠c 0:=fun k k1 kn e=>by
   have:=r'.inj k 0 kn (by omega) e
   omega
  have e1:=one (c a) (r'.lt a (by omega)) (c0 a a1 (by omega)) ha
  have e2:=one (c b) (r'.lt b bn) (c0 b (by omega) bn) hb
  rw [wB b6 pn [c a] (by simp) fun z=>by rw [r'.reach n3 pS a1 ab bn ha hb jF lB z,e1,e2];simp]
  rfl
 ·have Je:∀z,z∈([]:List Nat)↔z≠c 0∧z∉S∧eK (aL n L) (·∈S) (c 0) z:=by
   intro z;constructor
   ·intro h
    cases h
   ·rintro ⟨z1,z2,z3⟩
    have zn:z<n:=by
     cases z3 with
     | start=>exact absurd rfl z1
     | step _ _ e=>exact e.2.1
    exact absurd (Jd z zn z1) z2
  rw [wB b6 pn [] List.nodup_nil Je];rfl
def Jf:Nat→Int
 | 0=>0
 | 1=>1
 | k+2=>11*(k:Int)+6
theorem Jg(h:S∈a7 n):(ba n S).length+S.length=n:=by
 obtain ⟨up,lt⟩:=cO.mp h;have nd:S.Nodup:=up.imp fun h=>by omega
 have h1:((List.range n).filter fun p=>decide (p∈S)).Perm S:=(qH (mw.filter _) nd).mpr fun x=>by rw [cU,dc,g6];exact ⟨fun h=>h.2,fun h=>⟨lt x h,h⟩⟩
 have h2:∀l:List Nat,l.length=(l.filter fun p=>decide (p∈S)).length+(l.filter fun p=>!decide (p∈S)).length:=fun l=>by
  induction l with
  | nil=>rfl
  | cons x l ih=>
   rw [qI,qI,du];by_cases e:x∈S
   ·rw [b4 e,ae rfl,Bool.not_true,aa (by simp),du]
    omega
   ·rw [b3 e,aa (by simp),Bool.not_false,ae rfl,du]
    omega
 have h2:=h2 (List.range n);rw [dv,h1.length_eq] at h2;have h3:(ba n S)=(List.range n).filter (fun p=>!decide (p∈S)):=rfl;rw [h3];omega
theorem Jh{d c:Int}:∀{zs:List Int},zs≠[]→(∀z∈zs,z=c)→lp d zs=c
 | [],h,_=>absurd rfl h
 | z::zs,_,h=>h _ (fold_min zs z).1
theorem fL.worth(r:fL n L cy)(n3:3≤n)(b6:f_ n L):∀(k:Nat) (S:List Nat),S∈a7 n→n-S.length=k→wW n L S=Jf k:=fun k=>by
 induction k with
 | zero=>intro S hS hk;unfold wW;rw [hk];rfl
 | succ k ih=>
  intro S hS hk;have ll:=Jg hS;have lk:(ba n S).length=k+1:=by omega
  obtain ⟨up,lt⟩:=cO.mp hS;have lm:∀x,x∈ba n S↔x<n∧x∉S:=fun x=>by unfold ba;rw [cU,dc];simp
  have Ji:(ba n S).Nodup:=mw.filter _;rw [wu hS];refine Jh (fun e=>by rw [qL] at e;rw [e] at lk;cases lk) fun z hz=>?_
  obtain ⟨p,hp,rfl⟩:=dN.mp hz;obtain ⟨pn,pS⟩:=(lm p).mp hp;have we:bg S p∈a7 n:=cO.mpr ⟨lj up pS,fun x hx=>by
   rcases jS.mp hx with e | h;·rw [e];exact pn
   ·exact lt x h⟩
  rw [ih (bg S p) we (by rw [pX];omega)]
  obtain ⟨c2,c1,c0⟩:=r.cost n3 b6 (S:=S) pn pS;obtain ⟨rest,mL⟩:∃rest,(ba n S).Perm (p::rest):=⟨(ba n S).erase p,List.perm_cons_erase hp⟩;have lr:rest.length=k:=by have:=mL.length_eq;rw [lk,du] at this;omega
  have By:=mL.nodup_iff.mp Ji;have rm:∀x,x∈rest→x<n∧x∉S∧x≠p:=fun x hx=>by have:=(lm x).mp (mL.mem_iff.mpr (dZ _ hx));exact ⟨this.1,this.2,fun e=>(kh.mp By).1 (e▸hx)⟩
  have mr:∀x,x<n→x≠p→x∉S→x∈rest:=fun x xn xp xS=>by
   rcases cu.mp (mL.mem_iff.mp ((lm x).mpr ⟨xn,xS⟩)) with h | h;·exact absurd h xp
   ·exact h
  match k,rest,lr with
  | 0,[],_=>
   rw [c0 fun x xn xp=>byContradiction fun h=>by cases mr x xn xp h]
   rfl
  | 1,[x],_=>
   have hx:=rm x (by simp)
   rw [c1 ⟨x,hx.1,hx.2.2,hx.2.1,fun y yn yp yS=>bY.mp (mr y yn yp yS)⟩];rfl
  | k+2,x::y::rest,_=>
   have hx:=rm x (by simp)
   have hy:=rm y (by simp)
   have xy:x≠y:=fun e=>(kh.mp (kh.mp By).2).1 (by rw [e];simp)
   rw [c2 ⟨x,y,hx.1,hy.1,xy,hx.2.2,hy.2.2,hx.2.1,hy.2.1⟩];show (11:Int)+(11*((k:Nat):Int)+6)=11*((k+1:Nat):Int)+6
   push_cast
   omega
open PySem L2
def wC(N:Addr):Sp:=fun vs H _ E=>∃(t:Addr) (n:Nat) (L:aK),vs=[.ref t]∧eJ H t n L∧9<n∧∀H',ak H H'→E (.ref N) none H'
def Bz(N:Addr):Sp:=fun vs H _ E=>∃(t:Addr) (x y:V) (n:Nat) (L:aK),vs=[.ref t,x,y]∧eJ H t n L∧9<n∧∀H',ak H H'→E (.ref N) none H'
def Jj(N:Addr):Sp:=fun vs H _ E=>∃(w:Nat) (t:Addr) (x:V) (n:Nat) (L:aK),vs=[.int (w:Int),.ref t,x]∧eJ H t n L∧9<n∧∀H',ak H H'→E (.ref N) none H'
def BA:Sp:=fun _ _ _ _=>False
def Jk:Sp:=fun vs H Q _=>∃(w:Nat) (t:Addr) (x:V) (n:Nat) (L:aK),vs=[.int (w:Int),.ref t,x]∧eJ H t n L∧9<n∧∀H',ak H H'→Q (.bl true) H'
structure cA (n:Nat) (ring:Prop) (i j:Nat) (L:aK):Prop where
 lt:∀z∈L,0≤z.1∧z.1<z.2∧z.2<(n:Int)
 jT:L.length≤64*i+j
 all:ring→∀a b:Nat,a<b→b<n→(a<i∨a=i∧b<j)→(((a:Int),(b:Int))∈L↔b=a+1∨b+1=a+n)
 new:∀a b:Nat,((a:Int),(b:Int))∈L→a<i∨a=i∧b<j
theorem cA.start{ring:Prop}:cA n ring 0 1 []:=⟨fun _ h=>(by cases h),bK _,fun _ a b _ _ h=>(by omega),fun a b h=>(by cases h)⟩
variable {j:Nat}
theorem cA.skip{ring:Prop}(h:cA n ring i j L)(hn:ring→¬(j=i+1∨j+1=i+n))(jn:j<n):cA n ring i (j+1) L:=by
 refine ⟨h.lt,bQ h.jT (by omega),fun hr a b ab bn p8=>?_,fun a b hm=>?_⟩
 ·by_cases e:a=i∧b=j
  ·obtain ⟨rfl,rfl⟩:=e
   refine ⟨fun hm=>?_,fun hm=>absurd hm (hn hr)⟩;have:=h.new _ _ hm;omega
  ·exact h.all hr a b ab bn (by omega)
 ·have:=h.new a b hm
  omega
theorem cA.put{ring:Prop}(h:cA n ring i j L)(hn:ring→(j=i+1∨j+1=i+n))(ij:i<j)(jn:j<n):cA n ring i (j+1) (L++[((i:Int),(j:Int))]):=by
 refine ⟨fun z hz=>?_,?_,fun hr a b ab bn p8=>?_,fun a b hm=>?_⟩
 ·rcases dr.mp hz with hz | hz
  ·exact h.lt z hz
  ·rw [bY.mp hz]
   dsimp only;omega
 ·have:=h.jT
  rw [dg,kj];omega
 ·rw [dr,bY]
  by_cases e:a=i∧b=j
  ·obtain ⟨rfl,rfl⟩:=e
   exact ⟨fun _=>hn hr,fun _=>.inr rfl⟩
  ·rw [h.all hr a b ab bn (by omega)]
   refine ⟨fun hm=>hm.elim id fun e'=>?_,.inl⟩;have e1:=eN Prod.fst e';have e2:=eN Prod.snd e';dsimp only at e1 e2;omega
 ·rw [dr,bY] at hm
  rcases hm with hm | e'
  ·have:=h.new a b hm
   omega
  ·have e1:=eN Prod.fst e'
   have e2:=eN Prod.snd e';dsimp only at e1 e2;omega
theorem cA.row{ring:Prop}(h:cA n ring i j L)(jn:j=n∨n≤j∧j=i+1)(p9:n≤60)(hi:i<n):cA n ring (i+1) (i+2) L:=by
 refine ⟨h.lt,bQ h.jT (by omega),fun hr a b ab bn p8=>h.all hr a b ab bn (by omega),fun a b hm=>?_⟩
 have:=h.new a b hm;omega
theorem cA.ring(h:cA n True i j L)(hi:n≤i)(n3:3≤n):fL n L (fun k=>k):=by
 refine ⟨fun k hk=>hk,fun j k _ _ e=>e,fun x hx=>⟨x,hx,rfl⟩,fun a b an bn=>?_⟩;have b6:=h.lt;constructor
 ·rintro ⟨_,_,hm | hm⟩
  ·have:=b6 _ hm
   dsimp only at this;have:=(h.all trivial a b (by omega) bn (by omega)).mp hm
   omega
  ·have:=b6 _ hm
   dsimp only at this;have:=(h.all trivial b a (by omega) an (by omega)).mp hm
   omega
 ·intro p8
  rcases Nat.lt_or_ge a b with aX | ND;·exact ⟨an,bn,.inl ((h.all trivial a b aX bn (by omega)).mpr (by omega))⟩
  ·exact ⟨an,bn,.inr ((h.all trivial b a (by omega) an (by omega)).mpr (by omega))⟩
def Jl(K:aB):Sp:=fun vs H Q _=>∃(P a:Addr) (ns:List Int) (n:Nat) (way:Int),vs=[.ref P,.int (n:Int),.int way]∧dC H P a∧bL K (er P H) a (ns.map V.int)∧3≤n∧n≤60∧(way=0∨way=1) ∧
 ∀(lt:Addr) (us:List V) (L:aK) (H':Hp),aU P H H'→dC H' P a→lt≠P→H' lt=some (.tup us)→cN (er P H') us L→(∀z∈L,0≤z.1∧z.1<z.2∧z.2<(n:Int))→L.length≤4000→(way=1→fL n L fun k=>k)→Q (.ref lt) H'
theorem Jm(r:fL 9 L fun k=>k)(b6:f_ 9 L):b9 9 L [1,2] 0=11:=
 (r.cost (by decide) b6 (S:=[1,2]) (p:=0) (by decide) (by simp)).1 ⟨3,8,by decide,by decide,by decide,by decide,by decide,by simp,by simp⟩
theorem Jn(r:fL 9 L fun k=>k)(b6:f_ 9 L):wW 9 L []=83:=
 r.worth (by decide) b6 9 [] (IW 9) rfl
end My
set_option maxRecDepth 100000
set_option maxHeartbeats 4000000
namespace My
open PySem L2
def top(i:Nat):Stmt:=PySem.Challenge.pw_bandwright_k29_no_sizes.main.body.getD i (.Pass ⟨0,0,0,0⟩)
abbrev wG:Stmt:=top 11
abbrev sD:Stmt:=top 13
abbrev wH:Stmt:=top 15
abbrev wI:Stmt:=top 16
abbrev wJ:Stmt:=top 17
abbrev wK:Stmt:=top 18
abbrev wL:Stmt:=top 19
abbrev sE:Stmt:=top 20
abbrev sF:Stmt:=top 21
abbrev sG:Stmt:=top 24
abbrev sI:Stmt:=top 25
abbrev sJ:Stmt:=top 26
abbrev sL:Stmt:=top 27
abbrev sM:Stmt:=top 28
abbrev sN:Stmt:=top 29
abbrev sO:Stmt:=top 30
abbrev sP:Stmt:=top 31
abbrev sQ:Stmt:=top 32
abbrev sR:Stmt:=top 33
abbrev sS:Stmt:=top 35
abbrev sU:Stmt:=top 36
abbrev sV:Stmt:=top 37
abbrev sW:Stmt:=top 38
abbrev sX:Stmt:=top 39
abbrev sY:Stmt:=top 40
structure sZ where
 m8:Addr
 p_:FuncData
 lC:Addr
 m9:FuncData
 m_:Addr
 qa:FuncData
 ng:Addr
 qb:FuncData
 nh:Addr
 qc:FuncData
 ni:Addr
 qd:FuncData
 nj:Addr
 qe:FuncData
 lE:Addr
 nk:FuncData
 lF:Addr
 nu:FuncData
 jU:Addr
 lG:FuncData
 lH:Addr
 nz:FuncData
 jV:Addr
 lJ:FuncData
 lK:Addr
 nC:FuncData
 lM:Addr
 nE:FuncData
 lN:Addr
 nF:FuncData
 jW:Addr
 lO:FuncData
 jX:Addr
 lP:FuncData
 lQ:Addr
 nG:FuncData
 lR:Addr
 nH:FuncData
 lT:Addr
 nI:FuncData
 lU:Addr
 nJ:FuncData
 lV:Addr
 nK:FuncData
 lW:Addr
 nM:FuncData
 lX:Addr
 nN:FuncData
 jY:Addr
 lY:FuncData
 iz:Addr
 iA:Addr
 jZ:Addr
 iB:Addr
 iC:Addr
 gh:Addr
 aH:Addr
 iD:Addr
 iE:Addr
abbrev bH (mg:bT) (x:Str) (f:Addr):Prop:=mg x=some (.ref f)
abbrev wM (K:aB) (a:Addr):Prop:=PySem.W.excIn K a [.type "ValueError",.type "Exception",.type "BaseException",.type "object"] "ValueError.__new__"=true
structure Txt (K:aB) (mg:bT) (t:sZ):Prop where
 s_:aS K "is_whole" wG t.m8 t.p_
 Jo:Binds K t.p_ ["thing"] []
 Jp:bH mg "is_whole" t.m8
 lZ:aS K "neighbours" sD t.lC t.m9
 wN:Binds K t.m9 ["shape"] []
 wO:bH mg "neighbours" t.lC
 tf:aS K "is_order" wH t.m_ t.qa
 Jq:Binds K t.qa ["thing","n"] []
 Jr:bH mg "is_order" t.m_
 tj:aS K "check_order" wI t.ng t.qb
 Js:Binds K t.qb ["order","n"] []
 Jt:bH mg "check_order" t.ng
 tm:aS K "turns_of" wJ t.nh t.qc
 Ju:Binds K t.qc ["order"] []
 Jv:bH mg "turns_of" t.nh
 tw:aS K "link_all" wK t.ni t.qd
 Jw:Binds K t.qd ["linked","places"] []
 Jx:bH mg "link_all" t.ni
 tD:aS K "later" wL t.nj t.qe
 Jy:Binds K t.qe ["shape","order"] []
 Jz:bH mg "later" t.nj
 l5:aS K "place_deeds" sE t.lE t.nk
 wQ:Binds K t.nk ["many"] []
 wR:bH mg "place_deeds" t.lE
 nO:aS K "deeds" sF t.lF t.nu
 BB:Binds K t.nu ["shape","order"] []
 BC:bH mg "deeds" t.lF
 gR:aS K "check_size" sG t.jU t.lG
 nQ:Binds K t.lG ["shape"] []
 nR:bH mg "check_size" t.jU
 l6:aS K "still_near" sI t.lH t.nz
 wU:Binds K t.nz ["linked","done","place"] []
 wV:bH mg "still_near" t.lH
 je:aS K "cost" sJ t.jV t.lJ
 tE:Binds K t.lJ ["shape","done","place"] []
 tF:bH mg "cost" t.jV
 j4:aS K "rising_tuples" sL t.lK t.nC
 tG:Binds K t.nC ["n"] []
 tH:bH mg "rising_tuples" t.lK
 j6:aS K "and_done" sM t.lM t.nE
 tI:Binds K t.nE ["done","place"] []
 tJ:bH mg "and_done" t.lM
 jf:aS K "choices" sN t.lN t.nF
 qf:Binds K t.nF ["shape","done","worth_of"] []
 qg:bH mg "choices" t.lN
 jg:aS K "worths" sO t.jW t.lO
 tK:Binds K t.lO ["shape"] []
 tL:bH mg "worths" t.jW
 j7:aS K "fewest" sP t.jX t.lP
 wX:Binds K t.lP ["shape"] []
 wY:bH mg "fewest" t.jX
 nS:aS K "keeps_to_costs" sQ t.lQ t.nG
 BD:Binds K t.nG ["shape","done","worth_of"] []
 BE:bH mg "keeps_to_costs" t.lQ
 nT:aS K "shows_fewest" sR t.lR t.nH
 BF:Binds K t.nH ["shape","order","worths"] []
 BG:bH mg "shows_fewest" t.lR
 nU:aS K "_law_fill" sS t.lT t.nI
 BH:Binds K t.nI ["_law_cell","_law_at"] []
 BI:bH mg "_law_fill" t.lT
 j8:aS K "_law_next" sU t.lU t.nJ
 tM:Binds K t.nJ ["_law_pen","_law_many"] []
 tN:bH mg "_law_next" t.lU
 nV:aS K "_law_asked" sV t.lV t.nK
 BJ:Binds K t.nK ["_law_way","_law_shape","_law_order"] []
 BK:bH mg "_law_asked" t.lV
 nW:aS K "_law_refused" sW t.lW t.nM
 BL:Binds K t.nM ["_law_way","_law_shape","_law_order"] []
 BM:bH mg "_law_refused" t.lW
 l7:aS K "_law_links" sX t.lX t.nN
 wZ:Binds K t.nN ["_law_pen","_law_size","_law_way"] []
 w5:bH mg "_law_links" t.lX
 nX:aS K "law" sY t.jY t.lY
 JA:Binds K t.lY ["script"] []
 BN:bH mg "law" t.jY
 BO:bH mg "NoWorld" t.iz
 BP:bH mg "NoOver" t.iA
 BQ:bH mg "WrightError" t.jZ
 BR:bH mg "NoFit" t.iB
 BS:bH mg "NoShape" t.iC
 BU:bH mg "NoOrder" t.gh
 tO:bH mg "NoSize" t.aH
 BV:bH mg "NoLink" t.iD
 BW:bH mg "Tied" t.iE
 fM:mg "len"=none
 tP:mg "isinstance"=none
 JB:mg "int"=none
 JD:mg "bool"=none
 tQ:mg "tuple"=none
 BX:mg "list"=none
 iF:mg "range"=none
 w6:mg "all"=none
 JE:mg "any"=none
 JF:mg "sum"=none
 JG:mg "enumerate"=none
 qh:mg "min"=none
 JH:mg "max"=none
 tR:mg "sorted"=none
 BY:mg "ValueError"=none
 w9:∃u,mg "MOST"=some u∧RelV (.int 9) u
 JI:wM K t.gh
 tS:wM K t.aH
 BZ:wM K t.jZ
 JJ:PySem.W.mroIn K t.aH (.ref t.aH)=some true
 B0:PySem.W.mroIn K t.aH (.ref t.jZ)=some true
 B1:PySem.W.kitOne K (.ref t.aH) (.type "ValueError")=some true
 B2:PySem.W.kitOne K (.ref t.aH) (.ref t.aH)=some true
 B3:PySem.W.kitOne K (.ref t.aH) (.ref t.iz)=some false
 B4:PySem.W.kitOne K (.ref t.aH) (.ref t.iA)=some false
 B5:PySem.W.kitOne K (.ref t.aH) (.ref t.iB)=some false
 B6:PySem.W.kitOne K (.ref t.aH) (.ref t.iC)=some false
 B7:PySem.W.kitOne K (.ref t.aH) (.ref t.gh)=some false
 B8:PySem.W.kitOne K (.ref t.aH) (.ref t.iD)=some false
 B9:PySem.W.kitOne K (.ref t.aH) (.ref t.iE)=some false
 B_:PySem.W.hasDictIn K t.aH=true
 Ca:PySem.W.findIn K (.ref t.aH) "__getattribute__"=some (some (.builtin "BaseException.__getattribute__"))
 Cb:PySem.W.findIn K (.ref t.aH) "__getattr__"=some none
 Cc:PySem.W.findIn K (.ref t.aH) "__class__"=some (some (.builtin "object.__class__"))
 Cd:PySem.W.mroIn K t.aH (.type "object")=some true
 Ce:PySem.W.mroIn K t.aH (.type "BaseException")=some true
section
variable {P:Program} {w:World} {K:aB} {mg:bT} {base:Heap} {t:sZ}
theorem JK:cj ["shape","linked","i","j"] ["shape"] (bu sD):=dj
theorem Cf(T:Txt K mg t):bx P w K mg base dB 1 t.lC t.m9 ["shape"] G_:=by
 have S:=JK;refine T.lZ.i3 S (fun _ _ _ _ H _ _ _ hr h=>?_);obtain ⟨tp,n,L,rfl,⟨lt,us,gj,elt,hL⟩,ok,n9,kk⟩:=h;have hu:=fk (iJ (show 1≤64 by decide) _) hr.units
 have Cg:((List.range n).map fun i:Nat=>V.int (0+(i:Int))).length=n:=by rw [aW,dv]
 refine ⟨_,(aG (Al (i0:=1) (N:=["place"]) (ρ:=(fun σ=>[])) (kU [] rfl) rfl S.nd rfl (Or.inl rfl) (mH rfl T.iF (ah (bZ eW (pv 0) ay) aq)) (fun _ _ _=>.nil) (fun _ _ _=>GZ))
  (aG (hU iK rfl (DE (bZ eW (pv 0) ay)) (yV rfl (qS (d6 (i:=2) S.nd rfl (Or.inl rfl)) (qS (d6 (i:=3) S.nd rfl (Or.inl rfl)) yT)))
   (aG (pR hu (bZ ee (pv 1) (pv 2)) (pv 3) jx rfl)
  (aO (pR hu (bZ ee (pv 1) (pv 3)) (pv 2) jx rfl))))
  (aO (cf (pv 1))))),?_⟩
 refine dS (rJ (F7 (xs:=(List.range n).map fun i:Nat=>V.int (0+(i:Int))) (n:=n) Cg (fun R h=>⟨_,rfl,tp,_,_,_,rfl,rfl,.of gj,rfl,(n:Int),rfl,by omega,by omega,h _ _ (ak.refl _) (by rw [kr];exact Ak)⟩) (il (by omega)) (fun _ i y Hx=>Hx y=some (.dK (dk []))∧H y=none) ?_ ?_ ?_))
 ·intro D i y Ha Hb ys ⟨h1,h2⟩ hy e f
  exact ⟨f y _ hy h1,h2⟩
 ·intro D i x hx Hc R sc _ kc
  refine fun p np=>kc p _ (fF (ak.refl _) np) np ⟨_,ax⟩ ⟨ax,?_⟩;cases e:H p with
  | none=>rfl
  | some o=>rw [sc _ _ e] at np;cases np
 ·intro D ds H1 nD s1 inj hA eD
  have K0:fh H1 D n ds (fun _=>True) (fun _=>[]):=⟨eD,inj,fun i hi=>(hA i hi).2,fun i hi _=>(hA i hi).1.1,fun i _=>gQ.nil n⟩;have fr:∀i,i<n→H (ds i)=none:=fun i hi=>(hA i hi).1.2;dsimp only [bz];refine dS ⟨_,rfl,tp,_,_,_,rfl,rfl,.of (s1 _ _ gj),rfl,lt,rfl,⟨_,.of (s1 _ _ elt)⟩,?_⟩;refine DK (K:=K) (a:=lt) (xs:=us) (fun k σ Hc=>∃(f:Nat→List Nat) (v2 v3:Option V),σ=[some (.ref tp),some (.ref D),v2,v3]∧ak H Hc∧fh Hc D n ds (fun _=>True) f∧fi n (L.take k) f) ⟨_,_,_,rfl,s1,K0,fi.nil n⟩ (fun k σ Hc _ ⟨_,_,_,_,sc,_⟩=>.of (sc _ _ elt)) ?_ ?_
  ·rintro k x σ Hc hx ⟨f,v2,v3,rfl,sc,KL,nb⟩
   have hk:k<L.length:=by rw [←hL.1];exact (cw.mp hx).1
   obtain ⟨b,rfl,eb⟩:=hL.2 k x L[k] hx (by simp [hk])
   have pk:=ok L[k] (gp hk);have tk:L.take (k+1)=L.take k++[L[k]]:=by rw [oz,cx hk];rfl
   generalize L[k]=p at eb pk tk;obtain ⟨p1,p2⟩:=p;dsimp only at pk eb;obtain ⟨i,rfl⟩:=Int.eq_ofNat_of_zero_le pk.1;obtain ⟨j,rfl⟩:=Int.eq_ofNat_of_zero_le pk.2.2.1;have hi:i<n:=by omega
   have hj:j<n:=by omega
   refine ⟨b,_,rfl,.of (sc _ _ eb),rfl,_,_,rfl,_,_,rfl,rfl,?_⟩;obtain ⟨q1,K1⟩:=KL.put hi hj trivial n9;obtain ⟨q2,K2⟩:=K1.put hj hi trivial n9;refine ⟨_,rfl,_,rfl,D,_,_,_,rfl,rfl,.of KL.lst,KL.ix hi,_,rfl,_,_,rfl,q1,?_⟩;refine ⟨_,rfl,_,rfl,D,_,_,_,rfl,rfl,.of K1.lst,K1.ix hj,_,rfl,_,_,rfl,q2,?_⟩;have off:∀(Hx:Hp) (i:Nat) (o:HO),i<n→ak H Hx→ak H (upd Hx (ds i) o):=fun Hx i o hi sx a u e=>by
    rw [aT (fun z=>by rw [z,fr i hi] at e;cases e)]
    exact sx _ _ e
   exact ⟨_,_,_,rfl,off _ _ _ hj (off _ _ _ hi sc),K2,by rw [tk];exact nb.more hi hj⟩
  ·rintro σ Hc ⟨f,v2,v3,rfl,sc,KL,nb⟩
   rw [hL.1,oA] at nb;exact ⟨_,rfl,kk _ _ _ _ sc nD fr KL nb⟩
theorem JL:cj ["many"] ["many"] (bu sE):=dj
theorem Ci(T:Txt K mg t):bx P w K mg base dB 1 t.lE t.nk ["many"] Ho:=by have S:=JL;refine T.l5.i3 S (fun _ _ _ _ H _ _ _ hr h=>?_);obtain ⟨m,rfl,m1,k⟩:=h;refine ⟨_,(aO (cf (bo fA (bo fA (bo gA (pv 0) (pv 0)) (bo gA ay (pv 0))) ay))),?_⟩;exact ⟨_,rfl,_,rfl,_,_,rfl,rfl,.inl ⟨by omega,by omega⟩,_,rfl,_,_,rfl,rfl,.inl ⟨by omega,by omega⟩,_,_,rfl,rfl,_,_,rfl,rfl,k⟩
theorem Cj:cj ["shape"] ["shape"] (bu sG):=dj
theorem Ck(T:Txt K mg t):bx P w K mg base (ck P w) 1 t.jU t.lG ["shape"] Hq:=by
 have S:=Cj;obtain ⟨uM,hM,rM⟩:=T.w9;refine T.gR.cY S (fun _ _ _ _ H _ _ _ hr h L=>?_);obtain ⟨tp,n,Lk,rfl,⟨lt,us,gj,elt,mO⟩,n9,k⟩:=h;refine ⟨_,(aO (dP (cR oR (bZ eW (pv 0) ay) (hE (v:=.int 9) rfl hM rM)) (aO (zO L rfl uv T.tS rfl T.tO (ah yJ aq))) d5)),?_⟩;refine ⟨_,rfl,tp,_,_,_,rfl,rfl,.of gj,rfl,_,_,rfl,rfl,_,rfl,dH (fun hc=>?_) (fun hc=>?_)⟩
 ·have hc:(9:Int)<(n:Int):=gu hc
  omega
 ·exact k
theorem JM:cj ["linked","done","place","met","waiting","here","other"] ["linked","done","place"] (bu sI):=dj
theorem Cm(T:Txt K mg t):bx P w K mg base dB 1 t.lH t.nz ["linked","done","place"] Hv:=by
 have S:=JM
 refine T.l6.i3 S (fun _ _ _ _ H vs Q _ hr h=>?_)
 obtain ⟨D,d,n,ds,f,done,p,rfl,KL,ed,ld,pn,p9,kk⟩:=h
 have hu:=fk (iJ (show 1≤64 by decide) _) hr.units
 refine ⟨_,(aG (putL 3 S.nd (G3 (G1 (pv 2) jx G0) rfl rfl (fun h=>by cases h) (by decide)))
  (aG (putL 4 S.nd (hX (ah (pv 2) aq)))
  (aG (uN iK (cR oR (dA iY rfl T.fM fQ (ah (pv 4) aq)) ay) (aG (putL 5 S.nd (ED my PySem.F.slot_list_pop PySem.F.type_list_pop EO (pv 4)))
  (aO (hU iK rfl (A1 (bZ ee (pv 0) (pv 5))) (d6 (i:=6) S.nd rfl (Or.inl rfl))
   (aO (dP (Di (GW hu (pv 6) (pv 3)) rfl) (aG (pR hu (pv 3) (pv 6) jx rfl)
  (aO (dP (qY Ez (pv 6) (pv 1) rfl) (aO (hG (oV my oE oF jE (pv 4) (ah (pv 6) aq)))) d5))) d5))))))
  (aO (cf (oZ (N:=["other","place","done"]) (ρ:=(fun σ=>[σ[2]?.join,σ[1]?.join])) (kU [2,1] rfl) rfl (A1 (pv 3)) (fun _ _ _=>(.one (PW.pt (pw_and (cR uT (pv 0) (pv 1)) (pw_and1 (qY (A8 (K:=K)) (pv 0) (pv 2) rfl)))))) (fun _ _ _=>(pv 0)))))))),?_⟩
 refine dS (rJ fun mt l8=>⟨_,rfl,ax,[((Sum.inl (p:Int):Key),V.bl true)],rfl,by show 1≤15;decide,?_⟩)
 have NF:=l8
 have s0:∀b o,b≠mt→H b=some o→upd (upd H mt (.dK [])) mt (.dK (jP [] [((Sum.inl (p:Int):Key),V.bl true)])) b=some o:=fun b o ne e=>by rw [aT ne,aT ne];exact e
 have em:upd (upd H mt (.dK [])) mt (.dK (jP [] [((Sum.inl (p:Int):Key),V.bl true)])) mt=some (.dK (dk [p])):=by rw [ax];rfl
 generalize upd (upd H mt (.dK [])) mt (.dK (jP [] [((Sum.inl (p:Int):Key),V.bl true)]))=H1 at s0 em ⊢
 have sm:ak H H1:=fun b o e=>s0 b o (fun z=>by rw [z,l8] at e;cases e) e
 dsimp only [bz]
 refine ⟨_,rfl,by show 1≤sizeLine;decide,fun l nl=>?_⟩
 have sl:ak H1 (upd H1 l (.lst [V.int (p:Int)])):=bb nl
 have el:upd H1 l (.lst [V.int (p:Int)]) l=some (.lst (([p]:List Nat).map fun k:Nat=>V.int (k:Int))):=ax
 generalize upd H1 l (.lst [V.int (p:Int)])=H2 at sl el ⊢
 have qi:H l=none:=none_of sm nl
 have lm:l≠mt:=fun z=>by rw [z,em] at nl;cases nl
 have s2:=sm.trans sl
 have mD:mt≠D:=fun z=>absurd KL.lst (by rw [←z,l8];exact fun h=>by cases h)
 have lD:l≠D:=fun z=>absurd KL.lst (by rw [←z,qi];exact fun h=>by cases h)
 have w_:∀i,i<n→ds i≠mt:=fun i hi z=>absurd (KL.at' i hi trivial) (by rw [z,l8];exact fun h=>by cases h)
 have tT:∀i,i<n→ds i≠l:=fun i hi z=>absurd (KL.at' i hi trivial) (by rw [z,qi];exact fun h=>by cases h)
 have Cn:∀i,i<n→d≠ds i:=fun i hi z=>absurd (KL.at' i hi trivial) (by rw [←z,ed];exact fun h=>by cases h)
 dsimp only [bz]
 refine dS ⟨fun m σ Hc=>∃(ks ws:List Nat) (v5 v6:Option V),σ=[some (.ref D),some (.ref d),some (.int (p:Int)),some (.ref mt),some (.ref l),v5,v6]∧m=2*(n-ks.length)+ws.length∧k_ n ds H Hc∧jc Hc D n ds f∧Hc mt=some (.dK (dk ks))∧Hc l=some (.lst (ws.map fun k:Nat=>V.int (k:Int)))∧cT n (gc n f) (·∈done) p none (fun _=>True) ks ws∧ws.length≤ks.length,⟨_,[p],[p],_,_,rfl,rfl,fun b o e _=>s2 _ _ e,(KL.mono s2).fr,sl _ _ em,el,cT.start pn,ar _⟩,?_⟩
 rintro m' σ Hc ⟨ks,ws,v5,v6,rfl,NG,oc,Kc,Co,xa,wk,wl⟩
 have NH:=wk.pl.len
 refine ⟨_,rfl,l,_,rfl,.inl (.of xa),_,_,rfl,rfl,_,rfl,dH (fun hb=>?_) (fun hb=>?_)⟩
 ·have hb:(0:Int)<((ws.map fun k:Nat=>V.int (k:Int)).length:Int):=gu hb
  rw [aW] at hb
  have Cp:ws≠[]:=fun z=>by rw [z] at hb;simp at hb
  obtain ⟨us,h,rfl⟩:∃us h,ws=us++[h]:=⟨ws.dropLast,ws.getLast Cp,(List.dropLast_concat_getLast Cp).symm⟩
  have NI:(us++[h]).length=us.length+1:=by simp
  have hh:=wk.wt h (cV _ (bY.mpr rfl))
  have hn:h<n:=wk.pl.2 h hh.1
  have qj:=wk.pop
  refine ⟨_,fun _ _ h=>h,?_⟩
  refine ⟨_,rfl,.inl ⟨rfl,_,.of xa⟩,l,_,.int (h:Int),rfl,rfl,xa,by simp,?_⟩
  rw [gq,iI,oj,List.dropLast_concat]
  have o1:∀b u,b≠l→Hc b=some u→upd Hc l (.lst (us.map fun k:Nat=>V.int (k:Int))) b=some u:=fun b u ne e=>by rw [aT ne];exact e
  have Cq:upd Hc l (.lst (us.map fun k:Nat=>V.int (k:Int))) l=some (.lst (us.map fun k:Nat=>V.int (k:Int))):=ax
  have Cr:∀{Hx Hy:Hp},k_ n ds H Hx→(∀b u,b≠l→Hx b=some u→Hy b=some u)→k_ n ds H Hy:=fun h k b u e ne=>k b u (fun z=>by rw [z,qi] at e;cases e) (h b u e ne)
  have JN:∀{Hx Hy:Hp},k_ n ds H Hx→(∀b u,b≠mt→Hx b=some u→Hy b=some u)→k_ n ds H Hy:=fun h k b u e ne=>k b u (fun z=>by rw [z,l8] at e;cases e) (h b u e ne)
  have K1:=Kc.keep o1 lD tT
  have Cs:=Cr oc o1
  have Ct:=o1 _ _ (dM lm) Co
  generalize upd Hc l (.lst (us.map fun k:Nat=>V.int (k:Int)))=H3 at o1 Cq K1 Cs Ct ⊢
  dsimp only [bz]
  refine A_ (a:=ds h) (kvs:=dk (f h)) (fun Q q=>⟨_,rfl,_,rfl,D,_,_,_,rfl,rfl,.of K1.lst,Hm hn,q⟩) (K1.at' h hn) fun ob Hf tU off=>?_
  have Kf:=K1.bh off hn tU KL.inj (KL.ne h hn)
  have JO:k_ n ds H Hf:=fun b u e ne=>off b u (ne h hn) (Cs b u e ne)
  have JP:=off _ _ (dM (w_ h hn)) Ct
  have JQ:=off _ _ (dM (tT h hn)) Cq
  refine Hw (fun i σ He=>∃(ks us:List Nat) (v6:Option V),σ=[some (.ref D),some (.ref d),some (.int (p:Int)),some (.ref mt),some (.ref l),some (.int (h:Int)),v6]∧k_ n ds H He∧jc He D n ds f∧He (ds h)=some (.bh ob (.dK (dk (f h))))∧He mt=some (.dK (dk ks))∧He l=some (.lst (us.map fun k:Nat=>V.int (k:Int)))∧cT n (gc n f) (·∈done) p (some h) (·∈(f h).take i) ks us∧us.length≤ks.length∧h∈ks∧2*(n-ks.length)+us.length<m') ⟨ks,us,_,rfl,JO,Kf,tU,JP,JQ,⟨qj.pl,qj.st,qj.rc,qj.wt,fun x hx ox=>(qj.cl x hx ox).imp id fun e b hb=>(e b hb).imp id fun z=>⟨z.1,by simp⟩⟩,by omega,hh.1,by omega⟩ (fun i σ He _ ⟨_,_,_,_,_,_,e,_⟩=>e) ?_ ?_
  ·rintro i k σ He hk ⟨ks,us,v6,rfl,oe,Ke,xb,qk,tV,j9,ul,nY,lt⟩
   have km:k∈f h:=jl hk
   have kn:k<n:=(KL.pl h hn).2 k km
   have tk:=take_snoc hk
   have NJ:=j9.pl.len
   dsimp only [bz]
   refine ⟨_,rfl,_,rfl,mt,_,rfl,.inl ⟨dk ks,Sum.inl (k:Int),.inl qk,rfl,rfl⟩,_,rfl,?_⟩
   rw [G8]
   by_cases nZ:k∈ks
   ·rw [ae nZ]
    refine rj ⟨ks,us,_,rfl,oe,Ke,xb,qk,tV,?_,ul,nY,lt⟩
    have w2:=j9.old nZ
    refine ⟨w2.pl,w2.st,w2.rc,w2.wt,fun x hx ox=>(w2.cl x hx ox).imp id fun e b hb=>(e b hb).imp id fun z=>⟨z.1,fun q=>z.2 ?_⟩⟩
    rw [tk] at q
    exact (dr.mp q).imp id bY.mp
   ·rw [aa nZ]
    refine mP ?_
    have al:=Hu nZ
    have o4:∀b u,b≠mt→He b=some u→upd He mt (.dK (dk (bX ks k))) b=some u:=fun b u ne e=>by rw [aT ne];exact e
    refine dS ⟨_,rfl,_,rfl,mt,upd He mt (.dK (dk (bX ks k))),rfl,.inl ⟨dk ks,Sum.inl (k:Int),qk,rfl,by rw [r9];exact il (by omega),by rw [A4]⟩,?_⟩
    have xc:upd He mt (.dK (dk (bX ks k))) mt=some (.dK (dk (bX ks k))):=ax
    have K4:=Ke.keep o4 mD w_
    have tW:=JN oe o4
    have tX:=o4 _ _ lm tV
    have xf:=o4 _ _ (w_ h hn) xb
    generalize upd He mt (.dK (dk (bX ks k)))=H4 at o4 xc K4 tW tX xf ⊢
    have conv:∀{vs:List Nat},cT n (gc n f) (·∈done) p (some h) (fun x=>x∈(f h).take i∨x=k) (bX ks k) vs→cT n (gc n f) (·∈done) p (some h) (·∈(f h).take (i+1)) (bX ks k) vs:=fun w2=>⟨w2.pl,w2.st,w2.rc,w2.wt,fun x hx ox=>(w2.cl x hx ox).imp id fun e b hb=>(e b hb).imp id fun z=>⟨z.1,fun q=>z.2 (by
     rw [tk] at q
     exact (dr.mp q).imp id bY.mp)⟩⟩
    have NK:=(j9.pl.add kn).len
    dsimp only
    refine ⟨_,rfl,_,rfl,d,_,rfl,.inr (.of (tW d _ ed Cn)),rfl,A9 done,_,rfl,dH (fun hb=>?_) (fun hb=>?_)⟩
    ·have hb:iX (.int (k:Int)) (done.map fun k:Nat=>V.int (k:Int))=true:=hb
     rw [si,g6] at hb
     refine ⟨_,rfl,.inl ⟨rfl,_,.of tX⟩,_,rfl,l,_,_,rfl,rfl,tX,il (by rw [aW];omega),?_⟩
     have o5:∀b u,b≠l→H4 b=some u→upd H4 l (.lst ((us.map fun k:Nat=>V.int (k:Int))++[V.int (k:Int)])) b=some u:=fun b u ne e=>by rw [aT ne];exact e
     exact ⟨bX ks k,us++[k],_,rfl,Cr tW o5,K4.keep o5 lD tT,o5 _ _ (tT h hn) xf,o5 _ _ (dM lm) xc,by rw [ax,gq];rfl,conv (j9.new nZ kn nY hh.2 ⟨hn,km⟩ (.inl ⟨hb,rfl⟩)),by rw [al,dg,kj];omega,fJ.mpr (.inl nY),by rw [al,dg,kj];omega⟩
    ·have hb:¬iX (.int (k:Int)) (done.map fun k:Nat=>V.int (k:Int))=true:=hb
     rw [si,g6] at hb
     exact ⟨bX ks k,us,_,rfl,tW,K4,xf,xc,tX,conv (j9.new nZ kn nY hh.2 ⟨hn,km⟩ (.inr ⟨hb,rfl⟩)),by rw [al];omega,fJ.mpr (.inl nY),by rw [al];omega⟩
  ·rintro σ He ⟨ks,us,v6,rfl,oe,Ke,xb,qk,tV,j9,ul,nY,lt⟩
   rw [oA] at j9
   exact ⟨_,lt,ks,us,_,_,rfl,rfl,oe,Ke,qk,tV,j9.next fun b hb=>hb.2,ul⟩
 ·have w0:ws=[]:=by
   cases ws with
   | nil=>rfl
   | cons x r=>
    refine absurd (b4 ?_) hb
    show (0:Int)<_
    simp
  subst w0
  dsimp only
  refine Ar (Hn (A_ (a:=mt) (kvs:=dk ks) (fun Q q=>⟨_,rfl,q⟩) (.inl Co) fun ob Hf tU off=>?_))
  have JR:Hf d=some (.tup (done.map fun k:Nat=>V.int (k:Int))):=off _ _ (fun z=>by rw [z,l8] at ed;cases ed) (oc d _ ed Cn)
  refine Hl tU (fun q=>!decide (q=p) && !decide (q∈done)) (il (by omega)) ?_ ?_ ?_
  ·intro q hq Hx R sx hR
   refine ⟨_,rfl,_,rfl,rfl,_,rfl,dH (fun hb=>?_) (fun hb=>?_)⟩
   ·have ne:¬q=p:=fun z=>by
     subst z
     rw [jK,b4 rfl] at hb
     cases hb
    refine ⟨_,rfl,_,rfl,d,_,rfl,.inr (.of (sx _ _ JR)),rfl,A9 done,_,rfl,?_⟩
    rw [b3 ne,Bool.not_false,Bool.true_and] at hR
    have e:(if true=true then !iX (.int (q:Int)) (done.map fun k:Nat=>V.int (k:Int)) else iX (.int (q:Int)) (done.map fun k:Nat=>V.int (k:Int))) = !decide (q∈done):=by rw [ae rfl,si]
    rw [e]
    exact hR
   ·have eq:q=p:=by
     by_cases z:(q:Int)=(p:Int)
     ·omega
     ·exact absurd (by rw [jK,b3 z];rfl) hb
    rw [b4 eq,Bool.not_true,Bool.false_and] at hR
    exact hR
  ·intro q hq Hx R hR
   exact ⟨_,rfl,hR⟩
  ·intro r Hg nr sg eg
   refine kk Hg r _ (fun b u e ne=>sg _ _ (off _ _ (fun z=>by rw [z,l8] at e;cases e) (oc b u e ne))) eg ⟨ks,wk.pl,wk.done,by rw [aW]⟩
theorem Cu:cj ["shape","done","place"] ["shape","done","place"] (bu sJ):=dj
theorem Cv(T:Txt K mg t):bx P w K mg base (ck P w) 2 t.jV t.lJ ["shape","done","place"] HB:=by
 have S:=Cu;refine T.je.cY S (fun _ _ _ _ H _ _ _ hr h L=>?_);obtain ⟨tp,d,n,Lk,done,p,rfl,hS,hL,n9,ed,ld,pn,kk⟩:=h
 refine ⟨_,(aG (hG (bp (Ck T) hr T.nR T.gR.kp T.nQ (dR L) (ah (pv 0) aq)))
  (aO (cf (bp (Ci T) hr T.wR T.l5.kp T.wQ dm (ah (dA iY rfl T.fM fQ (ah (bp (Cm T) hr T.wV T.l6.kp T.wU dm (ah (bp (Cf T) hr T.wO T.lZ.kp T.wN dm (ah (pv 0) aq)) (ah (pv 1) (ah (pv 2) aq)))) aq)) aq))))),?_⟩
 refine ⟨_,rfl,tp,n,Lk,rfl,hS,n9,?_⟩;refine ⟨_,rfl,tp,n,Lk,rfl,hS,hL,by omega,fun H1 D ds f s1 nD JS KL nb=>?_⟩
 refine ⟨_,rfl,_,rfl,D,d,n,ds,f,done,p,rfl,KL,s1 _ _ ed,ld,pn,by omega,fun H2 r xs off er near=>?_⟩
 have s2:ak H H2:=fun b u e=>off b u (s1 _ _ e) fun i hi z=>by rw [z,JS i hi] at e;cases e
 have c9:=near.le;exact ⟨r,xs,rfl,.inl (.of er),xs.length,rfl,by omega,kk H2 f xs.length s2 nb near⟩
theorem JT:cj ["done","place"] ["done","place"] (bu sM):=dj
theorem xg(T:Txt K mg t):bx P w K mg base dB 1 t.lM t.nE ["done","place"] Il:=by
 have S:=JT;refine T.j6.i3 S (fun _ _ _ _ H _ Q _ hr h=>?_);obtain ⟨d,done,p,rfl,ed,l1,kk⟩:=h;refine ⟨_,(aO (cf (mJ zG rfl T.tQ boot_tuple (ah (dA HU rfl T.tR uw (ah (bo (A7 (K:=K)) (pv 0) (di (ah (pv 1) aq))) aq)) aq)))),?_⟩;have fin:∀(H1:Hp) (b:Addr),ak H H1→H1 b=some (.tup ((done++[p]).map V.int))→uW Bf (fun σ H Q=>Q [.ref b] H) [] H1 (fun x H2=>∃q ys,[x]=[V.ref q]∧((bL K H2 q ys∧∀l,H2 l=none→Q (.ref l) (upd H2 l (.tup ys)))∨(cE K H2 q ys∧Q (.ref q) H2))):=fun H1 b s1 eb=>by
  refine ⟨b,done++[p],rfl,eb,by simp;omega,fun ws D pm so nD=>⟨D,_,rfl,.inl ⟨.of ax,fun l nl=>?_⟩⟩⟩
  exact kk _ l ws pm so (none_of s1 (none_of (bb nD) nl)) (s1.trans ((bb nD).trans (bb nl))) ax
 refine ⟨_,rfl,_,rfl,by show 1≤sizeLine;decide,fun b nb=>?_⟩
 have s1:ak H (upd H b (.tup [.int p])):=bb nb;have eb:upd H b (.tup [.int p]) b=some (.tup [.int p]):=ax;generalize upd H b (.tup [.int p])=H1 at s1 eb ⊢;refine ⟨d,b,_,_,rfl,rfl,.of (s1 _ _ ed),.of eb,by simp,Ik (by rw [aW];simp;omega),fun e0=>?_,fun e1 c nc=>?_⟩
 ·have:done=[]:=qL.mp e0
  subst this;exact fin H1 b s1 eb
 ·refine fin _ c (s1.trans (bb nc)) ?_
  rw [ax,gq];rfl
theorem JU:cj ["n","told","place"] ["n"] (bu sL):=dj
theorem xh(T:Txt K mg t):bx P w K mg base dB 1 t.lK t.nC ["n"] Im:=by
 have S:=JU;refine T.j4.i3 S (fun _ _ _ _ H _ _ _ hr h=>?_);obtain ⟨n,rfl,n9,kk⟩:=h
 refine ⟨_,(aG (putL 1 S.nd (hX (ah (di aq) aq)))
  (aG (hU iK rfl (mH rfl T.iF (ah (pv 0) aq)) (d6 (i:=2) S.nd rfl (Or.inr rfl))
   (aO (putL 1 S.nd (bo ET (pv 1) (oZ (N:=["each","place"]) (ρ:=(fun σ=>[σ[2]?.join])) (kU [2] rfl) rfl (iR (pv 1)) (fun _ _ _=>.nil) (fun _ _ _=>(bo (A7 (K:=K)) (pv 0) (di (ah (pv 1) aq)))))))))
  (aO (cf (pv 1))))),?_⟩
 refine ⟨bK _,fun b nb=>⟨by show 1≤sizeLine;decide,fun l nl=>?_⟩⟩
 have s0:ak H (upd (upd H b (.tup [])) l (.lst [.ref b])):=(bb nb).trans (bb nl);have lb:b≠l:=fun z=>by rw [z,ax] at nl;cases nl
 have eb:upd (upd H b (.tup [])) l (.lst [.ref b]) b=some (.tup []):=by rw [aT lb,ax]
 have el:upd (upd H b (.tup [])) l (.lst [.ref b]) l=some (.lst [.ref b]):=ax;generalize upd (upd H b (.tup [])) l (.lst [.ref b])=H0 at s0 eb el ⊢;dsimp only [bz];refine dS ⟨_,rfl,(n:Int),rfl,by omega,by omega,?_⟩
 rw [kr];refine oQ (fun k σ Hc=>∃(D:Addr) (xs:List V) (v2:Option V),σ=[some (.int (n:Int)),some (.ref D),v2]∧ak H Hc∧H D=none∧Hc D=some (.lst xs)∧gg Hc xs (a7 k)) ⟨l,_,_,rfl,s0,none_of (bb nb) nl,el,⟨rfl,fun i v q h1 h2=>?_⟩⟩ ?_ ?_
 ·match i,h1,h2 with
  | 0,h1,h2=>cases h1;cases h2;exact ⟨b,rfl,eb⟩
  | i+1,h1,h2=>simp at h1
 ·rintro k σ Hc hk ⟨D,xs,v2,rfl,sc,nD,eD,tu⟩
  have p2:2 ^ k≤512:=bQ (Nat.pow_le_pow_right (by decide) (show k≤9 by omega)) (by decide)
  have lx:xs.length=2 ^ k:=tu.1.trans (wm k);dsimp only [bz];refine rJ ⟨_,rfl,Aq (xs:=xs) (fun R h=>⟨_,rfl,D,rfl,⟨_,.of eD⟩,h _ _ (ak.refl _) (vy (.of eD))⟩) (il (by omega)) (fun _ i y Hz=>∀q,(a7 k)[i]?=some q→∃(b:Addr),y=.ref b∧Hz b=some (.tup ((q++[k]).map fun k:Nat=>V.int (k:Int)))) (fun Dd i y Ha Hb ys h e f q hq=>by obtain ⟨b,h1,h2⟩:=h q hq;exact ⟨b,h1,f b _ (fun z=>by rw [z,e] at h2;cases h2) h2⟩) ?_ ?_⟩
  ·intro Dd i x hx Hz R sz _ kz
   have hi:i<(a7 k).length:=by rw [←tu.1];exact (cw.mp hx).1
   obtain ⟨b,rfl,eb⟩:=tu.2 i x _ hx (cx hi);have jd:(a7 k)[i]?=some (a7 k)[i]:=cx hi;generalize (a7 k)[i]=us at eb jd;have lu:us.length≤60:=by obtain ⟨u1,u2⟩:=cO.mp (jl jd);have:=pW u1 u2;omega
   refine ⟨_,rfl,_,rfl,by show 1≤sizeLine;decide,fun q nq=>?_⟩
   have xi:=sz _ _ eb;have bq:b≠q:=fun z=>by rw [z,nq] at xi;cases xi
   have JV:upd Hz q (.tup [V.int (0+(k:Int))]) b=some (.tup (us.map fun k:Nat=>V.int (k:Int))):=(aT bq).trans xi;refine ⟨b,q,_,_,rfl,rfl,.of JV,.of ax,by simp,bQ (show _≤100 by simp;omega) (by decide),fun e=>?_,fun ne p np=>?_⟩
   ·refine kz _ _ (bb nq) fun r hr=>⟨q,rfl,?_⟩
    rw [jd] at hr;cases hr;have:us=[]:=qL.mp e;subst this;rw [ax,g7];rfl
   ·refine kz _ _ ((bb nq).trans (bb np)) fun r hr=>⟨p,rfl,?_⟩
    rw [jd] at hr;cases hr;rw [ax,g7,gq];rfl
  ·intro Dd ys Hd JW sd tY xj xk
   refine ⟨D,Dd,xs,ys,rfl,rfl,sd _ _ eD,xk,bQ (show _≤2000 by omega) (by decide),fun l2 xl=>?_⟩
   have ty:gg Hd ys ((a7 k).map (·++[k])):=⟨by rw [tY,aW,tu.1],fun i v q h1 h2=>by
    rw [df] at h2;cases e:(a7 k)[i]? with
    | none=>rw [e] at h2;cases h2
    | some r=>rw [e] at h2;cases h2;exact xj i v h1 r e⟩
   exact ⟨l2,_,_,rfl,(sc.trans sd).trans (bb xl),none_of (sc.trans sd) xl,ax,((tu.mono sd).cat ty).mono (bb xl)⟩
 ·rintro σ Hc ⟨D,xs,v2,rfl,sc,nD,eD,tu⟩
  exact ⟨_,rfl,kk D xs Hc sc nD eD tu⟩
theorem JX:cj ["shape","done","worth_of","left"] ["shape","done","worth_of"] (bu sN):=dj
theorem tZ(T:Txt K mg t):bx P w K mg base (ck P w) 3 t.lN t.nF ["shape","done","worth_of"] Iq:=by
 have S:=JX;refine T.jf.cY S (fun _ _ _ _ H _ _ _ hr h L=>?_);obtain ⟨tp,d,wo,n,Lk,done,kvs,W,rfl,iG,b6,n9,ed,hd,JY,hW,kk⟩:=h;have jh:=hr.units;have JZ:=fk (iJ (show 1≤64 by decide) _) hr.units
 refine ⟨_,(aG (Al (i0:=3) (N:=["place","done"]) (ρ:=(fun σ=>[σ[1]?.join])) (kU [1] rfl) rfl S.nd rfl (Or.inl rfl) (mH rfl T.iF (ah (bZ eW (pv 0) ay) aq)) (fun _ _ _=>(.one (qY (A8 (K:=K)) (pv 0) (pv 1) rfl))) (fun _ _ _=>(pv 0)))
  (aO (cf (oZ (N:=["place","shape","done","worth_of"]) (ρ:=(fun σ=>[σ[0]?.join,σ[1]?.join,σ[2]?.join])) (kU [0,1,2] rfl) rfl (iR (pv 3)) (fun _ _ _=>.nil) (fun _ _ _=>(di (ah (bo fA (bp (Cv T) hr T.tF T.je.kp T.tE rq (ah (pv 1) (ah (pv 2) (ah (pv 0) aq)))) (pQ JZ (pv 3) (bp (xg T) hr T.tJ T.j6.kp T.tI dm (ah (pv 2) (ah (pv 0) aq))) (fun _ _=>rfl))) (ah (pv 0) aq)))))))),?_⟩
 obtain ⟨lt,us,gj,elt,mO⟩:=id iG;obtain ⟨dup,J0⟩:=cO.mp hd;have dl:done.length≤9:=bQ (pW dup J0) n9;have fl:(done.map fun k:Nat=>V.int (k:Int)).all gC=true:=by rw [List.all_eq_true];intro v hv;obtain ⟨q,_,rfl⟩:=dN.mp hv;rfl
 have Cg:((List.range n).map fun i:Nat=>V.int (0+(i:Int))).length=n:=by rw [aW,dv]
 refine dS (rJ (HE (xs:=(List.range n).map fun i:Nat=>V.int (0+(i:Int))) (pY done) (fun R h=>⟨_,rfl,tp,_,_,_,rfl,rfl,.of gj,rfl,(n:Int),rfl,by omega,by omega,h _ _ (ak.refl _) (by rw [kr];exact Ak)⟩) (il (by omega)) ?_ (fun x Hx R h=>⟨_,rfl,h⟩) fun l H1 nl s1 el=>?_))
 ·intro x J4 Hd R sd kR
  obtain ⟨q,hq,rfl⟩:=dN.mp J4;refine ⟨_,rfl,_,rfl,d,_,rfl,.inr (.of (sd _ _ ed)),rfl,fl,_,rfl,?_⟩;rw [Io] at kR;exact kR
 rw [Ip] at el;dsimp only [bz];have NL:(ba n done).length≤n:=bQ (qE _ _) (by rw [dv];exact ar _)
 refine Ar (Aq (xs:=(ba n done).map fun k:Nat=>V.int (k:Int)) (fun R h=>⟨_,rfl,l,rfl,⟨_,.of el⟩,h _ _ (ak.refl _) (vy (.of el))⟩) (il (by rw [aW];omega)) (fun _ i y Hz=>∀p,(ba n done)[i]?=some p→∃b,y=.ref b∧Hz b=some (.tup [.int (b9 n Lk done p+W (bg done p)),.int (p:Int)])) (fun Dd i y Ha Hb ys h e f q hq=>by obtain ⟨b,h1,h2⟩:=h q hq;exact ⟨b,h1,f b _ (fun z=>by rw [z,e] at h2;cases h2) h2⟩) ?_ ?_)
 ·intro Dd i x hx Hz R sz _ kz
  rw [df] at hx;cases ep:(ba n done)[i]? with
  | none=>rw [ep] at hx;cases hx
  | some p=>
   rw [ep] at hx;cases hx;have pm:=jl ep;have pn:p<n:=by have:=(cU.mp pm).1;exact dc.mp this
   have pd:p∉done:=by have:=(cU.mp pm).2;simpa using this
   have xm:=s1.trans sz;refine ⟨_,rfl,_,rfl,_,rfl,tp,d,n,Lk,done,p,rfl,iG.mono xm,b6,n9,xm _ _ ed,by omega,pn,fun H2 f c s2 nb near=>?_⟩
   have qo:=xm.trans s2;refine ⟨_,rfl,_,rfl,_,rfl,d,done.map iN,(p:Int),rfl,by rw [qo _ _ ed,fP];rfl,by rw [aW];omega,fun H3 tq ws pm so J5 s3 xo=>?_⟩
   have ew:=Bm dup pd pm so;subst ew;have xq:=qo.trans s3;refine ⟨wo,_,rfl,(hW p pn pd)▸gP.t (k:=dX (bg done p)) (xq _ _ JY) (by rw [xo];unfold dX;rw [fP,fP];rfl),_,_,rfl,rfl,_,rfl,by show 2≤sizeLine;decide,fun q nq=>?_⟩
   refine kz _ _ ((s2.trans s3).trans (bb nq)) fun r hr=>⟨q,rfl,?_⟩;rw [ep] at hr;cases hr;rw [ax,wq nb near]
 ·intro Dd ys Hd JW sd tY xj xk
  rw [aW] at tY;exact kk Hd Dd ys (s1.trans sd) xk ⟨tY,fun i v p h1 h2=>xj i v h1 p h2⟩
theorem Cw:cj ["shape","told","done"] ["shape"] (bu sO):=dj
theorem J6(T:Txt K mg t):bx P w K mg base (ck P w) 4 t.jW t.lO ["shape"] Iy:=by
 have S:=Cw;refine T.jg.cY S (fun _ _ _ _ H _ _ _ hr h L=>?_);obtain ⟨tp,n,Lk,rfl,iG,b6,n9,kk⟩:=h;have hu:=fk (iJ (show 1≤64 by decide) _) hr.units
 refine ⟨_,(aG (hG (bp (Ck T) hr T.nR T.gR.kp T.nQ (dR L) (ah (pv 0) aq)))
  (aG (putL 1 S.nd AW)
  (aG (hU (r_ L) rfl (iR (Be (ah (bp (xh T) hr T.tH T.j4.kp T.tG dm (ah (bZ eW (pv 0) ay) aq)) aq) rfl T.tR uw rfl T.fM fQ)) (d6 (i:=2) S.nd rfl (Or.inl rfl))
   (aO (pR hu (pv 1) (pv 2) (Bj rfl (ah (Ap (N:=["total","place"]) (ρ:=(fun σ=>[])) (Ao [] rfl) rfl (iR (bp (tZ T) hr T.qg T.jf.kp T.qf (dR L) (ah (pv 0) (ah (pv 2) (ah (pv 1) aq))))) (fun _ _ _=>.nil) (fun _ _ _=>(pv 0))) aq) ay rfl T.qh boot_min) rfl)))
  (aO (cf (pv 1)))))),?_⟩
 refine ⟨_,rfl,tp,n,Lk,rfl,iG,n9,?_⟩;intro D nD;have s0:ak H (upd H D (.dT [])):=bb nD;have t5:upd H D (.dT []) D=some (.dT []):=ax;dsimp only [bz];generalize upd H D (.dT [])=H0 at s0 t5 ⊢;obtain ⟨lt,us,gj,elt,mO⟩:=id (iG.mono s0);refine dS ⟨_,rfl,tp,_,_,_,rfl,rfl,.of gj,rfl,n,rfl,n9,fun Dx xs H1 s1 NM J7 tu=>?_⟩;have J8:(a7 n).length≤512:=by rw [wm];exact bQ (Nat.pow_le_pow_right (by decide) n9) (by decide)
 refine ⟨Dx,xs,fun i=>((a7 n).getD i []).length,rfl,J7,by have:=tu.1;omega,(fun i v hv=>?_),fun D2 p Cy fp=>?_⟩
 ·have hi:i<(a7 n).length:=by rw [←tu.1];exact (cw.mp hv).1
  obtain ⟨b,e,g⟩:=tu.2 i v _ hv (cx hi);have lq:(a7 n)[i].length≤9:=by obtain ⟨q1,q2⟩:=cO.mp (gp hi);exact bQ (pW q1 q2) n9
  exact ⟨b,_,e,g,by rw [aW];show ((a7 n).getD i []).length=_;rw [fO,cx hi];rfl,by rw [aW];omega⟩
 rw [tu.1] at fp;have fq:=IA fp;have tq:=(IE tu (p:=p) fun i hi=>dc.mp (fp.pm.mem_iff.mp hi)).mono (bb (o:=.lst (p.map fun i=>xs.getD i .aI)) Cy);have ji:upd H1 D2 (.lst (p.map fun i=>xs.getD i .aI)) D2=some (.lst (p.map fun i=>xs.getD i .aI)):=ax;have qp:ak H0 (upd H1 D2 (.lst (p.map fun i=>xs.getD i .aI))):=s1.trans (bb Cy);generalize upd H1 D2 (.lst (p.map fun i=>xs.getD i .aI))=H2 at tq ji qp ⊢;generalize (p.map fun i=>xs.getD i .aI)=J9 at tq ji ⊢;generalize (p.map fun i=>(a7 n).getD i [])=qs at tq fq;have NN:qs.length≤512:=by rw [fq.pm.length_eq];exact J8
 have J_:D2≠D:=fun z=>by rw [z,qp _ _ t5] at ji;cases ji
 refine ⟨D2,rfl,⟨_,.of ji⟩,?_⟩;refine yZ (K:=K) (a:=D2) (xs:=J9) (fun j σ Hc=>∃(v2:Option V),σ=[some (.ref tp),some (.ref D),v2]∧ak H Hc∧(∀b o,b≠D→H2 b=some o→Hc b=some o)∧Hc D=some (.dT (wD (wW n Lk) (qs.take j)))) ⟨_,rfl,s0.trans qp,fun b o _ e=>e,qp _ _ t5⟩ (fun j σ Hc _ ⟨_,_,_,kc,_⟩=>.of (kc _ _ J_ ji)) ?_ ?_
 ·rintro j x σ Hc hx ⟨v2,rfl,sc,kc,eD⟩
  have hj:j<qs.length:=by rw [←tq.1];exact (cw.mp hx).1
  have hq:qs[j]?=some qs[j]:=cx hj;obtain ⟨b,rfl,eb⟩:=tq.2 j x _ hx hq;generalize qs[j]=q at hq eb;have bD:b≠D:=fun z=>by rw [z,qp _ _ t5] at eb;cases eb
  have Cz:=kc _ _ bD eb;have qm:q∈a7 n:=fq.pm.mem_iff.mp (jl hq);obtain ⟨nq,tk⟩:=ID fq hq;have ll:(ba n q).length≤9:=bQ (qE _ _) (by rw [dv];exact n9)
  dsimp only [bz];refine Iz (Iu (Z:=(ba n q).map fun p=>(b9 n Lk q p+wW n Lk (bg q p),(p:Int))) (fun R h=>?_) (il (by rw [aW];omega)) (fun z _ Hx R h=>⟨_,rfl,h⟩) fun D3 H4 NO s4 qq=>?_)
  ·refine ⟨_,rfl,_,rfl,_,rfl,tp,b,D,n,Lk,q,_,wW n Lk,rfl,iG.mono sc,b6,n9,Cz,qm,eD,(fun p pn pq=>wx _ (IC fq hq pn pq)),fun H3 Dc ys s3 n4 ch=>?_⟩
   exact ⟨Dc,rfl,⟨_,.of n4⟩,h _ _ s3 (Ir n4 (Bq ch))⟩
  ·refine ⟨D3,_,0,rfl,rfl,qq,by rw [aW,aW];omega,fun m hm=>?_⟩
   have em:m=wW n Lk q:=by rw [Iv hm,fP,wu qm];rfl
   subst em;refine ⟨_,rfl,_,rfl,D,_,rfl,m4.t (k:=dX q) (s4 _ _ eD) (by rw [s4 _ _ Cz];unfold dX;rw [fP];rfl) (il (by unfold wD;rw [aW,og];omega)),?_⟩
   refine ⟨_,rfl,fun c o e=>?_,fun c o cD e=>(aT cD).trans (s4 _ _ (kc c o cD e)),by rw [ax,Iw _ nq,tk]⟩
   rw [aT (fun z=>by rw [z,nD] at e;cases e)]
   exact s4 _ _ (sc _ _ e)
 ·rintro σ Hc ⟨v2,rfl,sc,kc,eD⟩
  rw [tq.1,oA] at eD;exact ⟨_,rfl,kk Hc D qs sc nD eD fq.pm⟩
theorem CA:cj ["shape","worth_of","order","done","place"] ["shape"] (bu sP):=dj
theorem Ka(T:Txt K mg t):bx P w K mg base (ck P w) 5 t.jX t.lP ["shape"] II:=by
 have S:=CA;refine T.j7.cY S (fun _ _ _ _ H _ _ _ hr h L=>?_);obtain ⟨tp,n,Lk,rfl,iG,b6,n9,kk⟩:=h;have jh:=hr.units;have hu:=fk (iJ (show 1≤64 by decide) _) hr.units
 refine ⟨_,(aG (putL 1 S.nd (bp (J6 T) hr T.tL T.jg.kp T.tK (dR L) (ah (pv 0) aq)))
  (aG (putL 2 S.nd (hX aq))
  (aG (putL 3 S.nd (di aq))
  (aG (uN (r_ L) (cR qX (dA iY rfl T.fM fQ (ah (pv 2) aq)) (bZ eW (pv 0) ay)) (aG (putL 4 S.nd (bZ eW (dA (Bk rfl jh) rfl T.qh boot_min (ah (bp (tZ T) hr T.qg T.jf.kp T.qf (dR L) (ah (pv 0) (ah (pv 3) (ah (pv 1) aq)))) aq)) ay))
  (aG (hG (oV my oE oF jE (pv 2) (ah (pv 4) aq)))
  (aO (putL 3 S.nd (bp (xg T) hr T.tJ T.j6.kp T.tI dm (ah (pv 3) (ah (pv 4) aq))))))))
  (aO (cf (di (ah (pv 2) (ah (pQ hu (pv 1) (di aq) (fun _ _=>rfl)) aq))))))))),?_⟩
 refine ⟨_,rfl,tp,n,Lk,rfl,iG,b6,n9,fun H1 D qs s1 nD eD pq=>?_⟩;dsimp only [bz];refine ⟨bK _,fun lo xr=>?_⟩;have s2:ak H1 (upd H1 lo (.lst [])):=bb xr;have xt:upd H1 lo (.lst []) lo=some (.lst []):=ax;have CB:H lo=none:=none_of s1 xr;have ji:=s2 _ _ eD;dsimp only [bz];generalize upd H1 lo (.lst [])=H2 at s2 xt ji ⊢;refine ⟨bK _,fun td Kb=>?_⟩;have s3:ak H2 (upd H2 td (.tup [])):=bb Kb;have CD:upd H2 td (.tup []) td=some (.tup []):=ax;have t6:=s3 _ _ xt;have qq:=s3 _ _ ji;dsimp only [bz];generalize upd H2 td (.tup [])=H3 at s3 CD t6 qq ⊢;have xq:=s1.trans (s2.trans s3);have Kd:lo≠D:=fun z=>by rw [z,qq] at t6;cases t6
 have CF:∀q,q∈a7 n→dE (wD (wW n Lk) qs) (dX q)=some (.int (wW n Lk q)):=fun q hq=>wx _ (pq.mem_iff.mpr hq);refine dS ⟨fun m σ Hc=>∃(o Sd:List Nat) (dn:Addr) (v4:Option V),σ=[some (.ref tp),some (.ref D),some (.ref lo),some (.ref dn),v4]∧m=n-o.length∧ak H Hc∧Hc D=some (.dT (wD (wW n Lk) qs))∧Hc lo=some (.lst (o.map fun k:Nat=>V.int (k:Int)))∧Hc dn=some (.tup (Sd.map fun k:Nat=>V.int (k:Int)))∧lA n Lk o Sd,⟨_,[],[],td,_,rfl,rfl,xq,qq,t6,CD,lA.start n Lk⟩,?_⟩;rintro m σ Hc ⟨o,Sd,dn,v4,rfl,rfl,sc,n4,t7,t8,fw⟩;obtain ⟨lt,us,gj,elt,mO⟩:=id (iG.mono sc);obtain ⟨m1,m2⟩:=cO.mp fw.mem;have lS:Sd.length=o.length:=fw.pm.length_eq;have NP:o.length≤n:=by rw [←lS];exact pW m1 m2
 refine ⟨_,rfl,lo,_,rfl,.inl (.of t7),_,rfl,tp,_,_,_,rfl,rfl,.of gj,rfl,_,_,rfl,rfl,_,rfl,dH (fun hc=>?_) (fun hc=>?_)⟩
 ·have hc:((o.map fun k:Nat=>V.int (k:Int)).length:Int)<(n:Int):=gu hc
  rw [aW] at hc;have NQ:o.length<n:=by omega
  refine ⟨_,fun _ _ h=>h,?_⟩;refine ⟨_,rfl,_,rfl,_,rfl,tp,dn,D,n,Lk,Sd,_,wW n Lk,rfl,iG.mono sc,b6,n9,t8,fw.mem,n4,(fun p pn pd=>CF _ (cO.mpr ⟨lj m1 pd,fun x hx=>by
   rcases jS.mp hx with rfl | hx;·exact pn
   ·exact m2 x hx⟩)),fun H4 Dc ys s4 Kg ch=>?_⟩
  have Kh:0<(ba n Sd).length:=IG fw.mem (by omega)
  have lk:=Bq ch;refine ⟨Dc,ys,(fun i=>(((ba n Sd).map fun p=>(b9 n Lk Sd p+wW n Lk (bg Sd p),(p:Int))).getD i (0,0)).1),(fun i=>(((ba n Sd).map fun p=>(b9 n Lk Sd p+wW n Lk (bg Sd p),(p:Int))).getD i (0,0)).2),rfl,Kg,by rw [ch.1];exact Kh,(fun i v hv=>?_),fun i v hv best=>?_⟩
  ·have hi:i<(ba n Sd).length:=by rw [←ch.1];exact (cw.mp hv).1
   obtain ⟨b,e,g⟩:=ch.2 i v _ hv (cx hi);have pl:(ba n Sd)[i]<n:=dc.mp (cU.mp (gp hi)).1;simp only [fO,df,cx hi,Option.map_some,Option.getD_some];exact ⟨⟨b,e,g⟩,by omega,by omega⟩
  ·have hi:i<(ba n Sd).length:=by rw [←ch.1];exact (cw.mp hv).1
   obtain ⟨b,rfl,g⟩:=ch.2 i v _ hv (cx hi);have t9:(ba n Sd)[i]∈ba n Sd:=gp hi;have pl:(ba n Sd)[i]<n:=dc.mp (cU.mp t9).1;have lh:∀q∈ba n Sd,b9 n Lk Sd (ba n Sd)[i]+wW n Lk (bg Sd (ba n Sd)[i])≤b9 n Lk Sd q+wW n Lk (bg Sd q):=fun q hq=>by
    obtain ⟨j,hj,rfl⟩:=ou hq;have ql:(ba n Sd)[j]<n:=dc.mp (cU.mp hq).1;have:=best j (by rw [ch.1];exact hj)
    simp only [fO,df,cx hi,cx hj,Option.map_some,Option.getD_some] at this;omega
   generalize (ba n Sd)[i]=p at g t9 pl lh;have pS:p∉Sd:=by have:=(cU.mp t9).2;simpa using this
   have CG:=s4 _ _ t7;refine ⟨b,_,_,_,rfl,rfl,.of g,rfl,?_⟩;dsimp only [bz];refine ⟨_,rfl,.inl ⟨rfl,_,.of CG⟩,_,rfl,lo,_,_,rfl,rfl,CG,il (by rw [aW];omega),?_⟩
   have off:∀c u,c≠lo→H4 c=some u→upd H4 lo (.lst ((o.map fun k:Nat=>V.int (k:Int))++[V.int (p:Int)])) c=some u:=fun c u cl e=>(aT cl).trans e;have CH:upd H4 lo (.lst ((o.map fun k:Nat=>V.int (k:Int))++[V.int (p:Int)])) lo=some (.lst ((o++[p]).map fun k:Nat=>V.int (k:Int))):=by rw [ax,gq];rfl
   have Ki:dn≠lo:=fun z=>by rw [z,t7] at t8;cases t8
   have CI:=off _ _ Ki (s4 _ _ t8);have CJ:=off _ _ Kd.symm (s4 _ _ n4);have s5:ak H (upd H4 lo (.lst ((o.map fun k:Nat=>V.int (k:Int))++[V.int (p:Int)]))):=fun c u e=>off c u (fun z=>by rw [z,CB] at e;cases e) (s4 _ _ (sc _ _ e))
   generalize upd H4 lo (.lst ((o.map fun k:Nat=>V.int (k:Int))++[V.int (p:Int)]))=H5 at CH CI CJ s5 ⊢;dsimp only;refine ⟨_,rfl,_,rfl,dn,Sd.map iN,(p:Int),rfl,by rw [CI,fP];rfl,by rw [aW];omega,fun H6 tq ws pm so J5 s6 xo=>?_⟩
   have ew:=Bm m1 pS pm so;subst ew;refine ⟨_,?_,o++[p],bg Sd p,tq,_,rfl,rfl,s5.trans s6,s6 _ _ CJ,s6 _ _ CH,by rw [xo,fP];rfl,fw.next t9 lh⟩
   rw [dg];simp only [kj];omega
 ·have hc:¬((o.map fun k:Nat=>V.int (k:Int)).length:Int)<(n:Int):=fun z=>hc (b4 z)
  rw [aW] at hc;have oe:o.length=n:=by omega
  have sf:=IH fw.mem (by omega)
  have w0:wW n Lk Sd=0:=by unfold wW;rw [lS,oe,oq];rfl
  have tt:=fw.Bs;refine ⟨_,rfl,_,rfl,bK _,fun e0 n5=>?_⟩;have s6:ak Hc (upd Hc e0 (.tup [])):=bb n5;have e6:upd Hc e0 (.tup []) e0=some (.tup []):=ax;generalize upd Hc e0 (.tup [])=H6 at s6 e6 ⊢;refine ⟨D,_,rfl,(CF [] (cO.mpr ⟨.nil,fun x h=>by cases h⟩))▸gP.t (k:=dX []) (s6 _ _ n4) e6,by show 2≤sizeLine;decide,fun t nt=>?_⟩
  exact kk _ t lo o (sc.trans (s6.trans (bb nt))) CB ax (bb nt _ _ (s6 _ _ t7)) (fw.pm.symm.trans (sf▸.refl _)) (by omega)
theorem xu(T:Txt K mg t):bx P w K mg base (ck P w) 1 t.jU t.lG ["shape"] (wC t.aH):=by
 have S:=Cj;obtain ⟨uM,hM,rM⟩:=T.w9;refine T.gR.cY S (fun _ _ _ _ H _ _ _ hr h L=>?_);obtain ⟨tp,n,Lk,rfl,⟨lt,us,gj,elt,mO⟩,n9,kE⟩:=h;refine ⟨_,(aO (dP (cR oR (bZ eW (pv 0) ay) (hE (v:=.int 9) rfl hM rM)) (aO (zO L rfl uv T.tS rfl T.tO (ah yJ aq))) d5)),?_⟩;refine ⟨_,rfl,tp,_,_,_,rfl,rfl,.of gj,rfl,_,_,rfl,rfl,_,rfl,dH (fun hc=>?_) (fun hc=>?_)⟩;·exact ⟨by show 1≤sizeLine;decide,kE _ (ak.refl _)⟩
 ·exact absurd (b4 (show (9:Int)<(n:Int) by omega)) hc
theorem Kj(T:Txt K mg t):bx P w K mg base (ck P w) 2 t.jV t.lJ ["shape","done","place"] (Bz t.aH):=by
 have S:=Cu;refine T.je.cY S (fun _ _ _ _ H _ _ _ hr h L=>?_);obtain ⟨tp,x,y,n,Lk,rfl,hS,n9,kE⟩:=h
 refine ⟨_,(aG (hG (bp (xu T) hr T.nR T.gR.kp T.nQ (dR L) (ah (pv 0) aq)))
  (aO (cf (bp (Ci T) hr T.wR T.l5.kp T.wQ dm (ah (dA iY rfl T.fM fQ (ah (bp (Cm T) hr T.wV T.l6.kp T.wU dm (ah (bp (Cf T) hr T.wO T.lZ.kp T.wN dm (ah (pv 0) aq)) (ah (pv 1) (ah (pv 2) aq)))) aq)) aq))))),?_⟩
 exact ⟨_,rfl,tp,n,Lk,rfl,hS,n9,kE⟩
theorem CK(T:Txt K mg t):bx P w K mg base (ck P w) 4 t.jW t.lO ["shape"] (wC t.aH):=by
 have S:=Cw;refine T.jg.cY S (fun _ _ _ _ H _ _ _ hr h L=>?_);obtain ⟨tp,n,Lk,rfl,hS,n9,kE⟩:=h;have hu:=fk (iJ (show 1≤64 by decide) _) hr.units
 have jh:=hr.units
 refine ⟨_,(aG (hG (bp (xu T) hr T.nR T.gR.kp T.nQ (dR L) (ah (pv 0) aq)))
  (aG (putL 1 S.nd AW)
  (aG (hU (r_ L) rfl (iR (Be (ah (bp (xh T) hr T.tH T.j4.kp T.tG dm (ah (bZ eW (pv 0) ay) aq)) aq) rfl T.tR uw rfl T.fM fQ)) (d6 (i:=2) S.nd rfl (Or.inl rfl))
   (aO (pR hu (pv 1) (pv 2) (Bj rfl (ah (Ap (N:=["total","place"]) (ρ:=(fun σ=>[])) (Ao [] rfl) rfl (iR (bp (tZ T) hr T.qg T.jf.kp T.qf (dR L) (ah (pv 0) (ah (pv 2) (ah (pv 1) aq))))) (fun _ _ _=>.nil) (fun _ _ _=>(pv 0))) aq) ay rfl T.qh boot_min) rfl)))
  (aO (cf (pv 1)))))),?_⟩
 exact ⟨_,rfl,tp,n,Lk,rfl,hS,n9,kE⟩
theorem Kk(T:Txt K mg t):bx P w K mg base (ck P w) 5 t.jX t.lP ["shape"] (wC t.aH):=by
 have S:=CA;refine T.j7.cY S (fun _ _ _ _ H _ _ _ hr h L=>?_);obtain ⟨tp,n,Lk,rfl,hS,n9,kE⟩:=h;have hu:=fk (iJ (show 1≤64 by decide) _) hr.units
 have jh:=hr.units
 refine ⟨_,(aG (putL 1 S.nd (bp (CK T) hr T.tL T.jg.kp T.tK (dR L) (ah (pv 0) aq)))
  (aG (putL 2 S.nd (hX aq))
  (aG (putL 3 S.nd (di aq))
  (aG (uN (r_ L) (cR qX (dA iY rfl T.fM fQ (ah (pv 2) aq)) (bZ eW (pv 0) ay)) (aG (putL 4 S.nd (bZ eW (dA (Bk rfl jh) rfl T.qh boot_min (ah (bp (tZ T) hr T.qg T.jf.kp T.qf (dR L) (ah (pv 0) (ah (pv 3) (ah (pv 1) aq)))) aq)) ay))
  (aG (hG (oV my oE oF jE (pv 2) (ah (pv 4) aq)))
  (aO (putL 3 S.nd (bp (xg T) hr T.tJ T.j6.kp T.tI dm (ah (pv 3) (ah (pv 4) aq))))))))
  (aO (cf (di (ah (pv 2) (ah (pQ hu (pv 1) (di aq) (fun _ _=>rfl)) aq))))))))),?_⟩
 exact ⟨_,rfl,tp,n,Lk,rfl,hS,n9,kE⟩
theorem Kl:cj ["shape","order"] ["shape","order"] (bu sF):=dj
theorem Km(T:Txt K mg t):bx P w K mg base (ck P w) 5 t.lF t.nu ["shape","order"] BA:=by have S:=Kl;exact T.nO.vn S (fun vs H Q E h=>h.elim) (fun a9 A outer s H vs Q E hr h L=>h.elim)
theorem Kn:cj ["shape","done","worth_of"] ["shape","done","worth_of"] (bu sQ):=dj
theorem Ko(T:Txt K mg t):bx P w K mg base (ck P w) 4 t.lQ t.nG ["shape","done","worth_of"] BA:=by have S:=Kn;exact T.nS.vn S (fun vs H Q E h=>h.elim) (fun a9 A outer s H vs Q E hr h L=>h.elim)
theorem Kp:cj ["shape","order","worths","many","tuples"] ["shape","order","worths"] (bu sR):=dj
theorem Kq(T:Txt K mg t):bx P w K mg base (ck P w) 6 t.lR t.nH ["shape","order","worths"] (Bz t.aH):=by
 have S:=Kp;refine T.nT.cY S (fun _ _ _ _ H _ _ _ hr h L=>?_);obtain ⟨tp,x,y,n,Lk,rfl,hS,n9,kE⟩:=h;have hu:=fk (iJ (show 1≤64 by decide) _) hr.units
 have jh:=hr.units
 refine ⟨_,(aG (hG (bp (xu T) hr T.nR T.gR.kp T.nQ (dR L) (ah (pv 0) aq)))
  (aG (putL 3 S.nd (bp (Km T) hr T.BC T.nO.kp T.BB (dR L) (ah (pv 0) (ah (pv 1) aq))))
  (aG (putL 4 S.nd (bp (xh T) hr T.tH T.j4.kp T.tG dm (ah (bZ eW (pv 0) ay) aq)))
  (aG (dP (PW.pt (pw_or (cR uT (dA IL rfl T.fM fQ (ah (pv 2) aq)) (dA iY rfl T.fM fQ (ah (pv 4) aq))) (pw_or1 (yL (yK (dA (Ae (K:=K) rfl) rfl T.w6 boot_all (ah (oZ (N:=["done","worths"]) (ρ:=(fun σ=>[σ[2]?.join])) (kU [2] rfl) rfl (iR (pv 4)) (fun _ _ _=>.nil) (fun _ _ _=>(Dg (GV hu (pv 0) (pv 1)) rfl))) aq))))))) (aO (cf jx)) d5)
  (aG (dP (PW.pt (pw_or (cR oR (pQ hu (pv 2) (mJ (IV rfl) rfl T.tQ boot_tuple (ah (mJ Ag rfl T.iF Ah (ah (bZ eW (pv 0) ay) aq)) aq)) (fun _ _=>rfl)) ay) (pw_or1 (cR uT (pQ hu (pv 2) (di aq) (fun _ _=>rfl)) (pv 3))))) (aO (cf jx)) d5)
  (aO (cf (dA (Ae (K:=K) rfl) rfl T.w6 boot_all (ah (oZ (N:=["done","shape","worths"]) (ρ:=(fun σ=>[σ[0]?.join,σ[2]?.join])) (kU [0,2] rfl) rfl (iR (pv 4)) (fun _ _ _=>.nil) (fun _ _ _=>(bp (Ko T) hr T.BE T.nS.kp T.BD rq (ah (pv 1) (ah (pv 0) (ah (pv 2) aq)))))) aq))))))))),?_⟩
 exact ⟨_,rfl,tp,n,Lk,rfl,hS,n9,kE⟩
theorem Kr:cj ["_law_way","_law_shape","_law_order"] ["_law_way","_law_shape","_law_order"] (bu sV):=dj
theorem Ks(T:Txt K mg t):bx P w K mg base (ck P w) 7 t.lV t.nK ["_law_way","_law_shape","_law_order"] (Jj t.aH):=by
 have S:=Kr;refine T.nV.cY S (fun _ _ _ _ H _ _ _ hr h L=>?_);obtain ⟨wy,tp,x,n,Lk,rfl,hS,n9,kE⟩:=h;have hu:=fk (iJ (show 1≤64 by decide) _) hr.units
 refine ⟨_,(aG (dP (cR hV (pv 0) ay) (aO (cf (bp (Kj T) hr T.tF T.je.kp T.tE (dR L) (ah (pv 1) (ah (di aq) (ah ay aq)))))) d5)
  (aG (dP (cR hV (pv 0) ay) (aO (cf (bp (CK T) hr T.tL T.jg.kp T.tK (dR L) (ah (pv 1) aq)))) d5)
  (aG (dP (cR hV (pv 0) ay) (aO (cf (bp (Kk T) hr T.wY T.j7.kp T.wX (dR L) (ah (pv 1) aq)))) d5)
  (aO (cf (bp (Kq T) hr T.BG T.nT.kp T.BF (dR L) (ah (pv 1) (ah (pv 2) (ah (IZ hu (di aq) ay) aq))))))))),?_⟩
 refine ⟨_,rfl,rfl,_,rfl,dH (fun _=>?_) (fun _=>?_)⟩
 ·refine ⟨_,rfl,bK _,fun e0 n5=>?_⟩
  have s5:ak H (upd H e0 (.tup [])):=bb n5;exact ⟨tp,_,_,n,Lk,rfl,hS.mono s5,n9,fun H1 s1=>kE _ (s5.trans s1)⟩
 refine ⟨_,rfl,rfl,_,rfl,dH (fun _=>?_) (fun _=>?_)⟩;·exact ⟨_,rfl,tp,n,Lk,rfl,hS,n9,kE⟩
 refine ⟨_,rfl,rfl,_,rfl,dH (fun _=>?_) (fun _=>?_)⟩;·exact ⟨_,rfl,tp,n,Lk,rfl,hS,n9,kE⟩
 refine ⟨_,rfl,_,rfl,fun q nq=>⟨bK _,fun e0 n5=>?_⟩⟩;have sq:ak H (upd H q (.dT [])):=bb nq;have eq:upd H q (.dT []) q=some (.dT []):=ax;generalize upd H q (.dT [])=H1 at sq eq n5 ⊢;have s5:ak H1 (upd H1 e0 (.tup [])):=bb n5;refine ⟨s5 _ _ eq,e0,[],rfl,ax,tp,_,_,n,Lk,rfl,hS.mono (fF (sq.trans s5) nq),n9,fun H2 s2=>kE _ ((fF (sq.trans s5) nq).trans s2)⟩
theorem Txt.xv{t:sZ}(T:Txt K mg t):i4 K t.aH:=⟨T.B_,T.Ca,T.Cb,T.Cc,T.Cd,T.Ce⟩
theorem Kt:cj ["_law_way","_law_shape","_law_order","_law_found","e","_law_others"] ["_law_way","_law_shape","_law_order"] (bu sW):=dj
theorem Ku(T:Txt K mg t):bx P w K mg base dB 8 t.lW t.nM ["_law_way","_law_shape","_law_order"] Jk:=by
 have S:=Kt;have Kv:=Ks (P:=P) (w:=w) (base:=base) T;refine T.nW.ok S (fun vs H0 Q E h=>?_) (fun a9 A outer s H0 vs Q E hr h=>?_)
 ·obtain ⟨wy,tp,x,n,Lk,rfl,_⟩:=h
  rfl
 ·obtain ⟨wy,Kw,x,n,Lk,rfl,hS,n9,k0⟩:=h
  have jh:=hr.units
  refine ⟨_,(aG (putL 3 S.nd jx)
   (aG (Fq rfl rfl S.nd (i:=4) rfl rfl (Fi (Fg Kv (hr.mono (by decide)) rfl T.BK T.nV.kp T.BJ .nil (ah (pv 0) (ah (pv 1) (ah (pv 2) aq)))))
    (fun ea=>(aG (putL 5 S.nd (dA (GH (K:=K)) rfl T.tP boot_isinstance (ah (pv 4) (ah (di (ah (hE (v:=.ref _) rfl T.BR rfl) (ah (hE (v:=.ref _) rfl T.BV rfl) (ah (hE (v:=.ref _) rfl T.BU rfl) (ah (hE (v:=.ref _) rfl T.BP rfl) (ah (hE (v:=.ref _) rfl T.BS rfl) (ah (hE (v:=.ref _) rfl T.BO rfl) (ah (hE (v:=.ref _) rfl T.BW rfl) aq)))))))) aq))))
   (aO (putL 3 S.nd (uG (dA (Ab (K:=K)) rfl T.tP boot_isinstance (ah (pv 4) (ah (hE (v:=.ref _) rfl T.tO rfl) aq))) (uG (dA (Ab (K:=K)) rfl T.tP boot_isinstance (ah (pv 4) (ah (Df (v:=.ty "ValueError") rfl T.BY FN rfl) aq))) (yM (Dp (pv 5))))))))) rfl T.BQ T.BZ uv.hasBase)
   (aO (cf (pv 3))))),?_⟩
  dsimp only [bz];refine ⟨_,rfl,_,rfl,_,rfl,wy,Kw,x,n,Lk,rfl,hS,n9,fun H s0=>⟨_,rfl,⟨T.tS,T.B0⟩,fun fN Kx=>?_⟩⟩;have ty:mS K (upd H fN (gD fN t.aH)) (.ref fN) (.ref t.aH):=.exc ax T.xv;have sx:ak H (upd H fN (gD fN t.aH)):=bb Kx;have xw:upd H fN (gD fN t.aH) fN=some (gD fN t.aH):=ax;generalize upd H fN (gD fN t.aH)=H1 at ty sx xw ⊢;refine ⟨_,rfl,by show 7≤sizeLine;decide,fun tp gT=>?_⟩
  have st:ak H1 (upd H1 tp (.tup [.ref t.iB,.ref t.iD,.ref t.gh,.ref t.iA,.ref t.iC,.ref t.iz,.ref t.iE])):=bb gT;refine ⟨fN,t.aH,tp,[t.iB,t.iD,t.gh,t.iA,t.iC,t.iz,t.iE],rfl,st _ _ xw,T.xv,ax,fun c hc=>?_,?_⟩
  ·rcases cu.mp hc with rfl | hc
   ·exact T.B5
   rcases cu.mp hc with rfl | hc;·exact T.B8
   rcases cu.mp hc with rfl | hc;·exact T.B7
   rcases cu.mp hc with rfl | hc;·exact T.B4
   rcases cu.mp hc with rfl | hc;·exact T.B6
   rcases cu.mp hc with rfl | hc;·exact T.B3
   rw [bY.mp hc];exact T.B9
  have xx:mS K (upd H1 tp (.tup [.ref t.iB,.ref t.iD,.ref t.gh,.ref t.iA,.ref t.iC,.ref t.iz,.ref t.iE])) (.ref fN) (.ref t.aH):=.exc (st _ _ xw) T.xv;have s3:=s0.trans (sx.trans st);generalize upd H1 tp (.tup [.ref t.iB,.ref t.iD,.ref t.gh,.ref t.iA,.ref t.iC,.ref t.iz,.ref t.iE])=H2 at st xx s3 ⊢;dsimp only [bz];refine ⟨_,rfl,_,_,_,true,rfl,rfl,xx,T.B2,true,rfl,mP ?_⟩;refine ⟨_,rfl,_,_,_,true,rfl,rfl,xx,T.B1,true,rfl,mP ?_⟩;exact ⟨_,rfl,_,rfl,_,rfl,k0 H2 s3⟩
theorem Ky:cj ["_law_cell","_law_at","_law_x"] ["_law_cell","_law_at"] (bu sS):=dj
theorem Kz(T:Txt K mg t):bx P w K mg base dB 1 t.lT t.nI ["_law_cell","_law_at"] F5:=by
 have S:=Ky;refine T.nU.i3 S (fun _ _ _ _ H _ _ _ hr h=>?_);obtain ⟨c,a,rfl,ha,k⟩:=h
 refine ⟨_,(aG (dP (cR DP (pv 0) (bo DM ay ay)) (aO (cf (pv 0))) d5)
  (aG (putL 2 S.nd (bo kM (bo fA (bo fA (bo gA (bo kM (pv 0) ay) ay) (bo gA (pv 1) ay)) ay) ay))
  (aG (putL 2 S.nd (bo kM (bo fA (bo fA (bo gA (pv 2) (pv 2)) (bo gA ay (pv 2))) (pv 1)) ay))
  (aO (cf (bo fA (bo gA (pv 2) ay) (bo kM (bo fA (bo gA (pv 2) (pv 2)) (bo gA ay (pv 1))) ay))))))),?_⟩
 refine ⟨_,rfl,_,_,rfl,rfl,⟨by decide,by decide,by decide⟩,_,_,rfl,rfl,_,rfl,dH (fun h=>?_) (fun h=>?_)⟩
 ·have h:=gu h
  exact ⟨_,rfl,k _ (bS (by decide) h)⟩
 ·refine ⟨_,rfl,_,_,rfl,rfl,(by show (0:Int)<2147483647;decide),_,_,rfl,rfl,.inr ⟨by decide,by decide⟩,_,rfl,_,_,rfl,rfl,.inr ⟨by decide,by decide⟩,_,_,rfl,rfl,_,_,rfl,rfl,_,_,rfl,rfl,(by show (0:Int)<2147483629;decide),?_⟩
  have b0:=iL (c % 2147483647*48271+a*69621+11) (show (2147483629:Int)≠0 by decide)
  have b1:=ku (c % 2147483647*48271+a*69621+11) (show (0:Int)<2147483629 by decide)
  generalize (c % 2147483647*48271+a*69621+11) % 2147483629=x at b0 b1 ⊢;refine ⟨_,rfl,_,rfl,_,_,rfl,rfl,.inl ⟨by omega,by omega⟩,_,rfl,_,_,rfl,rfl,.inl ⟨by decide,by decide⟩,_,_,rfl,rfl,_,rfl,_,_,rfl,rfl,_,_,rfl,rfl,(by show (0:Int)<2147483587;decide),?_⟩
  have c0:=iL (x*x+48271*x+a) (show (2147483587:Int)≠0 by decide)
  have c1:=ku (x*x+48271*x+a) (show (0:Int)<2147483587 by decide)
  generalize (x*x+48271*x+a) % 2147483587=y at c0 c1 ⊢;refine ⟨_,rfl,_,_,rfl,rfl,.inr ⟨by decide,by decide⟩,_,rfl,_,rfl,_,_,rfl,rfl,.inl ⟨by omega,by omega⟩,_,rfl,_,_,rfl,rfl,.inl ⟨by decide,by decide⟩,_,_,rfl,rfl,_,_,rfl,rfl,(by show (0:Int)<2147483579;decide),_,_,rfl,rfl,k _ (Int.add_nonneg (Int.mul_nonneg (iL _ (by decide)) (by decide)) (iL _ (by decide)))⟩
theorem KA:cj ["_law_pen","_law_many","_law_at","_law_cell","_law_found"] ["_law_pen","_law_many"] (bu sU):=dj
theorem xA(T:Txt K mg t):bx P w K mg base dB 2 t.lU t.nJ ["_law_pen","_law_many"] (F6 K):=by
 have S:=KA;refine T.j8.i3 S (fun _ _ _ _ H _ _ _ hr h=>?_);obtain ⟨P0,a,ns,many,rfl,⟨x,y,eP,hx,hy⟩,hS,m1,mm,k⟩:=h;have jh:=hr.units
 refine ⟨_,(aG (dP (cR qX (bZ ee (pv 0) ay) (pv 1)) (aG (putL 2 S.nd (bZ ee (pv 0) ay))
  (aG (putL 3 S.nd ay)
  (aG (dP (cR qX (pv 2) (dA iY rfl T.fM fQ (ah (bZ ee (pv 0) ay) aq))) (aO (putL 3 S.nd (bZ ee (bZ ee (pv 0) ay) (pv 2)))) (aO (dP (cR oR (dA iY rfl T.fM fQ (ah (bZ ee (pv 0) ay) aq)) ay) (aO (putL 3 S.nd (bo fA (bo kM (bZ ee (bZ ee (pv 0) ay) (bo kM (bo gA (pv 2) ay) (dA iY rfl T.fM fQ (ah (bZ ee (pv 0) ay) aq)))) ay) (bo gA (pv 2) ay)))) d5)))
  (aG (@uL _ _ _ _ _ _ (bo fA (pv 2) ay) (uK (pv 0) ay set_list) (by rfl) (by rfl) (by rfl))
  (aO (@uL _ _ _ _ _ _ (bp (Kz T) hr T.BI T.nU.kp T.BH dm (ah (pv 3) (ah (pv 2) aq))) (uK (pv 0) ay set_list) (by rfl) (by rfl) (by rfl))))))) d5)
  (aG (putL 4 S.nd (bo kM (bZ ee (pv 0) ay) (pv 1)))
  (aG (@uL _ _ _ _ _ _ (bo FP (bZ ee (pv 0) ay) (pv 1)) (uK (pv 0) ay set_list) (by rfl) (by rfl) (by rfl))
  (aO (cf (pv 4)))))),?_⟩
 have t_:=vD.seq hS;refine ⟨_,rfl,P0,_,_,_,rfl,rfl,.of eP,rfl,_,rfl,_,_,rfl,rfl,_,rfl,dH (fun aX=>?_) (fun aX=>?_)⟩
 ·refine ⟨_,rfl,P0,_,_,_,rfl,rfl,.of eP,rfl,?_⟩
  refine ⟨_,rfl,_,rfl,P0,_,_,_,rfl,rfl,.of eP,rfl,a,ns.map V.int,rfl,.inl t_,_,_,rfl,rfl,_,rfl,dH (fun h1=>?_) (fun h1=>?_)⟩
  ·have h1:x<((ns.map V.int).length:Int):=gu h1
   obtain ⟨v,hv,mv⟩:=Aj (xs:=ns.map V.int) hx h1;obtain ⟨c,_,rfl⟩:=dN.mp mv;refine ⟨_,rfl,P0,_,_,_,rfl,rfl,.of eP,rfl,_,rfl,a,ns.map V.int,_,_,rfl,rfl,t_,hv,?_⟩;refine ⟨_,rfl,_,_,rfl,rfl,_,rfl,P0,_,1,1,rfl,rfl,eP,rfl,?_⟩;refine ⟨_,rfl,_,rfl,c,x,rfl,hx,fun r qr=>⟨_,rfl,P0,_,2,2,rfl,rfl,ax,rfl,?_⟩⟩;have q0:=iL (r) (show many≠0 by omega)
   have q1:=ku (r) (show 0<many by omega)
   have q2:=qM (qr) (show 0≤many by omega)
   refine ⟨_,rfl,P0,_,_,_,rfl,rfl,.of ax,rfl,_,rfl,_,_,rfl,rfl,(show 0<many by omega),?_⟩
   refine ⟨_,rfl,P0,_,_,_,rfl,rfl,.of ax,rfl,_,rfl,_,_,rfl,rfl,⟨show 0<many by omega,mm⟩,_,rfl,P0,_,2,2,rfl,rfl,ax,rfl,?_⟩
   exact ⟨_,rfl,k _ _ q0 q1 (((aU.refl H).trans aU.iq).trans (aU.iq.trans aU.iq)) ⟨x+1,r / many,ax,by omega,q2⟩⟩
  ·refine ⟨_,rfl,P0,_,_,_,rfl,rfl,.of eP,rfl,a,ns.map V.int,rfl,.inl t_,_,_,rfl,rfl,_,rfl,?_⟩
   have ua:=eP;have qt:=t_;have sl:=ak.refl H;refine dH (fun h2=>?_) (fun h2=>?_)
   ·have hl:0<(ns.map V.int).length:=by have:=gu h2;omega
    have KC:=iL (x*7) (show ((ns.map V.int).length:Int)≠0 by omega)
    have KD:=ku (x*7) (show (0:Int)<((ns.map V.int).length:Int) by omega)
    obtain ⟨v,hv,mv⟩:=Aj (xs:=ns.map V.int) KC KD;obtain ⟨c,_,rfl⟩:=dN.mp mv;refine ⟨_,rfl,P0,_,_,_,rfl,rfl,.of ua,rfl,_,rfl,_,_,rfl,rfl,.inr ⟨by decide,by decide⟩,_,rfl,P0,_,_,_,rfl,rfl,.of ua,rfl,a,ns.map V.int,rfl,.inl qt,_,_,rfl,rfl,(show (0:Int)<((ns.map V.int).length:Int) by omega),a,ns.map V.int,_,_,rfl,rfl,qt,hv,_,_,rfl,rfl,(show (0:Int)<1000003 by decide),_,rfl,_,_,rfl,rfl,.inr ⟨by decide,by decide⟩,_,_,rfl,rfl,?_⟩
    refine ⟨_,rfl,_,_,rfl,rfl,_,rfl,P0,_,1,1,rfl,rfl,ua,rfl,?_⟩;refine ⟨_,rfl,_,rfl,_,x,rfl,hx,fun r qr=>⟨_,rfl,P0,_,2,2,rfl,rfl,ax,rfl,?_⟩⟩;have q0:=iL (r) (show many≠0 by omega)
    have q1:=ku (r) (show 0<many by omega)
    have q2:=qM (qr) (show 0≤many by omega)
    refine ⟨_,rfl,P0,_,_,_,rfl,rfl,.of ax,rfl,_,rfl,_,_,rfl,rfl,(show 0<many by omega),?_⟩
    refine ⟨_,rfl,P0,_,_,_,rfl,rfl,.of ax,rfl,_,rfl,_,_,rfl,rfl,⟨show 0<many by omega,mm⟩,_,rfl,P0,_,2,2,rfl,rfl,ax,rfl,?_⟩
    exact ⟨_,rfl,k _ _ q0 q1 (((aU.of sl).trans aU.iq).trans (aU.iq.trans aU.iq)) ⟨x+1,r / many,ax,by omega,q2⟩⟩
   ·
    refine ⟨_,rfl,_,_,rfl,rfl,_,rfl,P0,_,1,1,rfl,rfl,ua,rfl,?_⟩;refine ⟨_,rfl,_,rfl,0,x,rfl,hx,fun r qr=>⟨_,rfl,P0,_,2,2,rfl,rfl,ax,rfl,?_⟩⟩;have q0:=iL (r) (show many≠0 by omega)
    have q1:=ku (r) (show 0<many by omega)
    have q2:=qM (qr) (show 0≤many by omega)
    refine ⟨_,rfl,P0,_,_,_,rfl,rfl,.of ax,rfl,_,rfl,_,_,rfl,rfl,(show 0<many by omega),?_⟩
    refine ⟨_,rfl,P0,_,_,_,rfl,rfl,.of ax,rfl,_,rfl,_,_,rfl,rfl,⟨show 0<many by omega,mm⟩,_,rfl,P0,_,2,2,rfl,rfl,ax,rfl,?_⟩
    exact ⟨_,rfl,k _ _ q0 q1 (((aU.of sl).trans aU.iq).trans (aU.iq.trans aU.iq)) ⟨x+1,r / many,ax,by omega,q2⟩⟩
 ·dsimp only [yN]
  have q0:=iL (y) (show many≠0 by omega)
  have q1:=ku (y) (show 0<many by omega)
  have q2:=qM (hy) (show 0≤many by omega)
  refine ⟨_,rfl,P0,_,_,_,rfl,rfl,.of eP,rfl,_,rfl,_,_,rfl,rfl,(show 0<many by omega),?_⟩
  refine ⟨_,rfl,P0,_,_,_,rfl,rfl,.of eP,rfl,_,rfl,_,_,rfl,rfl,⟨show 0<many by omega,mm⟩,_,rfl,P0,_,2,2,rfl,rfl,eP,rfl,?_⟩
  exact ⟨_,rfl,k _ _ q0 q1 (aU.iq) ⟨x,y / many,ax,hx,q2⟩⟩
theorem KG:cj ["_law_pen","_law_size","_law_way","_law_found","_law_i","_law_j"] ["_law_pen","_law_size","_law_way"] (bu sX):=dj
theorem CL(T:Txt K mg t):bx P w K mg base dB 3 t.lX t.nN ["_law_pen","_law_size","_law_way"] (Jl K):=by
 have S:=KG;refine T.l7.i3 S (fun _ _ _ _ H _ _ _ hr h=>?_);obtain ⟨P0,a,ns,n,way,rfl,pc,hS,n3,p9,hw,kk⟩:=h
 refine ⟨_,(aG (putL 3 S.nd (hX aq))
  (aG (hU iK rfl (mH rfl T.iF (ah (pv 1) aq)) (d6 (i:=4) S.nd rfl (Or.inl rfl))
   (aO (hU iK rfl (DH rfl T.iF (ah (bo fA (pv 4) ay) (ah (pv 1) aq))) (d6 (i:=5) S.nd rfl (Or.inl rfl))
   (aG (dP (PW.pt (pw_and (cR hV (pv 2) ay) (pw_and1 (cR hV (bp (xA T) hr T.tN T.j8.kp T.tM dm (ah (pv 0) (ah ay aq))) ay)))) (aO (hG (oV my oE oF jE (pv 3) (ah (di (ah (pv 4) (ah (pv 5) aq))) aq)))) d5)
  (aO (dP (PW.pt (pw_and (cR hV (pv 2) ay) (pw_and1 (PW.pt (pw_or (cR hV (bo uS (pv 5) (pv 4)) ay) (pw_or1 (cR hV (bo uS (pv 5) (pv 4)) (bo uS (pv 1) ay)))))))) (aO (hG (oV my oE oF jE (pv 3) (ah (di (ah (pv 4) (ah (pv 5) aq))) aq)))) d5))))))
  (aO (cf (mJ zG rfl T.tQ boot_tuple (ah (pv 3) aq)))))),?_⟩
 refine dS ⟨bK _,fun fd qu=>?_⟩;have s1:ak H (upd H fd (.lst [])):=bb qu;have e1:upd H fd (.lst []) fd=some (.lst []):=ax;have j_:fd≠P0:=pc.ne qu;dsimp only [bz];generalize upd H fd (.lst [])=H1 at s1 e1 ⊢;have big:∀{k:Nat},k≤4000→k<sizeLine:=fun h=>fk h (by decide)
 refine dS ⟨_,rfl,(n:Int),rfl,by omega,by omega,?_⟩
 rw [kr];refine oQ (fun i σ Hc=>∃(us:List V) (L:aK) (v4 v5:Option V),σ=[some (.ref P0),some (.int (n:Int)),some (.int way),some (.ref fd),v4,v5]∧aU P0 H Hc∧dC Hc P0 a∧Hc fd=some (.lst us)∧cN (er P0 Hc) us L∧cA n (way=1) i (i+1) L) ⟨[],[],_,_,rfl,aU.of s1,pc.mono s1,e1,cN.nil _,cA.start⟩ ?_ ?_
 ·rintro i σ Hc hi ⟨us,L,v4,v5,rfl,sc,p5,jj,hL,ok⟩
  dsimp only [bz];simp only [List.set_cons_zero,List.set_cons_succ];refine ⟨_,rfl,_,_,rfl,rfl,_,rfl,1+(i:Int),(n:Int),by rw [g7,Int.add_comm],⟨by omega,by omega,by omega,by omega⟩,?_⟩
  rw [show ((n:Int)-(1+(i:Int))).toNat=n-(i+1) by omega]
  refine oQ (fun k σ Hd=>∃(us:List V) (L:aK) (v5:Option V),σ=[some (.ref P0),some (.int (n:Int)),some (.int way),some (.ref fd),some (.int (0+(i:Int))),v5]∧aU P0 H Hd∧dC Hd P0 a∧Hd fd=some (.lst us)∧cN (er P0 Hd) us L∧cA n (way=1) i (i+1+k) L) ⟨us,L,_,rfl,sc,p5,jj,hL,ok⟩ ?_ ?_
  ·rintro k σ Hd hk ⟨us,L,v5,rfl,sd,p6,jj,hL,ok⟩
   dsimp only [bz];simp only [List.set_cons_zero,List.set_cons_succ];have lL:=hL.1;have l2:us.length≤3900:=by have:=ok.jT;omega
   refine dS (GD (fun σ Hx=>∃(us:List V) (L:aK),σ=[some (.ref P0),some (.int (n:Int)),some (.int way),some (.ref fd),some (.int (0+(i:Int))),some (.int (1+(i:Int)+(k:Int)))]∧aU P0 H Hx∧dC Hx P0 a∧Hx fd=some (.lst us)∧cN (er P0 Hx) us L∧us.length≤3950∧(way=0∧cA n (way=1) i (i+1+(k+1)) L∨way=1∧cA n (way=1) i (i+1+k) L)) ?_ ?_)
   ·rintro σ Hx ⟨us,L,rfl,sx,px,n6,ub,l3,KH⟩
    dsimp only;rcases KH with ⟨w0,ok⟩ | ⟨w1,ok⟩
    ·subst w0
     exact ⟨_,rfl,rfl,false,rfl,rj (rj ⟨us,L,_,rfl,sx,px,n6,ub,ok⟩)⟩
    ·subst w1
     refine ⟨_,rfl,rfl,true,rfl,mP ?_⟩;refine ⟨_,rfl,_,rfl,_,_,rfl,rfl,rfl,_,rfl,dH (fun hc=>?_) (fun hc=>?_)⟩
     ·have xB:i+1+k=i+1∨i+1+k+1=i+n:=by have:decide (V.int (1+(i:Int)+(k:Int)-(0+(i:Int)))=V.int 1)=true:=hc;rw [jK] at this;have:=gu this;omega
      dsimp only;refine mP ?_;refine ⟨_,rfl,.inl ⟨rfl,_,.of n6⟩,_,rfl,_,rfl,by show 2≤sizeLine;decide,fun tp gT=>?_⟩
      have st:ak Hx (upd Hx tp (.tup [.int (0+(i:Int)),.int (1+(i:Int)+(k:Int))])):=bb gT;have et:upd Hx tp (.tup [.int (0+(i:Int)),.int (1+(i:Int)+(k:Int))]) tp=some (.tup [.int (i:Int),.int ((i+1+k:Nat):Int)]):=by rw [ax,g7,show 1+(i:Int)+(k:Int)=((i+1+k:Nat):Int) by omega]
      generalize upd Hx tp (.tup [.int (0+(i:Int)),.int (1+(i:Int)+(k:Int))])=Hf at st et ⊢;have pf:=px.mono st;have kd:=st _ _ n6;refine ⟨fd,us,_,rfl,rfl,kd,big (by omega),?_⟩
      have qv:=cN.cB (H:=er P0 Hf) (H':=er P0 (upd Hf fd (.lst (us++[.ref tp])))) ((ub.mono (kY st)).push (p:=((i:Int),((i+1+k:Nat):Int))) (vZ pf et)) (by rw [kX j_];exact kd) vY
      have sf:aU P0 H (upd Hf fd (.lst (us++[.ref tp]))):=(sx.trans (aU.of st)).but qu;exact ⟨us++[.ref tp],_,_,rfl,sf,pf.upd j_,ax,qv,ok.put (fun _=>xB) (by omega) (by omega)⟩
     ·have h1:¬i+1+k=i+1:=fun e=>hc (by rw [jK];exact b4 (by omega))
      refine ⟨_,rfl,_,rfl,_,_,rfl,rfl,_,rfl,_,_,rfl,rfl,rfl,_,rfl,dH (fun hd=>?_) (fun hd=>?_)⟩
      ·have xB:i+1+k=i+1∨i+1+k+1=i+n:=by have:decide (V.int (1+(i:Int)+(k:Int)-(0+(i:Int)))=V.int ((n:Int)-1))=true:=hd;rw [jK] at this;have:=gu this;omega
       refine ⟨_,rfl,.inl ⟨rfl,_,.of n6⟩,_,rfl,_,rfl,by show 2≤sizeLine;decide,fun tp gT=>?_⟩
       have st:ak Hx (upd Hx tp (.tup [.int (0+(i:Int)),.int (1+(i:Int)+(k:Int))])):=bb gT;have et:upd Hx tp (.tup [.int (0+(i:Int)),.int (1+(i:Int)+(k:Int))]) tp=some (.tup [.int (i:Int),.int ((i+1+k:Nat):Int)]):=by rw [ax,g7,show 1+(i:Int)+(k:Int)=((i+1+k:Nat):Int) by omega]
       generalize upd Hx tp (.tup [.int (0+(i:Int)),.int (1+(i:Int)+(k:Int))])=Hf at st et ⊢;have pf:=px.mono st;have kd:=st _ _ n6;refine ⟨fd,us,_,rfl,rfl,kd,big (by omega),?_⟩
       have qv:=cN.cB (H:=er P0 Hf) (H':=er P0 (upd Hf fd (.lst (us++[.ref tp])))) ((ub.mono (kY st)).push (p:=((i:Int),((i+1+k:Nat):Int))) (vZ pf et)) (by rw [kX j_];exact kd) vY
       have sf:aU P0 H (upd Hf fd (.lst (us++[.ref tp]))):=(sx.trans (aU.of st)).but qu;exact ⟨us++[.ref tp],_,_,rfl,sf,pf.upd j_,ax,qv,ok.put (fun _=>xB) (by omega) (by omega)⟩
      ·have h2:¬i+1+k+1=i+n:=fun e=>hd (by rw [jK];exact b4 (by omega))
       exact ⟨us,L,_,rfl,sx,px,n6,ub,ok.skip (fun _=>by omega) (by omega)⟩
   ·intro R hR
    refine ⟨_,rfl,rfl,_,rfl,dH (fun h0=>?_) (fun h0=>?_)⟩
    ·have w0:way=0:=by
      by_cases e:way=0;·exact e
      ·exact absurd h0 (by simp [jK,e])
     refine ⟨_,rfl,P0,a,ns,4,rfl,p6,ak.seq sd hS,by decide,i5.of_lt (by decide) (by decide),fun c He c0 c1 se pe=>⟨rfl,_,rfl,dH (fun _=>?_) (fun _=>?_)⟩⟩
     ·have CM:=se.at j_ jj
      have KI:=hL.mono se;refine ⟨_,rfl,.inl ⟨rfl,_,.of CM⟩,_,rfl,_,rfl,by show 2≤sizeLine;decide,fun tp gT=>?_⟩
      have st:ak He (upd He tp (.tup [.int (0+(i:Int)),.int (1+(i:Int)+(k:Int))])):=bb gT;have et:upd He tp (.tup [.int (0+(i:Int)),.int (1+(i:Int)+(k:Int))]) tp=some (.tup [.int (i:Int),.int ((i+1+k:Nat):Int)]):=by rw [ax,g7,show 1+(i:Int)+(k:Int)=((i+1+k:Nat):Int) by omega]
      generalize upd He tp (.tup [.int (0+(i:Int)),.int (1+(i:Int)+(k:Int))])=Hf at st et ⊢;have pf:=pe.mono st;have kd:=st _ _ CM;refine ⟨fd,us,_,rfl,rfl,kd,big (by omega),?_⟩
      have qv:=cN.cB (H:=er P0 Hf) (H':=er P0 (upd Hf fd (.lst (us++[.ref tp])))) ((KI.mono (kY st)).push (p:=((i:Int),((i+1+k:Nat):Int))) (vZ pf et)) (by rw [kX j_];exact kd) vY
      have sf:aU P0 H (upd Hf fd (.lst (us++[.ref tp]))):=((sd.trans se).trans (aU.of st)).but qu;exact hR _ _ ⟨us++[.ref tp],_,rfl,sf,pf.upd j_,ax,qv,by simp;omega,.inl ⟨w0,ok.put (fun h=>by omega) (by omega) (by omega)⟩⟩
     ·exact hR _ _ ⟨us,L,rfl,sd.trans se,pe,se.at j_ jj,hL.mono se,by omega,.inl ⟨w0,ok.skip (fun h=>by omega) (by omega)⟩⟩
    ·have w1:way=1:=by
      rcases hw with h | h;·exact absurd (by simp [jK,h]) h0
      ·exact h
     exact hR _ _ ⟨us,L,rfl,sd,p6,jj,hL,by omega,.inr ⟨w1,ok⟩⟩
  ·rintro σ Hd ⟨us,L,v5,rfl,sd,p6,jj,hL,ok⟩
   exact ⟨us,L,_,_,rfl,sd,p6,jj,hL,ok.row (by omega) p9 hi⟩
 ·rintro σ Hc ⟨us,L,v4,v5,rfl,sc,p5,jj,hL,ok⟩
  refine ⟨_,rfl,fd,us,rfl,.inl ⟨.of jj,fun l nl=>?_⟩⟩;have sl:ak Hc (upd Hc l (.tup us)):=bb nl;have lL:=hL.1;have fw:=ok.jT;exact kk l us L _ (sc.trans (aU.of sl)) (p5.mono sl) (p5.ne nl) ax (hL.mono (kY sl)) ok.lt (by omega) fun w1=>by subst w1;exact cA.ring (h:=⟨ok.lt,ok.jT,fun _=>ok.all rfl,ok.new⟩) (ar n) n3
theorem KJ:cj ["script","_law_pen","_law_k","_law_size","_law_shape","_law_way","_law_order"] ["script"] (bu sY):=dj
theorem KN(T:Txt K mg t):bx P w K mg base dB 9 t.jY t.lY ["script"] (rH K):=by
 have S:=KJ;refine T.nX.i3 S (fun _ _ _ _ H _ _ _ hr h=>?_);obtain ⟨a,ns,rfl,hS,hlen,kQ⟩:=h;have jh:=hr.units
 refine ⟨_,(aG (putL 1 S.nd (hX (ah (pv 0) (ah ay (ah ay aq)))))
  (aG (hU iK rfl (mH rfl T.iF (ah ay aq)) (d6 (i:=2) S.nd rfl (Or.inl rfl))
   (aG (putL 3 S.nd (bZ ee (hX (ah ay (ah (bo fA ay (bp (xA T) hr T.tN T.j8.kp T.tM dm (ah (pv 1) (ah ay aq)))) aq))) (pv 2)))
  (aG (putL 4 S.nd (di (ah (pv 3) (ah (bp (CL T) hr T.w5 T.l7.kp T.wZ dm (ah (pv 1) (ah (pv 3) (ah (bp (xA T) hr T.tN T.j8.kp T.tM dm (ah (pv 1) (ah ay aq))) aq)))) aq))))
  (aO (hU iK rfl (mH rfl T.iF (ah ay aq)) (d6 (i:=5) S.nd rfl (Or.inl rfl))
   (aO (hU iK rfl (iR (hX (ah (mJ (FU rfl) rfl T.BX boot_list (ah (mJ Ag rfl T.iF Ah (ah (pv 3) aq)) aq)) (ah (hX (ah ay aq)) (ah (hX aq) aq))))) (d6 (i:=6) S.nd rfl (Or.inl rfl))
   (aO (dP (yL (yK (bp (Ku T) hr T.BM T.nW.kp T.BL dm (ah (pv 5) (ah (pv 4) (ah (pv 6) aq)))))) (aO (cf jx)) d5)))))))))
  (aG (putL 4 S.nd (di (ah ay (ah (bp (CL T) hr T.w5 T.l7.kp T.wZ dm (ah (pv 1) (ah ay (ah ay aq)))) aq))))
  (aO (cf (uG (zb hV (bp (Cv T) hr T.tF T.je.kp T.tE rq (ah (pv 4) (ah (di (ah ay (ah ay aq))) (ah ay aq)))) ay) (yM (zb hV (bZ eW (bp (Ka T) hr T.wY T.j7.kp T.wX rq (ah (pv 4) aq)) ay) ay)))))))),?_⟩
 refine ⟨_,rfl,by show 3≤sizeLine;decide,fun P0 nP=>?_⟩
 have p0:dC (upd H P0 (.lst [.ref a,.int 0,.int 0])) P0 a:=⟨0,0,ax,by decide,by decide⟩
 have m6:bL K (er P0 (upd H P0 (.lst [.ref a,.int 0,.int 0]))) a (ns.map V.int):=by rw [As];exact ak.seq (fun b o e=>vE (eO e nP) e) hS
 dsimp only [bz];generalize upd H P0 (.lst [.ref a,.int 0,.int 0])=H0 at p0 m6 ⊢;refine dS ⟨2,rfl,by decide,by decide,?_⟩
 refine oQ (fun i σ Hc=>∃(v2 v3 v4 v5 v6:Option V),σ=[some (.ref a),some (.ref P0),v2,v3,v4,v5,v6]∧aU P0 H0 Hc∧dC Hc P0 a) ⟨_,_,_,_,_,rfl,aU.refl _,p0⟩ ?_ ?_
 ·rintro i σ Hc hi ⟨v2,v3,v4,v5,v6,rfl,sT,pc⟩
  have uc:bL K (er P0 Hc) a (ns.map V.int):=ak.seq sT m6;dsimp only [bz];refine dS ⟨_,rfl,P0,a,ns,50,rfl,pc,uc,by decide,i5.of_lt (by decide) (by decide),fun c H1 c0 c1 s1 p1=>⟨_,_,rfl,rfl,by show 2≤sizeLine;decide,fun l0 qi=>?_⟩⟩
  have hm:∃n:Nat,9<n∧n≤60∧ig [V.int 10,.int (11+c)] (0+(i:Int))=some (.int (n:Int)):=by
   have i2:i<2:=hi;rcases (show i=0∨i=1 by omega) with rfl | rfl
   ·exact ⟨10,by decide,by decide,rfl⟩
   ·refine ⟨(11+c).toNat,by omega,by omega,?_⟩
    rw [Int.toNat_of_nonneg (by omega)]
    rfl
  obtain ⟨n,n9,p9,em⟩:=hm;have sl:ak H1 (upd H1 l0 (.lst [.int 10,.int (11+c)])):=bb qi;refine ⟨_,rfl,l0,_,_,.int (n:Int),rfl,rfl,.of ax,em,?_⟩;generalize upd H1 l0 (.lst [.int 10,.int (11+c)])=H2 at sl ⊢;have qo:=s1.trans (aU.of sl);have p2:=p1.mono sl;have qt:bL K (er P0 H2) a (ns.map V.int):=ak.seq qo uc;dsimp only [bz];refine dS ⟨_,rfl,_,rfl,_,rfl,_,rfl,P0,a,ns,2,rfl,p2,qt,by decide,i5.of_lt (by decide) (by decide),fun way H3 w0 w1 s3 p3=>?_⟩
  have fE:bL K (er P0 H3) a (ns.map V.int):=ak.seq s3 qt;refine ⟨P0,a,ns,n,way,rfl,p3,fE,by omega,p9,by omega,fun tl us L H4 s4 p4 KO xC hL lt jT _=>?_⟩
  refine ⟨by show 2≤sizeLine;decide,fun tp gT=>?_⟩
  have st:ak H4 (upd H4 tp (.tup [.int (n:Int),.ref tl])):=bb gT;have et:upd H4 tp (.tup [.int (n:Int),.ref tl]) tp=some (.tup [.int (n:Int),.ref tl]):=ax;dsimp only [bz];generalize upd H4 tp (.tup [.int (n:Int),.ref tl])=H5 at st et ⊢;have sh:eJ H5 tp n L:=⟨tl,us,et,st _ _ xC,(hL.mono (kY st)).mono vD⟩;have p5:=p4.mono st;have KP:aU P0 H0 H5:=sT.trans (qo.trans (s3.trans (s4.trans (aU.of st))));refine ⟨4,rfl,by decide,by decide,?_⟩
  refine oQ (fun j σ Hd=>∃(v5 v6:Option V),σ=[some (.ref a),some (.ref P0),some (.int (0+(i:Int))),some (.int (n:Int)),some (.ref tp),v5,v6]∧ak H5 Hd) ⟨_,_,rfl,ak.refl _⟩ ?_ ?_
  ·rintro j σ Hd hj ⟨v5,v6,rfl,sd⟩
   dsimp only [bz];refine ⟨_,rfl,(n:Int),rfl,fun q1 KQ=>⟨q1,n,rfl,ax,by omega,fun l nl=>?_⟩⟩
   have s6:ak Hd (upd (upd Hd q1 (.fR 0 (n:Int))) l (.lst (fV n))):=(bb KQ).trans (bb nl);generalize upd (upd Hd q1 (.fR 0 (n:Int))) l (.lst (fV n))=H6 at s6 ⊢;refine ⟨by show 1≤sizeLine;decide,fun m1 KR=>?_⟩
   have s7:ak H6 (upd H6 m1 (.lst [.int 0])):=bb KR;generalize upd H6 m1 (.lst [.int 0])=H7 at s7 ⊢;refine ⟨bK _,fun m2 KS=>?_⟩;have s8:ak H7 (upd H7 m2 (.lst [])):=bb KS;generalize upd H7 m2 (.lst [])=H8 at s8 ⊢;refine ⟨by show 3≤sizeLine;decide,fun fl KU=>?_⟩
   have s9:ak H8 (upd H8 fl (.lst [V.ref l,.ref m1,.ref m2])):=bb KU;have e9:upd H8 fl (.lst [V.ref l,.ref m1,.ref m2]) fl=some (.lst [V.ref l,.ref m1,.ref m2]):=ax;generalize upd H8 fl (.lst [V.ref l,.ref m1,.ref m2])=H9 at s9 e9 ⊢;have CN:=sd.trans (s6.trans (s7.trans (s8.trans s9)));refine ⟨fl,rfl,⟨_,.of e9⟩,?_⟩;refine yZ (K:=K) (a:=fl) (xs:=[V.ref l,.ref m1,.ref m2]) (fun m σ He=>∃(v6:Option V),σ=[some (.ref a),some (.ref P0),some (.int (0+(i:Int))),some (.int (n:Int)),some (.ref tp),some (.int (0+(j:Int))),v6]∧ak H9 He) ⟨_,rfl,ak.refl _⟩ (fun m σ He _ ⟨_,_,se⟩=>.of (se _ _ e9)) ?_ ?_
   ·rintro m x σ He hx ⟨v6,rfl,se⟩
    dsimp only [bz];exact ⟨_,rfl,_,rfl,_,rfl,j,tp,x,n,L,by rw [g7];rfl,sh.mono (CN.trans se),n9,fun NR KW=>⟨true,rfl,rj ⟨_,rfl,se.trans KW⟩⟩⟩
   ·rintro σ He ⟨v6,rfl,se⟩
    exact ⟨_,_,rfl,CN.trans se⟩
  ·rintro σ Hd ⟨v5,v6,rfl,sd⟩
   exact ⟨_,_,_,_,_,rfl,KP.trans (aU.of sd),p5.mono sd⟩
 ·rintro σ Hc ⟨v2,v3,v4,v5,v6,rfl,sT,pc⟩
  have uc:bL K (er P0 Hc) a (ns.map V.int):=ak.seq sT m6;dsimp only;refine dS ⟨_,rfl,P0,a,ns,9,1,rfl,pc,uc,by decide,by decide,.inr rfl,fun tl us L H4 s4 p4 KO xC hL lt jT ring=>?_⟩
  have ring:=ring rfl;have b6:f_ 9 L:=fun p hp=>by have:=lt p hp;exact ⟨this.1,by omega,by omega,this.2.2⟩
  refine ⟨by show 2≤sizeLine;decide,fun tp gT=>?_⟩
  have st:ak H4 (upd H4 tp (.tup [.int 9,.ref tl])):=bb gT;have et:upd H4 tp (.tup [.int 9,.ref tl]) tp=some (.tup [.int 9,.ref tl]):=ax;dsimp only [bz];generalize upd H4 tp (.tup [.int 9,.ref tl])=H5 at st et ⊢;have sh:eJ H5 tp 9 L:=⟨tl,us,et,st _ _ xC,(hL.mono (kY st)).mono vD⟩;refine ⟨_,rfl,by show 2≤sizeLine;decide,fun dn KY=>?_⟩
  have s6:ak H5 (upd H5 dn (.tup [.int 1,.int 2])):=bb KY;have e6:upd H5 dn (.tup [.int 1,.int 2]) dn=some (.tup ([1,2].map fun k:Nat=>V.int (k:Int))):=ax;generalize upd H5 dn (.tup [.int 1,.int 2])=H6 at s6 e6 ⊢;refine ⟨tp,dn,9,L,[1,2],0,rfl,sh.mono s6,b6,by decide,e6,by decide,by decide,fun H7 f c s7 nb near=>?_⟩
  have hc:(c:Int)*c+3*c+1=11:=(wq nb near).trans (Jm ring b6);rw [hc];refine ⟨rfl,true,rfl,mP ?_⟩;refine ⟨_,rfl,tp,9,L,rfl,sh.mono (s6.trans s7),b6,by decide,fun H8 ft lo o s8 xr CO xt po NS=>?_⟩
  rw [Jn ring b6] at CO;exact ⟨ft,_,_,_,rfl,rfl,.of CO,rfl,rfl,kQ _⟩
theorem KZ{l:PySem.W.OpenLaw}(T:Txt K mg t):∃fd:FuncData,(∀(s:Shared) (v:Value),BindsTo s fd ⟨[v],[]⟩ [("script",v)])∧∀base:Heap,K.In base→base.Ns mainGlobals mg→bx l.prog w K mg base dB 9 t.jY fd ["script"] (rH K):=by obtain ⟨oc,od,kV,doc,pm,an,a9,ct,h_,e,lk,eR⟩:=T.nX.ex;refine ⟨t.lY,fun s v=>?_,fun base _ _=>KN T⟩;rw [e];exact .of_eq rfl
end
theorem walk{l:PySem.W.OpenLaw}{q:Program}{loose:List Str}{XP:(Str→Option Value)→Heap→Prop}{YP:World→Heap→Prop}{d:DefRec}{K:Params→PySem.W.Frag}(hn:l.most=some 63)(oW:d.params.defaults=[])
  (hY:∀(w:World) (h:Heap),YP w h→(K w.params).In h)
  (F:∀(w:World) (mg:bT) (fa:Addr) (h:Heap),(K w.params).In h→h.Ns mainGlobals mg→mg d.name=some (.ref fa)→
   ∃fd:FuncData,(∀(s:Shared) (u:Value),BindsTo s fd ⟨[u],[]⟩ [("script",u)])∧∀base:Heap,(K w.params).In base→base.Ns mainGlobals mg→bx l.prog w (K w.params) mg base dB 9 fa fd ["script"] (rH (K w.params))) :
  PySem.W.WalkO q loose XP YP l.row.toRowW d [] (fun f vs=>PySem.call f vs):=
 L2.E5 (n:=63) (k:=9) (x:="script") (CX:=fun _=>dB) (sp:=fun w=>rH (K w.params)) hn (by decide) oW ⟨rfl,by decide,by decide⟩ hY F (fun _ _ a ns hl _ hS=>⟨a,ns,rfl,hS,hl,fun _=>rfl⟩) fun _ _ _ _ _ z=>z
theorem K3{K:aB}{h:Heap}{mg:bT}(X:K.In h)(G:h.Ns mainGlobals mg)
  {iz:Addr}
  {iA:Addr}
  {jZ:Addr}
  {iB:Addr}
  {iC:Addr}
  {gh:Addr}
  {aH:Addr}
  {iD:Addr}
  {iE:Addr}
  {K5:Tok}
  {m8 lC m_ ng nh ni nj lE lF jU lH jV lK lM lN jW jX lQ lR lT lU lV lW lX jY:Addr} {p_ m9 qa qb qc qd qe nk nu lG nz lJ nC nE nF lO lP nG nH nI nJ nK nM nN lY:FuncData}
  (xD:PySem.W.nsIn K mainGlobals "NoWorld"=some (some (.ref iz)))
  (xE:PySem.W.nsIn K mainGlobals "NoOver"=some (some (.ref iA)))
  (xF:PySem.W.nsIn K mainGlobals "WrightError"=some (some (.ref jZ)))
  (xG:PySem.W.nsIn K mainGlobals "NoFit"=some (some (.ref iB)))
  (xH:PySem.W.nsIn K mainGlobals "NoShape"=some (some (.ref iC)))
  (xJ:PySem.W.nsIn K mainGlobals "NoOrder"=some (some (.ref gh)))
  (xK:PySem.W.nsIn K mainGlobals "NoSize"=some (some (.ref aH)))
  (xM:PySem.W.nsIn K mainGlobals "NoLink"=some (some (.ref iD)))
  (xN:PySem.W.nsIn K mainGlobals "Tied"=some (some (.ref iE)))
  (K6:mg "is_whole"=some (.ref m8))
  (s_:aS K "is_whole" wG m8 p_)
  (K7:mg "neighbours"=some (.ref lC))
  (lZ:aS K "neighbours" sD lC m9)
  (K8:mg "is_order"=some (.ref m_))
  (tf:aS K "is_order" wH m_ qa)
  (K9:mg "check_order"=some (.ref ng))
  (tj:aS K "check_order" wI ng qb)
  (K_:mg "turns_of"=some (.ref nh))
  (tm:aS K "turns_of" wJ nh qc)
  (La:mg "link_all"=some (.ref ni))
  (tw:aS K "link_all" wK ni qd)
  (Lb:mg "later"=some (.ref nj))
  (tD:aS K "later" wL nj qe)
  (Lc:mg "place_deeds"=some (.ref lE))
  (l5:aS K "place_deeds" sE lE nk)
  (Ld:mg "deeds"=some (.ref lF))
  (nO:aS K "deeds" sF lF nu)
  (Le:mg "check_size"=some (.ref jU))
  (gR:aS K "check_size" sG jU lG)
  (Lf:mg "still_near"=some (.ref lH))
  (l6:aS K "still_near" sI lH nz)
  (Lg:mg "cost"=some (.ref jV))
  (je:aS K "cost" sJ jV lJ)
  (Lh:mg "rising_tuples"=some (.ref lK))
  (j4:aS K "rising_tuples" sL lK nC)
  (Li:mg "and_done"=some (.ref lM))
  (j6:aS K "and_done" sM lM nE)
  (Lj:mg "choices"=some (.ref lN))
  (jf:aS K "choices" sN lN nF)
  (Ll:mg "worths"=some (.ref jW))
  (jg:aS K "worths" sO jW lO)
  (Lm:mg "fewest"=some (.ref jX))
  (j7:aS K "fewest" sP jX lP)
  (Ln:mg "keeps_to_costs"=some (.ref lQ))
  (nS:aS K "keeps_to_costs" sQ lQ nG)
  (Lo:mg "shows_fewest"=some (.ref lR))
  (nT:aS K "shows_fewest" sR lR nH)
  (Lp:mg "_law_fill"=some (.ref lT))
  (nU:aS K "_law_fill" sS lT nI)
  (Lq:mg "_law_next"=some (.ref lU))
  (j8:aS K "_law_next" sU lU nJ)
  (Lr:mg "_law_asked"=some (.ref lV))
  (nV:aS K "_law_asked" sV lV nK)
  (Ls:mg "_law_refused"=some (.ref lW))
  (nW:aS K "_law_refused" sW lW nM)
  (Lu:mg "_law_links"=some (.ref lX))
  (l7:aS K "_law_links" sX lX nN)
  (Lv:mg "law"=some (.ref jY))
  (nX:aS K "law" sY jY lY)
  (xO:PySem.W.nsIn K mainGlobals "len"=some none)
  (xP:PySem.W.nsIn K mainGlobals "isinstance"=some none)
  (xQ:PySem.W.nsIn K mainGlobals "int"=some none)
  (xR:PySem.W.nsIn K mainGlobals "bool"=some none)
  (xT:PySem.W.nsIn K mainGlobals "tuple"=some none)
  (xU:PySem.W.nsIn K mainGlobals "list"=some none)
  (xV:PySem.W.nsIn K mainGlobals "range"=some none)
  (xW:PySem.W.nsIn K mainGlobals "all"=some none)
  (xX:PySem.W.nsIn K mainGlobals "any"=some none)
  (xY:PySem.W.nsIn K mainGlobals "sum"=some none)
  (xZ:PySem.W.nsIn K mainGlobals "enumerate"=some none)
  (x6:PySem.W.nsIn K mainGlobals "min"=some none)
  (x8:PySem.W.nsIn K mainGlobals "max"=some none)
  (x9:PySem.W.nsIn K mainGlobals "sorted"=some none)
  (x_:PySem.W.nsIn K mainGlobals "ValueError"=some none)
  (ya:PySem.W.nsIn K mainGlobals "MOST"=some (some (.int 9 K5)))
  (yb:PySem.W.excIn K gh [.type "ValueError",.type "Exception",.type "BaseException",.type "object"] "ValueError.__new__"=true)
  (yc:PySem.W.excIn K aH [.type "ValueError",.type "Exception",.type "BaseException",.type "object"] "ValueError.__new__"=true)
  (yd:PySem.W.excIn K jZ [.type "ValueError",.type "Exception",.type "BaseException",.type "object"] "ValueError.__new__"=true)
  (ye:PySem.W.mroIn K aH (.ref aH)=some true)
  (yf:PySem.W.mroIn K aH (.ref jZ)=some true)
  (yg:PySem.W.kitOne K (.ref aH) (.type "ValueError")=some true)
  (yh:PySem.W.kitOne K (.ref aH) (.ref aH)=some true)
  (yi:PySem.W.kitOne K (.ref aH) (.ref iz)=some false)
  (yj:PySem.W.kitOne K (.ref aH) (.ref iA)=some false)
  (yk:PySem.W.kitOne K (.ref aH) (.ref iB)=some false)
  (yl:PySem.W.kitOne K (.ref aH) (.ref iC)=some false)
  (ym:PySem.W.kitOne K (.ref aH) (.ref gh)=some false)
  (yo:PySem.W.kitOne K (.ref aH) (.ref iD)=some false)
  (yq:PySem.W.kitOne K (.ref aH) (.ref iE)=some false)
  (yr:PySem.W.hasDictIn K aH=true)
  (yt:PySem.W.findIn K (.ref aH) "__getattribute__"=some (some (.builtin "BaseException.__getattribute__")))
  (yu:PySem.W.findIn K (.ref aH) "__getattr__"=some none)
  (yv:PySem.W.findIn K (.ref aH) "__class__"=some (some (.builtin "object.__class__")))
  (yw:PySem.W.mroIn K aH (.type "object")=some true)
  (yx:PySem.W.mroIn K aH (.type "BaseException")=some true)
  : ∃t:sZ,Txt K mg t:=by
 refine ⟨⟨m8,p_,lC,m9,m_,qa,ng,qb,nh,qc,ni,qd,nj,qe,lE,nk,lF,nu,jU,lG,lH,nz,jV,lJ,lK,nC,lM,nE,lN,nF,jW,lO,jX,lP,lQ,nG,lR,nH,lT,nI,lU,nJ,lV,nK,lW,nM,lX,nN,jY,lY,iz,iA,jZ,iB,iC,gh,aH,iD,iE⟩,?_⟩
 exact {
  s_:=s_
  Jo:=s_.cm
  Jp:=K6
  lZ:=lZ
  wN:=lZ.cm
  wO:=K7
  tf:=tf
  Jq:=tf.cm
  Jr:=K8
  tj:=tj
  Js:=tj.cm
  Jt:=K9
  tm:=tm
  Ju:=tm.cm
  Jv:=K_
  tw:=tw
  Jw:=tw.cm
  Jx:=La
  tD:=tD
  Jy:=tD.cm
  Jz:=Lb
  l5:=l5
  wQ:=l5.cm
  wR:=Lc
  nO:=nO
  BB:=nO.cm
  BC:=Ld
  gR:=gR
  nQ:=gR.cm
  nR:=Le
  l6:=l6
  wU:=l6.cm
  wV:=Lf
  je:=je
  tE:=je.cm
  tF:=Lg
  j4:=j4
  tG:=j4.cm
  tH:=Lh
  j6:=j6
  tI:=j6.cm
  tJ:=Li
  jf:=jf
  qf:=jf.cm
  qg:=Lj
  jg:=jg
  tK:=jg.cm
  tL:=Ll
  j7:=j7
  wX:=j7.cm
  wY:=Lm
  nS:=nS
  BD:=nS.cm
  BE:=Ln
  nT:=nT
  BF:=nT.cm
  BG:=Lo
  nU:=nU
  BH:=nU.cm
  BI:=Lp
  j8:=j8
  tM:=j8.cm
  tN:=Lq
  nV:=nV
  BJ:=nV.cm
  BK:=Lr
  nW:=nW
  BL:=nW.cm
  BM:=Ls
  l7:=l7
  wZ:=l7.cm
  w5:=Lu
  nX:=nX
  JA:=nX.cm
  BN:=Lv
  BO:=bC X G xD
  BP:=bC X G xE
  BQ:=bC X G xF
  BR:=bC X G xG
  BS:=bC X G xH
  BU:=bC X G xJ
  tO:=bC X G xK
  BV:=bC X G xM
  BW:=bC X G xN
  fM:=d0 X G xO
  tP:=d0 X G xP
  JB:=d0 X G xQ
  JD:=d0 X G xR
  tQ:=d0 X G xT
  BX:=d0 X G xU
  iF:=d0 X G xV
  w6:=d0 X G xW
  JE:=d0 X G xX
  JF:=d0 X G xY
  JG:=d0 X G xZ
  qh:=d0 X G x6
  JH:=d0 X G x8
  tR:=d0 X G x9
  BY:=d0 X G x_
  w9:=⟨_,bC X G ya,_,rfl⟩
  JI:=yb
  tS:=yc
  BZ:=yd
  JJ:=ye
  B0:=yf
  B1:=yg
  B2:=yh
  B3:=yi
  B4:=yj
  B5:=yk
  B6:=yl
  B7:=ym
  B8:=yo
  B9:=yq
  B_:=yr
  Ca:=yt
  Cb:=yu
  Cc:=yv
  Cd:=yw
  Ce:=yx
 }
end My
namespace PySem.W.Fast
def tw13254543427833185935:Unit:=()
def tw10254601095310559184:Unit:=()
def tw18151224159064009859:Unit:=()
def tw11837535338776662823:Unit:=()
def tw3598778366351285741:Unit:=()
def tw4929110605490002835:Unit:=()
def tw8006317155156837331:Unit:=()
def tw5199291386965120535:Unit:=()
def tw15800250526251924569:Unit:=()
def tw15721004596913119153:Unit:=()
def tw17417266370146883349:Unit:=()
def tw16753301420186148878:Unit:=()
def tw17984513431819721615:Unit:=()
def tw10035153962465921970:Unit:=()
def tw15762707066973640521:Unit:=()
def tw8104349506017390596:Unit:=()
def tw10929821797473746072:Unit:=()
def tw2605064820516994456:Unit:=()
def tw7975725690716163789:Unit:=()
def tw17029107529213057398:Unit:=()
def tw17716066848496417627:Unit:=()
def tw18266075600004747901:Unit:=()
end PySem.W.Fast
open PySem PySem.W PyProof.Rows
set_option maxRecDepth 100000 in
set_option maxHeartbeats 0 in
theorem PySem.Challenge.cw_bandwright_k29_no_sizes_holds : PySem.Challenge.rw_bandwright_k29_no_sizes.Holds := by
 w_on;o_law;k_head;(case hw=>w_witness2)
 k_fill
 refine My.walk (l:=PySem.Challenge.rw_bandwright_k29_no_sizes) rfl rfl (fun w h Y=>PySem.W.kIn_of Y) ?F
 case F=>
  intro w mg fa h KX G oX
  have T:∃t,My.Txt (L2.zM KX) mg t:=by
   dsimp only [L2.zM]
   refine' My.K3 KX G ?xD ?xE ?xF ?xG ?xH ?xJ ?xK ?xM ?xN (bC KX G ?Lw) (L2.cn (st:=My.wG) ?Lx ?Ly ?Lz) (bC KX G ?LA) (L2.cn (st:=My.sD) ?LB ?LC ?LD) (bC KX G ?LF) (L2.cn (st:=My.wH) ?LG ?LH ?LI) (bC KX G ?LJ) (L2.cn (st:=My.wI) ?LK ?LL ?LM) (bC KX G ?LN) (L2.cn (st:=My.wJ) ?LO ?LP ?LQ) (bC KX G ?LR) (L2.cn (st:=My.wK) ?LS ?LU ?LV) (bC KX G ?LW) (L2.cn (st:=My.wL) ?LX ?LY ?LZ) (bC KX G ?L0) (L2.cn (st:=My.sE) ?L3 ?L4 ?L5) (bC KX G ?L6) (L2.cn (st:=My.sF) ?L7 ?L8 ?L_) (bC KX G ?Ma) (L2.cn (st:=My.sG) ?Mb ?Mc ?Me) (bC KX G ?Mf) (L2.cn (st:=My.sI) ?Mg ?Mh ?Mi) (bC KX G ?Mj) (L2.cn (st:=My.sJ) ?Mk ?Ml ?Mm) (bC KX G ?Mn) (L2.cn (st:=My.sL) ?Mp ?Mq ?Mr) (bC KX G ?Ms) (L2.cn (st:=My.sM) ?Mt ?Mu ?Mv) (bC KX G ?Mw) (L2.cn (st:=My.sN) ?Mx ?Mz ?MA) (bC KX G ?MB) (L2.cn (st:=My.sO) ?MC ?MD ?ME) (bC KX G ?MF) (L2.cn (st:=My.sP) ?MG ?MJ ?MK) (bC KX G ?ML) (L2.cn (st:=My.sQ) ?MM ?MN ?MO) (bC KX G ?MP) (L2.cn (st:=My.sR) ?MQ ?MR ?MS) (bC KX G ?MT) (L2.cn (st:=My.sS) ?MU ?MV ?MW) (bC KX G ?MX) (L2.cn (st:=My.sU) ?MY ?MZ ?M0) (bC KX G ?M1) (L2.cn (st:=My.sV) ?M3 ?M4 ?M5) (bC KX G ?M6) (L2.cn (st:=My.sW) ?M7 ?M8 ?M9) (bC KX G ?M_) (L2.cn (st:=My.sX) ?Na ?Nb ?Nc) (bC KX G ?Nd) (L2.cn (st:=My.sY) ?Nf ?Ng ?Nh) ?xO ?xP ?xQ ?xR ?xT ?xU ?xV ?xW ?xX ?xY ?xZ ?x6 ?x8 ?x9 ?x_ ?ya ?yb ?yc ?yd ?ye ?yf ?yg ?yh ?yi ?yj ?yk ?yl ?ym ?yo ?yq ?yr ?yt ?yu ?yv ?yw ?yx
   (case xD|xE|xF|xG|xH|xJ|xK|xM|xN|Lw|Lx|Ly|Lz|LA|LB|LC|LD|LF|LG|LH|LI|LJ|LK|LL|LM|LN|LO|LP|LQ|LR|LS|LU|LV|LW|LX|LY|LZ|L0|L3|L4|L5|L6|L7|L8|L_|Ma|Mb|Mc|Me|Mf|Mg|Mh|Mi|Mj|Mk|Ml|Mm|Mn|Mp|Mq|Mr|Ms|Mt|Mu|Mv|Mw|Mx|Mz|MA|MB|MC|MD|ME|MF|MG|MJ|MK|ML|MM|MN|MO|MP|MQ|MR|MS|MT|MU|MV|MW|MX|MY|MZ|M0|M1|M3|M4|M5|M6|M7|M8|M9|M_|Na|Nb|Nc|Nd|Nf|Ng|Nh|xO|xP|xQ|xR|xT|xU|xV|xW|xX|xY|xZ|x6|x8|x9|x_|ya=>k_is)
   (case yb|yc|yd=>k_exc)
   (case ye|yf=>k_is)
   (case yg|yh|yi|yj|yk|yl|ym|yo|yq=>kit_is)
   (case yr|yt|yu|yv|yw|yx=>k_is)
  obtain ⟨t,T⟩:=T
  have e0:=oX.symm.trans T.BN
  cases e0
  exact My.KZ T
#print axioms PySem.Challenge.cw_bandwright_k29_no_sizes_holds
