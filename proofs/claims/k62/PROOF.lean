import PyProof.Rows.All
import Wide.All
import OpenK.AllK
import Wide.FinOn
import Lean
import PyProof.EqAt
import PyProof.EqKinds
import PyProof.TupleCall
import PySem.Challenge.RW_bandwright_k62_whole_turned_rows_undone
set_option Elab.async false
set_option linter.all false
set_option maxRecDepth 100000
abbrev iH:=@decide_eq_false
abbrev yn:=@beq_eq_false_iff_ne
abbrev aq:=@if_pos
abbrev ao:=@if_neg
abbrev cJ:=@PySem.Heap.lt_size
abbrev eU:=@Nat.lt_of_lt_of_le
abbrev ib:=@Nat.lt_irrefl
abbrev fA:=@Nat.ne_of_lt
abbrev AN:=@PySem.W.hideAll_get
abbrev af:=@Nat.le_trans
abbrev AO:=@List.filterMap_cons
abbrev mQ:=@List.mem_cons_self
abbrev i6:=@List.mem_cons_of_mem
abbrev eV:=@List.mem_cons
abbrev i7:=@List.mem_append
abbrev dj:=@List.getElem?_eq_some_iff
abbrev oM:=@List.getElem?_set_self
abbrev oN:=@List.getElem?_set_ne
abbrev cY:=@PySem.wpAny_mono
abbrev mR:=@PySem.wpAny_truthy_bool
abbrev gI:=@congrArg
abbrev AQ:=@PySem.wpAny_execs_nil
abbrev dh:=@PySem.wpAny_bind
abbrev yo:=@PySem.wpAny_standAt
abbrev fB:=@PySem.wpAny_pure
abbrev yp:=@PySem.wpAny_newObj_type
abbrev dU:=@PySem.Heap.get?_push_of_some
abbrev qf:=@PySem.wpAny_passesOwn
abbrev dW:=@Bool.false_ne_true
abbrev dC:=@Int.mul_one
abbrev iI:=@PySem.Heap.get?_push_size
abbrev aL:=@Nat.le_refl
abbrev yq:=@PyProof.Rows.callWith_type1
abbrev eW:=@List.mem_append_right
abbrev cn:=@Nat.zero_le
abbrev yr:=@Int.fdiv_eq_ediv_of_nonneg
abbrev yt:=@Bool.eq_iff_iff
abbrev k7:=@beq_iff_eq
abbrev fC:=@List.length_cons
abbrev AR:=@PySem.W.looks_findIn
abbrev qg:=@List.map_cons
abbrev aW:=@List.length_map
abbrev jX:=@Nat.le_of_eq
abbrev jt:=@PySem.W.kia_one
abbrev qh:=@List.append_nil
abbrev AS:=@PySem.wpAny_Call_Name_kw
abbrev AU:=@List.nodup_cons
abbrev uC:=@List.of_mem_zip
abbrev oO:=@List.length_take
abbrev k8:=@PySem.mem_of_lookup
abbrev i8:=@List.getElem?_append_right
abbrev mS:=@List.getElem?_replicate
abbrev ju:=@List.getElem?_append_left
abbrev gf:=@List.getElem?_map
abbrev EH:=@List.getElem?_take_of_lt
abbrev AV:=@List.mem_of_getElem?
abbrev kq:=@List.length_append
abbrev i9:=@List.length_replicate
abbrev dI:=@Int.toNat_natCast
abbrev eY:=@List.size_toArray
abbrev uD:=@List.length_set
abbrev mT:=@List.replicate_succ
abbrev yu:=@List.flatten_cons
abbrev i_:=@List.append_assoc
abbrev EI:=@List.length_singleton
abbrev gg:=@List.nil_append
abbrev kr:=@Nat.mul_comm
abbrev yv:=@Nat.le_of_not_lt
abbrev dZ:=@decide_eq_true
abbrev bP:=@PySem.W.mg_of
abbrev ic:=@Nat.lt_of_le_of_lt
abbrev yw:=@Bool.and_eq_true
abbrev EJ:=@PySem.F.typeOf_object_class
abbrev yx:=@PySem.wpAny_loadPart_at
abbrev mU:=@Nat.not_lt_zero
abbrev yy:=@List.all_eq_true
abbrev oP:=@decide_eq_true_eq
abbrev AW:=@PySem.wpAny_comprehension_free
abbrev AX:=@PySem.wpAny_newFunctionEnv
abbrev jY:=@PySem.lookup_relabel_local
abbrev AY:=@PySem.wpAny_tests_nil
abbrev AZ:=@PySem.wpAny_tests_one
abbrev A0:=@PySem.codeAny_compStart_list
abbrev fP:=@List.getD_eq_getElem?_getD
abbrev jZ:=@List.mem_singleton
abbrev gZ:=@List.getElem_mem
abbrev EK:=@Nat.gcd_pos_of_pos_right
abbrev iJ:=@Int.natAbs_pos
abbrev dD:=@Nat.pow_le_pow_right
abbrev k9:=@Int.mul_le_mul_of_nonneg_left
abbrev cO:=@Int.mul_zero
abbrev yz:=@Int.gcd_dvd_left
abbrev qi:=@Int.gcd_dvd_right
abbrev aZ:=@Int.natAbs_mul
abbrev oQ:=@Int.natAbs_ediv_le_natAbs
abbrev oR:=@Int.mul_ediv_cancel_left
abbrev ja:=@Int.dvd_refl
abbrev jb:=@Int.mul_comm
abbrev uE:=@Int.le_of_dvd
abbrev dJ:=@Nat.mul_le_mul_left
abbrev EL:=@Nat.le_of_mul_le_mul_right
abbrev EM:=@Int.emod_add_mul_ediv
abbrev ej:=@Int.emod_lt_of_pos
abbrev d0:=@Int.emod_nonneg
abbrev j4:=@Int.dvd_trans
abbrev yA:=@Int.dvd_mul_right
abbrev jv:=@Int.mul_add
abbrev gJ:=@Int.mul_assoc
abbrev yB:=@Int.mul_emod
abbrev mV:=@Int.emod_eq_of_lt
abbrev qj:=@Int.zero_sub
abbrev A3:=@Int.fdiv_eq_ediv_of_dvd
abbrev fh:=@Int.mul_neg
abbrev mX:=@Int.natAbs_neg
abbrev A4:=@Int.gcd_one_right
abbrev uF:=@Int.fdiv_one
abbrev EN:=@Int.eq_of_mul_eq_mul_right
abbrev dA:=@Int.dvd_zero
abbrev EO:=@Int.dvd_of_emod_eq_zero
abbrev k_:=@Nat.sub_self
abbrev lq:=@List.not_mem_nil
abbrev lA:=@or_false
abbrev oS:=@Nat.le_add_right
abbrev A5:=@PySem.Around.in1_units
abbrev ER:=@List.getElem?_zip_eq_some
abbrev A6:=@List.ext_getElem?
abbrev ku:=@List.getElem?_eq_none
abbrev uH:=@Int.dvd_mul_left
abbrev gK:=@Nat.mul_le_mul_right
abbrev ie:=@Int.zero_dvd
abbrev jw:=@List.cons_append
abbrev fQ:=@List.mem_map
abbrev fR:=@Nat.pow_succ
abbrev gh:=@Int.zero_mul
abbrev j6:=@Int.add_zero
abbrev uI:=@Nat.pow_one
abbrev iK:=@Int.natAbs_pow
abbrev yC:=@Nat.eq_of_mul_eq_mul_left
abbrev lB:=@Nat.pow_pos
abbrev lC:=@Nat.mul_assoc
abbrev g8:=@Int.one_mul
abbrev oT:=@Nat.sub_zero
abbrev kv:=@List.length_eq_zero_iff
abbrev bN:=@Nat.mul_le_mul
abbrev ES:=@Int.natAbs_dvd_natAbs
abbrev uJ:=@Int.one_dvd
abbrev oU:=@Nat.add_sub_cancel
abbrev uK:=@List.map_append
abbrev uN:=@Int.natAbs_add_le
abbrev oV:=@Nat.add_le_add
abbrev mY:=@Int.mul_sub
abbrev j7:=@List.getElem_map
abbrev ET:=@List.getElem?_eq_getElem
abbrev fS:=@Nat.le_mul_of_pos_right
abbrev A7:=@List.length_zip
abbrev yE:=@List.mem_replicate
abbrev uO:=@Nat.two_mul
abbrev qk:=@Classical.byContradiction
abbrev uP:=@List.ext_getElem
abbrev uQ:=@Int.mul_right_comm
abbrev ig:=@List.getElem_of_mem
abbrev yF:=@Int.pow_zero
abbrev yG:=@Int.pow_succ
abbrev mZ:=@Int.sub_eq_zero
abbrev fT:=@List.length_pos_iff
abbrev iL:=@Nat.le_mul_of_pos_left
abbrev dM:=@of_decide_eq_true
abbrev A8:=@Nat.mod_eq_of_lt
abbrev fi:=@PySem.PassesOwn.never
abbrev bQ:=@PySem.boot_len
abbrev uR:=@PySem.F.excBase_ValueError
abbrev yH:=@Int.ediv_nonneg
abbrev dm:=@List.set_cons_zero
abbrev dn:=@List.set_cons_succ
abbrev iM:=@List.length_range
abbrev iN:=@PySem.W.mg_none_of
abbrev TLL:=List (List (Int×Int))
abbrev aC:=List (Int×Int)
abbrev QO:=Nat->Nat->Int
abbrev dX:=PySem.Str->Option PySem.Value
abbrev cQ:=PySem.Value->PySem.Shared->Prop
abbrev aI:=PySem.W.Frag
abbrev bE:=List (PySem.Addr×PySem.Obj)
local macro_rules|`(⋯)=>`(by lia)
local macro_rules|`(∅)=>`(by decide)
section
variable{t0 t1 t2 t3 t4 t5 t6 t7 t8 t9:Sort _}{R:Prop}{A0 B0 C0 D0 E0 F0 G0 H0 I0 J0:Prop}{A1 B1 C1 D1 E1 F1 G1 H1 I1 J1:t0->Prop}{A2 B2 C2 D2 E2 F2 G2 H2:t0->t1->Prop}{A3 B3 C3 D3 E3 F3:t0->t1->t2->Prop}{A4 B4 C4 D4 E4 F4 G4:t0->t1->t2->t3->Prop}{A5 B5 C5 D5 E5 F5:t0->t1->t2->t3->t4->Prop}{A6 B6 C6 D6:t0->t1->t2->t3->t4->t5->Prop}{A8:t0->t1->t2->t3->t4->t5->t6->t7->Prop}{A10:t0->t1->t2->t3->t4->t5->t6->t7->t8->t9->Prop}
theorem lf(h1:A0)(x)(c:A1 x):A0/\∃x,A1 x:=⟨h1,x,c⟩
theorem ac(x)(h1:A1 x)(c:B1 x):∃x,A1 x/\B1 x:=⟨x,h1,c⟩
theorem wE(x)(h1:A1 x)(y)(c:A2 x y):∃x,A1 x/\∃y,A2 x y:=⟨x,h1,y,c⟩
theorem ad(x)(h1:A1 x)(h2:B1 x)(c:C1 x):∃x,A1 x/\B1 x/\C1 x:=⟨x,h1,h2,c⟩
theorem ut(x y z)(c:A3 x y z):∃x y z,A3 x y z:=⟨x,y,z,c⟩
theorem im(h1:A0)(x)(h2:A1 x)(c:B1 x):A0/\∃x,A1 x/\B1 x:=⟨h1,x,h2,c⟩
theorem gl(x)(h1:A1 x)(h2:B1 x)(h3:C1 x)(c:D1 x):∃x,A1 x/\B1 x/\C1 x/\D1 x:=(ad x h1 h2 (And.intro h3 c))
theorem ul(x)(h1:A1 x)(y)(h2:A2 x y)(c:B2 x y):∃x,A1 x/\∃y,A2 x y/\B2 x y:=(Exists.intro x (im h1 y h2 c))
theorem ww(x y z u)(c:A4 x y z u):∃x y z u,A4 x y z u:=(Exists.intro x (ut y z u c))
theorem ap(x y)(h1:A2 x y)(h2:B2 x y)(c:C2 x y):∃x y,A2 x y/\B2 x y/\C2 x y:=(Exists.intro x (ad y h1 h2 c))
theorem i'(x y)(h1:A2 x y)(h2:B2 x y)(h3:C2 x y)(c:D2 x y):∃x y,A2 x y/\B2 x y/\C2 x y/\D2 x y:=(Exists.intro x (gl y h1 h2 h3 c))
theorem bn(x)(h1:A1 x)(h2:B1 x)(y)(h3:A2 x y)(c:B2 x y):∃x,A1 x/\B1 x/\∃y,A2 x y/\B2 x y:=(ac x h1 (im h2 y h3 c))
theorem xL(x y z u v)(c:A5 x y z u v):∃x y z u v,A5 x y z u v:=(Exists.intro x (ww y z u v c))
theorem li(x)(h1:A1 x)(y)(h2:A2 x y)(z)(h3:A3 x y z)(c:B3 x y z):∃x,A1 x/\∃y,A2 x y/\∃z,A3 x y z/\B3 x y z:=(ac x h1 (ul y h2 z h3 c))
theorem on(x y)(h1:A2 x y)(h2:B2 x y)(z)(h3:A3 x y z)(c:B3 x y z):∃x y,A2 x y/\B2 x y/\∃z,A3 x y z/\B3 x y z:=(Exists.intro x (bn y h1 h2 z h3 c))
theorem wS(x y z u v w)(c:A6 x y z u v w):∃x y z u v w,A6 x y z u v w:=(Exists.intro x (xL y z u v w c))
theorem jp(x y)(h1:A2 x y)(h2:B2 x y)(h3:C2 x y)(h4:D2 x y)(c:E2 x y):∃x y,A2 x y/\B2 x y/\C2 x y/\D2 x y/\E2 x y:=(i' x y h1 h2 h3 (And.intro h4 c))
theorem al(x)(h1:A1 x)(y z)(h2:A3 x y z)(h3:B3 x y z)(c:C3 x y z):∃x,A1 x/\∃y z,A3 x y z/\B3 x y z/\C3 x y z:=(ac x h1 (ap y z h2 h3 c))
theorem wT(x)(h1:A1 x)(y z u v w)(c:A6 x y z u v w):∃x,A1 x/\∃y z u v w,A6 x y z u v w:=(ac x h1 (xL y z u v w c))
theorem wf(x)(h1:A1 x)(y)(h2:A2 x y)(z u v)(c:A5 x y z u v):∃x,A1 x/\∃y,A2 x y/\∃z u v,A5 x y z u v:=(ul x h1 y h2 (ut z u v c))
theorem j'(x)(h1:A1 x)(y z)(h2:A3 x y z)(h3:B3 x y z)(h4:C3 x y z)(c:D3 x y z):∃x,A1 x/\∃y z,A3 x y z/\B3 x y z/\C3 x y z/\D3 x y z:=(ac x h1 (i' y z h2 h3 h4 c))
theorem pi(x y)(h1:A2 x y)(h2:B2 x y)(h3:C2 x y)(h4:D2 x y)(h5:E2 x y)(c:F2 x y):∃x y,A2 x y/\B2 x y/\C2 x y/\D2 x y/\E2 x y/\F2 x y:=(jp x y h1 h2 h3 h4 (And.intro h5 c))
theorem ce(x)(h1:A1 x)(y z u)(h2:A4 x y z u)(h3:B4 x y z u)(h4:C4 x y z u)(c:D4 x y z u):∃x,A1 x/\∃y z u,A4 x y z u/\B4 x y z u/\C4 x y z u/\D4 x y z u:=(wE x h1 y (i' z u h2 h3 h4 c))
theorem dL(x)(h1:A1 x)(y)(h2:A2 x y)(z u)(h3:A4 x y z u)(h4:B4 x y z u)(c:C4 x y z u):∃x,A1 x/\∃y,A2 x y/\∃z u,A4 x y z u/\B4 x y z u/\C4 x y z u:=(ac x h1 (al y h2 z u h3 h4 c))
theorem be(x)(h1:A1 x)(y z)(h2:A3 x y z)(h3:B3 x y z)(u)(h4:A4 x y z u)(c:B4 x y z u):∃x,A1 x/\∃y z,A3 x y z/\B3 x y z/\∃u,A4 x y z u/\B4 x y z u:=(ac x h1 (on y z h2 h3 u h4 c))
theorem wn(x y)(h1:A2 x y)(h2:B2 x y)(z u)(h3:A4 x y z u)(h4:B4 x y z u)(c:C4 x y z u):∃x y,A2 x y/\B2 x y/\∃z u,A4 x y z u/\B4 x y z u/\C4 x y z u:=(ap x y h1 h2 (ap z u h3 h4 c))
theorem re(x y z)(h1:A3 x y z)(h2:B3 x y z)(h3:C3 x y z)(h4:D3 x y z)(h5:E3 x y z)(c:F3 x y z):∃x y z,A3 x y z/\B3 x y z/\C3 x y z/\D3 x y z/\E3 x y z/\F3 x y z:=(Exists.intro x (pi y z h1 h2 h3 h4 h5 c))
theorem ii(x y z u)(h1:A4 x y z u)(h2:B4 x y z u)(h3:C4 x y z u)(h4:D4 x y z u)(c:E4 x y z u):∃x y z u,A4 x y z u/\B4 x y z u/\C4 x y z u/\D4 x y z u/\E4 x y z u:=(Exists.intro x (Exists.intro y (jp z u h1 h2 h3 h4 c)))
theorem u8(x y)(h1:A2 x y)(h2:B2 x y)(h3:C2 x y)(h4:D2 x y)(h5:E2 x y)(h6:F2 x y)(c:G2 x y):∃x y,A2 x y/\B2 x y/\C2 x y/\D2 x y/\E2 x y/\F2 x y/\G2 x y:=(pi x y h1 h2 h3 h4 h5 (And.intro h6 c))
theorem wP(x y)(h1:A2 x y)(h2:B2 x y)(h3:C2 x y)(h4:D2 x y)(h5:E2 x y)(h6:F2 x y)(h7:G2 x y)(c:H2 x y):∃x y,A2 x y/\B2 x y/\C2 x y/\D2 x y/\E2 x y/\F2 x y/\G2 x y/\H2 x y:=(u8 x y h1 h2 h3 h4 h5 h6 (And.intro h7 c))
theorem f8(x y z u)(h1:A4 x y z u)(h2:B4 x y z u)(h3:C4 x y z u)(h4:D4 x y z u)(h5:E4 x y z u)(c:F4 x y z u):∃x y z u,A4 x y z u/\B4 x y z u/\C4 x y z u/\D4 x y z u/\E4 x y z u/\F4 x y z u:=(Exists.intro x (re y z u h1 h2 h3 h4 h5 c))
theorem io(x)(h1:A1 x)(y)(h2:A2 x y)(z u)(h3:A4 x y z u)(h4:B4 x y z u)(h5:C4 x y z u)(c:D4 x y z u):∃x,A1 x/\∃y,A2 x y/\∃z u,A4 x y z u/\B4 x y z u/\C4 x y z u/\D4 x y z u:=(ac x h1 (j' y h2 z u h3 h4 h5 c))
theorem gt(x)(h1:A1 x)(y z u v)(h2:A5 x y z u v)(h3:B5 x y z u v)(h4:C5 x y z u v)(h5:D5 x y z u v)(c:E5 x y z u v):∃x,A1 x/\∃y z u v,A5 x y z u v/\B5 x y z u v/\C5 x y z u v/\D5 x y z u v/\E5 x y z u v:=(ac x h1 (ii y z u v h2 h3 h4 h5 c))
theorem ol(x y z u)(h1:A4 x y z u)(h2:B4 x y z u)(h3:C4 x y z u)(h4:D4 x y z u)(h5:E4 x y z u)(h6:F4 x y z u)(c:G4 x y z u):∃x y z u,A4 x y z u/\B4 x y z u/\C4 x y z u/\D4 x y z u/\E4 x y z u/\F4 x y z u/\G4 x y z u:=(f8 x y z u h1 h2 h3 h4 h5 (And.intro h6 c))
theorem wv(x)(h1:A1 x)(h2:B1 x)(h3:C1 x)(h4:D1 x)(h5:E1 x)(h6:F1 x)(h7:G1 x)(h8:H1 x)(h9:I1 x)(c:J1 x):∃x,A1 x/\B1 x/\C1 x/\D1 x/\E1 x/\F1 x/\G1 x/\H1 x/\I1 x/\J1 x:=(gl x h1 h2 h3 (And.intro h4 (And.intro h5 (And.intro h6 (And.intro h7 (And.intro h8 (And.intro h9 c)))))))
theorem xz(x y z u v w s t a b)(c:A10 x y z u v w s t a b):∃x y z u v w s t a b,A10 x y z u v w s t a b:=(ww x y z u (wS v w s t a b c))
theorem bnE(f:∀x,A1 x->R)(h:∃x,A1 x):R:=match h with|⟨x,c⟩=>f x c
theorem bnA(f:A0->B0->R)(h:A0/\B0):R:=match h with|⟨x,c⟩=>f x c
theorem bn0(f:∀x,A1 x->B1 x->R)(h:∃x,A1 x/\B1 x):R:=match h with|⟨x,h1,c⟩=>f x h1 c
theorem bn1(f:A0->B0->C0->R)(h:A0/\B0/\C0):R:=match h with|⟨h1,h2,c⟩=>f h1 h2 c
theorem bn2(f:∀x y,A2 x y->R)(h:∃x y,A2 x y):R:=match h with|⟨x,y,c⟩=>f x y c
theorem bn3(f:A0->∀x y,A2 x y->R)(h:A0/\∃x y,A2 x y):R:=match h with|⟨h1,x,y,c⟩=>f h1 x y c
theorem bn4(f:∀x,A1 x->B1 x->C1 x->R)(h:∃x,A1 x/\B1 x/\C1 x):R:=match h with|⟨x,h1,h2,c⟩=>f x h1 h2 c
theorem bn5(f:∀x y,A2 x y->B2 x y->R)(h:∃x y,A2 x y/\B2 x y):R:=match h with|⟨x,y,h1,c⟩=>f x y h1 c
theorem bn6(f:∀x y z,A3 x y z->R)(h:∃x y z,A3 x y z):R:=match h with|⟨x,y,z,c⟩=>f x y z c
theorem bn7(f:A0->∀x y,A2 x y->B2 x y->R)(h:A0/\∃x y,A2 x y/\B2 x y):R:=bnA (λh1=>bn5 (λx y h2 c=>f h1 x y h2 c)) h
theorem bn8(f:∀x,A1 x->B1 x->C1 x->D1 x->R)(h:∃x,A1 x/\B1 x/\C1 x/\D1 x):R:=bn0 (λx h1=>bn1 (λh2 h3 c=>f x h1 h2 h3 c)) h
theorem bn9(f:∀x y,A2 x y->B2 x y->C2 x y->R)(h:∃x y,A2 x y/\B2 x y/\C2 x y):R:=bnE (λx=>bn4 (λy h1 h2 c=>f x y h1 h2 c)) h
theorem bn10(f:∀x y,A2 x y->B2 x y->C2 x y->D2 x y->R)(h:∃x y,A2 x y/\B2 x y/\C2 x y/\D2 x y):R:=bnE (λx=>bn8 (λy h1 h2 h3 c=>f x y h1 h2 h3 c)) h
theorem bn11(f:∀x y z u,A4 x y z u->B4 x y z u->R)(h:∃x y z u,A4 x y z u/\B4 x y z u):R:=bn2 (λx y=>bn5 (λz u h1 c=>f x y z u h1 c)) h
theorem bn12(f:A0->∀x y,A2 x y->B2 x y->C2 x y->R)(h:A0/\∃x y,A2 x y/\B2 x y/\C2 x y):R:=bnA (λh1=>bn9 (λx y h2 h3 c=>f h1 x y h2 h3 c)) h
theorem bn13(f:∀x y z,A3 x y z->B3 x y z->C3 x y z->R)(h:∃x y z,A3 x y z/\B3 x y z/\C3 x y z):R:=bnE (λx=>bn9 (λy z h1 h2 c=>f x y z h1 h2 c)) h
theorem bn14(f:A0->∀x y z u,A4 x y z u->R)(h:A0/\∃x y z u,A4 x y z u):R:=bn3 (λh1 x y=>bn2 (λz u c=>f h1 x y z u c)) h
theorem bn15(f:∀x,A1 x->B1 x->C1 x->D1 x->E1 x->R)(h:∃x,A1 x/\B1 x/\C1 x/\D1 x/\E1 x):R:=bn4 (λx h1 h2=>bn1 (λh3 h4 c=>f x h1 h2 h3 h4 c)) h
theorem bn16(f:A0->∀x y z u,A4 x y z u->B4 x y z u->R)(h:A0/\∃x y z u,A4 x y z u/\B4 x y z u):R:=bnA (λh1=>bn11 (λx y z u h2 c=>f h1 x y z u h2 c)) h
theorem bn17(f:∀x y z u v w,A6 x y z u v w->R)(h:∃x y z u v w,A6 x y z u v w):R:=bn6 (λx y z=>bn6 (λu v w c=>f x y z u v w c)) h
theorem bn18(f:∀x y z,A3 x y z->B3 x y z->C3 x y z->D3 x y z->R)(h:∃x y z,A3 x y z/\B3 x y z/\C3 x y z/\D3 x y z):R:=bnE (λx=>bn10 (λy z h1 h2 h3 c=>f x y z h1 h2 h3 c)) h
theorem bn19(f:A0->∀x y,A2 x y->B2 x y->C2 x y->D2 x y->R)(h:A0/\∃x y,A2 x y/\B2 x y/\C2 x y/\D2 x y):R:=bnA (λh1=>bn10 (λx y h2 h3 h4 c=>f h1 x y h2 h3 h4 c)) h
theorem bn20(f:A0->B0->C0->D0->E0->F0->G0->R)(h:A0/\B0/\C0/\D0/\E0/\F0/\G0):R:=bn1 (λh1 h2=>bn1 (λh3 h4=>bn1 (λh5 h6 c=>f h1 h2 h3 h4 h5 h6 c))) h
theorem bn21(f:A0->∀x y,A2 x y->B2 x y->C2 x y->D2 x y->E2 x y->R)(h:A0/\∃x y,A2 x y/\B2 x y/\C2 x y/\D2 x y/\E2 x y):R:=bn12 (λh1 x y h2 h3=>bn1 (λh4 h5 c=>f h1 x y h2 h3 h4 h5 c)) h
theorem bn22(f:∀x y z u,A4 x y z u->B4 x y z u->C4 x y z u->D4 x y z u->R)(h:∃x y z u,A4 x y z u/\B4 x y z u/\C4 x y z u/\D4 x y z u):R:=bnE (λx=>bn18 (λy z u h1 h2 h3 c=>f x y z u h1 h2 h3 c)) h
theorem bn23(f:∀x y z u v w s t,A8 x y z u v w s t->R)(h:∃x y z u v w s t,A8 x y z u v w s t):R:=bn2 (λx y=>bn17 (λz u v w s t c=>f x y z u v w s t c)) h
theorem bn24(f:∀x y z u v w,A6 x y z u v w->B6 x y z u v w->C6 x y z u v w->R)(h:∃x y z u v w,A6 x y z u v w/\B6 x y z u v w/\C6 x y z u v w):R:=bn6 (λx y z=>bn13 (λu v w h1 h2 c=>f x y z u v w h1 h2 c)) h
theorem bn25(f:∀x y z,A3 x y z->B3 x y z->C3 x y z->D3 x y z->E3 x y z->F3 x y z->R)(h:∃x y z,A3 x y z/\B3 x y z/\C3 x y z/\D3 x y z/\E3 x y z/\F3 x y z):R:=bn18 (λx y z h1 h2 h3=>bn1 (λh4 h5 c=>f x y z h1 h2 h3 h4 h5 c)) h
theorem bn26(f:∀x y z u,A4 x y z u->B4 x y z u->C4 x y z u->D4 x y z u->E4 x y z u->R)(h:∃x y z u,A4 x y z u/\B4 x y z u/\C4 x y z u/\D4 x y z u/\E4 x y z u):R:=bn6 (λx y z=>bn15 (λu h1 h2 h3 h4 c=>f x y z u h1 h2 h3 h4 c)) h
theorem bn27(f:∀x y,A2 x y->B2 x y->C2 x y->D2 x y->E2 x y->F2 x y->G2 x y->R)(h:∃x y,A2 x y/\B2 x y/\C2 x y/\D2 x y/\E2 x y/\F2 x y/\G2 x y):R:=bn2 (λx y=>bn20 (λh1 h2 h3 h4 h5 h6 c=>f x y h1 h2 h3 h4 h5 h6 c)) h
theorem bn28(f:A0->B0->∀x,A1 x->∀y z u,A4 x y z u->B4 x y z u->R)(h:A0/\B0/\∃x,A1 x/\∃y z u,A4 x y z u/\B4 x y z u):R:=bn1 (λh1 h2=>bnE (λx=>bn3 (λh3 y z=>bn0 (λu h4 c=>f h1 h2 x h3 y z u h4 c)))) h
theorem bn29(f:∀x y z u v w,A6 x y z u v w->B6 x y z u v w->C6 x y z u v w->D6 x y z u v w->R)(h:∃x y z u v w,A6 x y z u v w/\B6 x y z u v w/\C6 x y z u v w/\D6 x y z u v w):R:=bn2 (λx y=>bn22 (λz u v w h1 h2 h3 c=>f x y z u v w h1 h2 h3 c)) h
theorem bn30(f:A0->B0->C0->D0->E0->F0->G0->H0->I0->J0->R)(h:A0/\B0/\C0/\D0/\E0/\F0/\G0/\H0/\I0/\J0):R:=bnA (λh1=>bn1 (λh2 h3=>bn20 (λh4 h5 h6 h7 h8 h9 c=>f h1 h2 h3 h4 h5 h6 h7 h8 h9 c))) h
theorem bn31(f:∀x y z u v,A5 x y z u v->B5 x y z u v->C5 x y z u v->D5 x y z u v->E5 x y z u v->F5 x y z u v->R)(h:∃x y z u v,A5 x y z u v/\B5 x y z u v/\C5 x y z u v/\D5 x y z u v/\E5 x y z u v/\F5 x y z u v):R:=bn2 (λx y=>bn25 (λz u v h1 h2 h3 h4 h5 c=>f x y z u v h1 h2 h3 h4 h5 c)) h
end
local macro_rules|`(tactic|intros $xs*)=>do
 if xs.size<3 then Lean.Macro.throwUnsupported
 let mut t:Lean.TSyntax `term:=<-`(?_)
 let mut b:Array (Lean.TSyntax `term):=#[]
 let mut n:=xs.size
 let mut r:Array (Lean.TSyntax `ident):=#[]
 for x in xs.reverse do
  n:=n-1
  if n=1 then continue
  if x.raw.getId.toString.startsWith "bn" then
   t:=<-`($(⟨x.raw⟩) λ$b*=>$t)
   b:=#[]
  else if x.raw.getId==`rfl then
   let i:=Lean.mkIdent (.mkSimple s!"e'{n}")
   r:=#[i]++r
   b:=#[⟨i.raw⟩]++b
  else b:=#[⟨x.raw⟩]++b
 let h:Lean.TSyntax `ident:=⟨xs[1]!.raw⟩
 let mut s:Lean.TSyntax `tactic:=<-if h.raw.isIdent then `(tactic|(revert $h;refine $t)) else `(tactic|refine $t)
 for i in r do s:=<-`(tactic|($s:tactic;subst $i))
 return s
namespace L2
open PySem PySem.Spec PyProof.Rows
abbrev Key:=Sum Int Str
def JX:Key->Value->Bool
 | .inl k,v=>Value.isInt k v
 | .inr x,v=>Value.isStrOf x v
def QP(w:World):Key->Int
 | .inl k=>hashInt k
 | .inr x=>hashStr w x
theorem m4:∀{k:Key} {v:Value},JX k v=true->(∃i t,k=Sum.inl i/\v=Value.int i t)\/(∃x t,k=Sum.inr x/\v=Value.str x t)
 | .inl i,v,h=>by obtain ⟨t,e⟩:=Value.isInt_shape (k:=i) (v:=v) h;exact .inl ⟨i,t,rfl,e⟩
 | .inr x,v,h=>by obtain ⟨t,e⟩:=Value.isStrOf_shape (x:=x) (v:=v) h;exact .inr ⟨x,t,rfl,e⟩
theorem QR(a b:Int):decide ((Sum.inl a:Key)=Sum.inl b)=(a == b):=by
 by_cases e:a=b;·subst e;simp
 ·have h:¬(Sum.inl a:Key)=Sum.inl b:=λq=>e (Sum.inl.inj q)
  rw [iH h];exact (yn.mpr e).symm
theorem QS(a b:Str):decide ((Sum.inr a:Key)=Sum.inr b)=decide (a=b):=by
 by_cases e:a=b;·subst e;simp
 ·have h:¬(Sum.inr a:Key)=Sum.inr b:=λq=>e (Sum.inr.inj q)
  rw [iH h,iH e]
theorem QT(a:Int)(b:Str):decide ((Sum.inl a:Key)=Sum.inr b)=false:=iH (λq=>nomatch q)
theorem QU(a:Str)(b:Int):decide ((Sum.inr a:Key)=Sum.inl b)=false:=iH (λq=>nomatch q)
def JY(prog:Program)(w:World):PySem.KeyKind prog w Key where
 is:=JX
 hash:=QP w
 inj:=λv a b ha hb=>by
  rcases m4 ha with ⟨i,t,rfl,rfl⟩ | ⟨x,t,rfl,rfl⟩
  ·rcases m4 hb with ⟨j,u,rfl,e⟩ | ⟨y,u,rfl,e⟩
   ·injection e with e1 _;rw [e1]
   ·exact nomatch e
  ·rcases m4 hb with ⟨j,u,rfl,e⟩ | ⟨y,u,rfl,e⟩
   ·exact nomatch e
   ·injection e with e1 _;rw [e1]
 byValue:=λk v h=>by
  rcases m4 h with ⟨i,t,rfl,rfl⟩ | ⟨x,t,rfl,rfl⟩ <;> rfl
 pyHash:=λhv h=>by
  rcases m4 hv with ⟨i,t,rfl,rfl⟩ | ⟨x,t,rfl,rfl⟩
  ·exact wpAny_pyHash_int h
  ·exact wpAny_pyHash_str h
 eqBool:=λhu hv h=>by
  rcases m4 hu with ⟨i,t,rfl,rfl⟩ | ⟨x,t,rfl,rfl⟩
  ·rcases m4 hv with ⟨j,u,rfl,rfl⟩ | ⟨y,u,rfl,rfl⟩
   ·rw [QR] at h;exact wpAny_eqBool_int h
   ·rw [QT] at h;exact SeqAt.EqAt.int_str i t y u _ _ _ _ h
  ·rcases m4 hv with ⟨j,u,rfl,rfl⟩ | ⟨y,u,rfl,rfl⟩
   ·rw [QU] at h;exact SeqAt.EqAt.str_int x t j u _ _ _ _ h
   ·rw [QS] at h;exact wpAny_eqBool_str h
 «strs»:=λk x t v h=>by
  rcases m4 h with ⟨i,u,rfl,e⟩ | ⟨y,u,rfl,e⟩
  ·exact nomatch e
  ·injection e with e1 _
   subst e1
   cases v <;> rfl
inductive V where
 | a9 | bl (b:Bool) | int (i:Int) | str (x:Str) | j8 (b:Array UInt8) | ql (b:UInt64) | ref (a:Addr) | ty (n:String)
 deriving DecidableEq
def RelV:V->Value->Prop
 | .a9,u=>u=Value.none
 | .bl b,u=>u=Value.bool b
 | .int i,u=>∃t,u=Value.int i t
 | .str x,u=>∃t,u=Value.str x t
 | .j8 b,u=>∃t,u=Value.bytes b t
 | .ql b,u=>∃t,u=Value.float b t
 | .ref a,u=>u=Value.ref a
 | .ty n,u=>u=Value.type n
abbrev Vals:List V->List Value->Prop:=Paired RelV
variable {xs:List V} {us:List Value}
theorem Vals.length(r:Vals xs us):xs.length=us.length:=Paired.length r
theorem Vals.get:∀{xs:List V} {us:List Value} {i:Nat} {x:V},Vals xs us->xs[i]?=some x->∃u,us[i]?=some u/\RelV x u
 | _,_,_,_,.nil,e=>by simp at e
 | _,_,0,_,.cons r _,e=>by simp at e;subst e;exact (ac _ rfl r)
 | _,_,i+1,x,.cons _ t,e=>by
  obtain ⟨u,h1,h2⟩:=Vals.get (i:=i) (x:=x) t (by simpa using e)
  exact ⟨u,by simpa using h1,h2⟩
theorem Vals.set{x:V}{u:Value}(r:RelV x u):∀{xs:List V} {us:List Value} (i:Nat),Vals xs us->Vals (xs.set i x) (us.set i u)
 | _,_,_,.nil=>.nil
 | _,_,0,.cons _ t=>.cons r t
 | _,_,i+1,.cons q t=>.cons q (Vals.set r i t)
theorem Vals.append:∀{xs ys:List V} {us ws:List Value},Vals xs us->Vals ys ws->Vals (xs++ys) (us++ws)
 | _,_,_,_,.nil,s=>s
 | _,_,_,_,.cons r t,s=>.cons r (Vals.append t s)
theorem Vals.take:∀{xs:List V} {us:List Value} (n:Nat),Vals xs us->Vals (xs.take n) (us.take n)
 | _,_,0,_=>.nil
 | _,_,_+1,.nil=>.nil
 | _,_,n+1,.cons r t=>.cons r (Vals.take n t)
theorem Vals.drop:∀{xs:List V} {us:List Value} (n:Nat),Vals xs us->Vals (xs.drop n) (us.drop n)
 | _,_,0,r=>r
 | _,_,_+1,.nil=>.nil
 | _,_,n+1,.cons _ t=>Vals.drop n t
theorem Vals.none_of:∀{xs:List V} {us:List Value} {i:Nat},Vals xs us->xs[i]?=none->us[i]?=none:=fun{xs us i} r e=>by have h1:=r.length;have h2:xs.length<=i:=List.getElem?_eq_none_iff.mp e;exact List.getElem?_eq_none_iff.mpr ⋯
def lD:Option V->Option Value->Prop
 | some v,some u=>RelV v u
 | none,none=>True
 | _,_=>False
def KV{κ:Type}:List (κ×V)->List (κ×Value)->Prop:=Paired fun(p:κ×V) (q:κ×Value)=>p.1=q.1/\RelV p.2 q.2
def kV:Key->V
 | .inl i=>.int i
 | .inr x=>.str x
inductive HO where
 | lst (xs:List V)
 | tup (xs:List V)
 | dK (eE:List (Key×V)) | dT (eE:List (List Key×V))
 | set (S:Int->Bool) (n:Nat)
 | ins (C dx:Addr) (fs:List (Str×V))
 | own (x:Addr)
 | xd (fs:List (Str×V))
 | met (f x:Addr)
 | EU (lo hi:Int)
 | ik (o:Obj) (u:HO)
 | m5 (ps:Array Value)
 | ext (φ:Heap->Prop)
abbrev Hp:=Addr->Option HO
def upd(H:Hp)(a:Addr)(o:HO):Hp:=λb=>if b=a then some o else H b
variable {H:Hp} {o:HO}
theorem az{a:Addr}:upd H a o a=some o:=by unfold upd;rw [aq rfl]
variable {b:Addr}
theorem cq{a:Addr}(h:b≠a):upd H a o b=H b:=by unfold upd;rw [ao h]
theorem gL{a:Addr}(h:H a=some o)(h':H b=none):a≠b:=by intro e;subst e;rw [h] at h';cases h'
section
variable (P:Program) (w:World)
def fD(H:Hp)(h:Heap)(a:Addr):HO->Prop
 | .lst xs=>xs.length<=sizeLine/\∃(av:List Value) (n:Nat),Vals xs av/\h.get? a=some {cls:=.type "list",data:=.seq av.toArray n}
 | .tup xs=>xs.length<=sizeLine/\∃av:List Value,Vals xs av/\IsTup h a av.toArray
 | .dK eE=>eE.length<=sizeLine/\(a == sysModules)=false/\∃vs,KV eE vs/\h.DictOf (JY P w) a vs
 | .dT eE=>eE.length<=sizeLine/\(a == sysModules)=false/\∃xs:List (List Key×Addr×Value),
   Paired (fun(p:List Key×V) (q:List Key×Addr×Value)=>p.1=q.1/\H q.2.1=some (.tup (p.1.map kV))/\RelV p.2 q.2.2) eE xs /\
   ∃o es ep,h.get? a=some o/\o.ExactDict/\o.data=.dict es ep/\es.toList=xs.map (entryOfKey (tupleKind (JY P w)))/\(xs.map (·.1)).Nodup
 | .set S n=>h.SetOf (intKind P w) a S n
 | .ins C dx fs=>H dx=some (.own a)/\fs.length<=1000/\dx≠a/\h.get? a=some (PySem.W.instObj C dx) /\
   ∃mA,h.Ns1 dx mA/\(∀f,lD (fs.lookup f) (mA f))/\PySem.Within mA (fs.map (·.1))
 | .own _=>∃o,h.get? a=some o
 | .xd fs=>∃mA,h.Ns1 a mA/\∀f,lD (fs.lookup f) (mA f)
 | .EU lo hi=>∃t u v,h.get? a=some {cls:=.type "range",data:=.fields #[.int lo t,.int hi u,.int 1 v]}
 | .ik o u=>h.get? a=some o/\fD H h a u
 | .m5 ps=>h.get? a=some {cls:=.none,data:=.fields ps}
 | .met f x=>h.get? a=some (PySem.W.methodObj (.ref f) (.ref x))
 | .ext φ=>φ h/\(∃o,h.get? a=some o)/\∀h1 h2:Heap,φ h1->(∀o,h1.get? a=some o->h2.get? a=some o)->φ h2
def dq(H:Hp)(h:Heap):Prop:=∀a o,H a=some o->fD P w H h a o
end
section
variable {P:Program} {w:World} {H H':Hp} {h h':Heap} {a:Addr} {o:HO}
theorem fD.lt(x:fD P w H h a o):a<h.objs.size:=by
 cases o with
 | lst xs=>intros bn7 x _ _ _ _ e;exact cJ e
 | tup xs=>obtain ⟨_,_,_,p⟩:=x;exact p.lt
 | dK eE=>intros bn28 x _ _ _ _ o _ _ e _;exact cJ e
 | dT eE=>intros bn28 x _ _ _ _ o _ _ e _;exact cJ e
 | set S n=>intros bn11 x o _ _ _ e _;exact cJ e
 | ins C dx fs=>obtain ⟨_,_,_,e,_⟩:=x;exact cJ e
 | own y=>obtain ⟨_,e⟩:=x;exact cJ e
 | xd fs=>obtain ⟨_,⟨_,_,_,e,_⟩,_⟩:=x;exact cJ e
 | EU lo hi=>intros bn6 x _ _ _ e;exact cJ e
 | ik ob u=>obtain ⟨e,_⟩:=x;exact cJ e
 | m5 ps=>exact cJ (show h.get? a=some _ from x)
 | met f y=>exact cJ (show h.get? a=some _ from x)
 | ext φ=>obtain ⟨_,⟨_,e⟩,_⟩:=x;exact cJ e
theorem Paired.JZ{α β:Type}{F G:α->β->Prop}:∀{l₁:List α} {l₂:List β},Paired F l₁ l₂->(∀a b,F a b->G a b)->Paired G l₁ l₂
 | _,_,.nil,_=>.nil
 | _,_,.cons r t,f=>.cons (f _ _ r) (Paired.JZ t f)
theorem fD.jc(x:fD P w H h a o)(k:∀b u,(b=a\/H b=some (.own a))->h.get? b=some u->h'.get? b=some u)
  (ho:∀b,H b=some (.own a)->H' b=some (.own a)) (ht:∀b xs,H b=some (.tup xs)->H' b=some (.tup xs)):fD P w H' h' a o:=by
 induction o with
 | lst xs=>intros bn7 x z av n r e;exact ⟨z,av,n,r,k _ _ (.inl rfl) e⟩
 | tup xs=>obtain ⟨z,av,r,ob,e,c⟩:=x;exact ⟨z,av,r,ob,k _ _ (.inl rfl) e,c⟩
 | dK eE=>intros bn28 x z y vs r ob es ep e c;exact ⟨z,y,vs,r,ob,es,ep,k _ _ (.inl rfl) e,c⟩
 | dT eE=>intros bn28 x z y xs r ob es ep e c;exact ⟨z,y,xs,Paired.JZ r λp q z=>⟨z.1,ht _ _ z.2.1,z.2.2⟩,ob,es,ep,k _ _ (.inl rfl) e,c⟩
 | set S n=>intros bn11 x ob es ep t e c;exact (ut ob es ep (ac t (k _ _ (.inl rfl) e) c))
 | ins C dx fs=>obtain ⟨d,z,ne,e,mA,⟨od,es,ep,e2,c⟩,r⟩:=x;exact ⟨ho _ d,z,ne,k _ _ (.inl rfl) e,mA,⟨od,es,ep,k _ _ (.inr d) e2,c⟩,r⟩
 | own y=>obtain ⟨ob,e⟩:=x;exact ⟨ob,k _ _ (.inl rfl) e⟩
 | xd fs=>obtain ⟨mA,⟨od,es,ep,e,c⟩,r⟩:=x;exact (ac mA ⟨od,es,ep,k _ _ (.inl rfl) e,c⟩ r)
 | EU lo hi=>intros bn6 x t u v e;exact (ut t u v (k _ _ (.inl rfl) e))
 | ik ob u ih=>obtain ⟨e,q⟩:=x;exact ⟨k _ _ (.inl rfl) e,ih q⟩
 | m5 ps=>have e:h.get? a=some {cls:=.none,data:=.fields ps}:=x;show h'.get? a=some {cls:=.none,data:=.fields ps};exact k a _ (.inl rfl) e
 | met f y=>have e:h.get? a=some (PySem.W.methodObj (.ref f) (.ref y)):=x;show h'.get? a=some (PySem.W.methodObj (.ref f) (.ref y));exact k a _ (.inl rfl) e
 | ext φ=>obtain ⟨p,⟨o,e⟩,st⟩:=x;exact ⟨st _ _ p λo q=>k _ _ (.inl rfl) q,⟨o,k _ _ (.inl rfl) e⟩,st⟩
theorem dq.lt(x:dq P w H h)(e:H a=some o):a<h.objs.size:=(x a o e).lt
theorem dq.fresh(x:dq P w H h)(e:h.objs.size<=a):H a=none:=by
 cases q:H a with
 | none=>rfl
 | some u=>exact absurd (eU (x.lt q) e) (ib _)
theorem dq.kept(x:dq P w H h)(k:∀b u,h.get? b=some u->h'.get? b=some u):dq P w H h':=λa o e=>(x a o e).jc (λb u _ q=>k b u q) (λ_ q=>q) λ_ _ q=>q
theorem dq.laid(x:dq P w H h)(k:∀b u,h.get? b=some u->h'.get? b=some u)(hp:h.objs.size<=a)(new:fD P w (upd H a o) h' a o):dq P w (upd H a o) h':=λb u e=>by
 have hn:=x.fresh hp;by_cases hb:b=a;·subst hb;rw [az] at e;cases e;exact new
 ·rw [cq hb] at e
  exact (x b u e).jc (λc v _ q=>k c v q) (λc q=>by rw [cq (gL q hn)];exact q) λc xs q=>by rw [cq (gL q hn)];exact q
end
def Rd(H:Hp)(a:Addr)(u:HO):Prop:=H a=some u\/∃o,H a=some (.ik o u)
variable {P:Program} {w:World} {h:Heap}
theorem Rd.ok{a:Addr}{u:HO}(r:Rd H a u)(x:dq P w H h):fD P w H h a u:=by
 rcases r with r | ⟨o,r⟩;·exact x a u r
 ·obtain ⟨_,q⟩:=x a _ r
  exact q
def A9:Option HO->Prop
 | some (.lst _)=>True
 | some (.dK _)=>True
 | some (.dT _)=>True
 | some (.set _ _)=>True
 | some (.ins _ _ _)=>True
 | some (.ext _)=>True
 | _=>False
section
variable {P:Program} {w:World} {H:Hp} {h h':Heap} {x e:Addr} {o':HO}
theorem dq.write(ok:dq P w H h)(mu:A9 (H x))(he:e=x\/H e=some (.own x))(k:∀b u,b≠e->h.get? b=some u->h'.get? b=some u)(uS:∃u,h'.get? e=some u)
  (new:fD P w (upd H x o') h' x o'):dq P w (upd H x o') h':=λb u q=>by
 have J0:∀c y,H c=some (.own y)->c≠x:=λc y r z=>by subst z;rw [r] at mu;exact mu
 have QV:∀c xs,H c=some (.tup xs)->c≠x:=λc xs r z=>by subst z;rw [r] at mu;exact mu
 by_cases hb:b=x;·subst hb;rw [az] at q;cases q;exact new
 ·rw [cq hb] at q
  by_cases qm:b=e
  ·have q':H b=some (.own x):=by
    rcases he with z | z;·exact absurd (qm.trans z) hb
    ·rw [qm];exact z
   rw [q] at q';cases q';obtain ⟨v,hv⟩:=uS;exact ⟨v,by rw [qm];exact hv⟩
  ·refine (ok b u q).jc (λc v hc r=>k c v ?_ r) (λc r=>by rw [cq (J0 c b r)];exact r) λc xs r=>by rw [cq (QV c xs r)];exact r
   rcases hc with rfl | hc;·exact qm
   ·rintro rfl
    rcases he with z | z;·exact J0 c b hc z
    ·rw [hc] at z;cases z;exact hb rfl
end
structure Un (fs ex:List Addr) (H H':Hp) (h h':Heap):Prop where
 keep:∀b o,h.get? b=some o->H b=none->b∉fs->b∉ex->h'.get? b=some o
 slot:∀b o,h.get? b=some o->H b=none->b∈fs->b∉ex->∃sl,h'.get? b=some {o with slots:=sl}
 free:∀b o,h.get? b=some o->H b=none->b∉ex->H' b=none
 there:∀b o,h.get? b=some o->b∉ex->∃o',h'.get? b=some o'
 il:∀b xs,H b=some (.tup xs)->H' b=some (.tup xs)
 g9:∀b o u,H b=some (.ik o u)->H' b=some (.ik o u)
 ip:∀b ps,H b=some (.m5 ps)->∃more,H' b=some (.m5 (ps++more))
section
variable {fs QW ex jx:List Addr} {H H1 H2:Hp} {h h1 h2 h':Heap} {a x e:Addr} {o:HO}
theorem Un.any(u:Un fs ex H H1 h h1){ob:Obj}(q:h.get? b=some ob)(n:H b=none)(hx:b∉ex):∃sl,h1.get? b=some {ob with slots:=sl}:=by
 by_cases hb:b∈fs;·exact u.slot b ob q n hb hx
 ·exact ⟨ob.slots,u.keep b ob q n hb hx⟩
theorem Un.kept(k:∀b u,h.get? b=some u->h'.get? b=some u):Un fs ex H H h h':=
 ⟨λb ob q _ _ _=>k b ob q,λb ob q _ _ _=>⟨ob.slots,k b ob q⟩,λ_ _ _ n _=>n,λb ob q _=>⟨ob,k b ob q⟩,λ_ _ q=>q,λ_ _ _ q=>q,λ_ ps q=>⟨#[],by rw [q];simp⟩⟩
theorem Un.refl:Un fs ex H H h h:=Un.kept λ_ _ q=>q
theorem Un.laid(k:∀b u,h.get? b=some u->h'.get? b=some u)(hp:h.objs.size<=a)(hn:H a=none):Un fs ex H (upd H a o) h h' where
 keep:=λb u q _ _ _=>k b u q
 slot:=λb u q _ _ _=>⟨u.slots,k b u q⟩
 free:=λb u q n _=>by rw [cq (fA (eU (cJ q) hp))];exact n
 there:=λb u q _=>⟨u,k b u q⟩
 il:=λb xs q=>by rw [cq (gL q hn)];exact q
 g9:=λb u xs q=>by rw [cq (gL q hn)];exact q
 ip:=λb ps q=>⟨#[],by rw [cq (gL q hn),q];simp⟩
theorem Un.write(mu:A9 (H x))(he:e=x\/H e=some (.own x))(k:∀b u,b≠e->h.get? b=some u->h'.get? b=some u)(uS:∃u,h'.get? e=some u):Un fs ex H (upd H x o) h h':=by
 have hx:∀b,H b=none->b≠x:=λb n z=>by subst z;rw [n] at mu;exact mu
 have hb:∀b,H b=none->b≠e:=λb n z=>by
  subst z;rcases he with r | r;·exact hx b n r
  ·rw [n] at r;cases r
 have hm:∀b u,H b=some u->¬A9 (some u)->b≠x:=λb u q nm z=>by subst z;rw [q] at mu;exact nm mu
 refine ⟨λb u q n _ _=>k b u (hb b n) q,λb u q n _ _=>⟨u.slots,k b u (hb b n) q⟩,λb u q n _=>by rw [cq (hx b n)];exact n,λb u q _=>?_,
  λb xs q=>by rw [cq (hm b _ q λz=>z)];exact q,λb u xs q=>by rw [cq (hm b _ q λz=>z)];exact q,λb ps q=>⟨#[],by rw [cq (hm b _ q λz=>z),q];simp⟩⟩
 by_cases qm:b=e;·subst qm;exact uS
 ·exact ⟨u,k b u qm q⟩
end
def A_(h:Heap)(H:Hp):List Addr:=(List.range h.objs.size).filter λa=>(H a).isSome
def m6(h:Heap)(H:Hp):Heap:=PySem.W.hideAll h (A_ h H)
theorem QX(h:Heap)(H:Hp):(m6 h H).objs.size=h.objs.size:=PySem.W.hideAll_size _ _
theorem QY{o:Obj}(e:h.get? b=some o)(n:H b=none):(m6 h H).get? b=some o:=
 AN _ e λhm=>by have q:(H b).isSome=true:=(List.mem_filter.mp hm).2;rw [n] at q;simp at q
theorem QZ{o:Obj}(e:(m6 h H).get? b=some o):h.get? b=some o/\H b=none:=by
 have e':h.get? b=some o:=PySem.W.of_hideAll (A_ h H) e;refine ⟨e',?_⟩;cases q:H b with
 | none=>rfl
 | some x=>
  have hm:b∈A_ h H:=List.mem_filter.mpr ⟨List.mem_range.mpr (cJ e'),by simp [q]⟩
  have z:(m6 h H).get? b=none:=PySem.W.hideAll_none (A_ h H) hm;rw [z] at e;cases e
structure Mod (K:aI) (mg:dX) (base:Heap):Prop where
 dE:K.In base
 glob:base.Ns mainGlobals mg
 blt:∃mb,base.Ns builtinsNs mb/\∀x:Str,x ≠ "__name__"->mb x=bootBuiltins x
 nolimit:base.NoLimit
structure Cx where
 prog:Program
 w:World
 K:PySem.W.Frag
 mg:Str->Option Value
 base:Heap
 A:Around
 N:List Str
 s₀:Shared
 H₀:Hp
 env:Env
 outer:List Env
 stack:List Env
 ex:List Addr
 fn:Str->Bool
 calm:Bool
 pn:List (Addr×Obj)
 xe:Value->Shared->Prop
def dk(l:List Env):List Addr:=l.filterMap (·.frame)
abbrev Cx.fs (X:Cx):List Addr:=dk X.outer
def oW(sc:Scope)(x:Str):Prop:=sc.names.lookup x=some .local\/sc.names.lookup x=some .cell\/sc.names.lookup x=some .free
def Loc(sc:Scope)(x:Str):Prop:=sc.names.lookup x=some .local\/sc.names.lookup x=some .cell
def Look(env:Env)(h:Heap)(m:dX)(x:Str)(u:Value):Prop:=
 (env.kindOf x=some .local/\m x=some u)\/((env.kindOf x=some .cell\/env.kindOf x=some .free)/\∃c,env.cells.lookup x=some c/\h.IsCell c (some u))
structure Cx.Ok (X:Cx):Prop where
 mod:Mod X.K X.mg X.base
 kind:X.env.scope.kind=.function
 glob:X.env.globals=mainGlobals
 blt:X.env.builtins=builtinsNs
 above:X.s₀.heap.objs.size<=X.env.locals
 inj:∀x y c,X.env.cells.lookup x=some c->X.env.cells.lookup y=some c->x=y
 has:∀x,(X.env.kindOf x=some .cell\/X.env.kindOf x=some .free)->∃c,X.env.cells.lookup x=some c
 yI:∀x c,X.fn x=true->X.env.cells.lookup x=some c->X.s₀.heap.objs.size<=c
 hd:X.calm=true->X.A.handled=none
 frames:X.A.frames=some X.stack
 jy:X.stack=X.outer\/(X.stack=X.env::X.outer/\X.env.frame=some X.env.locals)
 J1:∀b∈X.ex,b≠X.env.locals/\∀x c,X.env.cells.lookup x=some c->c≠b
 bs:∀b o,X.base.get? b=some o->X.s₀.heap.get? b=some o/\X.H₀ b=none
 iO:X.base.objs.size<=X.s₀.heap.objs.size
 oX:∀b o,X.base.get? b=some o->b∉X.ex
 oY:∀b∈X.ex,b∉X.fs
 j9:X.s₀.heap.FunFrames X.base X.outer
 m7:∀b∈X.fs,X.H₀ b=none
structure Inv (X:Cx) (pins:bE) (σ:List (Option V)) (H:Hp) (s:Shared):Prop where
 ok:X.Ok
 os:s.os=X.s₀.os
 bare:AllBare s.gens
 base:Un X.fs X.ex X.H₀ H X.s₀.heap s.heap
 loc:∃m,s.heap.Ns X.env.locals m/\∀(i:Nat) (x:Str) (v:V),X.N[i]?=some x->σ[i]?=some (some v)->oW X.env.scope x->∃u,RelV v u/\Look X.env s.heap m x u
 cell:∀x c,X.env.cells.lookup x=some c->∃v,s.heap.IsCell c v
 free:H X.env.locals=none
 jz:∀x c,X.env.cells.lookup x=some c->H c=none
 pin:∀p∈X.pn++pins,s.heap.get? p.1=some p.2/\H p.1=none/\p.1≠X.env.locals/\p.1∉X.fs/\∀v,p.2.data≠.cell v
 aG:dq X.prog X.w H s.heap
 len:σ.length=X.N.length
section
variable {X:Cx} {pins:bE} {σ:List (Option V)} {H H':Hp} {s:Shared} {h':Heap}
theorem Cx.Ok.Q0(ok:X.Ok){o:Obj}(e:X.base.get? b=some o):b∉X.fs:=λhb=>by have:=(ok.j9.mem hb).1;rw [e] at this;cases this
theorem Inv.bs(I:Inv X pins σ H s):∀b o,X.base.get? b=some o->s.heap.get? b=some o/\H b=none:=λb o e=>⟨I.base.keep b o (I.ok.bs b o e).1 (I.ok.bs b o e).2 (I.ok.Q0 e) (I.ok.oX b o e),I.base.free b o (I.ok.bs b o e).1 (I.ok.bs b o e).2 (I.ok.oX b o e)⟩
theorem Inv.bk(I:Inv X pins σ H s):∀b o,X.base.get? b=some o->s.heap.get? b=some o:=λb o e=>(I.bs b o e).1
theorem Inv.mod(I:Inv X pins σ H s):Mod X.K X.mg X.base:=I.ok.mod
theorem Inv.d9(I:Inv X pins σ H s):X.K.In s.heap:=I.ok.mod.dE.keeps I.bk
theorem Inv.lt(I:Inv X pins σ H s):X.env.locals<s.heap.objs.size:=let ⟨_,hn,_⟩:=I.loc;hn.lt
theorem Inv.sz(I:Inv X pins σ H s):X.s₀.heap.objs.size<=s.heap.objs.size:=af I.ok.above (Nat.le_of_lt I.lt)
theorem Inv.Q1(I:Inv X pins σ H s){a:Addr}(h:s.heap.objs.size<=a):a∉X.fs:=λhb=>by obtain ⟨_,o,ho,_⟩:=I.ok.j9.mem hb;exact absurd (eU (cJ ho) (af I.sz h)) (ib _)
theorem Inv.qo(I:Inv X pins σ H s):∀x c,X.env.cells.lookup x=some c->c≠X.env.locals:=λx c e z=>by obtain ⟨v,o,ho,hd⟩:=I.cell x c e;obtain ⟨m,⟨o',es,ep,ky,m8,_⟩,_⟩:=I.loc;rw [z,ky] at ho;cases ho;rw [m8] at hd;cases hd
theorem Inv.j9(I:Inv X pins σ H s):s.heap.FunFrames X.base X.outer:=by
 have all:∀(l:List Env),(∀b∈dk l,b∈X.fs)->X.s₀.heap.FunFrames X.base l->s.heap.FunFrames X.base l:=by
  intro l
  induction l with
  | nil=>intro _ _;trivial
  | cons env r ih=>
   intro hs hl;obtain ⟨hk,⟨L,o,hf,hn,ho,hd⟩,hr⟩:=hl;have hL:L∈X.fs:=hs L (by unfold dk;rw [AO,hf];exact mQ)
   obtain ⟨sl,e⟩:=I.base.slot L o ho (I.ok.m7 L hL) hL λz=>I.ok.oY L z hL;exact ⟨hk,(i' L _ hf hn e hd),ih (λb hb=>hs b (by unfold dk;rw [AO,hf];exact i6 _ hb)) hr⟩
 exact all X.outer (λ_ hb=>hb) I.ok.j9
theorem Inv.stack(I:Inv X pins σ H s):s.heap.FunFrames X.base X.stack:=by
 rcases I.ok.jy with e | ⟨e,hf⟩;·rw [e];exact I.j9
 ·rw [e]
  obtain ⟨m,hn,_⟩:=I.loc;refine .cons (by rw [I.ok.kind];decide) hf hn ?_ I.j9
  exact Heap.get?_none_of_le (af I.ok.iO I.ok.above)
theorem Inv.uT(I:Inv X pins σ H s):∀b∈dk X.stack,b∈X.env.locals::X.fs:=λb hb=>by
 rcases I.ok.jy with e | ⟨e,hf⟩;·rw [e] at hb;exact i6 _ hb
 ·rw [e] at hb
  unfold dk at hb;rw [AO,hf] at hb;exact hb
theorem Inv.uU(I:Inv X pins σ H s):∀b∈dk X.stack,H b=none:=λb hb=>by
 rcases eV.mp (I.uT b hb) with e | hb;·rw [e];exact I.free
 ·obtain ⟨_,o,ho,_⟩:=I.ok.j9.mem hb
  exact I.base.free b o ho (I.ok.m7 b hb) λz=>I.ok.oY b z hb
variable {g':Array GenState} {t':Nat} {d':Drawn} {ch:List Addr}
theorem Inv.step(I:Inv X pins σ H s)
  (lE:∀b∈ch,(b∈X.ex\/X.s₀.heap.objs.size<=b)/\b≠X.env.locals/\(∀x c,X.env.cells.lookup x=some c->c≠b)/\∀p∈X.pn++pins,p.1≠b)
  (keep:∀b o,b≠X.env.locals->b∉X.fs->b∉ch->s.heap.get? b=some o->H b=none->h'.get? b=some o)
  (slot:∀b o,b≠X.env.locals->b∈X.fs->b∉ch->s.heap.get? b=some o->H b=none->∃sl,h'.get? b=some {o with slots:=sl}) (free:∀b o,b∉ch->s.heap.get? b=some o->H b=none->H' b=none)
  (there:∀b o,b∉ch->s.heap.get? b=some o->∃o',h'.get? b=some o')
  (il:∀b xs,H b=some (.tup xs)->H' b=some (.tup xs)) (g9:∀b o u,H b=some (.ik o u)->H' b=some (.ik o u)) (ip:∀b ps,H b=some (.m5 ps)->∃more,H' b=some (.m5 (ps++more)))
  (ns:∀m,s.heap.Ns X.env.locals m->h'.Ns X.env.locals m) (aG:dq X.prog X.w H' h') (hg:AllBare g') :
  Inv X pins σ H' {s with heap:=h',gens:=g',drawn:=d',toks:=t'}:=by
 have J2:∀b o,X.s₀.heap.get? b=some o->b≠X.env.locals:=λb o e=>fA (eU (cJ e) I.ok.above);have Ba:∀b o,X.s₀.heap.get? b=some o->b∉X.ex->b∉ch:=λb o e hx hb=>by
  rcases (lE b hb).1 with z | z;·exact hx z
  ·exact absurd (eU (cJ e) z) (ib _)
 have cellK:∀x c,X.env.cells.lookup x=some c->∀v,s.heap.IsCell c v->h'.IsCell c v:=λx c e v ⟨o,ho,hd⟩=>by
  have yJ:c∉ch:=λz=>(lE c z).2.2.1 x c e rfl;by_cases hc:c∈X.fs
  ·obtain ⟨sl,q⟩:=slot c o (I.qo x c e) hc yJ ho (I.jz x c e)
   exact (ac _ q hd)
  ·exact ⟨o,keep c o (I.qo x c e) hc yJ ho (I.jz x c e),hd⟩
 refine ⟨I.ok,I.os,hg,⟨λb o e n hb hx=>?_,λb o e n hb hx=>?_,λb o e n hx=>?_,λb o e hx=>?_,λb xs e=>il b xs (I.base.il b xs e),λb o xs e=>g9 b o xs (I.base.g9 b o xs e),λb ps e=>?_⟩,?_,λx c e=>?_,?_,λx c e=>?_,λp hp=>?_,aG,I.len⟩;·exact keep b o (J2 b o e) hb (Ba b o e hx) (I.base.keep b o e n hb hx) (I.base.free b o e n hx)
 ·obtain ⟨sl,e1⟩:=I.base.slot b o e n hb hx
  obtain ⟨EV,e2⟩:=slot b _ (J2 b o e) hb (Ba b o e hx) e1 (I.base.free b o e n hx);exact ⟨EV,e2⟩
 ·obtain ⟨o',e1⟩:=I.base.there b o e hx
  exact free b o' (Ba b o e hx) e1 (I.base.free b o e n hx)
 ·obtain ⟨o',e1⟩:=I.base.there b o e hx
  exact there b o' (Ba b o e hx) e1
 ·obtain ⟨m1,e1⟩:=I.base.ip b ps e
  obtain ⟨m2,e2⟩:=ip b _ e1;exact ⟨m1++m2,by rw [e2,Array.append_assoc]⟩
 ·obtain ⟨m,hn,hl⟩:=I.loc
  refine ⟨m,ns m hn,λi x v e1 e2 e3=>?_⟩;obtain ⟨u,r,l⟩:=hl i x v e1 e2 e3;refine (ac u r ?_);rcases l with l | ⟨k,c,e,z⟩;·exact .inl l
  ·exact .inr (im k c e (cellK x c e _ z))
 ·obtain ⟨v,z⟩:=I.cell x c e
  exact ⟨v,cellK x c e v z⟩
 ·obtain ⟨m,⟨o,_,_,ho,_⟩,_⟩:=I.loc
  exact free _ o (λz=>(lE _ z).2.1 rfl) ho I.free
 ·obtain ⟨v,o,ho,hd⟩:=I.cell x c e
  exact free c o (λz=>(lE c z).2.2.1 x c e rfl) ho (I.jz x c e)
 ·obtain ⟨e,n,ne,nf,d⟩:=I.pin p hp
  have yJ:p.1∉ch:=λz=>(lE p.1 z).2.2.2 p hp rfl;exact ⟨keep p.1 p.2 ne nf yJ e n,free p.1 p.2 yJ e n,ne,nf,d⟩
theorem Inv.un(I:Inv X pins σ H s)(u:Un X.fs [] H H' s.heap h')(aG:dq X.prog X.w H' h'):Inv X pins σ H' {s with heap:=h',toks:=t'}:=by
 obtain ⟨m,⟨o,es,ep,ho,r⟩,_⟩:=id I.loc;obtain ⟨sl,hL⟩:=u.any ho I.free (by simp)
 exact I.step (g':=s.gens) (d':=s.drawn) (ch:=[]) (λ_ z=>nomatch z) (λb o _ hb _ e n=>u.keep b o e n hb (by simp)) (λb o _ hb _ e n=>u.slot b o e n hb (by simp)) (λb o _ e n=>u.free b o e n (by simp)) (λb o _ e=>u.there b o e (by simp)) u.il u.g9 u.ip (λm' hm=>by intros bnE hm o' bn5 EW EX ky r';rw [ho] at ky;cases ky;exact ⟨_,EW,EX,hL,r'⟩) aG I.bare
theorem Inv.call(I:Inv X pins σ H s)(u:Un (dk X.stack) ch H H' s.heap h')(aG:dq X.prog X.w H' h')(hg:AllBare g')
  (lE:∀b∈ch,(b∈X.ex\/X.s₀.heap.objs.size<=b)/\b≠X.env.locals/\(∀x c,X.env.cells.lookup x=some c->c≠b)/\∀p∈X.pn++pins,p.1≠b) :
  Inv X pins σ H' {s with heap:=h',gens:=g',drawn:=d',toks:=t'}:=by
 obtain ⟨m,⟨o,es,ep,ho,r⟩,_⟩:=id I.loc;obtain ⟨sl,hL⟩:=u.any ho I.free λz=>(lE _ z).2.1 rfl;exact I.step (ch:=ch) lE (λb o hL hb hc e n=>u.keep b o e n (λz=>(eV.mp (I.uT b z)).elim hL hb) hc) (λb o _ _ hc e n=>u.any e n hc) (λb o hc e n=>u.free b o e n hc) (λb o hc e=>u.there b o e hc) u.il u.g9 u.ip (λm' hm=>by intros bnE hm o' bn5 EW EX ky r';rw [ho] at ky;cases ky;exact ⟨_,EW,EX,hL,r'⟩) aG hg
theorem Inv.turned{it:Addr}(I:Inv X pins σ H s)(k:∀b o,b≠it->s.heap.get? b=some o->h'.get? b=some o)(hn:H it=none)(hL:it≠X.env.locals)
  (h1:it∈X.ex\/X.s₀.heap.objs.size<=it) (h2:∀x c,X.env.cells.lookup x=some c->c≠it) (h3:∀p∈X.pn++pins,p.1≠it):Inv X pins σ H {s with heap:=h',toks:=t'}:=by
 have J3:∀b u,H b=some u->b≠it:=λb u e z=>by rw [z,hn] at e;cases e
 refine I.step (g':=s.gens) (d':=s.drawn) (ch:=[it]) (λb hb=>?_) (λb o _ _ hc e _=>k b o (λz=>hc (by simp [z])) e) (λb o _ _ hc e _=>⟨o.slots,k b o (λz=>hc (by simp [z])) e⟩) (λ_ _ _ _ n=>n)
  (λb o hc e=>⟨o,k b o (λz=>hc (by simp [z])) e⟩) (λ_ _ e=>e) (λ_ _ _ e=>e) (λb ps e=>⟨#[],by rw [e];simp⟩) (λm hm=>?_) (λb u e=>?_) I.bare
 ·have e:b=it:=by simpa using hb
  subst e;exact ⟨h1,hL,h2,h3⟩
 ·intros bnE hm o bn5 es ep ho r
  exact ⟨o,es,ep,k _ o (Ne.symm hL) ho,r⟩
 ·refine (I.aG b u e).jc (λc v hc q=>k c v ?_ q) (λ_ q=>q) λ_ _ q=>q
  rcases hc with z | z;·rw [z];exact J3 b u e
  ·exact J3 c _ z
theorem Inv.tok(I:Inv X pins σ H s)(t:Nat):Inv X pins σ H {s with toks:=t}:=I.un (h':=s.heap) (t':=t) Un.refl I.aG
theorem Inv.kept(I:Inv X pins σ H s)(k:∀b u,s.heap.get? b=some u->h'.get? b=some u):Inv X pins σ H {s with heap:=h',toks:=t'}:=I.un (Un.kept k) (I.aG.kept k)
theorem Inv.laid{a:Addr}(I:Inv X pins σ H s)(k:∀b u,s.heap.get? b=some u->h'.get? b=some u)(hp:s.heap.objs.size<=a)(new:fD X.prog X.w (upd H a o) h' a o) :
  Inv X pins σ (upd H a o) {s with heap:=h',toks:=t'}:=I.un (Un.laid k hp (I.aG.fresh hp)) (I.aG.laid k hp new)
theorem Inv.write{x e:Addr}(I:Inv X pins σ H s)(mu:A9 (H x))(he:e=x\/H e=some (.own x))(k:∀b u,b≠e->s.heap.get? b=some u->h'.get? b=some u)(uS:∃u,h'.get? e=some u)
  (new:fD X.prog X.w (upd H x o) h' x o):Inv X pins σ (upd H x o) {s with heap:=h',toks:=t'}:=I.un (Un.write mu he k uS) (I.aG.write mu he k uS new)
theorem Inv.J4{J5:bE}(I:Inv X pins σ H s)(h:∀p∈J5,s.heap.get? p.1=some p.2/\H p.1=none/\p.1≠X.env.locals/\p.1∉X.fs/\∀v,p.2.data≠.cell v):Inv X J5 σ H s:=
 ⟨I.ok,I.os,I.bare,I.base,I.loc,I.cell,I.free,I.jz,λp hp=>(i7.mp hp).elim (λz=>I.pin p (List.mem_append_left _ z)) (h p),I.aG,I.len⟩
variable {i:Nat} {x:Str}
theorem J6{N:List Str}(hN:N.Nodup){j:Nat}(a:N[i]?=some x)(b:N[j]?=some x):i=j:=by obtain ⟨h1,e1⟩:=dj.mp a;obtain ⟨h2,e2⟩:=dj.mp b;exact (List.getElem_inj hN).mp (e1.trans e2.symm)
variable {M:Model} {A:Around} {E:cQ} {v:V} {Q:Unit->Shared->Prop}
theorem EY{u:Value}(I:Inv X pins σ H s)(hN:X.N.Nodup)(hi:X.N[i]?=some x)(hx:Loc X.env.scope x)(r:RelV v u)
  (h:∀s',Inv X pins (σ.set i (some v)) H s'->(∃a,Heap.SameBut a s.heap s'.heap/\(a=X.env.locals\/X.env.cells.lookup x=some a))->Q () s') (hf:X.fn x=true\/X.env.scope.names.lookup x=some .local:=by first | exact .inl rfl | exact .inr rfl | assumption):wpAny M A (storeName X.env x u) Q E s:=by
 obtain ⟨m,hn,hl⟩:=id I.loc;have Q2:(X.env.scope.kind == .class || (X.env.scope.kind == .module && X.env.locals != X.env.globals))=false:=by rw [I.ok.kind];rfl
 have J7:i<σ.length:=by rw [I.len];exact (dj.mp hi).1
 have qo:=I.qo;have tracked:∀{a:Addr} {h':Heap},(∃o,s.heap.get? a=some o/\H a=none)->Heap.SameBut a s.heap h'->dq X.prog X.w H h':=fun{a h'} ha hs b ob e=>by
  obtain ⟨_,_,J8⟩:=ha;refine (I.aG b ob e).jc (λc w' hc q=>(hs.2 c ?_).trans q) (λ_ q=>q) λ_ _ q=>q;rintro rfl;rcases hc with rfl | hc;·rw [J8] at e;cases e
  ·rw [J8] at hc;cases hc
 rcases hx with hk | hk
 ·refine wpAny_storeName_local hk hn (λh' Q3 hs=>?_) Q2
  obtain ⟨oL,_,_,Q4,_⟩:=id hn;refine h _ ⟨I.ok,I.os,I.bare,⟨λb o e n hb hx=>?_,λb o e n hb hx=>?_,I.base.free,λb o e hx=>?_,I.base.il,I.base.g9,I.base.ip⟩,(ac _ Q3 (λj y v' e1 e2 e3=>?_)),λy c e=>?_,I.free,I.jz,λp hp=>?_,tracked (ac oL Q4 I.free) hs,by simpa using I.len⟩ (ac _ hs (.inl rfl))
  ·exact (hs.2 b (fA (eU (cJ e) I.ok.above))).trans (I.base.keep b o e n hb hx)
  ·obtain ⟨sl,e1⟩:=I.base.slot b o e n hb hx
   exact ⟨sl,(hs.2 b (fA (eU (cJ e) I.ok.above))).trans e1⟩
  ·obtain ⟨o',e1⟩:=I.base.there b o e hx
   exact ⟨o',(hs.2 b (fA (eU (cJ e) I.ok.above))).trans e1⟩
  ·by_cases hj:j=i
   ·subst hj
    rw [hi] at e1;cases e1;rw [oM J7] at e2;cases e2;exact (ac u r (.inl ⟨hk,by simp⟩))
   ·rw [oN (Ne.symm hj)] at e2
    obtain ⟨u',r',q⟩:=hl j y v' e1 e2 e3;refine (ac u' r' ?_);rcases q with ⟨k,e⟩ | ⟨k,c,e,z⟩
    ·refine .inl ⟨k,?_⟩
     have:y≠x:=λe=>hj (J6 hN e1 (e▸hi));simp [this,e]
    ·exact .inr (im k c e (z.sameBut hs (qo y c e)))
  ·obtain ⟨w',z⟩:=I.cell y c e
   exact ⟨w',z.sameBut hs (qo y c e)⟩
  ·obtain ⟨e,n,ne,nf,d⟩:=I.pin p hp
   exact ⟨(hs.2 p.1 ne).trans e,n,ne,nf,d⟩
 ·have EZ:X.fn x=true:=by
   rcases hf with z | z;·exact z
   ·rw [z] at hk;cases hk
  obtain ⟨c,hc⟩:=I.ok.has x (.inl hk);obtain ⟨w',z⟩:=I.cell x c hc;refine wpAny_storeName_cell I.ok.kind hk hc z (λh' fj hs=>?_);obtain ⟨oc,J9,Q5⟩:=id z;refine h {s with heap:=h'} ⟨I.ok,I.os,I.bare,⟨λb o e n hb hx=>?_,λb o e n hb hx=>?_,I.base.free,λb o e hx=>?_,I.base.il,I.base.g9,I.base.ip⟩,⟨m,hn.sameBut hs (Ne.symm (qo x c hc)),λj y v' e1 e2 e3=>?_⟩,λy c' e=>?_,I.free,I.jz,λp hp=>?_,tracked ⟨oc,J9,I.jz x c hc⟩ hs,by simpa using I.len⟩ ⟨c,hs,.inr hc⟩
  ·exact (hs.2 b (fA (eU (cJ e) (I.ok.yI x c EZ hc)))).trans (I.base.keep b o e n hb hx)
  ·obtain ⟨sl,e1⟩:=I.base.slot b o e n hb hx
   exact ⟨sl,(hs.2 b (fA (eU (cJ e) (I.ok.yI x c EZ hc)))).trans e1⟩
  ·obtain ⟨o',e1⟩:=I.base.there b o e hx
   exact ⟨o',(hs.2 b (fA (eU (cJ e) (I.ok.yI x c EZ hc)))).trans e1⟩
  ·by_cases hj:j=i
   ·subst hj
    rw [hi] at e1;cases e1;rw [oM J7] at e2;cases e2;exact ⟨u,r,.inr (im (.inl hk) c hc fj)⟩
   ·rw [oN (Ne.symm hj)] at e2
    obtain ⟨u',r',q⟩:=hl j y v' e1 e2 e3;refine (ac u' r' ?_);rcases q with q | ⟨k,c',e,z'⟩;·exact .inl q
    ·refine .inr (im k c' e (z'.sameBut hs ?_))
     rintro rfl;exact hj (J6 hN e1 (I.ok.inj _ _ _ e hc▸hi))
  ·by_cases J_:c'=c
   ·subst J_;exact ⟨_,fj⟩
   ·obtain ⟨w2,z2⟩:=I.cell y c' e
    exact ⟨w2,z2.sameBut hs J_⟩
  ·obtain ⟨e,n,ne,nf,d⟩:=I.pin p hp
   refine ⟨(hs.2 p.1 ?_).trans e,n,ne,nf,d⟩;intro q;rw [q,J9] at e;have q':oc=p.2:=Option.some.inj e;exact d w' (by rw [<-q'];exact Q5)
theorem yK{u:Value}(I:Inv X pins σ H s)(hN:X.N.Nodup)(hi:X.N[i]?=some x)(hx:Loc X.env.scope x)(r:RelV v u)
  (h:∀s',Inv X pins (σ.set i (some v)) H s'->Q () s') (hf:X.fn x=true\/X.env.scope.names.lookup x=some .local:=by first | exact .inl rfl | exact .inr rfl | assumption):wpAny M A (storeName X.env x u) Q E s:=
 EY I hN hi hx r (λs' I' _=>h s' I') hf
theorem Inv.lF{s':Shared}(I:Inv X pins σ H s)(ho:s'.os=s.os)(u:Un (dk X.stack) ch H H' s.heap s'.heap)(aG:dq X.prog X.w H' s'.heap)(hg:AllBare s'.gens)
  (lE:∀b∈ch,(b∈X.ex\/X.s₀.heap.objs.size<=b)/\b≠X.env.locals/\(∀x c,X.env.cells.lookup x=some c->c≠b)/\∀p∈X.pn++pins,p.1≠b):Inv X pins σ H' s':=by
 obtain ⟨h',g',d',t',o'⟩:=s';have e:o'=s.os:=ho;subst e;exact I.call (g':=g') (t':=t') (d':=d') u aG hg lE
end
abbrev XK:=Value->Option Addr->Hp->Prop
abbrev St:=List (Option V)
abbrev VK:=V->Hp->Prop
abbrev TE:=St->Hp->VK->Prop
abbrev TT:=St->Hp->(Bool->Hp->Prop)->Prop
abbrev TA:=St->Hp->(List V->Hp->Prop)->Prop
structure Ends where
 nx:St->Hp->Prop
 rt:VK
 bk:St->Hp->Prop:=λ_ _=>False
 ct:St->Hp->Prop:=λ_ _=>False
abbrev TS:=Ends->St->Hp->Prop
def EP(X:Cx)(pins:bE)(σ:St)(Q:VK)(u:Value)(s':Shared):Prop:=∃v H',Inv X pins σ H' s'/\RelV v u/\Q v H'
def TP(X:Cx)(pins:bE)(σ:St)(Q:Bool->Hp->Prop)(b:Bool)(s':Shared):Prop:=∃H',Inv X pins σ H' s'/\Q b H'
def AP(X:Cx)(pins:bE)(σ:St)(Q:List V->Hp->Prop)(us:List Value)(s':Shared):Prop:=∃vs H',Inv X pins σ H' s'/\Vals vs us/\Q vs H'
def SP(X:Cx)(pins:bE)(D:Ends)(f:Flow)(s':Shared):Prop:=
 match f with
 | .next=>∃σ' H',Inv X pins σ' H' s'/\D.nx σ' H'
 | .brk=>∃σ' H',Inv X pins σ' H' s'/\D.bk σ' H'
 | .cont=>∃σ' H',Inv X pins σ' H' s'/\D.ct σ' H'
 | .ret u=>∃v σ' H',Inv X pins σ' H' s'/\RelV v u/\D.rt v H'
def PE(X:Cx)(e:Expr)(t:TE):Prop:=
 ∀(pins:bE) (s:Shared) (σ:St) (H:Hp) (Q:VK),Inv X pins σ H s->t σ H Q->wpAny (model X.prog X.w) X.A (eval e X.env) (EP X pins σ Q) X.xe s
def PT(X:Cx)(e:Expr)(t:TT):Prop:=
 ∀(pins:bE) (s:Shared) (σ:St) (H:Hp) (Q:Bool->Hp->Prop),Inv X pins σ H s->t σ H Q->wpAny (model X.prog X.w) X.A (isTrue e X.env (eval e X.env)) (TP X pins σ Q) X.xe s
def PW(X:Cx)(e:Expr)(t:TT):Prop:=
 ∀(whole:Sem Value) (pins:bE) (s:Shared) (σ:St) (H:Hp) (Q:Bool->Hp->Prop),Inv X pins σ H s->t σ H Q->wpAny (model X.prog X.w) X.A (isTrue e X.env whole) (TP X pins σ Q) X.xe s
variable {X:Cx}
theorem PW.pt{e:Expr}{t:TT}(h:PW X e t):PT X e t:=h _
def PA(X:Cx)(es:List Expr)(t:TA):Prop:=
 ∀(pos:Pos) (pins:bE) (s:Shared) (σ:St) (H:Hp) (Q:List V->Hp->Prop),Inv X pins σ H s->t σ H Q->wpAny (model X.prog X.w) X.A (spliced (backTo pos (starEach es X.env))) (AP X pins σ Q) X.xe s
def PS(X:Cx)(st:Stmt)(t:TS):Prop:=
 ∀(pins:bE) (s:Shared) (σ:St) (H:Hp) (D:Ends),Inv X pins σ H s->t D σ H->wpAny (model X.prog X.w) X.A (exec st X.env) (SP X pins D) X.xe s
def fU(X:Cx)(st:List Stmt)(t:TS):Prop:=
 ∀(pins:bE) (s:Shared) (σ:St) (H:Hp) (D:Ends),Inv X pins σ H s->t D σ H->wpAny (model X.prog X.w) X.A (execs st X.env) (SP X pins D) X.xe s
variable {M:Model} {A:Around} {E:cQ} {s:Shared}
theorem aK{α:Type}{t:Sem α}{Q Q':α->Shared->Prop}(h:wpAny M A t Q E s)(hQ:∀a s,Q a s->Q' a s):wpAny M A t Q' E s:=cY h hQ λ_ _ x=>x
section
variable {X:Cx}
variable {pins:bE} {σ:St}
theorem bin{a b:Expr}{ta tb:TE}(ha:PE X a ta)(hb:PE X b tb){R:V->V->Hp->Prop}(I:Inv X pins σ H s)(h:ta σ H λx H1=>tb σ H1 λy H2=>R x y H2)
  {α:Type} {Q:α->Shared->Prop} {f:Value->Value->Sem α}
  (hf:∀v u s2 x y H2,Inv X pins σ H2 s2->RelV x v->RelV y u->R x y H2->wpAny (model X.prog X.w) X.A (f v u) Q X.xe s2) :
  wpAny (model X.prog X.w) X.A (eval a X.env) (λv s₁=>wpAny (model X.prog X.w) X.A (eval b X.env) (λu s₂=>wpAny (model X.prog X.w) X.A (f v u) Q X.xe s₂) X.xe s₁) X.xe s:=by
 refine aK (ha pins s σ H _ I h) λv s1 ⟨x,H1,I1,r1,q1⟩=>?_;refine aK (hb pins s1 σ H1 _ I1 q1) λu s2 ⟨y,H2,I2,r2,q2⟩=>?_;exact hf v u s2 x y H2 I2 r1 r2 q2
def lH(i:Nat):TE:=λσ H Q=>∃v,σ[i]?=some (some v)/\Q v H
def tC(v:V):TE:=λ_ H Q=>Q v H
variable {x:Str} {pos:Pos}
theorem Q6{i:Nat}(hN:X.N[i]?=some x)(hv:oW X.env.scope x)(hd:(x == ("__debug__":Str))=false:=by decide)(gi:(x == ("__classdict__":Str))=false:=by decide):PE X (.Name x pos) (lH i):=by
 intro pins s σ H Q I h;intros bn0 h v e h;obtain ⟨m,hn,hl⟩:=I.loc;obtain ⟨u,r,l⟩:=hl i x v hN e hv;have fin:EP X pins σ Q u s:=(ap v H I r h);rcases l with ⟨hk,hm⟩ | ⟨hk,c,hc,Bb⟩;·exact wpAny_Name (wpAny_loadName_local I.ok.kind hk hn hm fin) hd
 ·rcases hk with hk | hk
  ·exact wpAny_Name (wpAny_loadName_cell I.ok.kind hk hc Bb fin) hd
  ·exact wpAny_Name (wpAny_loadName_free I.ok.kind hk hc Bb fin gi) hd
theorem ah{i j pos}:PE X (.Constant (.int i) j pos) (tC (.int i)):=λ_ _ _ H _ I h=>wpAny_Constant_int ⟨.int i,H,I.tok _,⟨_,rfl⟩,h⟩
theorem fV{b j pos}:PE X (.Constant (.bool b) j pos) (tC (.bl b)):=λ_ _ _ H _ I h=>Constant_bool ⟨.bl b,H,I,rfl,h⟩
theorem oZ{j pos}:PE X (.Constant .none j pos) (tC .a9):=λ_ _ _ H _ I h=>Constant_none ⟨.a9,H,I,rfl,h⟩
theorem fk{x j pos}:PE X (.Constant (.str x) j pos) (tC (.str x)):=λ_ _ _ H _ I h=>Calls.Constant_str ⟨.str x,H,I.tok _,⟨_,rfl⟩,h⟩
def Gl(X:Cx)(x:Str):Prop:=X.env.kindOf x=some .globalImplicit
variable {Q:cQ}
theorem Bc{u:Value}(I:Inv X pins σ H s)(hg:Gl X x)(hm:X.mg x=some u)(h:Q u s)
  (hd:(x == ("__debug__":Str))=false:=by decide):wpAny (model X.prog X.w) X.A (eval (.Name x pos) X.env) Q E s:=
 Calls.Name_function_global I.ok.kind hg (Calls.loadGlobal_global (by rw [I.ok.glob];exact I.mod.glob.keeps I.bk) hm h) hd
theorem qp{u:Value}(I:Inv X pins σ H s)(hg:Gl X x)(hm:X.mg x=none)(hv:bootBuiltins x=some u)(h:Q u s)
  (hn:x ≠ "__name__":=by decide) (hd:(x == ("__debug__":Str))=false:=by decide):wpAny (model X.prog X.w) X.A (eval (.Name x pos) X.env) Q E s:=by
 obtain ⟨mb,h1,h2⟩:=I.mod.blt;exact Calls.Name_function_global I.ok.kind hg (Calls.loadGlobal_builtin (by rw [I.ok.glob];exact I.mod.glob.keeps I.bk) hm (by rw [I.ok.blt];exact h1.keeps I.bk) ((h2 x hn).trans hv) h) hd
variable {v:V}
theorem E1{u:Value}(hg:Gl X x)(hm:X.mg x=some u)(r:RelV v u)(hd:(x == ("__debug__":Str))=false:=by decide):PE X (.Name x pos) (tC v):=
 λ_ _ _ H _ I h=>Bc I hg hm (ap v H I r h) hd
theorem jd{u:Value}(hg:Gl X x)(hm:X.mg x=none)(hv:bootBuiltins x=some u)(r:RelV v u)(hn:x ≠ "__name__":=by decide)(hd:(x == ("__debug__":Str))=false:=by decide):PE X (.Name x pos) (tC v):=
 λ_ _ _ H _ I h=>qp I hg hm hv (ap v H I r h) hn hd
variable {a b:Expr} {ta tb:TE} {pos:Pos}
def PC(X:Cx)(op:CmpOp)(a b:Expr)(t:TE):Prop:=
 ∀(pins:bE) (s:Shared) (σ:St) (H:Hp) (Q:VK),Inv X pins σ H s->t σ H Q->
  wpAny (model X.prog X.w) X.A (eval a X.env) (λv s₁=>wpAny (model X.prog X.w) X.A (eval b X.env) (λu s₂=>wpAny (model X.prog X.w) X.A (compareOp op v u) (EP X pins σ Q) X.xe s₂) X.xe s₁) X.xe s
def tB(t:TE):TT:=λσ H Q=>t σ H λx H1=>∃c,x=.bl c/\Q c H1
variable {t:TE}
theorem acx{op:CmpOp}(h:PC X op a b t)(h1:behindInMarks op b=false:=by first | exact aff _ ∅ ∅ | rfl):PT X (.Compare a [op] [b] pos) (tB t):=by intro pins s σ H Q I hw;refine wpAny_isTrue_Compare1 (aK (h pins s σ H _ I hw) λv s1 h1=>aK h1 λu s2 h2=>aK h2 λc s3 ⟨x,H1,I1,r1,q1⟩=>?_) h1;obtain ⟨d,rfl,q⟩:=q1;cases r1;exact mR ⟨H1,I1,q⟩
theorem gj{e:Expr}(h:PE X e t)(he:∀whole,isTrue e X.env whole=(do let v <-whole;standAt e.pos;holding [v] (truthy v)):=by intro _;rfl):PT X e (tB t):=by
 intro pins s σ H Q I hw
 refine isTrue_plain (aK (h pins s σ H _ I hw) λv s1 ⟨x,H1,I1,r1,q1⟩=>?_) (he _)
 obtain ⟨d,rfl,q⟩:=q1
 cases r1
 exact mR ⟨H1,I1,q⟩
variable {tA Bd:TT} {rest:List Expr}
def Q7(t u:TT):TT:=λσ H Q=>t σ H λc H1=>if c=true then u σ H1 Q else Q false H1
def Q8(t u:TT):TT:=λσ H Q=>t σ H λc H1=>if c=true then Q true H1 else u σ H1 Q
def Q9(t:TT):TT:=λσ H Q=>t σ H λc H1=>Q (!c) H1
theorem pw_and1(ha:PT X a tA):PW X (.BoolOp .And [a] pos) tA:=by
 intro wh pins s σ H Q I h;refine isTrue_and (aK (ha pins s σ H Q I h) λc s1 e=>?_);cases c with
 | true=>exact isTrue_and_nil e
 | false=>exact e
theorem pw_or1(ha:PT X a tA):PW X (.BoolOp .Or [a] pos) tA:=by
 intro wh pins s σ H Q I h;refine isTrue_or (aK (ha pins s σ H Q I h) λc s1 e=>?_);cases c with
 | false=>exact isTrue_or_nil e
 | true=>exact e
theorem pw_and(ha:PT X a tA)(hb:PW X (.BoolOp .And (b::rest) pos) Bd):PW X (.BoolOp .And (a::b::rest) pos) (Q7 tA Bd):=by
 intro wh pins s σ H Q I h;refine isTrue_and (aK (ha pins s σ H _ I h) λc s1 ⟨H1,I1,q1⟩=>?_);cases c with
 | true=>exact hb wh pins s1 σ H1 Q I1 q1
 | false=>exact ⟨H1,I1,q1⟩
theorem pw_or(ha:PT X a tA)(hb:PW X (.BoolOp .Or (b::rest) pos) Bd):PW X (.BoolOp .Or (a::b::rest) pos) (Q8 tA Bd):=by
 intro wh pins s σ H Q I h;refine isTrue_or (aK (ha pins s σ H _ I h) λc s1 ⟨H1,I1,q1⟩=>?_);cases c with
 | true=>exact ⟨H1,I1,q1⟩
 | false=>exact hb wh pins s1 σ H1 Q I1 q1
theorem g_(ha:PT X a tA):PT X (.UnaryOp .Not a pos) (Q9 tA):=by intro pins s σ H Q I h;exact isTrue_not (ha pins s σ H (λc H1=>Q (!c) H1) I h)
def Q_(ta tb:TE):TE:=λσ H Q=>ta σ H λx H1=>∃c,x=.bl c/\if c=true then tb σ H1 Q else Q (.bl false) H1
def Rf(ta:TE):TE:=λσ H Q=>ta σ H λx H1=>∃c,x=.bl c/\Q (.bl (!c)) H1
theorem uV{op}(h:PE X a t):PE X (.BoolOp op [a] pos) t:=λpins s σ H Q I hw=>BoolOp_one (h pins s σ H Q I hw)
theorem m9(ha:PE X a ta)(hb:PE X (.BoolOp .And (b::rest) pos) tb):PE X (.BoolOp .And (a::b::rest) pos) (Q_ ta tb):=by
 intro pins s σ H Q I h;refine BoolOp_and (aK (ha pins s σ H _ I h) λv s1 ⟨x,H1,I1,r1,q1⟩=>?_);intros bn0 q1 c rfl q1;cases r1;refine mR ?_;cases c with
 | true=>exact hb pins s1 σ H1 Q I1 q1
 | false=>exact ⟨.bl false,H1,I1,rfl,q1⟩
theorem Ka(ha:PE X a ta):PE X (.UnaryOp .Not a pos) (Rf ta):=by intro pins s σ H Q I h;refine UnaryOp_ (aK (ha pins s σ H _ I h) λv s1 ⟨x,H1,I1,r1,q1⟩=>?_);obtain ⟨c,rfl,q1⟩:=q1;cases r1;exact not_of (mR ⟨.bl (!c),H1,I1,rfl,q1⟩)
end
def bG(K:aI)(H:Hp)(a:Addr)(xs:List V):Prop:=
 Rd H a (.lst xs) \/
  ∃(o:Obj) (av:Array Value) (n:Nat),K.lookup a=some o/\o.cls=.type "list"/\o.dict=none/\o.data=.seq av n/\av.size<=sizeLine/\Vals xs av.toList
def fE(K:aI)(H:Hp)(a:Addr)(xs:List V):Prop:=
 Rd H a (.tup xs) \/
  ∃(o:Obj) (av:Array Value) (n:Nat),K.lookup a=some o/\o.cls=.type "tuple"/\o.data=.seq av n/\av.size<=sizeLine/\Vals xs av.toList
def Rg:Value->Option V
 | .none=>some .a9
 | .bool b=>some (.bl b)
 | .int i _=>some (.int i)
 | .str x _=>some (.str x)
 | .bytes b _=>some (.j8 b)
 | .float b _=>some (.ql b)
 | .ref a=>some (.ref a)
 | .type n=>some (.ty n)
 | _=>none
variable {x:V}
theorem RelV.abs{u:Value}(r:RelV x u):Rg u=some x:=by
 cases x with
 | a9=>cases r;rfl
 | bl _=>cases r;rfl
 | int _=>obtain ⟨t,rfl⟩:=r;rfl
 | str _=>obtain ⟨t,rfl⟩:=r;rfl
 | j8 _=>obtain ⟨t,rfl⟩:=r;rfl
 | ql _=>obtain ⟨t,rfl⟩:=r;rfl
 | ref _=>cases r;rfl
 | ty _=>cases r;rfl
theorem RelV.inj{y:V}{u:Value}(r:RelV x u)(q:RelV y u):x=y:=Option.some.inj (r.abs.symm.trans q.abs)
theorem Vals.inj:∀{xs ys:List V} {us:List Value},Vals xs us->Vals ys us->xs=ys
 | _,_,_,.nil,.nil=>rfl
 | _,_,_,.cons r t,.cons r' t'=>by rw [r.inj r',Vals.inj t t']
section
variable {X:Cx} {pins:bE} {σ:St} {H:Hp} {s:Shared} {a:Addr} {xs ys:List V}
variable {K:aI}
theorem bG.of(h:H a=some (.lst xs)):bG K H a xs:=.inl (.inl h)
theorem fE.of(h:H a=some (.tup xs)):fE K H a xs:=.inl (.inl h)
theorem Inv.list(I:Inv X pins σ H s)(h:bG X.K H a xs):∃av:List Value,Vals xs av/\PlainL s.heap a av.toArray/\xs.length<=sizeLine:=by
 rcases h with h | ⟨o,av,n,hk,hc,hd,hs,hz,r⟩
 ·obtain ⟨z,av,n,r,e⟩:=h.ok I.aG
  exact (ad av r (i' _ n e rfl rfl rfl) z)
 ·refine (ad av.toList r ⟨o,n,I.d9 a o hk,hc,hd,by simpa using hs⟩ ?_)
  have e:=r.length;simp only [Array.length_toList] at e;lia
theorem Inv.tuple(I:Inv X pins σ H s)(h:fE X.K H a xs):∃av:List Value,Vals xs av/\IsTup s.heap a av.toArray/\xs.length<=sizeLine:=by
 rcases h with h | ⟨o,av,n,hk,hc,hs,hz,r⟩
 ·obtain ⟨z,av,r,p⟩:=h.ok I.aG
  exact (ad av r p z)
 ·refine (ad av.toList r ⟨o,I.d9 a o hk,hc,n,by simpa using hs⟩ ?_)
  have e:=r.length;simp only [Array.length_toList] at e;lia
theorem Inv.Be(I:Inv X pins σ H s)(h:bG X.K H a xs)(h':bG X.K H a ys):xs=ys:=by
 obtain ⟨av,r,⟨o,n,e,_,_,d⟩,_⟩:=I.list h;obtain ⟨its',r',⟨o',n',e',_,_,d'⟩,_⟩:=I.list h';rw [e] at e';cases e';rw [d] at d';injection d' with d1 _;have:av=its':=by simpa using gI Array.toList d1
 subst this;exact r.inj r'
theorem Inv.Rh(I:Inv X pins σ H s)(h:fE X.K H a xs)(h':fE X.K H a ys):xs=ys:=by
 obtain ⟨av,r,⟨o,e,_,n,d⟩,_⟩:=I.tuple h;obtain ⟨its',r',⟨o',e',_,n',d'⟩,_⟩:=I.tuple h';rw [e] at e';cases e';rw [d] at d';injection d' with d1 _;have:av=its':=by simpa using gI Array.toList d1
 subst this;exact r.inj r'
end
abbrev Cx.lI (X:Cx) (E:cQ):Cx:={X with xe:=E}
abbrev Cx.qr (X:Cx):Cx:=X.lI λ_ _=>False
theorem Cx.Ok.lI(ok:X.Ok)(E:cQ):(X.lI E).Ok:=
 ⟨ok.mod,ok.kind,ok.glob,ok.blt,ok.above,ok.inj,ok.has,ok.yI,ok.hd,ok.frames,ok.jy,ok.J1,ok.bs,ok.iO,ok.oX,ok.oY,ok.j9,ok.m7⟩
theorem Cx.Ok.o4(ok:(X.lI E).Ok):X.Ok:=
 ⟨ok.mod,ok.kind,ok.glob,ok.blt,ok.above,ok.inj,ok.has,ok.yI,ok.hd,ok.frames,ok.jy,ok.J1,ok.bs,ok.iO,ok.oX,ok.oY,ok.j9,ok.m7⟩
section
variable {X:Cx} {pins:bE} {σ:St} {H:Hp} {s:Shared} {E:cQ}
theorem Inv.lI(I:Inv X pins σ H s)(E:cQ):Inv (X.lI E) pins σ H s:=⟨I.ok.lI E,I.os,I.bare,I.base,I.loc,I.cell,I.free,I.jz,I.pin,I.aG,I.len⟩
theorem Inv.o4(I:Inv (X.lI E) pins σ H s):Inv X pins σ H s:=⟨I.ok.o4,I.os,I.bare,I.base,I.loc,I.cell,I.free,I.jz,I.pin,I.aG,I.len⟩
theorem SP.o4{D:Ends}{f:Flow}{s':Shared}(h:SP (X.lI E) pins D f s'):SP X pins D f s':=by
 cases f with
 | next=>obtain ⟨σ',H',I,q⟩:=h;exact ⟨σ',H',I.o4,q⟩
 | brk=>obtain ⟨σ',H',I,q⟩:=h;exact ⟨σ',H',I.o4,q⟩
 | cont=>obtain ⟨σ',H',I,q⟩:=h;exact ⟨σ',H',I.o4,q⟩
 | ret u=>intros bn13 h v σ' H' I r q;exact ⟨v,σ',H',I.o4,r,q⟩
theorem fU.qr{st:List Stmt}{t:TS}(h:fU X.qr st t):fU X st t:=λpins s σ H D I hw=>cY (h pins s σ H D (I.lI _) hw) (λ_ _ q=>q.o4) λ_ _ z=>False.elim z
end
section
variable {X:Cx} {st:Stmt} {rest:List Stmt} {t u:TS} {e:Expr} {te:TE} {pos:Pos}
def d5:TS:=λD σ H=>D.nx σ H
def E2(t u:TS):TS:=λD σ H=>t {D with nx:=u D} σ H
theorem bV:fU X [] d5:=λ_ _ σ H _ I h=>AQ ⟨σ,H,I,h⟩
theorem ak(h1:PS X st t)(h2:fU X rest u):fU X (st::rest) (E2 t u):=by
 intro pins s σ H D I h;refine wpAny_execs_cons (aK (h1 pins s σ H {D with nx:=u D} I h) λf s1 q=>?_);cases f with
 | next=>intros bn5 q σ' H' I' q;exact h2 pins s1 σ' H' D I' q
 | ret v=>exact q
 | brk=>exact q
 | cont=>exact q
theorem aw(h1:PS X st t):fU X [st] t:=by
 intro pins s σ H D I h;refine wpAny_execs_cons (aK (h1 pins s σ H D I h) λf s1 q=>?_);cases f with
 | next=>exact AQ q
 | ret v=>exact q
 | brk=>exact q
 | cont=>exact q
def Ri:TS:=λD σ H=>D.bk σ H
theorem Rj:PS X (.Break pos) Ri:=λ_ _ σ H _ I h=>wpAny_Break ⟨σ,H,I,h⟩
theorem Inv.quiet{pins:bE}{σ:St}(I:Inv X pins σ H s):interactive X.env=false:=by simp [interactive,I.ok.kind]
def Rk(te:TE):TS:=λD σ H=>te σ H λ_ H1=>D.nx σ H1
theorem E3(he:PE X e te)(hs:swapsWith e none pos.line X.env=pure false:=by rfl):PS X (.Expr e pos) (Rk te):=by intro pins s σ H D I h;exact wpAny_Expr_any (aK (he pins s σ H _ I h) λv s1 ⟨x,H1,I1,r1,q1⟩=>⟨σ,H1,I1,q1⟩) I.quiet hs
def Kb(te:TE):TS:=λD σ H=>te σ H D.rt
theorem aM(he:PE X e te):PS X (.Return (some e) pos) (Kb te):=by intro pins s σ H D I h;exact wpAny_Return_some (aK (he pins s σ H _ I h) λv s1 ⟨x,H1,I1,r1,q1⟩=>⟨x,σ,H1,I1,r1,q1⟩)
def Bf(c:TT)(t u:TS):TS:=λD σ H=>c σ H λb H1=>if b=true then t D σ H1 else u D σ H1
theorem bI{c:Expr}{a b:List Stmt}{tc:TT}(hc:PT X c tc)(ha:fU X a t)(hb:fU X b u):PS X (.If c a b pos) (Bf tc t u):=by
 intro pins s σ H D I h;refine wpAny_If (aK (hc pins s σ H _ I h) λd s1 ⟨H1,I1,q1⟩=>?_);cases d with
 | true=>exact ha pins s1 σ H1 D I1 q1
 | false=>exact hb pins s1 σ H1 D I1 q1
def Rl:TS:=λ_ _ _=>False
theorem Rn{Ro:List Stmt}:fU X Ro Rl:=λ_ _ _ _ _ _ h=>h.elim
end
abbrev TG:=V->St->Hp->(St->Hp->Prop)->Prop
abbrev qs:=List V->St->Hp->(St->Hp->Prop)->Prop
def PG(X:Cx)(target:Expr)(t:TG):Prop:=
 ∀(pins:bE) (s:Shared) (σ:St) (H:Hp) (v:V) (u:Value) (Q:St->Hp->Prop),Inv X pins σ H s->RelV v u->t v σ H Q->
  wpAny (model X.prog X.w) X.A (assign target X.env u) (λ_ s'=>∃σ' H',Inv X pins σ' H' s'/\Q σ' H') X.xe s
def Bg(X:Cx)(ts:List Expr)(t:qs):Prop:=
 ∀(pins:bE) (s:Shared) (σ:St) (H:Hp) (vs:List V) (us:List Value) (Q:St->Hp->Prop),Inv X pins σ H s->Vals vs us->t vs σ H Q->
  wpAny (model X.prog X.w) X.A (assignInOrder ((assignEach ts X.env).map (·.2)) us) (λ_ s'=>∃σ' H',Inv X pins σ' H' s'/\Q σ' H') X.xe s
abbrev yL:=V->V->V->Hp->(Hp->Prop)->Prop
def E4(X:Cx)(t:yL):Prop:=
 ∀(pins:bE) (s:Shared) (σ:St) (H:Hp) (o i v:V) (ov iv u:Value) (Q:Hp->Prop),Inv X pins σ H s->RelV o ov->RelV i iv->RelV v u->t o i v H Q->
  wpAny (model X.prog X.w) X.A (setItem ov iv u) (λ_ s'=>∃H',Inv X pins σ H' s'/\Q H') X.xe s
abbrev uX:=V->V->Hp->VK->Prop
def yM(X:Cx)(op:Operator)(t:uX):Prop:=
 ∀(pins:bE) (s:Shared) (σ:St) (H:Hp) (x y:V) (v u:Value) (Q:VK),Inv X pins σ H s->RelV x v->RelV y u->t x y H Q->
  wpAny (model X.prog X.w) X.A (inplaceOp op v u) (EP X pins σ Q) X.xe s
section
variable {X:Cx} {pos:Pos}
def bo(i:Nat):TG:=λv σ H Q=>Q (σ.set i (some v)) H
variable {i:Nat}
theorem fF{x:Str}(hN:X.N.Nodup)(hi:X.N[i]?=some x)(hx:Loc X.env.scope x)(hf:X.fn x=true\/X.env.scope.names.lookup x=some .local:=by first | exact .inl rfl | exact .inr rfl | assumption):PG X (.Name x pos) (bo i):=by intro pins s σ H v u Q I r h;exact wpAny_assign_Name (yK I hN hi hx r (λs' I'=>⟨_,H,I',h⟩) hf)
def E5:qs:=λvs σ H Q=>vs=[]/\Q σ H
def yN(t:TG)(u:qs):qs:=λvs σ H Q=>∃v r,vs=v::r/\t v σ H λσ' H'=>u r σ' H' Q
theorem Bh:Bg X [] E5:=by intro pins s σ H vs us Q I r h;obtain ⟨e,h⟩:=h;subst e;cases r;exact assignInOrder_nil ⟨σ,H,I,h⟩
variable {e:Expr} {es:List Expr}
theorem o5{t:TG}{u:qs}(h1:PG X e t)(h2:Bg X es u)
  (hs:(assignEach (e::es) X.env).map (·.2)=assign e X.env::(assignEach es X.env).map (·.2):=by rfl):Bg X (e::es) (yN t u):=by
 intro pins s σ H vs us Q I r h;intros bn5 h v vr e1 h;subst e1;cases r with
 | cons r rr=>rw [hs];refine assignInOrder_cons (aK (h1 pins s σ H _ _ _ I r h) λ_ s1 ⟨σ1,H1,I1,q1⟩=>?_);exact h2 pins s1 σ1 H1 _ _ Q I1 rr q1
def E6(K:aI)(n:Nat)(t:qs):TG:=λv σ H Q=>∃a xs,v=.ref a/\fE K H a xs/\xs.length=n/\t xs σ H Q
theorem Bi{k:Nat}{t:qs}{n:Nat}(hc:X.calm=true)(h:Bg X es t)
  (hn:(assignEach es X.env).length=n:=by rfl) (uY:(assignEach es X.env).findIdx? (·.1)=none:=by rfl):PG X (.Tuple es k pos) (E6 X.K n t):=by
 intro pins s σ H v u Q I r hw;intros bn10 hw a xs e1 hq hl hw;subst e1;cases r;obtain ⟨av,rv,ht,hz⟩:=I.tuple hq;refine assign_Tuple_tuple (I.ok.hd hc) ht (by simp [hn,<-hl,rv.length]) uY λh' hx=>?_
 have I1:Inv X pins σ H {s with heap:=h'}:=I.kept (t':=s.toks) λb o e=>hx b o (fA (cJ e)) e;exact h pins _ σ H xs _ Q I1 (by simpa using rv) hw
def Rp(to ti:TE)(t:yL):TG:=λv σ H Q=>to σ H λo H1=>ti σ H1 λi H2=>t o i v H2 λH3=>Q σ H3
theorem qt{o i:Expr}{to ti:TE}{t:yL}(ho:PE X o to)(hi:PE X i ti)(hs:E4 X t)
  (ha:∀v,assign (.Subscript o i pos) X.env v=(do
   let ov <-holding [v] (eval o X.env)
   let iv <-holding [v,ov] (eval i X.env)
   standAt pos
   holding [v,ov,iv] (setItem ov iv v)
   release [v,ov,iv] []):=by intro _;rfl):PG X (.Subscript o i pos) (Rp to ti t):=by
 intro pins s σ H v u Q I r h
 rw [ha]
 refine dh (wpAny_holding (aK (ho pins s σ H _ I h) λov s1 ⟨x,H1,I1,r1,q1⟩=>?_))
 refine dh (wpAny_holding (aK (hi pins s1 σ H1 _ I1 q1) λiv s2 ⟨y,H2,I2,r2,q2⟩=>?_))
 refine dh (yo (dh (wpAny_holding (aK (hs pins s2 σ H2 x y v ov iv u _ I2 r1 r2 r q2) λ_ s3 ⟨H3,I3,q3⟩=>?_))))
 exact wpAny_release ⟨σ,H3,I3,q3⟩
def m_(te:TE)(g:TG):TS:=λD σ H=>te σ H λx H1=>g x σ H1 D.nx
theorem qu{tg e:Expr}{te:TE}{g:TG}(he:PE X e te)(hg:PG X tg g)(hs:swapsWithSole [tg] e pos.line X.env=pure false:=by rfl)(hw:swappedStores [tg] e X.env=pure none:=by rfl)
  (h1:(assignEach [tg] X.env).map (·.2)=[assign tg X.env]:=by rfl):PS X (.Assign [tg] e pos) (m_ te g):=by
 intro pins s σ H D I h;refine wpAny_Assign_stores (aK (he pins s σ H _ I h) λv s1 ⟨x,H1,I1,r1,q1⟩=>?_) hs hw;rw [h1];exact aK (hg pins s1 σ H1 x v _ I1 r1 q1) λ_ s2 q=>q
variable {te:TE} {pos':Pos}
theorem Rq{x:Str}(hN:X.N.Nodup)(hi:X.N[i]?=some x)(hx:Loc X.env.scope x)(he:PE X e te)(hs:swapsWith e (some (.Name x pos')) pos.line X.env=pure false:=by rfl)(hf:X.fn x=true\/X.env.scope.names.lookup x=some .local:=by first | exact .inl rfl | exact .inr rfl | assumption) :
  PS X (.Assign [.Name x pos'] e pos) (m_ te (bo i)):=by
 intro pins s σ H D I h;refine wpAny_Assign_Name (aK (he pins s σ H _ I h) λv s1 ⟨y,H1,I1,r1,q1⟩=>?_) hs;exact yK I1 hN hi hx r1 (λs2 I2=>⟨_,H1,I2,q1⟩) hf
def Rr(i j:Nat)(ta:TA):TS:=λD σ H=>ta σ H λvs H1=>∃v w,vs=[v,w]/\D.nx ((σ.set i (some v)).set j (some w)) H1
theorem Kc{j:Nat}{x y:Str}{a b:Expr}{ta:TA}{px py pt:Pos}{kt k2 E7}(hc:X.calm=true)(hN:X.N.Nodup)(hi:X.N[i]?=some x)(hj:X.N[j]?=some y)(Rt:i≠j)
  (hx:X.env.scope.names.lookup x=some .local) (hy:X.env.scope.names.lookup y=some .local) (ha:PA X [a,b] ta)
  (hw:swappedStores [.Tuple [.Name x px,.Name y py] kt pt] (.Tuple [a,b] k2 E7) X.env=pure (some [x,y]))
  (hs:swapsWithSole [.Tuple [.Name x px,.Name y py] kt pt] (.Tuple [a,b] k2 E7) pos.line X.env=pure false:=by rfl) :
  PS X (.Assign [.Tuple [.Name x px,.Name y py] kt pt] (.Tuple [a,b] k2 E7) pos) (Rr i j ta):=by
 intro pins s σ H D I h
 rw [exec_Assign_arm]
 refine dh (yo ?_)
 rw [hs]
 refine dh (fB ?_)
 rw [ao ∅]
 refine dh (Tuple_ (aK (ha _ pins s σ H _ I h) λus s1 ⟨vs,H1,I1,r1,q1⟩=>?_))
 intros bn5 q1 v w e1 q1
 subst e1
 obtain ⟨u1,u2,rfl,rv,qv⟩:∃u1 u2,us=[u1,u2]/\RelV v u1/\RelV w u2:=by
  cases r1 with
  | cons p q=>
   cases q with
   | cons p' q'=>
    cases q'
    exact (ap _ _ rfl p p')
 refine yp ?_ (by show 2<=sizeLine;decide)
 have I2:Inv X pins σ H1 {s1 with heap:=s1.heap.push {cls:=.type "tuple",data:=.seq [u1,u2].toArray}}:=I1.kept (t':=s1.toks) λb o e=>dU _ e
 rw [hw]
 refine dh (fB ?_)
 show wpAny (model X.prog X.w) X.A (do rule "assign.swapped-stores";let items <-unpackItems (.ref s1.heap.objs.size) 2 none;assignInOrder [λv=>bindName X.env y v,λv=>bindName X.env x v] items.reverse;pure Flow.next) _ _ _
 refine dh (wpAny_rule (dh (unpackItems_tuple (items:=#[u1,u2]) (I.ok.hd hc) (IsTup.new s1.heap _) λh' E8=>?_)))
 have I3:=I2.kept (h':=h') (t':=s1.toks) λb o e=>E8 b o (fA (cJ e)) e
 show wpAny _ _ (assignInOrder [λv=>bindName X.env y v,λv=>bindName X.env x v] [u2,u1] >>= λ_=>pure Flow.next) _ _ _
 refine dh (assignInOrder_cons (wpAny_bindName (yK I3 hN hj (.inl hy) qv (λs2 I4=>?_) (.inr hy))))
 refine assignInOrder_cons (wpAny_bindName (yK I4 hN hi (.inl hx) rv (λs3 I5=>assignInOrder_nil (fB ?_)) (.inr hx)))
 rw [List.set_comm _ _ (Ne.symm Rt)] at I5
 exact ⟨_,H1,I5,q1⟩
def Ru(i:Nat)(te:TE)(ti:uX):TS:=λD σ H=>∃x,σ[i]?=some (some x)/\te σ H λy H1=>ti x y H1 λz H2=>D.nx (σ.set i (some z)) H2
theorem Bj{x:Str}{op:Operator}{ti:uX}(hN:X.N.Nodup)(hi:X.N[i]?=some x)(hx:Loc X.env.scope x)(he:PE X e te)(ho:yM X op ti)(hf:X.fn x=true\/X.env.scope.names.lookup x=some .local:=by first | exact .inl rfl | exact .inr rfl | assumption) :
  PS X (.AugAssign (.Name x pos') op e pos) (Ru i te ti):=by
 intro pins s σ H D I h;intros bn0 h v e1 h;obtain ⟨m,hn,hl⟩:=I.loc;have Rv:oW X.env.scope x:=by rcases hx with k | k;exact .inl k;exact .inr (.inl k)
 obtain ⟨u,r,l⟩:=hl i x v hi e1 Rv;refine wpAny_AugAssign_Name ?_;have go:wpAny (model X.prog X.w) X.A (eval e X.env) (λw s₂=>wpAny (model X.prog X.w) X.A (inplaceOp op u w) (λr s₃=>wpAny (model X.prog X.w) X.A (storeName X.env x r) (λ_=>SP X pins D .next) X.xe s₃) X.xe s₂) X.xe s:=by refine aK (he pins s σ H _ I h) λw s1 ⟨y,H1,I1,r1,q1⟩=>?_;refine aK (ho pins s1 σ H1 v y u w _ I1 r r1 q1) λz s2 ⟨zv,H2,I2,r2,q2⟩=>?_;exact yK I2 hN hi hx r2 (λs3 I3=>⟨_,H2,I3,q2⟩) hf
 rcases l with ⟨hk,hm⟩ | ⟨hk,c,hc,Bb⟩;·exact wpAny_loadName_local I.ok.kind hk hn hm go
 ·rcases hk with hk | hk
  ·exact wpAny_loadName_cell I.ok.kind hk hc Bb go
  ·rcases hx with k | k
   ·have:X.env.scope.names.lookup x=some .free:=hk
    rw [k] at this;cases this
   ·have:X.env.scope.names.lookup x=some .free:=hk
    rw [k] at this;cases this
def Rw(to ti te:TE)(Bk:V->V->Hp->VK->Prop)(Bl:uX)(Bm:yL):TS:=λD σ H=>to σ H λo H1=>ti σ H1 λi H2=>Bk o i H2 λx H3=>te σ H3 λy H4=>Bl x y H4 λz H5=>Bm o i z H5 λH6=>D.nx σ H6
def Kd(X:Cx)(t:V->V->Hp->VK->Prop):Prop:=
 ∀(pins:bE) (s:Shared) (σ:St) (H:Hp) (o i:V) (ov iv:Value) (Q:VK),Inv X pins σ H s->RelV o ov->RelV i iv->t o i H Q->
  wpAny (model X.prog X.w) X.A (getItem ov iv) (EP X pins σ Q) X.xe s
theorem Rx{o i e:Expr}{to ti te:TE}{Bk:V->V->Hp->VK->Prop}{Bl:uX}{Bm:yL}{op:Operator}{uZ:Pos}(ho:PE X o to)(hi:PE X i ti)(hg:Kd X Bk)(he:PE X e te)(hp:yM X op Bl)(hs:E4 X Bm)
  (ha:∀ov iv new,augStore i ov iv new=(do holding [new,ov,iv] (setItem ov iv new);release [new,ov,iv] [];pure .next):=by intros;rfl):PS X (.AugAssign (.Subscript o i uZ) op e pos) (Rw to ti te Bk Bl Bm):=by
 intro pins s σ H D I h
 refine wpAny_AugAssign_SubscriptAny (aK (ho pins s σ H _ I h) λov s1 ⟨x1,H1,I1,r1,q1⟩=>?_) ha
 refine aK (hi pins s1 σ H1 _ I1 q1) λiv s2 ⟨x2,H2,I2,r2,q2⟩=>?_
 refine aK (hg pins s2 σ H2 x1 x2 ov iv _ I2 r1 r2 q2) λold s3 ⟨x3,H3,I3,r3,q3⟩=>?_
 refine aK (he pins s3 σ H3 _ I3 q3) λv s4 ⟨x4,H4,I4,r4,q4⟩=>?_
 refine aK (hp pins s4 σ H4 x3 x4 old v _ I4 r3 r4 q4) λnew s5 ⟨x5,H5,I5,r5,q5⟩=>?_
 exact aK (hs pins s5 σ H5 x1 x2 x5 ov iv new _ I5 r1 r2 r5 q5) λ_ s6 ⟨H6,I6,q6⟩=>⟨σ,H6,I6,q6⟩
def Ke(f:Int->Int->Int):uX:=λx y H Q=>∃i j,x=.int i/\y=.int j/\Q (.int (f i j)) H
theorem Kf:yM X .Add (Ke λi j=>i+j):=by intro pins s σ H x y v u Q I r1 r2 h;intros bn9 h i j e1 e2 q;subst e1;subst e2;obtain ⟨t,rfl⟩:=r1;obtain ⟨t',rfl⟩:=r2;exact iadd_int ⟨.int _,H,I.tok _,⟨_,rfl⟩,q⟩
theorem Kg:yM X .Sub (Ke λi j=>i-j):=by intro pins s σ H x y v u Q I r1 r2 h;intros bn9 h i j e1 e2 q;subst e1;subst e2;obtain ⟨t,rfl⟩:=r1;obtain ⟨t',rfl⟩:=r2;exact isub_int ⟨.int _,H,I.tok _,⟨_,rfl⟩,q⟩
end
section
variable {X:Cx} {pos:Pos}
def Ry(c:TT)(tb:TS):TS:=λD σ H=>∃W:Nat->St->Hp->Prop,(∃m,W m σ H)/\∀m σ H,W m σ H->
 c σ H λb H1=>if b=true then ∃N:St->Hp->Prop,(∀σ' H',N σ' H'->∃m',m'<m/\W m' σ' H')/\tb {D with nx:=N,ct:=N,bk:=D.nx} σ H1 else D.nx σ H1
theorem ni{c:Expr}{body:List Stmt}{tc:TT}{tb:TS}(hp:PassesOwn (model X.prog X.w) X.A X.env X.xe)(hc:PT X c tc)(hb:fU X body tb):PS X (.While c body [] pos) (Ry tc tb):=by
 intro pins s σ H D I h;obtain ⟨W,⟨m0,w0⟩,turn⟩:=h;refine wpAny_While (codeAny_whileLoop (λn s'=>∃σ' H',Inv X pins σ' H' s'/\W n σ' H') ?_ m0 ⟨σ,H,I,w0⟩);intro n s1;intros bn5 _ σ1 H1 I1 w1;refine qf hp (aK (hc pins s1 σ1 H1 _ I1 (turn n σ1 H1 w1)) λb s2 ⟨H2,I2,q2⟩=>?_);cases b with
 | true=>
  intros bn0 q2 N hN q2;rw [aq rfl];refine qf hp (aK (hb pins s2 σ1 H2 _ I2 q2) λf s3 q3=>?_);cases f with
  | next=>intros bn5 q3 σ3 H3 I3 n3;obtain ⟨m',hm,w3⟩:=hN σ3 H3 n3;exact ⟨m',hm,σ3,H3,I3,w3⟩
  | cont=>intros bn5 q3 σ3 H3 I3 n3;obtain ⟨m',hm,w3⟩:=hN σ3 H3 n3;exact ⟨m',hm,σ3,H3,I3,w3⟩
  | brk=>exact q3
  | ret v=>exact q3
 | false=>rw [ao dW];exact AQ ⟨σ1,H2,I2,q2⟩
end
structure It where
 go:Nat->Hp->Prop
 fW:Nat->Hp->V->Hp->Prop
 stop:Nat->Hp->Prop
def lJ(X:Cx)(pins:bE)(H:Hp)(b:Addr):Prop:=
 H b=none/\b≠X.env.locals/\b∉X.fs/\(b∈X.ex\/X.s₀.heap.objs.size<=b)/\(∀x c,X.env.cells.lookup x=some c->c≠b)/\∀p∈X.pn++pins,p.1≠b
variable {σ:St}
theorem Inv.u5{pins:bE}{H':Hp}(I:Inv X pins σ H s)(hb:s.heap.objs.size<=b)(hn:H' b=none):lJ X pins H' b:=by
 refine ⟨hn,Nat.ne_of_gt (eU I.lt hb),I.Q1 hb,.inr (af I.sz hb),λx c e z=>?_,λp hp z=>?_⟩
 ·obtain ⟨v,q⟩:=I.cell x c e
  exact absurd (eU q.lt (by rw [z];exact hb)) (ib _)
 ·exact absurd (eU (cJ (I.pin p hp).1) (by rw [z];exact hb)) (ib _)
structure Turn (P:Program) (w:World) (K:aI) (tg:Expr) (J:It) (fp:List Addr) (it:Addr) (tn:Nat->Heap->Prop):Prop where
 mem:it∈fp
 obj:∀i h,tn i h->∀b∈fp,∃o,h.get? b=some o/\∀v,o.data≠.cell v
 keep:∀i h h',tn i h->(∀b∈fp,∀o,h.get? b=some o->h'.get? b=some o)->tn i h'
 item:∀(X:Cx),X.prog=P->X.w=w->X.K=K->X.calm=true->∀(i:Nat) (pins:bE) (s:Shared) (σ:St) (H:Hp) (E:cQ),Inv X pins σ H s->(∀b∈fp,lJ X pins H b)->tn i s.heap->J.go i H->
  wpAny (model P w) X.A (pyNext (.ref it)) (λr s1=>∃u,r=some u /\
   wpAny (model P w) X.A (letOwnedTupleGo tg (.ref it) u) (λ_ s2=>∃x H',Inv X pins σ H' s2/\RelV x u/\J.fW i H x H'/\tn (i+1) s2.heap/\∀b∈fp,H' b=none) E s1) E s
 done:∀(X:Cx),X.prog=P->X.w=w->X.K=K->X.calm=true->∀(i:Nat) (pins:bE) (s:Shared) (σ:St) (H:Hp) (E:cQ),Inv X pins σ H s->(∀b∈fp,lJ X pins H b)->tn i s.heap->J.stop i H->
  wpAny (model P w) X.A (pyNext (.ref it)) (λr s1=>r=none/\Inv X pins σ H s1) E s
 self:∀(A:Around) (i:Nat) (s:Shared) (Q:cQ) (E:cQ),tn i s.heap->Q (.ref it) s->wpAny (model P w) A (pyIter (.ref it)) Q E s
abbrev TI:=St->Hp->(It->Hp->Prop)->Prop
def E9(X:Cx)(pins:bE)(σ:St)(tg:Expr)(R:It->Hp->Prop)(u6:Value)(s2:Shared):Prop:=
 ∃(it:Addr) (fp:List Addr) (tn:Nat->Heap->Prop) (J:It) (H':Hp),u6=.ref it/\Inv X pins σ H' s2/\Turn X.prog X.w X.K tg J fp it tn/\tn 0 s2.heap/\(∀b∈fp,lJ X pins H' b)/\R J H'
def PI(X:Cx)(tg iter:Expr)(wi:TI):Prop:=
 ∀(pins:bE) (s:Shared) (σ:St) (H:Hp) (R:It->Hp->Prop),Inv X pins σ H s->wi σ H R->
  wpAny (model X.prog X.w) X.A (eval iter X.env) (λv s1=>wpAny (model X.prog X.w) X.A (pyIter v) (E9 X pins σ tg R) X.xe s1) X.xe s
variable {tg:Expr}
theorem Bn{it:Addr}{u:Value}{o:Obj}{n:String}{vs:Array Value}{Q:Unit->Shared->Prop}(ho:s.heap.get? it=some o)(hc:o.cls=.type n)(hd:o.data=.fields vs)
    (hn:["enumerate","zip","dict_itemiterator","dict_reverseitemiterator","odict_iterator","itertools.zip_longest","itertools.pairwise"].contains n=false) (hQ:Q () s):wpAny M A (letOwnedTupleGo tg (.ref it) u) Q E s:=by
  unfold letOwnedTupleGo
  cases tg <;> first
    | exact fB hQ
    | (cases u <;> first
        | exact fB hQ
        | (refine dh (wpAny_load ho ?_)
           rw [hc,hd];show wpAny M A (if (["enumerate","zip","dict_itemiterator","dict_reverseitemiterator","odict_iterator","itertools.zip_longest","itertools.pairwise"].contains n && vs[0]? == some (rawInt _))=true then _ else _) Q E s
           rw [ao (by intro h;rw [hn,Bool.false_and] at h;cases h)]
           exact fB hQ))
def u7(K:aI)(a:Addr):It:=
 ⟨λi H=>∃xs x,bG K H a xs/\xs[i]?=some x,λi H x H'=>H'=H/\∀xs,bG K H a xs->xs[i]?=some x,λi H=>∃xs,bG K H a xs/\xs.length<=i⟩
def yO(K:aI)(a:Addr):It:=
 ⟨λi H=>∃xs x,fE K H a xs/\xs[i]?=some x,λi H x H'=>H'=H/\∀xs,fE K H a xs->xs[i]?=some x,λi H=>∃xs,fE K H a xs/\xs.length<=i⟩
def o6(lo:Int)(n:Nat):It:=⟨λi _=>i<n,λi H x H'=>H'=H/\x=.int (lo+i),λi _=>n<=i⟩
variable {K:aI}
theorem Rz(a it:Addr):Turn P w K tg (u7 K a) [it] it (λi h=>h.IsListIter it a i) where
 mem:=by simp
 obj:=λi h st b hb=>by
  have e:b=it:=by simpa using hb
  subst e;intros bn4 st o e c d;exact ⟨o,e,λv z=>by rw [d] at z;cases z⟩
 keep:=λi h h' st k=>st.at λo e=>k it (by simp) o e
 item:=by
  intro X hP hw hK hc i pins s σ H E I hf st hg;subst hP hw hK;intros bn5 hg xs x hq hx;obtain ⟨av,rv,p,hz⟩:=I.list hq;obtain ⟨u,hu,ru⟩:=rv.get hx;obtain ⟨f0,f1,f2,f3,f4,f5⟩:=hf it (by simp)
  refine wpAny_pyNext_list_item st p.isList (x:=u) (by simpa using hu) λh' kz sb=>?_
  have I1:Inv X pins σ H {s with heap:=h'}:=I.turned (t':=s.toks) (λb o hb e=>(sb.2 b hb).trans e) f0 f1 f3 f4 f5;obtain ⟨o,e,c,d⟩:=id kz;exact (ac u rfl (Bn (s:={s with heap:=h'}) e c d ∅ (jp x H I1 ru ⟨rfl,λys hy=>by rw [I.Be hy hq];exact hx⟩ kz (λb hb=>(hf b hb).1))))
 done:=by
  intro X hP hw hK hc i pins s σ H E I hf st hg;subst hP hw hK;intros bn0 hg xs hq hx;obtain ⟨av,rv,p,hz⟩:=I.list hq;obtain ⟨f0,f1,f2,f3,f4,f5⟩:=hf it (by simp)
  have hl:=rv.length;exact wpAny_pyNext_list_end (I.ok.hd hc) st p.isList (by simp;lia) λh' eb=>⟨rfl,I.turned (t':=s.toks) (λb o hb e=>eb b o hb e) f0 f1 f3 f4 f5⟩
 self:=λ_ _ _ _ _ st h=>wpAny_pyIter_listiter st h
theorem RA(a it:Addr):Turn P w K tg (yO K a) [it] it (λi h=>h.IsTupleIter it a i) where
 mem:=by simp
 obj:=λi h st b hb=>by
  have e:b=it:=by simpa using hb
  subst e;intros bn4 st o e c d;exact ⟨o,e,λv z=>by rw [d] at z;cases z⟩
 keep:=λi h h' st k=>st.at λo e=>k it (by simp) o e
 item:=by
  intro X hP hw hK hc i pins s σ H E I hf st hg;subst hP hw hK;intros bn5 hg xs x hq hx;obtain ⟨av,rv,p,hz⟩:=I.tuple hq;obtain ⟨u,hu,ru⟩:=rv.get hx;obtain ⟨f0,f1,f2,f3,f4,f5⟩:=hf it (by simp)
  refine wpAny_pyNext_tuple_item st (show s.heap.IsTuple a av.toArray from p) (x:=u) (by simpa using hu) λh' kz sb=>?_
  have I1:Inv X pins σ H {s with heap:=h'}:=I.turned (t':=s.toks) (λb o hb e=>(sb.2 b hb).trans e) f0 f1 f3 f4 f5;obtain ⟨o,e,c,d⟩:=id kz;exact (ac u rfl (Bn (s:={s with heap:=h'}) e c d ∅ (jp x H I1 ru ⟨rfl,λys hy=>by rw [I.Rh hy hq];exact hx⟩ kz (λb hb=>(hf b hb).1))))
 done:=by
  intro X hP hw hK hc i pins s σ H E I hf st hg;subst hP hw hK;intros bn0 hg xs hq hx;obtain ⟨av,rv,p,hz⟩:=I.tuple hq;obtain ⟨f0,f1,f2,f3,f4,f5⟩:=hf it (by simp)
  have hl:=rv.length;exact wpAny_pyNext_tuple_end (I.ok.hd hc) st (show s.heap.IsTuple a av.toArray from p) (by simp;lia) λh' eb=>⟨rfl,I.turned (t':=s.toks) (λb o hb e=>eb b o hb e) f0 f1 f3 f4 f5⟩
 self:=λ_ _ _ _ _ st h=>wpAny_pyIter_tupleiter st h
theorem RC(it:Addr)(lo:Int)(n:Nat):Turn P w K tg (o6 lo n) [it] it (λi h=>IsRangeIter h it (lo+(i:Nat)*1) ((n:Int)-(i:Nat)) 1) where
 mem:=by simp
 obj:=λi h st b hb=>by
  have e:b=it:=by simpa using hb
  subst e;exact ⟨_,st,λv z=>by have z':Data.fields _=Data.cell v:=z;cases z'⟩
 keep:=λi h h' st k=>k it (by simp) _ st
 item:=by
  intro X hP hw hK hc i pins s σ H E I hf st hg;subst hP hw hK;obtain ⟨f0,f1,f2,f3,f4,f5⟩:=hf it (by simp)
  have W:=Walks.range (prog:=X.prog) (w:=X.w) (I.ok.hd hc) it lo 1 n;refine W.item i s _ _ hg st λv h' tk hv kz kk=>?_;obtain ⟨t,rfl⟩:=hv;have I1:Inv X pins σ H {s with heap:=h',toks:=tk}:=I.turned (λb o hb e=>kk b o (by simpa using hb) e) f0 f1 f3 f4 f5
  refine (ac _ rfl (Bn (s:={s with heap:=h',toks:=tk}) (n:="range_iterator") kz rfl rfl ∅ (jp (.int (lo+i)) H I1 ⟨t,?_⟩ ⟨rfl,rfl⟩ kz (λb hb=>(hf b hb).1))))
  rw [dC]
 done:=by
  intro X hP hw hK hc i pins s σ H E I hf st hg;subst hP hw hK;obtain ⟨f0,f1,f2,f3,f4,f5⟩:=hf it (by simp)
  exact wpAny_pyNext_range_end (I.ok.hd hc) st (by have:n<=i:=hg;lia) λh' eb=>⟨rfl,I.turned (t':=s.toks) (λb o hb e=>eb b o hb e) f0 f1 f3 f4 f5⟩
 self:=λ_ _ _ _ _ st h=>wpAny_pyIter_rangeiter st h
section
variable {X:Cx} {tg:Expr}
def RD(K:aI)(tl:TE):TI:=λσ H R=>tl σ H λx H1=>∃a,x=.ref a/\(∃xs,bG K H1 a xs)/\R (u7 K a) H1
def RE(K:aI)(tl:TE):TI:=λσ H R=>tl σ H λx H1=>∃a,x=.ref a/\(∃xs,fE K H1 a xs)/\R (yO K a) H1
variable {l:Expr} {tl:TE}
theorem nj(hl:PE X l tl):PI X tg l (RD X.K tl):=by
 intro pins s σ H R I h;refine aK (hl pins s σ H _ I h) λv s1 ⟨x,H1,I1,r1,q1⟩=>?_;obtain ⟨a,e,⟨xs,hq⟩,q⟩:=q1;subst e;cases r1;obtain ⟨av,rv,p,hz⟩:=I1.list hq;refine wpAny_pyIter_list p.isList ?_;refine ⟨s1.heap.objs.size,[s1.heap.objs.size],_,_,H1,rfl,I1.kept (t':=s1.toks) λb o e=>dU _ e,Rz a _,(ad _ (iI _ rfl) rfl rfl),λb hb=>?_,q⟩;have e:b=s1.heap.objs.size:=by simpa using hb
 subst e;exact I1.u5 (aL _) (I1.aG.fresh (aL _))
theorem RF(hl:PE X l tl):PI X tg l (RE X.K tl):=by
 intro pins s σ H R I h;refine aK (hl pins s σ H _ I h) λv s1 ⟨x,H1,I1,r1,q1⟩=>?_;obtain ⟨a,e,⟨xs,hq⟩,q⟩:=q1;subst e;cases r1;obtain ⟨av,rv,p,hz⟩:=I1.tuple hq;refine wpAny_pyIter_tuple (show s1.heap.IsTuple a av.toArray from p) ?_;refine ⟨s1.heap.objs.size,[s1.heap.objs.size],_,_,H1,rfl,I1.kept (t':=s1.toks) λb o e=>dU _ e,RA a _,(ad _ (iI _ rfl) rfl rfl),λb hb=>?_,q⟩;have e:b=s1.heap.objs.size:=by simpa using hb
 subst e;exact I1.u5 (aL _) (I1.aG.fresh (aL _))
variable {pins:bE}
theorem RH{R:It->Hp->Prop}{lo hi:Int}{t u v:Tok}{tk:Nat}(I:Inv X pins σ H s)(h1:-(2 ^ 62)<=lo)(h2:lo<2 ^ 62)(h3:-(2 ^ 62)<=hi)(h4:hi<2 ^ 62)
  (q:R (o6 lo (hi-lo).toNat) H):wpAny (model X.prog X.w) X.A (pyIter (.ref s.heap.objs.size)) (E9 X pins σ tg R) E {s with heap:=s.heap.push {cls:=.type "range",data:=.fields #[.int lo t,.int hi u,.int 1 v]},toks:=tk}:=by
 refine wpAny_pyIter_range (IsRange.new ..) (small_one h1 h2 h3 h4) ?_;have I1:Inv X pins σ H {s with heap:=s.heap.push {cls:=.type "range",data:=.fields #[.int lo t,.int hi u,.int 1 v]},toks:=tk}:=I.kept λb o e=>dU _ e
 refine ⟨(s.heap.push {cls:=.type "range",data:=.fields #[.int lo t,.int hi u,.int 1 v]}).objs.size,[(s.heap.push {cls:=.type "range",data:=.fields #[.int lo t,.int hi u,.int 1 v]}).objs.size],_,_,H,rfl,
  I1.kept (t':=tk) λb o e=>dU _ e,RC _ lo (hi-lo).toNat,?_,λb hb=>?_,q⟩
 ·have e1:lo+((0:Nat):Int)*1=lo:=by simp
  have e2:(((hi-lo).toNat:Nat):Int)-((0:Nat):Int)=Builtin.Range.rangeSize lo hi 1:=by rw [rangeSize_one];split <;> lia
  show IsRangeIter _ _ (lo+((0:Nat):Int)*1) ((((hi-lo).toNat:Nat):Int)-((0:Nat):Int)) 1;rw [e1,e2];exact iI _ rfl
 ·have e:b=(s.heap.push {cls:=.type "range",data:=.fields #[.int lo t,.int hi u,.int 1 v]}).objs.size:=by simpa using hb
  subst e;exact I1.u5 (aL _) (I1.aG.fresh (aL _))
def RI(ta:TA):TI:=λσ H R=>ta σ H λvs H1=>∃j:Int,vs=[.int j]/\-(2 ^ 62)<=j/\j<2 ^ 62/\R (o6 0 j.toNat) H1
variable {pos:Pos}
theorem iq{a:Expr}{ta:TA}{p:Pos}(hg:Gl X "range")(hm:X.mg "range"=none)(ha:PA X [a] ta)(hs:starEach [a] X.env=[(false,eval a X.env)]:=by rfl):PI X tg (.Call (.Name "range" p) [a] [] pos) (RI ta):=by
 intro pins s σ H R I h;refine Call_ (qp I hg hm boot_range (yq (aK (ha pos pins s σ H _ I h) λus s1 ⟨vs,H1,I1,r1,q1⟩=>?_) hs rfl));intros bn8 q1 j e q1 q2 q;subst e;cases r1 with
 | cons r rr=>cases rr;obtain ⟨t,rfl⟩:=r;exact call_range_1 (RH I1 ⋯ ⋯ q1 q2 (by simpa using q))
def RJ(wi:TI)(g:TG)(tb:TS):TS:=λD σ H=>wi σ H λJ H1=>∃W:Nat->Nat->St->Hp->Prop,(∃m,W 0 m σ H1)/\∀i m σ H,W i m σ H->
 (J.stop i H/\D.nx σ H)\/(J.go i H/\∃N:St->Hp->Prop,(∀σ' H',N σ' H'->∃m',m'<m/\W (i+1) m' σ' H')/\∀x H',J.fW i H x H'->g x σ H' λσ2 H2=>tb {D with nx:=N,ct:=N,bk:=D.nx} σ2 H2)
def j_(fp:List Addr)(h:Heap):List (Addr×Obj):=fp.filterMap λb=>(h.get? b).map λo=>(b,o)
variable {fp:List Addr}
theorem lK{o:Obj}(hb:b∈fp)(e:h.get? b=some o):(b,o)∈j_ fp h:=List.mem_filterMap.mpr (ac b hb (by rw [e];rfl))
theorem RK{p:Addr×Obj}(hp:p∈j_ fp h):p.1∈fp/\h.get? p.1=some p.2:=by
 obtain ⟨b,hb,e⟩:=List.mem_filterMap.mp hp;cases q:h.get? b with
 | none=>rw [q] at e;cases e
 | some o=>rw [q] at e;have e':(b,o)=p:=Option.some.inj e;subst e';exact ⟨hb,q⟩
theorem Inv.pinned(I:Inv X pins σ H s)(hf:∀b∈fp,lJ X pins H b)(ho:∀b∈fp,∃o,s.heap.get? b=some o/\∀v,o.data≠.cell v):Inv X (pins++j_ fp s.heap) σ H s:=
 I.J4 λp hp=>(i7.mp hp).elim (λz=>I.pin p (eW _ z)) λz=>by obtain ⟨hb,e⟩:=RK z;obtain ⟨f0,f1,f2,_⟩:=hf p.1 hb;obtain ⟨o,e',d⟩:=ho p.1 hb;rw [e] at e';cases e';exact ⟨e,f0,f1,f2,d⟩
theorem Inv.qw{pl:bE}(I:Inv X (pins++pl) σ H s):Inv X pins σ H s:=I.J4 λp hp=>I.pin p (eW _ (List.mem_append_left _ hp))
theorem jA{iter:Expr}{body:List Stmt}{wi:TI}{g:TG}{tb:TS}(hp:PassesOwn (model X.prog X.w) X.A X.env X.xe)(hc:X.calm=true)(hi:PI X tg iter wi)(hg:PG X tg g)(hb:fU X body tb)
  (hs:∀x,foldedSetIterable iter X.env x=pure x:=by intro _;rfl):PS X (.For tg iter body [] pos) (RJ wi g tb):=by
 intro pins s σ H D I h;refine wpAny_For (aK (hi pins s σ H _ I h) λv s1 h1=>aK h1 λu6 s2 h2=>?_) hs;intros bn31 h2 it fp tn J H2 e I2 T hE f2 bn0 W q'52 turn;obtain ⟨m0,w0⟩:=q'52;subst e;have gk:∀{H':Hp},(∀b∈fp,H' b=none)->∀b∈fp,lJ X pins H' b:=λhn b hb=>⟨hn b hb,(f2 b hb).2⟩;refine codeAny_forLoop_any (λn s'=>∃i σ' H',Inv X pins σ' H' s'/\tn i s'.heap/\(∀b∈fp,H' b=none)/\W i n σ' H') ?_ m0 ⟨0,σ,H2,I2,hE,λb hb=>(f2 b hb).1,w0⟩;intro n s3;intros bn18 _ i σ3 H3 I3 Kh Ki w3;rcases turn i n σ3 H3 w3 with ⟨stop,qn⟩ | ⟨go,N,hN,step⟩
 ·refine qf hp (aK (T.done X rfl rfl rfl hc i pins s3 σ3 H3 X.xe I3 (gk Ki) Kh stop) λr s4 ⟨hr,I4⟩=>?_)
  subst hr;exact AQ ⟨σ3,H3,I4,qn⟩
 ·refine qf hp (aK (T.item X rfl rfl rfl hc i pins s3 σ3 H3 X.xe I3 (gk Ki) Kh go) λr s4 ⟨u,hr,h4⟩=>?_)
  subst hr;refine qf hp (aK h4 λ_ s5 ⟨x,H5,I5,r5,y5,gq,nq⟩=>?_);have ny:=I5.pinned (gk nq) (T.obj _ _ gq);refine qf hp (aK (hg _ s5 σ3 H5 x u _ ny r5 (step x H5 y5)) λ_ s6 ⟨σ6,H6,I6,q6⟩=>?_);refine qf hp (aK (hb _ s6 σ6 H6 _ I6 q6) λf s7 q7=>?_);have again:∀{σ7:St} {H7:Hp},Inv X (pins++j_ fp s5.heap) σ7 H7 s7->N σ7 H7->∃m,m<n/\∃i σ' H',Inv X pins σ' H' s7/\tn i s7.heap/\(∀b∈fp,H' b=none)/\W i m σ' H':=fun{σ7 H7} I7 n7=>by obtain ⟨m',hm,w7⟩:=hN σ7 H7 n7;refine ⟨m',hm,i+1,σ7,H7,I7.qw,T.keep _ _ _ gq λb hb o e=>(I7.pin (b,o) (eW _ (eW _ (lK hb e)))).1,λb hb=>?_,w7⟩;obtain ⟨o,e,d⟩:=T.obj _ _ gq b hb;exact (I7.pin (b,o) (eW _ (eW _ (lK hb e)))).2.1
  cases f with
  | next=>intros bn5 q7 σ7 H7 I7 n7;exact again I7 n7
  | cont=>intros bn5 q7 σ7 H7 I7 n7;exact again I7 n7
  | brk=>intros bn5 q7 σ7 H7 I7 q7;exact ⟨σ7,H7,I7.qw,q7⟩
  | ret v=>intros bn13 q7 x7 σ7 H7 I7 r7 q7;exact ⟨x7,σ7,H7,I7.qw,r7,q7⟩
end
variable {g:TG} {tb:TS} {D:Ends}
theorem RL{a:Addr}(Pv:Nat->St->Hp->Prop)(h0:Pv 0 σ H)(hl:∀i σ H,i<=xs.length->Pv i σ H->bG K H a xs)
  (hs:∀i x σ H,xs[i]?=some x->Pv i σ H->g x σ H λσ2 H2=>tb {D with nx:=Pv (i+1),ct:=Pv (i+1),bk:=D.nx} σ2 H2) (hd:∀σ H,Pv xs.length σ H->D.nx σ H) :
  ∃W:Nat->Nat->St->Hp->Prop,(∃m,W 0 m σ H)/\∀i m σ H,W i m σ H->
   ((u7 K a).stop i H/\D.nx σ H)\/((u7 K a).go i H/\∃N:St->Hp->Prop,(∀σ' H',N σ' H'->∃m',m'<m/\W (i+1) m' σ' H')/\∀x H',(u7 K a).fW i H x H'->g x σ H' λσ2 H2=>tb {D with nx:=N,ct:=N,bk:=D.nx} σ2 H2):=by
 refine (ac (λi m σ H=>m=xs.length-i/\i<=xs.length/\Pv i σ H) ⟨xs.length,by simp,cn _,h0⟩ ?_)
 rintro i m σ H ⟨rfl,hi,p⟩;have q:=hl i σ H hi p;by_cases cZ:i<xs.length
 ·refine .inr ⟨⟨xs,xs[i],q,by simp [cZ]⟩,Pv (i+1),λσ' H' p'=>⟨xs.length-(i+1),⋯,rfl,cZ,p'⟩,λx H' y=>?_⟩
  obtain ⟨e,y⟩:=y;subst e;exact hs i x σ _ (y xs q) p
 ·have e:i=xs.length:=by lia
  subst e;exact .inl ⟨⟨xs,q,aL _⟩,hd σ H p⟩
theorem RN{a:Addr}(Pv:Nat->St->Hp->Prop)(h0:Pv 0 σ H)(hl:∀i σ H,i<=xs.length->Pv i σ H->fE K H a xs)
  (hs:∀i x σ H,xs[i]?=some x->Pv i σ H->g x σ H λσ2 H2=>tb {D with nx:=Pv (i+1),ct:=Pv (i+1),bk:=D.nx} σ2 H2) (hd:∀σ H,Pv xs.length σ H->D.nx σ H) :
  ∃W:Nat->Nat->St->Hp->Prop,(∃m,W 0 m σ H)/\∀i m σ H,W i m σ H->
   ((yO K a).stop i H/\D.nx σ H)\/((yO K a).go i H/\∃N:St->Hp->Prop,(∀σ' H',N σ' H'->∃m',m'<m/\W (i+1) m' σ' H')/\∀x H',(yO K a).fW i H x H'->g x σ H' λσ2 H2=>tb {D with nx:=N,ct:=N,bk:=D.nx} σ2 H2):=by
 refine (ac (λi m σ H=>m=xs.length-i/\i<=xs.length/\Pv i σ H) ⟨xs.length,by simp,cn _,h0⟩ ?_)
 rintro i m σ H ⟨rfl,hi,p⟩;have q:=hl i σ H hi p;by_cases cZ:i<xs.length
 ·refine .inr ⟨⟨xs,xs[i],q,by simp [cZ]⟩,Pv (i+1),λσ' H' p'=>⟨xs.length-(i+1),⋯,rfl,cZ,p'⟩,λx H' y=>?_⟩
  obtain ⟨e,y⟩:=y;subst e;exact hs i x σ _ (y xs q) p
 ·have e:i=xs.length:=by lia
  subst e;exact .inl ⟨⟨xs,q,aL _⟩,hd σ H p⟩
variable {n:Nat}
theorem nC{lo:Int}(Pv:Nat->St->Hp->Prop)(h0:Pv 0 σ H)
  (hs:∀i σ H,i<n->Pv i σ H->g (.int (lo+i)) σ H λσ2 H2=>tb {D with nx:=Pv (i+1),ct:=Pv (i+1),bk:=D.nx} σ2 H2) (hd:∀σ H,Pv n σ H->D.nx σ H) :
  ∃W:Nat->Nat->St->Hp->Prop,(∃m,W 0 m σ H)/\∀i m σ H,W i m σ H->
   ((o6 lo n).stop i H/\D.nx σ H)\/((o6 lo n).go i H/\∃N:St->Hp->Prop,(∀σ' H',N σ' H'->∃m',m'<m/\W (i+1) m' σ' H')/\∀x H',(o6 lo n).fW i H x H'->g x σ H' λσ2 H2=>tb {D with nx:=N,ct:=N,bk:=D.nx} σ2 H2):=by
 refine (ac (λi m σ H=>m=n-i/\i<=n/\Pv i σ H) ⟨n,by simp,cn _,h0⟩ ?_)
 rintro i m σ H ⟨rfl,hi,p⟩;by_cases cZ:i<n
 ·refine .inr ⟨cZ,Pv (i+1),λσ' H' p'=>⟨n-(i+1),⋯,rfl,cZ,p'⟩,λx H' y=>?_⟩
  obtain ⟨e,y⟩:=y;subst e y;exact hs i σ _ cZ p
 ·have e:i=n:=by lia
  subst e;exact .inl ⟨aL _,hd σ H p⟩
abbrev R2:=V->V->Hp->VK->Prop
def c_(X:Cx)(f:Value->Value->Sem Value)(r:R2):Prop:=
 ∀(pins:bE) (s:Shared) (σ:St) (H:Hp) (x y:V) (v u:Value) (Q:VK),Inv X pins σ H s->RelV x v->RelV y u->r x y H Q->
  wpAny (model X.prog X.w) X.A (f v u) (EP X pins σ Q) X.xe s
def E_(X:Cx)(f:Value->Sem Value)(r:V->Hp->VK->Prop):Prop:=
 ∀(pins:bE) (s:Shared) (σ:St) (H:Hp) (x:V) (v:Value) (Q:VK),Inv X pins σ H s->RelV x v->r x H Q->
  wpAny (model X.prog X.w) X.A (f v) (EP X pins σ Q) X.xe s
def lL(X:Cx)(f:Value)(r:List V->Hp->VK->Prop):Prop:=
 ∀(pins:bE) (s:Shared) (σ:St) (H:Hp) (xs:List V) (us:List Value) (Q:VK),Inv X pins σ H s->Vals xs us->r xs H Q->
  wpAny (model X.prog X.w) X.A (call f us) (EP X pins σ Q) X.xe s
def qx(r:R2)(ta tb:TE):TE:=λσ H Q=>ta σ H λx H1=>tb σ H1 λy H2=>r x y H2 Q
def RO(r:V->Hp->VK->Prop)(ta:TE):TE:=λσ H Q=>ta σ H λx H1=>r x H1 Q
def rI(C:Int->Int->Prop)(g:Int->Int->V):R2:=λx y H Q=>∃i j,x=.int i/\y=.int j/\C i j/\Q (g i j) H
def o7(g:Int->Int->V):R2:=λx y H Q=>∃i j,x=.int i/\y=.int j/\Q (g i j) H
def rU(g:Int->V):V->Hp->VK->Prop:=λx H Q=>∃i,x=.int i/\Q (g i) H
section
variable {X:Cx} {a b c:Expr} {ta tb tc:TE} {pos:Pos}
variable {f:Value->Value->Sem Value}
theorem Fc(ha:PE X a ta)(hb:PE X b tb){pins:bE}{R:V->V->Hp->Prop}(I:Inv X pins σ H s)
  (h:ta σ H λx H1=>tb σ H1 λy H2=>R x y H2) {Q:cQ}
  (hf:∀v u s2 x y H2,Inv X pins σ H2 s2->RelV x v->RelV y u->R x y H2->wpAny (model X.prog X.w) X.A (f v u) Q X.xe s2) :
  wpAny (model X.prog X.w) X.A (eval a X.env) (λv s₁=>wpAny (model X.prog X.w) X.A (eval b X.env) (λu s₂=>wpAny (model X.prog X.w) X.A (f v u) Q X.xe s₂) X.xe s₁) X.xe s:=by
 refine aK (ha pins s σ H _ I h) λv s1 ⟨x,H1,I1,r1,q1⟩=>?_;refine aK (hb pins s1 σ H1 _ I1 q1) λu s2 ⟨y,H2,I2,r2,q2⟩=>?_;exact hf v u s2 x y H2 I2 r1 r2 q2
theorem aA{op:Operator}{r:R2}(ho:c_ X (binaryOp op) r)(ha:PE X a ta)(hb:PE X b tb):PE X (.BinOp a op b pos) (qx r ta tb):=by intro pins s σ H Q I h;exact wpAny_BinOp (Fc ha hb I h λv u s2 x y H2 I2 rx ry q=>ho pins s2 σ H2 x y v u Q I2 rx ry q)
theorem je{op:UnaryOp}{r:V->Hp->VK->Prop}(ho:E_ X (unaryOp op) r)(ha:PE X a ta):PE X (.UnaryOp op a pos) (RO r ta):=by intro pins s σ H Q I h;exact UnaryOp_ (aK (ha pins s σ H _ I h) λv s1 ⟨x,H1,I1,r1,q1⟩=>ho pins s1 σ H1 x v Q I1 r1 q1)
theorem qy{C:Int->Int->Prop}{g:Int->Int->Int}
  (rule:∀(i j:Int) (t u:Tok) (s:Shared) (Q:cQ) (E:cQ),C i j->Q (.int (g i j) s.toks) {s with toks:=s.toks+1}->wpAny (model X.prog X.w) X.A (f (.int i t) (.int j u)) Q E s) :
  c_ X f (rI C λi j=>.int (g i j)):=by
 intro pins s σ H x y v u Q I rx ry h;intros bn10 h i j rfl rfl hc q;obtain ⟨t,rfl⟩:=rx;obtain ⟨t',rfl⟩:=ry;exact rule i j t t' s _ _ hc ⟨.int (g i j),H,I.tok _,⟨_,rfl⟩,q⟩
theorem Kj{g:Int->Int->Int}
  (rule:∀(i j:Int) (t u:Tok) (s:Shared) (Q:cQ) (E:cQ),Q (.int (g i j) s.toks) {s with toks:=s.toks+1}->wpAny (model X.prog X.w) X.A (f (.int i t) (.int j u)) Q E s) :
  c_ X f (o7 λi j=>.int (g i j)):=by
 intro pins s σ H x y v u Q I rx ry h;intros bn9 h i j rfl rfl q;obtain ⟨t,rfl⟩:=rx;obtain ⟨t',rfl⟩:=ry;exact rule i j t t' s _ _ ⟨.int (g i j),H,I.tok _,⟨_,rfl⟩,q⟩
theorem Bo{g:Int->Int->Bool}
  (rule:∀(i j:Int) (t u:Tok) (s:Shared) (Q:cQ) (E:cQ),Q (.bool (g i j)) s->wpAny (model X.prog X.w) X.A (f (.int i t) (.int j u)) Q E s) :
  c_ X f (o7 λi j=>.bl (g i j)):=by
 intro pins s σ H x y v u Q I rx ry h;intros bn9 h i j rfl rfl q;obtain ⟨t,rfl⟩:=rx;obtain ⟨t',rfl⟩:=ry;exact rule i j t t' s _ _ ⟨.bl (g i j),H,I,rfl,q⟩
def RP(i j:Int):Prop:=0<j/\j<1073741824
def RQ(i j:Int):Prop:=0<=j/\j<=1000000/\i.natAbs<2 ^ 64
def Fd(i j:Int):Prop:=(-(2 ^ 64)<i/\i<2 ^ 64)\/(-(2 ^ 64)<j/\j<2 ^ 64)
theorem Fd.ok{i j:Int}(h:Fd i j):IntMulOk i j:=by
 rcases h with ⟨h1,h2⟩ | ⟨h1,h2⟩;·exact .of_left (intBits_le_64 h1 h2)
 ·exact .of_right (intBits_le_64 h1 h2)
theorem eF:c_ X (binaryOp .Add) (o7 λi j=>.int (i+j)):=Kj λ_ _ _ _ _ _ _ q=>add_int q
theorem eZ:c_ X (binaryOp .Sub) (o7 λi j=>.int (i-j)):=Kj λ_ _ _ _ _ _ _ q=>sub_int q
theorem hJ:c_ X (binaryOp .Mult) (rI Fd λi j=>.int (i*j)):=qy λ_ _ _ _ _ _ _ hc q=>mul_int q hc.ok
theorem RR:c_ X (binaryOp .FloorDiv) (rI RP λi j=>.int (i / j)):=qy λi j _ _ _ _ _ hc q=>by have h1:(0:Int)<j:=hc.1;have h2:j<1073741824:=hc.2;exact floordiv_int ⋯ (by rw [yr i ⋯];exact q) (.inl (PyProof.noPylong_small ⋯))
theorem fX:c_ X (binaryOp .Mod) (rI (λ_ j=>0<j) λi j=>.int (i % j)):=qy λi j _ _ _ _ _ hc q=>by have h1:(0:Int)<j:=hc;exact mod_int' ⋯ (by rw [Int.fmod_eq_emod_of_nonneg i ⋯];exact q)
theorem Fe:c_ X (binaryOp .Pow) (rI RQ λi j=>.int (i ^ j.toNat)):=qy λ_ _ _ _ _ _ _ hc q=>pow_int_small hc.1 hc.2.1 hc.2.2 q
theorem RT{f:Value->Sem Value}{g:Int->Int}
  (rule:∀(i:Int) (t:Tok) (s:Shared) (Q:cQ) (E:cQ),Q (.int (g i) s.toks) {s with toks:=s.toks+1}->wpAny (model X.prog X.w) X.A (f (.int i t)) Q E s) :
  E_ X f (rU λi=>.int (g i)):=by
 intro pins s σ H x v Q I rx h;intros bn0 h i rfl q;obtain ⟨t,rfl⟩:=rx;exact rule i t s _ _ ⟨.int (g i),H,I.tok _,⟨_,rfl⟩,q⟩
theorem jf:E_ X (unaryOp .USub) (rU λi=>.int (-i)):=RT λ_ _ _ _ _ q=>neg_int q
end
def Ff:V->V->Bool
 | .a9,.a9=>true | .a9,.int _=>true | .int _,.a9=>true | .a9,.bl _=>true | .bl _,.a9=>true | .a9,.str _=>true | .str _,.a9=>true
 | .int _,.int _=>true | .bl _,.bl _=>true | .str _,.str _=>true | .j8 _,.j8 _=>true
 | .int _,.str _=>true | .str _,.int _=>true | .bl _,.str _=>true | .str _,.bl _=>true
 | _,_=>false
def Kk:R2:=λx y H Q=>Ff x y=true/\Q (.bl (decide (x=y))) H
def Kl:R2:=λx y H Q=>Ff x y=true/\Q (.bl (!decide (x=y))) H
theorem Km{i j:Int}:decide (V.int i=V.int j)=(i == j):=by rw [yt];simp
theorem Kn{i j:Bool}:decide (V.bl i=V.bl j)=(i == j):=by rw [yt];simp
theorem Ko{i j:Str}:decide (V.str i=V.str j)=(i == j):=by rw [yt];simp
theorem Kp{i j:Array UInt8}:decide (V.j8 i=V.j8 j)=(i.toList == j.toList):=by rw [yt];cases i;cases j;simp
section
variable {X:Cx} {a b c:Expr} {ta tb tc:TE} {pos:Pos}
theorem dB{pins:bE}{Q:VK}{k k':Bool}(I:Inv X pins σ H s)(q:Q (.bl k) H)(e:k=k'):EP X pins σ Q (.bool k') s:=by subst e;exact ⟨.bl k,H,I,rfl,q⟩
theorem eI:c_ X (compareOp .Eq) Kk:=by
 intro pins s σ H x y v u Q I rx ry h;obtain ⟨hs,q⟩:=h;cases x with
 | a9=>
  cases rx;cases y with
  | a9=>cases ry;exact PySem.EqNone.eq_none_none (dB I q (by simp))
  | bl j=>cases ry;exact PySem.EqNone.eq_none_bool (dB I q (by simp))
  | int j=>obtain ⟨t',rfl⟩:=ry;exact PySem.EqNone.eq_none_int (dB I q (by simp))
  | str j=>obtain ⟨t',rfl⟩:=ry;exact PySem.EqNone.eq_none_str (dB I q (by simp))
  | _=>exact absurd (show false=true from hs) dW
 | bl i=>
  cases rx;cases y with
  | a9=>cases ry;exact PySem.EqNone.eq_bool_none (dB I q (by simp))
  | bl j=>cases ry;exact eq_bool (dB I q Kn)
  | str j=>obtain ⟨t',rfl⟩:=ry;exact PySem.EqMixed.eq_bool_str (dB I q (by simp))
  | _=>exact absurd (show false=true from hs) dW
 | int i=>
  obtain ⟨t,rfl⟩:=rx;cases y with
  | a9=>cases ry;exact PySem.EqNone.eq_int_none (dB I q (by simp))
  | int j=>obtain ⟨t',rfl⟩:=ry;exact eq_int (dB I q Km)
  | str j=>obtain ⟨t',rfl⟩:=ry;exact PySem.EqMixed.eq_int_str (dB I q (by simp))
  | _=>exact absurd (show false=true from hs) dW
 | str i=>
  obtain ⟨t,rfl⟩:=rx;cases y with
  | a9=>cases ry;exact PySem.EqNone.eq_str_none (dB I q (by simp))
  | bl j=>cases ry;exact PySem.EqMixed.eq_str_bool (dB I q (by simp))
  | int j=>obtain ⟨t',rfl⟩:=ry;exact PySem.EqMixed.eq_str_int (dB I q (by simp))
  | str j=>obtain ⟨t',rfl⟩:=ry;exact eq_str (dB I q Ko)
  | _=>exact absurd (show false=true from hs) dW
 | j8 i=>
  obtain ⟨t,rfl⟩:=rx;cases y with
  | j8 j=>obtain ⟨t',rfl⟩:=ry;exact PySem.W.eq_bytes (dB I q Kp)
  | _=>exact absurd (show false=true from hs) dW
 | _=>cases y <;> exact absurd (show false=true from hs) dW
theorem jB:c_ X (compareOp .NotEq) Kl:=by
 intro pins s σ H x y v u Q I rx ry h;obtain ⟨hs,q⟩:=h;cases x with
 | a9=>
  cases rx;cases y with
  | a9=>cases ry;exact PySem.EqNone.ne_none_none (dB I q (by simp))
  | bl j=>cases ry;exact PySem.EqNone.ne_none_bool (dB I q (by simp))
  | int j=>obtain ⟨t',rfl⟩:=ry;exact PySem.EqNone.ne_none_int (dB I q (by simp))
  | str j=>obtain ⟨t',rfl⟩:=ry;exact PySem.EqNone.ne_none_str (dB I q (by simp))
  | _=>exact absurd (show false=true from hs) dW
 | bl i=>
  cases rx;cases y with
  | a9=>cases ry;exact PySem.EqNone.ne_bool_none (dB I q (by simp))
  | bl j=>cases ry;exact ne_bool (dB I q (gI not Kn))
  | str j=>obtain ⟨t',rfl⟩:=ry;exact PySem.EqMixed.ne_bool_str (dB I q (by simp))
  | _=>exact absurd (show false=true from hs) dW
 | int i=>
  obtain ⟨t,rfl⟩:=rx;cases y with
  | a9=>cases ry;exact PySem.EqNone.ne_int_none (dB I q (by simp))
  | int j=>obtain ⟨t',rfl⟩:=ry;exact ne_int (dB I q (gI not Km))
  | str j=>obtain ⟨t',rfl⟩:=ry;exact PySem.EqMixed.ne_int_str (dB I q (by simp))
  | _=>exact absurd (show false=true from hs) dW
 | str i=>
  obtain ⟨t,rfl⟩:=rx;cases y with
  | a9=>cases ry;exact PySem.EqNone.ne_str_none (dB I q (by simp))
  | bl j=>cases ry;exact PySem.EqMixed.ne_str_bool (dB I q (by simp))
  | int j=>obtain ⟨t',rfl⟩:=ry;exact PySem.EqMixed.ne_str_int (dB I q (by simp))
  | str j=>obtain ⟨t',rfl⟩:=ry;exact ne_str (dB I q (gI not Ko))
  | _=>exact absurd (show false=true from hs) dW
 | j8 i=>
  obtain ⟨t,rfl⟩:=rx;cases y with
  | j8 j=>obtain ⟨t',rfl⟩:=ry;exact PySem.W.ne_bytes (dB I q (gI not Kp))
  | _=>exact absurd (show false=true from hs) dW
 | _=>cases y <;> exact absurd (show false=true from hs) dW
theorem jC:c_ X (compareOp .Lt) (o7 λi j=>.bl (decide (i<j))):=Bo λ_ _ _ _ _ _ _ q=>lt_int q
theorem u9:c_ X (compareOp .LtE) (o7 λi j=>.bl (decide (i<=j))):=Bo λ_ _ _ _ _ _ _ q=>le_int q
theorem ka:c_ X (compareOp .Gt) (o7 λi j=>.bl (decide (j<i))):=Bo λ_ _ _ _ _ _ _ q=>gt_int q
theorem Bp:c_ X (compareOp .GtE) (o7 λi j=>.bl (decide (j<=i))):=Bo λ_ _ _ _ _ _ _ q=>ge_int q
theorem Fg:c_ X (compareOp .Is) (λx y H Q=>y=.a9/\Q (.bl (decide (x=.a9))) H):=by
 intro pins s σ H x y v u Q I rx ry h;obtain ⟨rfl,q⟩:=h;cases ry;refine is_none_gen (dB I q ?_)
 cases x <;> first
  | (cases rx;rfl)
  | (obtain ⟨t,rfl⟩:=rx;rfl)
theorem RV:c_ X (compareOp .IsNot) (λx y H Q=>y=.a9/\Q (.bl (!decide (x=.a9))) H):=by
 intro pins s σ H x y v u Q I rx ry h;obtain ⟨rfl,q⟩:=h;cases ry;refine isnot_none_gen (dB I q ?_)
 cases x <;> first
  | (cases rx;rfl)
  | (obtain ⟨t,rfl⟩:=rx;rfl)
variable {op:CmpOp}
theorem Bq(b:Expr)(h:op≠.In:=by decide)(h2:op≠.NotIn:=by decide):behindInMarks op b=false:=by
 have e1:(op == CmpOp.In)=false:=by cases op <;> first | rfl | exact absurd rfl h
 have e2:(op == CmpOp.NotIn)=false:=by cases op <;> first | rfl | exact absurd rfl h2
 cases b <;> simp [behindInMarks,e1,e2]
variable {r:R2}
theorem RX(ho:c_ X (compareOp op) r)(ha:PE X a ta)(hb:PE X b tb)(hm:behindInMarks op b=false):PE X (.Compare a [op] [b] pos) (qx r ta tb):=by intro pins s σ H Q I h;exact wpAny_Compare1 (Fc ha hb I h λv u s2 x y H2 I2 rx ry q=>ho pins s2 σ H2 x y v u Q I2 rx ry q) hm
theorem nF{a:Expr}(ho:c_ X (compareOp op) r)(ha:PE X a ta)(hb:PE X b tb)(hm:behindInMarks op b=false:=by exact Bq _):PE X (.Compare a [op] [b] pos) (qx r ta tb):=RX ho ha hb hm
def Fh(t:TE):TT:=λσ H Q=>t σ H λx H'=>∃k,x=.bl k/\Q k H'
theorem Fi{op:CmpOp}{r:R2}(ho:c_ X (compareOp op) r)(ha:PE X a ta)(hb:PE X b tb)(hm:behindInMarks op b=false):PT X (.Compare a [op] [b] pos) (Fh (qx r ta tb)):=by intro pins s σ H Q I h;refine wpAny_isTrue_Compare1 (aK (ha pins s σ H _ I h) λv s1 ⟨x,H1,I1,r1,q1⟩=>aK (hb pins s1 σ H1 _ I1 q1) λu s2 ⟨y,H2,I2,r2,q2⟩=>aK (ho pins s2 σ H2 x y v u _ I2 r1 r2 q2) λc s3 ⟨z,H3,I3,r3,k,e,q3⟩=>?_) hm;subst e;cases r3;exact mR ⟨H3,I3,q3⟩
theorem aX{a:Expr}(ho:c_ X (compareOp op) r)(ha:PE X a ta)(hb:PE X b tb)(hm:behindInMarks op b=false:=by exact Bq _):PT X (.Compare a [op] [b] pos) (Fh (qx r ta tb)):=Fi ho ha hb hm
def Kq(r r':R2)(ta tb tc:TE):TE:=λσ H Q=>ta σ H λx H1=>tb σ H1 λy H2=>r x y H2 λz H3=>∃k,z=.bl k /\
 (if k=true then tc σ H3 λw' H4=>r' y w' H4 Q else Q (.bl false) H3)
variable {qz:CmpOp} {r':R2}
theorem Kr(ho:c_ X (compareOp op) r)(ky:c_ X (compareOp qz) r')(ha:PE X a ta)(hb:PE X b tb)(hc:PE X c tc)
  (hm:lastMarks [op,qz] [b,c]=false:=by with_unfolding_all rfl):PE X (.Compare a [op,qz] [b,c] pos) (Kq r r' ta tb tc):=by
 intro pins s σ H Q I h;refine Compare_chain (aK (ha pins s σ H _ I h) λv s1 ⟨x,H1,I1,r1,q1⟩=>chain_link (aK (hb pins s1 σ H1 _ I1 q1) λu s2 ⟨y,H2,I2,r2,q2⟩=>aK (ho pins s2 σ H2 x y v u _ I2 r1 r2 q2) λd s3 ⟨z,H3,I3,r3,k,e,q3⟩=>?_)) hm;subst e;cases r3;refine mR ?_;cases k with
 | false=>exact ite_ff ⟨.bl false,H3,I3,rfl,q3⟩
 | true=>exact ite_tt (chain_last (aK (hc pins s3 σ H3 _ I3 q3) λw' s4 ⟨z',H4,I4,r4,q4⟩=>ky pins s4 σ H4 y z' u w' Q I4 r2 r4 q4))
theorem RY(ho:c_ X (compareOp op) r)(ky:c_ X (compareOp qz) r')(ha:PE X a ta)(hb:PE X b tb)(hc:PE X c tc)
  (hm:lastMarks [op,qz] [b,c]=false:=by with_unfolding_all rfl):PT X (.Compare a [op,qz] [b,c] pos) (Fh (Kq r r' ta tb tc)):=by
 intro pins s σ H Q I h;refine isTrue_chain (aK (ha pins s σ H _ I h) λv s1 ⟨x,H1,I1,r1,q1⟩=>test_link (aK (hb pins s1 σ H1 _ I1 q1) λu s2 ⟨y,H2,I2,r2,q2⟩=>aK (ho pins s2 σ H2 x y v u _ I2 r1 r2 q2) λd s3 ⟨z,H3,I3,r3,k,e,q3⟩=>?_)) hm;subst e;cases r3;refine mR ?_;cases k with
 | false=>intros bn0 q3 k' e' q';cases e';exact ite_ff ⟨H3,I3,q'⟩
 | true=>refine ite_tt (test_last (aK (hc pins s3 σ H3 _ I3 q3) λw' s4 ⟨z',H4,I4,r4,q4⟩=>aK (ky pins s4 σ H4 y z' u w' _ I4 r2 r4 q4) λd' s5 ⟨z2,H5,I5,r5,k2,e2,q5⟩=>?_));subst e2;cases r5;exact mR ⟨H5,I5,q5⟩
theorem yP:(sizeLine:Nat)<2 ^ 63:=by rw [sizeLine_eq];decide
theorem vals1(r:Vals [x] us):∃u,us=[u]/\RelV x u:=by
 cases r with
 | cons r1 r2=>cases r2;exact (ac _ rfl r1)
theorem vals2{y:V}(r:Vals [x,y] us):∃u w',us=[u,w']/\RelV x u/\RelV y w':=by
 cases r with
 | cons r1 r2=>
  cases r2 with
  | cons r3 r4=>cases r4;exact (ap _ _ rfl r1 r3)
theorem Br:lL X (.builtin "abs") (λxs H Q=>∃i,xs=[.int i]/\Q (.int (if i<0 then -i else i)) H):=by intro pins s σ H xs us Q I r h;intros bn0 h i rfl q;obtain ⟨u,rfl,t,rfl⟩:=vals1 r;exact call_abs_int λu tk=>⟨.int (if i<0 then -i else i),H,I.tok _,⟨_,rfl⟩,q⟩
theorem Ks(hc:X.calm=true):lL X (.builtin "max") (λxs H Q=>∃i j,xs=[.int i,.int j]/\Q (.int (if j>i then j else i)) H):=by
 intro pins s σ H xs us Q I r h;intros bn5 h i j rfl q;obtain ⟨u,w',rfl,⟨t,rfl⟩,⟨t',rfl⟩⟩:=vals2 r;refine max_two_ints (I.ok.hd hc) λh' tk k=>(ap _ H (I.kept k) ?_ q);by_cases hj:j>i;·rw [aq hj,aq hj];exact ⟨_,rfl⟩
 ·rw [ao hj,ao hj];exact ⟨_,rfl⟩
theorem RZ(hc:X.calm=true):lL X (.builtin "min") (λxs H Q=>∃i j,xs=[.int i,.int j]/\Q (.int (if j<i then j else i)) H):=by
 intro pins s σ H xs us Q I r h;intros bn5 h i j rfl q;obtain ⟨u,w',rfl,⟨t,rfl⟩,⟨t',rfl⟩⟩:=vals2 r;refine min_two_ints (I.ok.hd hc) λh' tk k=>(ap _ H (I.kept k) ?_ q);by_cases hj:j<i;·rw [aq hj,aq hj];exact ⟨_,rfl⟩
 ·rw [ao hj,ao hj];exact ⟨_,rfl⟩
theorem Kt:lL X (.type "int") (λxs H Q=>(∃i,xs=[.int i]/\Q (.int i) H)\/∃k,xs=[.bl k]/\Q (.int (if k then 1 else 0)) H):=by
 intro pins s σ H xs us Q I r h;rcases h with ⟨i,rfl,q⟩ | ⟨k,rfl,q⟩
 ·obtain ⟨u,rfl,t,rfl⟩:=vals1 r
  exact call_int_int ⟨.int i,H,I,⟨_,rfl⟩,q⟩
 ·obtain ⟨u,rfl,r1⟩:=vals1 r
  cases r1;exact call_int_bool ⟨.int (if k then 1 else 0),H,I.tok _,⟨_,rfl⟩,q⟩
end
structure qA (h:Heap) (x dx C:Addr) (mA:dX):Prop where
 obj:h.get? x=some (PySem.W.instObj C dx)
 ns:h.Ns1 dx mA
 ne:dx≠x
variable {dx:Addr} {mA:dX}
theorem R0(n:h.Ns1 dx mA):∃od,h.get? dx=some od/\∀name,PySem.W.lookIn name od=some (mA name):=by
 intros bn2 n o es bn15 ep ho hd hk _ hm;refine ⟨o,ho,λname=>?_⟩;have e:=hm name;unfold nsFind findBy at e;rw [<-Array.find?_toList] at e;unfold PySem.W.lookIn;rw [hd];dsimp only
 split
 ·rename_i y q
  rw [q] at e;exact gI some e
 ·rename_i q
  rw [q] at e;have a:es.toList.any (·.refKey)=false:=by rw [List.any_eq_false];intro y hy;obtain ⟨z,t,R3⟩:=hk y (Array.mem_toList_iff.mp hy);simp [DictEntry.refKey,R3]
  have a':¬es.toList.any (·.refKey)=true:=by rw [a];exact dW
  rw [ao a'];exact gI some e
variable {C:Addr}
theorem qA.look{x:Addr}(I:qA h x dx C mA):∃od,PySem.W.InstAt h x (PySem.W.instObj C dx) C (some od)/\∀name,PySem.W.lookIn name od=some (mA name):=
 let ⟨od,ho,hl⟩:=R0 I.ns
 (ac od ⟨I.obj,rfl,rfl,ho⟩ hl)
section
variable {prog:Program} {w:World} {A:Around} {E:cQ} {s:Shared} {K:aI} {x dx C f:Addr} {mA:dX} {name:Str} {v:Value}
theorem get_map{expr:Bool}{Q:cQ}(X:K.In s.heap)(I:qA s.heap x dx C mA)(hg:PySem.W.plainGet K C name=true)(hh:PySem.W.hasDictIn K C=true)
  (ha:PySem.W.findIn K (.ref C) name=some none) (hv:mA name=some v) (u_:PySem.W.handedIn v=true) (h:Q v {s with toks:=s.toks+1}) :
  wpAny (model prog w) A (getAttr (.ref x) name expr) Q E s:=by
 obtain ⟨od,J,hl⟩:=I.look;exact PySem.W.get_value X J (PySem.W.plainGet_of hg).1 (PySem.W.findObj_own hh ha rfl (by rw [hl,hv])) u_ h
theorem R4{pl:Sem Bool}{Q:Value×List Value->Shared->Prop}(X:K.In s.heap)(I:qA s.heap x dx C mA)(hg:PySem.W.plainGet K C name=true)
  (hf:PySem.W.findIn K (.ref C) name=some (some (.ref f))) (ht:PySem.W.isFn K (.ref f)=true) (hv:mA name=none) (h:Q (.ref f,[.ref x]) s) :
  wpAny (model prog w) A (getMethod (.ref x) name pl) Q E s:=by
 obtain ⟨od,J,hl⟩:=I.look;exact PySem.W.method_fn X J (PySem.W.plainGet_of hg).1 (PySem.W.plainGet_of hg).2 hf (k7.mp ht) (by show (PySem.W.lookIn name od).map (·.isSome)=some false;rw [hl,hv];rfl) h
theorem R5{ns:List Str}{Q:Unit->Shared->Prop}(X:K.In s.heap)(I:qA s.heap x dx C mA)
  (hs:PySem.W.findIn K (.ref C) "__setattr__"=some (some (.builtin "object.__setattr__"))) (hp:PySem.W.plainOver K C=true) (ht:PySem.W.takerIn K C name=some none) (hh:PySem.W.hasDictIn K C=true)
  (hw:PySem.Within mA ns) (Ku:ns.length<=sizeLine)
  (h:∀h',qA h' x dx C (λy=>if y=name then some v else mA y)->Heap.SameBut dx s.heap h'->Q () {s with heap:=h',toks:=s.toks+2}) :
  wpAny (model prog w) A (setAttr (.ref x) name v) Q E s:=by
 obtain ⟨od,J,hl⟩:=I.look;refine PySem.W.set_plain X J hs (PySem.W.osa_open (s:={s with toks:=s.toks+1}) (r:=none) X J hp ht λb=>?_);obtain ⟨cd,hc,m8⟩:=PySem.W.any_some hh;have hx:s.heap.get? x=some ⟨.ref C,some dx,.plain,#[]⟩:=I.obj;refine dh (fB (dh (dh (wpAny_loadPart hx (dh (PySem.W.Looks.here (s:={s with toks:=s.toks+1}) (PySem.W.looks_clsIn X hc) ?_))))));rw [m8];refine fB (a:=some dx) (dh (fB (dh ?_)));refine wpAny_nsSet1 (s:={s with toks:=s.toks+1}) I.ns λh' va lM=>?_;obtain ⟨oD,esD,epD,R6,R7,R8⟩:=va.count (PySem.Within.cons name v hw);refine dh (wpAny_lookBehind R6 (by rw [R7];exact pastItsLine_dict (af R8 (by rw [fC];lia))) ?_)
 exact fB (h _ ⟨(lM.2 _ (Ne.symm I.ne)).trans I.obj,va,I.ne⟩ lM)
theorem R9{R:Result->Shared->Prop}{vs:List Value}{kw:List (Str×Value)}(X:K.In s.heap)(hm:PySem.W.makesIn K C=true)
  (hi:PySem.W.findIn K (.ref C) "__init__"=some (some (.ref f))) (hf:PySem.W.typeIn K (.ref f)=some (.type "function"))
  (h:codeAny (model prog w) (A.under (.builtin "type.__call__" ⟨.ref C::vs,kw⟩)) (.call (.ref f) ⟨.ref (s.heap.objs.size+1)::vs,kw⟩) (PySem.W.InitBack (s.heap.objs.size+1) R)
   {s with heap:=(s.heap.push PySem.W.emptyDict).push (PySem.W.instObj C s.heap.objs.size)}) :
  codeAny (model prog w) A (.call (.ref C) ⟨vs,kw⟩) R s:=by
 obtain ⟨hh,g,d,t,os⟩:=s;exact PySem.W.make_core (PySem.W.makes_of X hm) (AR X hi) (λself=>PySem.W.bind_fn X self hf) (.inl rfl) h
end
def ir(f:Str)(v:V):List (Str×V)->List (Str×V)
 | []=>[(f,v)]
 | (g,x)::r=>if g=f then (g,v)::r else (g,x)::ir f v r
theorem Kv(f g:Str)(v:V):∀fs:List (Str×V),(ir f v fs).lookup g=if g=f then some v else fs.lookup g
 | []=>by
  show List.lookup g [(f,v)]=_;by_cases h:g=f
  ·have hb:(g == f)=true:=k7.mpr h
   simp only [List.lookup,hb,aq h]
  ·have hb:(g == f)=false:=yn.mpr h
   simp only [List.lookup,hb,ao h]
 | (k,x)::r=>by
  have ih:=Kv f g v r;rw [show ir f v ((k,x)::r)=(if k=f then (k,v)::r else (k,x)::ir f v r) from rfl]
  by_cases hk:k=f
  ·rw [aq hk]
   by_cases h:g=k
   ·have hb:(g == k)=true:=k7.mpr h
    simp only [List.lookup,hb,aq (h.trans hk)]
   ·have hb:(g == k)=false:=yn.mpr h
    simp only [List.lookup,hb,ao (λe:g=f=>h (e.trans hk.symm))]
  ·rw [ao hk]
   by_cases h:g=k
   ·have hb:(g == k)=true:=k7.mpr h
    simp only [List.lookup,hb,ao (λe:g=f=>hk (h.symm.trans e))]
   ·have hb:(g == k)=false:=yn.mpr h
    simp only [List.lookup,hb];exact ih
theorem Fj(f:Str)(v:V):∀fs:List (Str×V),f∈(ir f v fs).map (·.1)/\∀g,g∈fs.map (·.1)->g∈(ir f v fs).map (·.1)
 | []=>⟨by simp [ir],λg h=>by simp at h⟩
 | (k,x)::r=>by
  obtain ⟨i1,i2⟩:=Fj f v r;rw [show ir f v ((k,x)::r)=(if k=f then (k,v)::r else (k,x)::ir f v r) from rfl]
  by_cases hk:k=f
  ·rw [aq hk]
   subst hk;exact ⟨by simp,λg h=>by simpa using h⟩
  ·rw [ao hk]
   refine ⟨?_,λg h=>?_⟩
   ·rw [qg]
    exact i6 _ i1
   ·rw [qg] at h ⊢
    rcases eV.mp h with e | e;·exact eV.mpr (.inl e)
    ·exact i6 _ (i2 g e)
theorem Kw(f:Str)(v:V):∀fs:List (Str×V),(ir f v fs).length<=fs.length+1
 | []=>by simp [ir]
 | (k,x)::r=>by
  have ih:=Kw f v r;rw [show ir f v ((k,x)::r)=(if k=f then (k,v)::r else (k,x)::ir f v r) from rfl]
  by_cases hk:k=f;·rw [aq hk,fC,fC];lia
  ·rw [ao hk,fC,fC];lia
variable {v:V}
theorem lD.some_of{o:Option Value}(r:lD (some v) o):∃u,o=some u/\RelV v u:=by
 cases o with
 | none=>exact (show False from r).elim
 | some u=>exact ⟨u,rfl,r⟩
theorem lD.none_of{o:Option Value}(r:lD none o):o=none:=by
 cases o with
 | none=>rfl
 | some u=>exact (show False from r).elim
theorem R_{u:Value}(r:RelV v u):PySem.W.handedIn u=true:=by
 cases v with
 | a9=>cases (show u=Value.none from r);rfl
 | bl b=>cases (show u=Value.bool b from r);rfl
 | int i=>obtain ⟨t,e⟩:=(show ∃t,u=Value.int i t from r);cases e;rfl
 | str x=>obtain ⟨t,e⟩:=(show ∃t,u=Value.str x t from r);cases e;rfl
 | j8 b=>obtain ⟨t,e⟩:=(show ∃t,u=Value.bytes b t from r);cases e;rfl
 | ql b=>obtain ⟨t,e⟩:=(show ∃t,u=Value.float b t from r);cases e;rfl
 | ref a=>cases (show u=Value.ref a from r);rfl
 | ty n=>cases (show u=Value.type n from r);rfl
section
variable {P:Program} {w:World} {H H':Hp} {h h':Heap} {a C dx:Addr} {fs QW:List (Str×V)}
theorem Bs(aG:dq P w H h)(e:H a=some (.ins C dx fs)):∃mA,qA h a dx C mA/\(∀f,lD (fs.lookup f) (mA f))/\PySem.Within mA (fs.map (·.1))/\fs.length<=1000/\H dx=some (.own a):=by obtain ⟨d,z,ne,ob,mA,n,r,q⟩:=(show fD P w H h a (.ins C dx fs) from aG a _ e);exact ⟨mA,⟨ob,n,ne⟩,r,q,z,d⟩
end
structure kA (K:aI) (C:Addr):Prop where
 pg:PySem.W.plainGet K C Str.empty=true
 hd:PySem.W.hasDictIn K C=true
 po:PySem.W.plainOver K C=true
 sa:PySem.W.findIn K (.ref C) "__setattr__"=some (some (.builtin "object.__setattr__"))
theorem kA.get{K:aI}{C:Addr}(c:kA K C)(f:Str):PySem.W.plainGet K C f=true:=c.pg
def qB(K:aI)(C:Addr)(f:Str):Prop:=PySem.W.findIn K (.ref C) f=some none
theorem qB.Sa{f:Str}(n:qB K C f):PySem.W.takerIn K C f=some none:=by unfold PySem.W.takerIn;rw [show PySem.W.findIn K (.ref C) f=some none from n];rfl
structure Meth (K:aI) (C:Addr) (m:Str) (f:Addr):Prop where
 at_:PySem.W.findIn K (.ref C) m=some (some (.ref f))
 fn:PySem.W.isFn K (.ref f)=true
 kp:PySem.W.keepIn K (.ref f)=true
section
variable {X:Cx} {pins:bE} {σ:St} {H:Hp} {s:Shared} {a C dx:Addr} {fs:List (Str×V)} {f:Str} {v:V} {A:Around} {E:cQ}
variable {Q:cQ}
theorem Sb{b:Bool}(I:Inv X pins σ H s)(e:H a=some (.ins C dx fs))(c:kA X.K C)(n:qB X.K C f)(l:fs.lookup f=some v)
  (h:∀u s',Inv X pins σ H s'->RelV v u->Q u s'):wpAny (model X.prog X.w) A (getAttr (.ref a) f b) Q E s:=by
 obtain ⟨mA,O,r,_,_,_⟩:=Bs I.aG e;obtain ⟨u,hu,ru⟩:=lD.some_of (v:=v) (o:=mA f) (by rw [<-l];exact r f)
 exact get_map I.d9 O (c.get f) c.hd n hu (R_ ru) (h u _ (I.tok _) ru)
theorem Kx{m:Str}{g:Addr}{pl:Sem Bool}{Q:Value×List Value->Shared->Prop}(I:Inv X pins σ H s)(e:H a=some (.ins C dx fs))(c:kA X.K C)(k:Meth X.K C m g)(l:fs.lookup m=none)
  (h:Q (.ref g,[.ref a]) s):wpAny (model X.prog X.w) A (getMethod (.ref a) m pl) Q E s:=by
 obtain ⟨mA,O,r,_,_,_⟩:=Bs I.aG e;have hn:mA m=none:=lD.none_of (by rw [<-l];exact r m)
 exact R4 I.d9 O (c.get m) k.at_ k.fn hn h
theorem Sd{y:V}{u:Value}{Q:Unit->Shared->Prop}(I:Inv X pins σ H s)(e:H a=some (.ins C dx fs))(c:kA X.K C)(n:qB X.K C f)(hl:fs.length<1000)(ry:RelV y u)
  (h:∀s',Inv X pins σ (upd H a (.ins C dx (ir f y fs))) s'->Q () s'):wpAny (model X.prog X.w) A (setAttr (.ref a) f u) Q E s:=by
 obtain ⟨mA,O,r,wi,_,ho⟩:=Bs I.aG e;have hz:(fs.map (·.1)).length<=sizeLine:=by rw [aW,sizeLine_eq];lia
 refine R5 I.d9 O c.sa c.po n.Sa c.hd wi hz λh' O' sb=>h _ ?_;have hd:∃o,h'.get? dx=some o:=let ⟨o,_,_,e',_⟩:=O'.ns;⟨o,e'⟩
 refine I.write (x:=a) (e:=dx) (by rw [e];exact True.intro) (.inr ho) (λb q hb z=>(sb.2 b hb).trans z) hd ?_
 refine ⟨by rw [cq O.ne];exact ho,?_,O.ne,O'.obj,_,O'.ns,λg=>?_,λg hg=>?_⟩
 ·have:=Kw f y fs;lia
 ·show lD ((ir f y fs).lookup g) (if g=f then some u else mA g)
  rw [Kv];by_cases q:g=f;·rw [aq q,aq q];exact ry
  ·rw [ao q,ao q];exact r g
 ·by_cases q:g=f
  ·rw [q];exact (Fj f y fs).1
  ·refine (Fj f y fs).2 g (wi g λz=>hg ?_)
   show (if g=f then some u else mA g)=none
   rw [ao q];exact z
theorem Inv.made(I:Inv X pins σ H s):Inv X pins σ (upd (upd H s.heap.objs.size (.own (s.heap.objs.size+1))) (s.heap.objs.size+1) (.ins C s.heap.objs.size []))
  {s with heap:=(s.heap.push PySem.W.emptyDict).push (PySem.W.instObj C s.heap.objs.size)}:=by
 have e1:(s.heap.push PySem.W.emptyDict).get? s.heap.objs.size=some PySem.W.emptyDict:=iI s.heap rfl;have e2:((s.heap.push PySem.W.emptyDict).push (PySem.W.instObj C s.heap.objs.size)).get? (s.heap.objs.size+1)=some (PySem.W.instObj C s.heap.objs.size):=by
  have:=iI (s.heap.push PySem.W.emptyDict) (o:=PySem.W.instObj C s.heap.objs.size) rfl
  rwa [Heap.size_push] at this
 have e3:(s.heap.push PySem.W.emptyDict).Ns s.heap.objs.size (λ_=>none):=⟨PySem.W.emptyDict,#[],_,e1,rfl,(λe he=>absurd he (by simp)),λ_=>rfl⟩
 have I1:=I.laid (a:=s.heap.objs.size) (o:=.own (s.heap.objs.size+1)) (h':=s.heap.push PySem.W.emptyDict) (t':=s.toks) (λb u q=>dU _ q) (aL _) ⟨_,e1⟩;refine I1.laid (a:=s.heap.objs.size+1) (o:=.ins C s.heap.objs.size []) (t':=s.toks) (λb u q=>dU _ q) (jX (Heap.size_push _ _)) ?_;have ne:s.heap.objs.size≠s.heap.objs.size+1:=fA (Nat.lt_succ_self _);refine ⟨by rw [cq ne,az],cn _,ne,e2,λ_=>none,(Heap.Ns1.of_empty e3).at λo q=>dU _ q,λ_=>True.intro,λy hy=>absurd rfl hy⟩
theorem Se{prog:Program}{env:Env}{e:Expr}{pos:Pos}(hb:attributeBase e f env (eval e env)=eval e env)
  (h:wpAny (model prog w) A (eval e env) (λo s₁=>wpAny (model prog w) A (getAttr o f true) Q E s₁) E s):wpAny (model prog w) A (eval (.Attribute e f pos) env) Q E s:=
 Attribute_any_ h (by rw [arm_eval_Attribute,hb])
end
def Ky(K:aI)(ta:TE)(f:Str):TE:=λσ H Q=>ta σ H λx H1=>∃a C dx fs v,x=.ref a/\H1 a=some (.ins C dx fs)/\kA K C/\qB K C f/\fs.lookup f=some v/\Q v H1
def Sf(K:aI)(ta tv:TE)(f:Str):TS:=λD σ H=>tv σ H λy H1=>ta σ H1 λx H2=>∃a C dx fs,x=.ref a/\H2 a=some (.ins C dx fs)/\kA K C/\qB K C f/\fs.length<1000 /\
 D.nx σ (upd H2 a (.ins C dx (ir f y fs)))
section
variable {X:Cx} {o e value:Expr} {f:Str} {pos pos' uZ:Pos} {ta tv:TE}
theorem qC(he:PE X e ta)(hb:attributeBase e f X.env (eval e X.env)=eval e X.env):PE X (.Attribute e f pos) (Ky X.K ta f):=by intro pins s σ H Q I h;refine Se hb (aK (he pins s σ H _ I h) λu s1 ⟨x,H1,I1,rx,a,C,dx,fs,v,ex,ea,c,n,l,q⟩=>?_);subst ex;obtain rfl:u=Value.ref a:=rx;exact Sb I1 ea c n l λu' s2 I2 ru=>(ap v H1 I2 ru q)
theorem Kz(ha:PE X o ta)(hv:PE X value tv)(hs:swapsWith value (some (.Attribute o f pos')) pos.line X.env=pure false):PS X (.Assign [.Attribute o f pos'] value pos) (Sf X.K ta tv f):=by intro pins s σ H D I h;refine plainObj_wpAny_Assign_Attribute (aK (hv pins s σ H _ I h) λu s1 ⟨y,H1,I1,ry,q⟩=>aK (ha pins s1 σ H1 _ I1 q) λov s2 ⟨x,H2,I2,rx,a,C,dx,fs,ex,ea,c,n,l,q2⟩=>?_) hs;subst ex;obtain rfl:ov=Value.ref a:=rx;exact Sd I2 ea c n l ry λs3 I3=>⟨σ,_,I3,q2⟩
theorem afM{pl:Sem Bool}{m:Str}{apos:Pos}{args:List Expr}{pins:bE}{Q:cQ}{te:TE}(he:PE X e te)(I:Inv X pins σ H s)
  (h:te σ H λx H1=>∃a C dx fs g,x=.ref a/\H1 a=some (.ins C dx fs)/\kA X.K C/\Meth X.K C m g/\fs.lookup m=none /\
   ∀s1,Inv X pins σ H1 s1->wpAny (model X.prog X.w) X.A (callWith pos (.ref g) [.ref a] (backTo pos (starEach args X.env)) (backToKw pos (keywordEach [] X.env))) Q X.xe s1)
  (ht:eval (.Call (.Attribute e m apos) args [] pos) X.env=(do
   let ov <-eval e X.env
   standAt apos.atName
   let (f,first) <-holding [ov] (getMethod ov m pl)
   callWith pos f first (backTo pos (starEach args X.env)) (backToKw pos (keywordEach [] X.env)))) :
  wpAny (model X.prog X.w) X.A (eval (.Call (.Attribute e m apos) args [] pos) X.env) Q X.xe s:=by
 refine PySem.W.methodCall_KW (pl:=pl) (aK (he pins s σ H _ I h) λu s1 ⟨x,H1,I1,rx,a,C,dx,fs,g,ex,ea,c,k,l,q⟩=>?_) ht
 subst ex
 obtain rfl:u=Value.ref a:=rx
 exact Kx I1 ea c k l (q s1 I1)
end
section
variable {X:Cx} {pins:bE} {σ:St} {H:Hp} {s:Shared} {A:Around} {E:cQ} {Q:cQ} {c:Value} {b:Bool}
inductive jD (K:aI) (H:Hp):V->Value->Prop where
 | a9:jD K H .a9 (.type "NoneType")
 | bl (x:Bool):jD K H (.bl x) (.type "bool")
 | int (i:Int):jD K H (.int i) (.type "int")
 | str (x:Str):jD K H (.str x) (.type "str")
 | ql (x:UInt64):jD K H (.ql x) (.type "float")
 | lst {a:Addr} {xs:List V} (e:H a=some (.lst xs)):jD K H (.ref a) (.type "list")
 | ik {a:Addr} {o:Obj} {xs:List V} (e:H a=some (.ik o (.lst xs))):jD K H (.ref a) (.type "list")
 | tup {a:Addr} {xs:List V} (e:H a=some (.tup xs)):jD K H (.ref a) (.type "tuple")
 | dK {a:Addr} {eE:List (Key×V)} (e:H a=some (.dK eE)):jD K H (.ref a) (.type "dict")
 | dT {a:Addr} {eE:List (List Key×V)} (e:H a=some (.dT eE)):jD K H (.ref a) (.type "dict")
 | ins {a C dx:Addr} {fs:List (Str×V)} (e:H a=some (.ins C dx fs)) (cl:kA K C) (ha:PySem.W.findIn K (.ref C) "__class__"=some (some (.builtin "object.__class__")))
   (hn:PySem.W.specialIn K (.builtin "object.__class__") "__get__"=some (some (.builtin "getset_descriptor.__get__"))) (KA:PySem.W.takesIn K (.builtin "object.__class__")=some true)
   (hm:PySem.W.mroIn K C (.type "object")=some true):jD K H (.ref a) (.ref C)
theorem Sg{u t:Value}(I:Inv X pins σ H s)(rx:RelV x u)(ty:jD X.K H x t)(e:PySem.W.kitOne X.K t c=some b)(h:∀tk,Q (.bool b) {s with toks:=tk}) :
  wpAny (model X.prog X.w) A (call (.builtin "isinstance") [u,c]) Q E s:=by
 cases ty with
 | a9=>cases (show u=Value.none from rx);exact jt PySem.W.kitx_none I.d9 True.intro e (λz=>nomatch z) h
 | bl y=>cases (show u=Value.bool y from rx);exact jt PySem.W.kitx_bool I.d9 True.intro e (λz=>nomatch z) h
 | int i=>obtain ⟨t,q⟩:=(show ∃t,u=Value.int i t from rx);cases q;exact jt PySem.W.kitx_int I.d9 True.intro e (λz=>nomatch z) h
 | str y=>obtain ⟨t,q⟩:=(show ∃t,u=Value.str y t from rx);cases q;exact jt PySem.W.kitx_str I.d9 True.intro e (λz=>nomatch z) h
 | ql y=>obtain ⟨t,q⟩:=(show ∃t,u=Value.float y t from rx);cases q;exact jt PySem.W.kitx_float I.d9 True.intro e (λz=>nomatch z) h
 | @lst a xs ea=>cases (show u=Value.ref a from rx);obtain ⟨_,_,n,_,h1⟩:=(show fD X.prog X.w H s.heap a (.lst xs) from I.aG a _ ea);exact jt PySem.W.kitx_list I.d9 (ac _ h1 rfl) e (λz=>nomatch z) h
 | @ik a ob xs ea=>cases (show u=Value.ref a from rx);obtain ⟨_,_,_,n,_,h1⟩:=(show fD X.prog X.w H s.heap a (.ik ob (.lst xs)) from I.aG a _ ea);exact jt PySem.W.kitx_list I.d9 (ac _ h1 rfl) e (λz=>nomatch z) h
 | @tup a xs ea=>cases (show u=Value.ref a from rx);obtain ⟨_,_,_,p⟩:=(show fD X.prog X.w H s.heap a (.tup xs) from I.aG a _ ea);intros bn4 p o h1 h2 _;exact jt PySem.W.kitx_tuple I.d9 (ac o h1 h2) e (λz=>nomatch z) h
 | @dK a eE ea=>cases (show u=Value.ref a from rx);obtain ⟨_,_,vs,_,p⟩:=(show fD X.prog X.w H s.heap a (.dK eE) from I.aG a _ ea);intros bn13 p o es ep h1 h2 _;exact jt PySem.W.kitx_dict I.d9 (ac o h1 h2.1) e (λz=>nomatch z) h
 | @dT a eE ea=>cases (show u=Value.ref a from rx);obtain ⟨_,_,xs,_,o,es,ep,h1,h2,_⟩:=(show fD X.prog X.w H s.heap a (.dT eE) from I.aG a _ ea);exact jt PySem.W.kitx_dict I.d9 (ac o h1 h2.1) e (λz=>nomatch z) h
 | @ins a C dx fs ea cl ha hn KA hm=>cases (show u=Value.ref a from rx);obtain ⟨mA,O,_⟩:=Bs I.aG ea;obtain ⟨od,J,_⟩:=O.look;exact jt (PySem.W.kitx_own (cl.get _) cl.hd ha hn KA hm) I.d9 J e (λz=>nomatch z) h
end
structure dN (k:Nat) (A:Around):Prop where
 hd:A.handled=none
 dp:A.depth+3*k+5<recursionLimit
 un:A.units+16*k+200<cLine
variable {k:Nat}
theorem dN.mono{j:Nat}(r:dN k A)(h:j<=k):dN j A:=⟨r.hd,by have:=r.dp;lia,by have:=r.un;lia⟩
theorem dN.deeper(r:dN (k+1) A)(env:Env):dN k (A.deeper env):=
 ⟨r.hd,by have:=r.dp;show A.depth+1+3*k+5<_;lia,by have:=r.un;show A.units+3+16*k+200<_;lia⟩
variable {kw:List (Str×Value)}
theorem Sh:(A.under (.builtin "type.__call__" ⟨.ref C::us,kw⟩)).depth=A.depth+1:=by first | rfl | simp [Around.under,Code.weight,Code.isCreation,Code.isGuard,Code.isCaller,Code.frames,Code.isFrame,guardIds]
theorem Si:(A.under (.builtin "type.__call__" ⟨.ref C::us,kw⟩)).units=A.units+1:=by first | rfl | simp [Around.under,Code.cUnits,Code.frames,Code.isFrame]
theorem dN.make(r:dN (k+1) A)(C:Addr)(us:List Value)(kw:List (Str×Value)):dN k (A.under (.builtin "type.__call__" ⟨.ref C::us,kw⟩)):=
 ⟨r.hd,by have:=r.dp;rw [Sh];lia,by have:=r.un;rw [Si];lia⟩
theorem dN.depth(r:dN k A):A.depth<recursionLimit:=by have:=r.dp;lia
theorem dN.units(r:dN k A):A.units+64<cLine:=by have:=r.un;lia
theorem dN.qD(r:dN k A):A.units<cLine:=by have:=r.un;lia
def iu:TA:=λ_ H Q=>Q [] H
def eJ(ta:TE)(tr:TA):TA:=λσ H Q=>ta σ H λx H1=>tr σ H1 λxs H2=>Q (x::xs) H2
section
variable {X:Cx} {e:Expr} {es:List Expr} {te:TE} {t:TA} {pos:Pos}
theorem ag:PA X [] iu:=λ_ _ _ _ H Q I h=>Calls.spliced_nil ⟨[],H,I,.nil,h⟩
theorem Sj(ha:PE X e te)(hr:PA X es t)(hs:starEach (e::es) X.env=(false,eval e X.env)::starEach es X.env:=by rfl):PA X (e::es) (eJ te t):=by intro pos pins s σ H Q I h;rw [hs];show wpAny _ _ (spliced ((false,eval e X.env)::backTo pos (starEach es X.env))) _ _ s;refine Calls.spliced_cons (aK (ha pins s σ H _ I h) λu s1 ⟨x,H1,I1,r1,q1⟩=>?_);exact aK (hr pos pins s1 σ H1 _ I1 q1) λus s2 ⟨xs,H2,I2,r2,q2⟩=>⟨x::xs,H2,I2,.cons r1 r2,q2⟩
def KC(t:TA):TE:=λσ H Q=>t σ H λxs H1=>xs.length<=sizeLine/\∀p,H1 p=none->Q (.ref p) (upd H1 p (.tup xs))
def qE(t:TA):TE:=λσ H Q=>t σ H λxs H1=>xs.length<=sizeLine/\∀p,H1 p=none->Q (.ref p) (upd H1 p (.lst xs))
theorem iP{x1}(h:PA X es t):PE X (.Tuple es x1 pos) (KC t):=by
 intro pins s σ H Q I hq;refine wpAny_Tuple_spliced (aK (h pos pins s σ H _ I hq) λus s1 ⟨xs,H1,I1,r,z,q⟩=>⟨by rw [<-r.length];exact z,?_⟩)
 have hf:H1 s1.heap.objs.size=none:=I1.aG.fresh (aL _);refine ⟨.ref s1.heap.objs.size,upd H1 s1.heap.objs.size (.tup xs),I1.laid (t':=s1.toks) (λb u e=>dU _ e) (aL _) ?_,rfl,q _ hf⟩;exact (im z us r ⟨_,iI _ rfl,rfl,_,rfl⟩)
theorem cV(h:PA X es t):PE X (.List es pos) (qE t):=by
 intro pins s σ H Q I hq;refine wpAny_List_spliced (aK (h pos pins s σ H _ I hq) λus s1 ⟨xs,H1,I1,r,z,q⟩=>⟨by rw [<-r.length];exact z,?_⟩)
 have hf:H1 s1.heap.objs.size=none:=I1.aG.fresh (aL _);refine ⟨.ref s1.heap.objs.size,upd H1 s1.heap.objs.size (.lst xs),I1.laid (t':=s1.toks) (λb u e=>dU _ e) (aL _) ?_,rfl,q _ hf⟩;exact ⟨z,us,0,r,iI _ rfl⟩
end
abbrev Sp:=List V->Hp->VK->XK->Prop
abbrev jE:=List Env->Hp->Shared->XK->Value->Shared->Prop
structure qF (P:Program) (w:World) (K:aI) (mg:dX) (base:Heap) (A:Around) (outer:List Env) (s:Shared) (H:Hp):Prop where
 frames:A.frames=some outer
 mod:Mod K mg base
 bs:∀b o,base.get? b=some o->s.heap.get? b=some o/\H b=none
 iO:base.objs.size<=s.heap.objs.size
 j9:s.heap.FunFrames base outer
 m7:∀b∈dk outer,H b=none
 aG:dq P w H s.heap
 bare:AllBare s.gens
def CE(outer:List Env)(P:Program)(w:World)(H:Hp)(s:Shared)(Q:VK)(u:Value)(s':Shared):Prop:=
 ∃v H',s'.os=s.os/\AllBare s'.gens/\Un (dk outer) [] H H' s.heap s'.heap/\dq P w H' s'.heap/\RelV v u/\Q v H'
def CR(CX:jE)(outer:List Env)(P:Program)(w:World)(H:Hp)(s:Shared)(Q:VK)(E:XK)(r:Result)(s':Shared):Prop:=
 match r with
 | .ok (.ret u)=>CE outer P w H s Q u s'
 | .ok _=>False
 | .error e=>CX outer H s E e s'
structure a8 (P:Program) (w:World) (K:aI) (mg:dX) (base:Heap) (CX:jE) (k:Nat) (f:Addr) (fd:FuncData) (ps:List Str) (sp:Sp):Prop where
 len:∀vs H Q E,sp vs H Q E->vs.length=ps.length
 run:∀(A:Around) (outer:List Env) (s:Shared) (H:Hp) (args:Args) (us:List Value) (vs:List V) (Q:VK) (E:XK),dN k A->qF P w K mg base A outer s H->BindsTo s fd args (ps.zip us)->Vals vs us->sp vs H Q E->
  codeAny (model P w) A (.call (.ref f) args) (CR CX outer P w H s Q E) s
variable {mg:dX} {base:Heap} {outer:List Env}
theorem qF.make(e:qF P w K mg base A outer s H)(C:Addr)(us:List Value)(kw:List (Str×Value)) :
  qF P w K mg base (A.under (.builtin "type.__call__" ⟨.ref C::us,kw⟩)) outer s H:=⟨by first | exact e.frames | (simpa [Around.under,Code.envs,Code.isFrame,pushEnvs] using e.frames),e.mod,e.bs,e.iO,e.j9,e.m7,e.aG,e.bare⟩
section
variable {X:Cx} {pins:bE} {σ:St} {H:Hp} {s s':Shared}
theorem Inv.KD(I:Inv X pins σ H s):qF X.prog X.w X.K X.mg X.base X.A X.stack s H:=
 ⟨I.ok.frames,I.ok.mod,I.bs,af I.ok.iO I.sz,I.stack,I.uU,I.aG,I.bare⟩
theorem Inv.after{Q:VK}{u:Value}(I:Inv X pins σ H s)(h:CE X.stack X.prog X.w H s Q u s'):EP X pins σ Q u s':=by intros bn10 h v H' os bare un bn1 aG r q;obtain ⟨hh,g,d,t,Sk⟩:=s';obtain rfl:Sk=s.os:=os;exact ⟨v,H',I.call (h':=hh) (g':=g) (d':=d) (t':=t) (ch:=[]) un aG bare (λb z=>absurd z (by simp)),r,q⟩
end
def vb(sp:Sp)(e7:List V)(E:XK)(t:TA):TE:=λσ H Q=>t σ H λvs H1=>sp (vs++e7) H1 Q E
def Sl(C:Addr)(m:Str)(sp:Sp)(e7:List V)(E:XK)(ta:TE)(t:TA):TE:=λσ H Q=>ta σ H λx H1=>∃a dx fs,x=.ref a/\H1 a=some (.ins C dx fs)/\fs.lookup m=none /\
 t σ H1 λvs H2=>sp (x::(vs++e7)) H2 Q E
def Sm(C:Addr)(sp:Sp)(e7:List V)(E:XK)(t:TA):TE:=λσ H Q=>t σ H λvs H1=>∀x dx,H1 x=none->H1 dx=none->dx≠x->
 sp (.ref x::(vs++e7)) (upd (upd H1 dx (.own x)) x (.ins C dx [])) (λv H2=>v=.a9/\Q (.ref x) H2) E
def Binds(K:aI)(fd:FuncData)(ps:List Str)(ds:List Value):Prop:=
 ∀(s:Shared) (us:List Value),K.In s.heap->(us++ds).length=ps.length->BindsTo s fd ⟨us,[]⟩ (ps.zip (us++ds))
variable {ps:List Str}
theorem Binds.all{fd:FuncData}(h:∀us:List Value,us.length=ps.length->bindArgs fd ⟨us,[]⟩=pure (ps.zip us)):Binds K fd ps []:=λs us _ hl=>by rw [qh] at hl ⊢;exact .of_eq (h us hl)
def Passes(CX:jE)(X:Cx)(E:XK):Prop:=∀(pins:bE) (σ:St) (H:Hp) (s:Shared) (e:Value) (s':Shared),Inv X pins σ H s->CX X.stack H s E e s'->X.xe e s'
section
variable {X:Cx} {CX:jE} {k:Nat} {f C:Addr} {fd:FuncData} {ps:List Str} {sp:Sp} {e7:List V} {ds:List Value} {E:XK} {x m:Str} {p pos apos:Pos} {e o:Expr} {es:List Expr} {ta:TE} {t:TA}
variable {pins:bE} {Q:VK}
theorem KG{vs:List V}(F:a8 X.prog X.w X.K X.mg X.base CX k f fd ps sp)(hr:dN k X.A)(hb:Binds X.K fd ps ds)(hd:Vals e7 ds)(hx:Passes CX X E)
  (I:Inv X pins σ H s) (r:Vals vs us) (h:sp (vs++e7) H Q E):wpAny (model X.prog X.w) X.A (call (.ref f) us) (EP X pins σ Q) X.xe s:=by
 have r2:Vals (vs++e7) (us++ds):=r.append hd;have hl:(us++ds).length=ps.length:=by rw [<-r2.length];exact F.len _ _ _ _ h
 refine wpAny_call (codeAny_mono (F.run X.A X.stack s H ⟨us,[]⟩ (us++ds) (vs++e7) Q E hr I.KD (hb s us I.d9 hl) r2 h) λr s' hq=>?_);cases r with
 | error e=>exact hx pins σ H s e s' I hq
 | ok fl=>
  cases fl with
  | ret u=>exact I.after hq
  | next=>exact False.elim hq
  | brk=>exact False.elim hq
  | cont=>exact False.elim hq
theorem Bt(F:a8 X.prog X.w X.K X.mg X.base CX k f fd ps sp)(hr:dN k X.A)(hg:Gl X x)(hm:X.mg x=some (.ref f))(hk:PySem.W.keepIn X.K (.ref f)=true)(hb:Binds X.K fd ps ds)(hd:Vals e7 ds)(hx:Passes CX X E)
  (ha:PA X (e::es) t) (nH:(x == ("__debug__":Str))=false:=by decide) (he:starEach (e::es) X.env=(false,eval e X.env)::starEach es X.env:=by rfl) (jg:(backTo pos (starEach es X.env)).any (·.1)=false:=by rfl) :
  PE X (.Call (.Name x p) (e::es) [] pos) (vb sp e7 E t):=by
 intro pins s σ H Q I h;refine AS (Bc I hg hm ?_ nH);refine PySem.W.callWith_K (h₀:=X.base) I.ok.mod.dE hk (aK (ha pos pins s σ H _ I h) λus s1 ⟨vs,H1,I1,r,q⟩=>⟨I1.d9,?_⟩) he jg;exact KG F hr hb hd hx I1 r q
theorem ay{j:Nat}(F:a8 X.prog X.w X.K X.mg X.base CX k f fd ps sp)(hr:dN j X.A)(hm:X.mg x=some (.ref f))(hk:PySem.W.keepIn X.K (.ref f)=true)(hb:Binds X.K fd ps [])(hx:Passes CX X E)
  (ha:PA X (e::es) t) (hj:k<=j:=by decide) (hg:Gl X x:=by exact rfl) (nH:(x == ("__debug__":Str))=false:=by decide) (he:starEach (e::es) X.env=(false,eval e X.env)::starEach es X.env:=by rfl) (jg:(backTo pos (starEach es X.env)).any (·.1)=false:=by rfl) :
  PE X (.Call (.Name x p) (e::es) [] pos) (vb sp [] E t):=Bt F (hr.mono hj) hg hm hk hb .nil hx ha nH he jg
theorem gM{pl:Sem Bool}(he:PE X o ta)(c:kA X.K C)(hm:Meth X.K C m f)(F:a8 X.prog X.w X.K X.mg X.base CX k f fd ps sp)(hr:dN k X.A)(hb:Binds X.K fd ps ds)(hd:Vals e7 ds)(hx:Passes CX X E)(ha:PA X (e::es) t)
  (uY:starEach (e::es) X.env=(false,eval e X.env)::starEach es X.env:=by rfl) (jg:(backTo pos (starEach es X.env)).any (·.1)=false:=by rfl)
  (ht:eval (.Call (.Attribute o m apos) (e::es) [] pos) X.env=(do
   let ov <-eval o X.env
   standAt apos.atName
   let (f,first) <-holding [ov] (getMethod ov m pl)
   callWith pos f first (backTo pos (starEach (e::es) X.env)) (backToKw pos (keywordEach [] X.env))):=by rfl) :
  PE X (.Call (.Attribute o m apos) (e::es) [] pos) (Sl C m sp e7 E ta t):=by
 intro pins s σ H Q I h
 refine PySem.W.methodCall_KW (pl:=pl) (aK (he pins s σ H _ I h) λu s1 ⟨x,H1,I1,rx,a,dx,fs,ex,ea,l,q⟩=>?_) ht
 subst ex
 obtain rfl:u=Value.ref a:=rx
 refine Kx I1 ea c hm l ?_
 refine PySem.W.callWith_K (first:=[.ref a]) (h₀:=X.base) I.ok.mod.dE hm.kp (aK (ha pos pins s1 σ H1 _ I1 q) λus s2 ⟨vs,H2,I2,r,q2⟩=>⟨I2.d9,?_⟩) uY jg
 exact KG (us:=.ref a::us) (vs:=.ref a::vs) F hr hb hd hx I2 (.cons rfl r) q2
structure Mk (K:aI) (C f:Addr):Prop where
 makes:PySem.W.makesIn K C=true
 init:PySem.W.findIn K (.ref C) "__init__"=some (some (.ref f))
 fn:PySem.W.isFn K (.ref f)=true
 kp:PySem.W.keepIn K (.ref C)=true
theorem Sn{vs:List V}(M:Mk X.K C f)(F:a8 X.prog X.w X.K X.mg X.base CX k f fd ps sp)(hr:dN (k+1) X.A)(hb:Binds X.K fd ps ds)(hd:Vals e7 ds)
  (hx:Passes CX X E) (I:Inv X pins σ H s) (r:Vals vs us)
  (h:∀x dx,H x=none->H dx=none->dx≠x->sp (.ref x::(vs++e7)) (upd (upd H dx (.own x)) x (.ins C dx [])) (λv H2=>v=.a9/\Q (.ref x) H2) E) :
  wpAny (model X.prog X.w) X.A (call (.ref C) us) (EP X pins σ Q) X.xe s:=by
 have hq:=h (s.heap.objs.size+1) s.heap.objs.size (I.aG.fresh (Nat.le_succ _)) (I.aG.fresh (aL _)) (fA (Nat.lt_succ_self _));have I2:=Inv.made (C:=C) I;have r2:Vals (V.ref (s.heap.objs.size+1)::(vs++e7)) (Value.ref (s.heap.objs.size+1)::(us++ds)):=.cons rfl (r.append hd);have hl:(Value.ref (s.heap.objs.size+1)::us++ds).length=ps.length:=by have e:=r2.length;rw [F.len _ _ _ _ hq] at e;exact e.symm
 refine wpAny_call (R9 (f:=f) I.d9 M.makes M.init (k7.mp M.fn) (codeAny_mono (F.run _ X.stack _ _ ⟨Value.ref (s.heap.objs.size+1)::us,[]⟩ (Value.ref (s.heap.objs.size+1)::(us++ds)) _ _ E (hr.make C us [])
  (I2.KD.make C us []) (hb _ (Value.ref (s.heap.objs.size+1)::us) I2.d9 hl) r2 hq) λr s' qG=>?_))
 cases r with
 | error e=>exact hx pins σ _ _ e s' I2 qG
 | ok fl=>
  cases fl with
  | ret u=>obtain ⟨v,H',I3,rv,ev,q3⟩:=I2.after qG;subst ev;exact ⟨rv,(ap (V.ref (s.heap.objs.size+1)) H' I3 rfl q3)⟩
  | next=>exact False.elim qG
  | brk=>exact False.elim qG
  | cont=>exact False.elim qG
theorem So(M:Mk X.K C f)(F:a8 X.prog X.w X.K X.mg X.base CX k f fd ps sp)(hr:dN (k+1) X.A)(hg:Gl X x)(hm:X.mg x=some (.ref C))(hb:Binds X.K fd ps ds)(hd:Vals e7 ds)(hx:Passes CX X E)
  (ha:PA X (e::es) t) (nH:(x == ("__debug__":Str))=false:=by decide) (he:starEach (e::es) X.env=(false,eval e X.env)::starEach es X.env:=by rfl) (jg:(backTo pos (starEach es X.env)).any (·.1)=false:=by rfl) :
  PE X (.Call (.Name x p) (e::es) [] pos) (Sm C sp e7 E t):=by
 intro pins s σ H Q I h;refine AS (Bc I hg hm ?_ nH);refine PySem.W.callWith_K (h₀:=X.base) I.ok.mod.dE M.kp (aK (ha pos pins s σ H _ I h) λus s1 ⟨vs,H1,I1,r,q⟩=>⟨I1.d9,?_⟩) he jg;exact Sn M F hr hb hd hx I1 r q
end
section
variable {X:Cx} {CX:jE} {k:Nat} {f C:Addr} {fd:FuncData} {ps ks:List Str} {sp:Sp} {E:XK} {x m:Str} {p pos apos Sq:Pos} {e o:Expr} {es:List Expr} {kws:List Keyword} {te ta:TE} {t tk:TA} {nm:Option Str}
variable {g:List Value->List Value->List Value} {gV:List V->List V->List V}
end
structure bH (N P:List Str) (sc:Scope):Prop where
 kind:sc.kind=.function
 co:sc.isCoroutine=false
 gen:sc.isGenerator=false
 nd:N.Nodup
 pre:N.take P.length=P
 par:∀x∈P,sc.names.lookup x=some .local\/sc.names.lookup x=some .cell
 Sr:∀y∈sc.names,y.2≠.free
variable {N:List Str} {sc:Scope}
theorem b6{P:List Str}(h1:sc.kind=.function:=by rfl)(h2:sc.isCoroutine=false:=by rfl)(h3:sc.isGenerator=false:=by rfl)(h4:N.Nodup:=by decide +kernel)(h5:N.take P.length=P:=by rfl)(h6:∀x∈P,sc.names.lookup x=some .local\/sc.names.lookup x=some .cell:=by decide +kernel)(h7:∀y∈sc.names,y.2≠.free:=by decide +kernel):bH N P sc:=⟨h1,h2,h3,h4,h5,h6,h7⟩
theorem KH{kindOf:Str->Option NameKind}{x:Str}:∀{binds:List (Str×Value)} {m:dX},(∀v,(x,v)∉binds)->bindL kindOf binds m x=m x
 | [],_,_=>rfl
 | (n,v)::r,m,h=>by
  unfold bindL;rw [KH λw hw=>h w (i6 _ hw)]
  split
  ·have:x≠n:=by rintro rfl;exact h v mQ
   simp [this]
  ·rfl
theorem KI{kindOf:Str->Option NameKind}{x:Str}:∀{binds:List (Str×Value)} {m:dX},(∀v,(x,v)∉binds)->bindC kindOf binds m x=m x
 | [],_,_=>rfl
 | (n,v)::r,m,h=>by
  unfold bindC;rw [KI λw hw=>h w (i6 _ hw)]
  split
  ·rfl
  ·have:x≠n:=by rintro rfl;exact h v mQ
   simp [this]
theorem KJ{kindOf:Str->Option NameKind}{x:Str}{v:Value}:∀{P:List Str} {vs:List Value} {i:Nat} {m:dX},P.Nodup->P[i]?=some x->vs[i]?=some v->kindOf x=some .local->
  bindL kindOf (P.zip vs) m x=some v
 | [],_,_,_,_,h,_,_=>by simp at h
 | _::_,[],_,_,_,_,h,_=>by simp at h
 | p::P,w::vs,0,m,nd,h1,h2,hk=>by simp at h1 h2;subst h1;subst h2;show bindL kindOf ((p,w)::P.zip vs) m p=_;unfold bindL;rw [KH λv hv=>(AU.mp nd).1 (uC hv).1,aq hk];simp
 | p::P,w::vs,i+1,m,nd,h1,h2,hk=>by show bindL kindOf ((p,w)::P.zip vs) m x=_;unfold bindL;exact KJ (i:=i) (AU.mp nd).2 (by simpa using h1) (by simpa using h2) hk
theorem KL{kindOf:Str->Option NameKind}{x:Str}{v:Value}:∀{P:List Str} {vs:List Value} {i:Nat} {m:dX},P.Nodup->P[i]?=some x->vs[i]?=some v->kindOf x≠some .local->
  bindC kindOf (P.zip vs) m x=some v
 | [],_,_,_,_,h,_,_=>by simp at h
 | _::_,[],_,_,_,_,h,_=>by simp at h
 | p::P,w::vs,0,m,nd,h1,h2,hk=>by simp at h1 h2;subst h1;subst h2;show bindC kindOf ((p,w)::P.zip vs) m p=_;unfold bindC;rw [KI λv hv=>(AU.mp nd).1 (uC hv).1,ao hk];simp
 | p::P,w::vs,i+1,m,nd,h1,h2,hk=>by show bindC kindOf ((p,w)::P.zip vs) m x=_;unfold bindC;exact KL (i:=i) (AU.mp nd).2 (by simpa using h1) (by simpa using h2) hk
def start(N:List Str)(vs:List V):St:=vs.map some++List.replicate (N.length-vs.length) none
def jF(CX:jE)(P:Program)(w:World)(K:aI)(mg:dX)(base:Heap)(N:List Str)(qual:Str)(scope:Scope)(f:Addr)(cd:Value)(A:Around)(outer:List Env)(s:Shared)(H:Hp)(E:XK):Cx where
 prog:=P
 w:=w
 K:=K
 mg:=mg
 base:=base
 A:=A.deeper (envOfC qual scope s.heap.objs.size f cd)
 N:=N
 s₀:=s
 H₀:=H
 env:=envOfC qual scope s.heap.objs.size f cd
 outer:=outer
 stack:=envOfC qual scope s.heap.objs.size f cd::outer
 ex:=[]
 calm:=true
 fn:=λ_=>true
 pn:=[]
 xe:=λe s'=>wpAny (model P w) (A.deeper (envOfC qual scope s.heap.objs.size f cd)) (leaving (envOfC qual scope s.heap.objs.size f cd) e) (λ_ fG=>CX outer H s E e fG) (λe' fG=>CX outer H s E e' fG) s'
theorem KN{x:Str}(h:sc.names.lookup x=some .cell):∃c,(cellsFrom n sc.names []).lookup x=some c:=by have q:=PySem.W.cellsFrom_some sc.names n [] (.inl h);exact Option.isSome_iff_exists.mp q
variable {CX:jE} {qual:Str} {scope:Scope} {f:Addr}
theorem Ss{cd:Value}{s1:Shared}{E:XK}{vs:List V}
  (S:bH N ps scope) (hd:A.handled=none) (e0:qF P w K mg base A outer s H) (hl:vs.length=ps.length) (r:Vals vs us)
  (x:InCallC s s.heap.objs.size (bindL (envOfC qual scope s.heap.objs.size f cd).kindOf (ps.zip us) λ_=>none) (cellsFrom (s.heap.objs.size+1) scope.names []) (bindC (envOfC qual scope s.heap.objs.size f cd).kindOf (ps.zip us) λ_=>none) s1) :
  Inv (jF CX P w K mg base N qual scope f cd A outer s H E) [] (start N vs) H s1:=by
 have jg:ps.length<=N.length:=by have:=gI List.length S.pre;rw [oO] at this;lia
 obtain ⟨h1,tk,rfl,hk⟩:=x.done;have yQ:∀b:Addr,b∉(jF CX P w K mg base N qual scope f cd A outer s H E).ex:=λb z=>absurd (show b∈([]:List Addr) from z) (by simp)
 refine ⟨⟨e0.mod,S.kind,rfl,rfl,aL _,λy z c h1 h2=>?_,λy hy=>?_,λy c _ h=>?_,λ_=>hd,Around.frames_deeper e0.frames,.inr ⟨rfl,rfl⟩,λb z=>absurd z (yQ b),e0.bs,e0.iO,λb _ _=>yQ b,λb z=>absurd z (yQ b),e0.j9,e0.m7⟩,
  rfl,e0.bare,Un.kept hk,(ac _ x.toInCall.ns (λi y v h1 h2 h3=>?_)),λy c h=>⟨_,x.cell y c h⟩,e0.aG.fresh (aL _),λy c h=>?_,λp hp=>absurd (show p∈([]:bE) from hp) (by simp),e0.aG.kept hk,?_⟩
 ·exact name_of_addr x.apart (k8 h1) (k8 h2)
 ·have hy:scope.names.lookup y=some .cell\/scope.names.lookup y=some .free:=hy
  rcases hy with hy | hy;·exact KN hy
  ·exact absurd rfl (S.Sr _ (k8 hy))
 ·exact Nat.le_of_lt (x.above y c (k8 h))
 ·have hi:i<vs.length:=by
   unfold start at h2;by_cases hi:i<vs.length;·exact hi
   ·rw [i8 (by simpa using hi)] at h2
    rw [mS] at h2
    split at h2 <;> cases h2
  have ha:vs[i]?=some v:=by
   unfold start at h2;rw [ju (by simpa using hi),gf] at h2
   cases e:vs[i]? with
   | none=>rw [e] at h2;cases h2
   | some a=>rw [e] at h2;cases h2;rfl
  obtain ⟨u,hu,rv⟩:=r.get ha;have hp:ps[i]?=some y:=by rw [<-S.pre,EH ⋯];exact h1
  have KO:ps.Nodup:=by rw [<-S.pre];exact S.nd.sublist (List.take_sublist _ _)
  refine (ac u rv ?_);rcases S.par y (AV hp) with k | k;·exact .inl ⟨k,KJ KO hp hu k⟩
  ·obtain ⟨c,e⟩:=KN (n:=s.heap.objs.size+1) k
   refine .inr (im (.inl k) c e ?_);have q:=x.cell y c e;rw [KL KO hp hu (by show scope.names.lookup y≠_;rw [k];decide)] at q
   exact q
 ·exact e0.aG.fresh (Nat.le_of_lt (x.above y c (k8 h)))
 ·unfold start
  show _=N.length;rw [kq,aW,i9];lia
theorem Fl{name:Str}{params:Arguments}{body:List Stmt}{dV kV doc pm a7 ct oc:Value}{an od:Option Addr}
  {gr:Array (Option Value)} {sp:Sp} (lk:K.lookup f=some ⟨oc,od,.func (PySem.W.fnOf name qual params body scope dV kV doc pm an a7 ct),gr⟩) (gi:PySem.W.codeIn K a7 qual=true) (S:bH N ps scope)
  (len:∀vs H Q E,sp vs H Q E->vs.length=ps.length)
  (kB:∀(A:Around) (outer:List Env) (s:Shared) (H:Hp) (vs:List V) (Q:VK) (E:XK),dN k (A.deeper (envOfC qual scope s.heap.objs.size f a7))->sp vs H Q E->
   ∃t,fU (jF CX P w K mg base N qual scope f a7 A outer s H E) body t/\t {nx:=λ_ H'=>Q .a9 H',rt:=Q} (start N vs) H) :
  a8 P w K mg base CX (k+1) f (PySem.W.fnOf name qual params body scope dV kV doc pm an a7 ct) ps sp:=by
 refine ⟨len,λA outer s H args us vs Q E hr e0 hb r ke=>?_⟩;have hl:=len _ _ _ _ ke;have KX:K.In s.heap:=e0.mod.dE.keeps λb o e=>(e0.bs b o e).1;have lim:s.heap.NoLimit:=e0.mod.nolimit.keeps λb o e=>(e0.bs b o e).1;have Su:∀y∈ps.zip us,scope.names.lookup y.1=some .local\/(scope.names.lookup y.1=some .cell/\((cellsFrom (s.heap.objs.size+1) scope.names []).lookup y.1).isSome=true):=fun⟨n,v⟩ hy=>by
  rcases S.par n (uC hy).1 with q | q;·exact .inl q
  ·exact .inr ⟨q,PySem.W.cellsFrom_some _ _ _ (.inl q)⟩
 refine codeAny_call_function hr.depth (KX _ _ lk) rfl S.co S.gen rfl (PySem.W.codeRec_of KX gi) (hb _ _ _ _ ?_);refine wpAny_newFunctionEnv_cells S.kind Su λenv he s1 x=>?_;subst he;refine ⟨lim.keeps x.toInCall.keep,codeAny_func ?_⟩;obtain ⟨t,ht,hq⟩:=kB A outer s H vs Q E (hr.deeper _) ke;have I:Inv (jF CX P w K mg base N qual scope f a7 A outer s H E) [] (start N vs) H s1:=Ss S hr.hd e0 hl r x;refine cY (ht [] s1 (start N vs) H _ I hq) (λfl s' hs=>?_) λe s' hs=>hs;have fin:∀{σ':St} {H':Hp} {v:V} {u:Value},Inv (jF CX P w K mg base N qual scope f a7 A outer s H E) [] σ' H' s'->RelV v u->Q v H'->CE outer P w H s Q u s':=
  fun{σ' H' v u} J rv q=>(pi v H' J.os J.bare J.base J.aG rv q)
 cases fl with
 | ret u=>intros bn13 hs v σ' H' J rv q;exact fin J rv q
 | next=>intros bn5 hs σ' H' J q;exact fin (v:=V.a9) (u:=Value.none) J rfl q
 | brk=>intros bn5 hs _ _ _ q;exact False.elim q
 | cont=>intros bn5 hs _ _ _ q;exact False.elim q
section
variable {X:Cx} {x:Str} {p pos:Pos} {e:Expr} {es:List Expr} {t:TA} {id T:String} {r:List V->Hp->VK->Prop}
def Fm(r:List V->Hp->VK->Prop)(t:TA):TE:=λσ H Q=>t σ H λvs H1=>r vs H1 Q
theorem aS(hc:lL X (.builtin id) r)(hg:Gl X x)(hm:X.mg x=none)(hv:bootBuiltins x=some (.builtin id))(ha:PA X (e::es) t)(hn:x ≠ "__name__":=by decide)(nH:(x == ("__debug__":Str))=false:=by decide)
  (he:starEach (e::es) X.env=(false,eval e X.env)::starEach es X.env:=by rfl) (jg:(backTo pos (starEach es X.env)).any (·.1)=false:=by rfl):PE X (.Call (.Name x p) (e::es) [] pos) (Fm r t):=by
 intro pins s σ H Q I h;refine AS (qp I hg hm hv ?_ hn nH);exact PyProof.Rows.callWith_builtin1 (aK (ha pos pins s σ H _ I h) λus s1 ⟨vs,H1,I1,r1,q1⟩=>hc pins s1 σ H1 vs us Q I1 r1 q1) he jg
theorem nI(hc:lL X (.type T) r)(hg:Gl X x)(hm:X.mg x=none)(hv:bootBuiltins x=some (.type T))(ha:PA X (e::es) t)(hn:x ≠ "__name__":=by decide)(nH:(x == ("__debug__":Str))=false:=by decide)
  (he:starEach (e::es) X.env=(false,eval e X.env)::starEach es X.env:=by rfl) (jg:(backTo pos (starEach es X.env)).any (·.1)=false:=by rfl):PE X (.Call (.Name x p) (e::es) [] pos) (Fm r t):=by
 intro pins s σ H Q I h;refine AS (qp I hg hm hv ?_ hn nH);exact yq (aK (ha pos pins s σ H _ I h) λus s1 ⟨vs,H1,I1,r1,q1⟩=>hc pins s1 σ H1 vs us Q I1 r1 q1) he jg
end
end L2
namespace HT
open PySem PyProof.Rows
section
open PySem.SeqAt
open PySem.AutoSeq1 (wpAny_loadPart')
open PySem.MeetsSeq PySem.MeetsSeq2 PySem.MeetsSeq3
end
section
variable {prog:Program} {w:World} {A:Around} {E:cQ} {s:Shared}
def fH(n d:Nat):Option Int->Nat
 | none=>d
 | some v=>if v<0 then (v+(n:Int)).toNat else min v.toNat n
theorem Sv(n d k:Nat):fH n d (some (k:Int))=min k n:=by
 show (if (k:Int)<0 then ((k:Int)+(n:Int)).toNat else min (k:Int).toNat n)=min k n
 rw [ao ⋯,dI]
end
end HT
namespace L2
open PySem PySem.Spec PyProof.Rows
abbrev TO:=St->Hp->(Option Int->Hp->Prop)->Prop
def PO(X:Cx)(e:Option Expr)(t:TO):Prop:=
 ∀(pins:bE) (s:Shared) (σ:St) (H:Hp) (Q:Option Int->Hp->Prop),Inv X pins σ H s->t σ H Q->
  wpAny (model X.prog X.w) X.A (evalPart e X.env) (λu s'=>∃o H',Inv X pins σ H' s'/\IsPart u o/\Q o H') X.xe s
def Sw:TO:=λ_ H Q=>Q none H
def Sx(t:TE):TO:=λσ H Q=>t σ H λx H1=>∃i,x=.int i/\Q (some i) H1
section
variable {X:Cx} {e:Expr} {te:TE} {lo hi:Option Expr} {tl th:TO} {pos p2:Pos}
theorem vc:PO X none Sw:=by intro pins s σ H Q I h;rw [evalPart_none];exact fB ⟨none,H,I,.none,h⟩
theorem vd(h:PE X e te):PO X (some e) (Sx te):=by intro pins s σ H Q I hw;rw [evalPart_some];refine aK (h pins s σ H _ I hw) λu s1 ⟨x,H1,I1,r1,q1⟩=>?_;obtain ⟨i,rfl,q⟩:=q1;obtain ⟨t,rfl⟩:=r1;exact ⟨some i,H1,I1,.int i t,q⟩
def KP(X:Cx)(r:V->Option Int->Option Int->Hp->VK->Prop):Prop:=
 ∀(pins:bE) (s:Shared) (σ:St) (H:Hp) (x:V) (v vl vu:Value) (lo hi:Option Int) (sl:Addr) (Q:VK),Inv X pins σ H s->RelV x v->s.heap.IsSliceOf sl vl vu .none->IsPart vl lo->IsPart vu hi->r x lo hi H Q->
  ∃T id,typeLookup (.type T) "__getitem__"=pure (some (.builtin id))/\s.TypeIs v T/\wpAny (model X.prog X.w) X.A (getItem v (.ref sl)) (EP X pins σ Q) X.xe s
def Sy(r:V->Option Int->Option Int->Hp->VK->Prop)(te:TE)(tl th:TO):TE:=λσ H Q=>te σ H λx H1=>tl σ H1 λl H2=>th σ H2 λu H3=>r x l u H3 Q
theorem vf{r:V->Option Int->Option Int->Hp->VK->Prop}(hr:KP X r)(he:PE X e te)(hl:PO X lo tl)(hu:PO X hi th):PE X (.Subscript e (.Slice lo hi none p2) pos) (Sy r te tl th):=by intro pins s σ H Q I h;refine Subscript_ (aK (he pins s σ H _ I h) λv s1 ⟨x,H1,I1,r1,q1⟩=>?_);refine wpAny_Slice (aK (hl pins s1 σ H1 _ I1 q1) λvl s2 ⟨l,H2,I2,pl,q2⟩=>aK (hu pins s2 σ H2 _ I2 q2) λvu s3 ⟨u,H3,I3,pu,q3⟩=>?_);rw [evalPart_none];refine fB ?_;have I4:Inv X pins σ H3 {s3 with heap:=s3.heap.push {cls:=.type "slice",data:=.fields #[vl,vu,.none]}}:=I3.kept (t':=s3.toks) λb ob q=>dU _ q;obtain ⟨T,id,hT,ht,hg⟩:=hr pins {s3 with heap:=s3.heap.push {cls:=.type "slice",data:=.fields #[vl,vu,.none]}} σ H3 x v vl vu l u s3.heap.objs.size Q I4 r1 (Heap.IsSliceOf.new ..) pl pu q3;show wpAny (model X.prog X.w) X.A (subscriptTail e (.Slice lo hi none p2) v (.ref s3.heap.objs.size)) (EP X pins σ Q) X.xe {s3 with heap:=s3.heap.push {cls:=.type "slice",data:=.fields #[vl,vu,.none]}};exact tail_any (ops:=[.ref s3.heap.objs.size,v]) ht hT hg (by with_unfolding_all rfl)
def o8(xs:List V)(lo hi:Option Int):List V:=(xs.drop (HT.fH xs.length 0 lo)).take (HT.fH xs.length xs.length hi-HT.fH xs.length 0 lo)
theorem Sz(xs:List V)(lo hi:Option Int):(o8 xs lo hi).length<=xs.length:=by unfold o8;rw [oO,List.length_drop];lia
end
def fY(n:Nat)(i:Int):Option Nat:=if 0<=i then (if i<n then some i.toNat else none) else if -(n:Int)<=i then some (i+n).toNat else none
def dF{α:Type}(xs:List α)(i:Int):Option α:=(fY xs.length i).bind λj=>xs[j]?
variable {i:Int} {j:Nat}
theorem KQ{n:Nat}(h:fY n i=some j):seqIndex? i n=some j/\j<n/\-(n:Int)<=i/\i<n:=by
 unfold fY at h;by_cases h0:0<=i
 ·rw [aq h0] at h
  by_cases h1:i<n
  ·rw [aq h1] at h
   have e:i.toNat=j:=Option.some.inj h;exact ⟨by rw [seqIndex_of h0 h1,e],⋯,⋯,h1⟩
  ·rw [ao h1] at h;cases h
 ·rw [ao h0] at h
  by_cases h1:-(n:Int)<=i
  ·rw [aq h1] at h
   have e:(i+n).toNat=j:=Option.some.inj h;exact ⟨by rw [seqIndex_neg ⋯ h1,e],⋯,h1,⋯⟩
  ·rw [ao h1] at h;cases h
theorem Fn{α:Type}{xs:List α}{v:α}(h:dF xs i=some v):∃j,seqIndex? i xs.length=some j/\xs[j]?=some v/\j<xs.length/\-(xs.length:Int)<=i/\i<xs.length:=by
 unfold dF at h;cases e:fY xs.length i with
 | none=>rw [e] at h;cases h
 | some j=>rw [e] at h;obtain ⟨h1,h2,h3,h4⟩:=KQ e;exact ⟨j,h1,h,h2,h3,h4⟩
theorem iw{α:Type}{xs:List α}{v:α}(h:xs[j]?=some v):dF xs (j:Int)=some v:=by
 have hj:j<xs.length:=(dj.mp h).1;have e:fY xs.length (j:Int)=some j:=by unfold fY;rw [aq ⋯,aq ⋯];simp
 unfold dF;rw [e];exact h
variable {α:Type}
theorem KR(xs:List α)(v:α):dF (xs++[v]) (-1)=some v:=by
 have hl:(xs++[v]).length=xs.length+1:=by simp
 have e:fY (xs++[v]).length (-1)=some xs.length:=by
  unfold fY;rw [hl,ao ∅,aq ⋯]
  congr 1
  lia
 unfold dF;rw [e];show (xs++[v])[xs.length]?=some v;simp
def KS(b:Expr):Prop:=∀o i,subscripted b false o i=operate [o,i] (getItem o i)
def vg(X:Cx)(r:R2):Prop:=
 ∀(value slice:Expr) (pins:bE) (s:Shared) (σ:St) (H:Hp) (x y:V) (v u:Value) (Q:VK),Inv X pins σ H s->RelV x v->RelV y u->r x y H Q->
  subscripted slice false v u=operate [v,u] (getItem v u)->wpAny (model X.prog X.w) X.A (subscriptTail value slice v u) (EP X pins σ Q) X.xe s
def Fo(X:Cx)(id:String)(r:V->List V->Hp->VK->Prop):Prop:=
 ∀(pins:bE) (s:Shared) (σ:St) (H:Hp) (x:V) (xs:List V) (v:Value) (us:List Value) (Q:VK),Inv X pins σ H s->RelV x v->Vals xs us->r x xs H Q->
  wpAny (model X.prog X.w) X.A (call (.builtin id) (v::us)) (EP X pins σ Q) X.xe s
section
variable {X:Cx} {a b:Expr} {ta tb:TE} {pos:Pos}
theorem Fp{r:R2}(hr:vg X r)(ha:PE X a ta)(hb:PE X b tb)(hs:KS b):PE X (.Subscript a b pos) (qx r ta tb):=by intro pins s σ H Q I h;exact Subscript_ (Fc ha hb I h λv u s2 x y H2 I2 rx ry q=>hr a b pins s2 σ H2 x y v u Q I2 rx ry q (hs _ _))
theorem aB{a:Expr}{r:R2}(hr:vg X r)(ha:PE X a ta)(hb:PE X b tb)(hs:KS b:=by exact λ_ _=>rfl):PE X (.Subscript a b pos) (qx r ta tb):=Fp hr ha hb hs
def KU(K:aI):R2:=λx y H Q=>∃p xs i v,x=.ref p/\y=.int i/\bG K H p xs/\dF xs i=some v/\Q v H
def KW(K:aI):R2:=λx y H Q=>∃p xs i v,x=.ref p/\y=.int i/\fE K H p xs/\dF xs i=some v/\Q v H
theorem cz:vg X (KU X.K):=by
 intro value slice pins s σ H x y v u Q I rx ry h hs;intros bn26 h p xs i z rfl rfl hq he q;cases rx;obtain ⟨t,rfl⟩:=ry;obtain ⟨av,r,pl,hz⟩:=I.list hq;obtain ⟨j,h1,h2,h3,h4,h5⟩:=Fn he;obtain ⟨w,ew,qv⟩:=r.get h2;have hl:=r.length;have hn:=yP;have fin:EP X pins σ Q w s:=(ap z H I qv q);by_cases h0:0<=i
 ·have hj:i.toNat=j:=by rw [seqIndex_of h0 h5] at h1;exact Option.some.inj h1
  exact item_listR pl.isList h0 ⋯ (by rw [hj];simpa using ew) fin hs
 ·have hj:(i+(av.toArray.size:Int)).toNat=j:=by
   rw [seqIndex_neg ⋯ h4] at h1
   rw [eY,<-hl];exact Option.some.inj h1
  exact subscriptTail_builtinR (x:=w) pl.isList.typeIs slot_list_getitem.lookup
   (wpAny_getItem_list_neg (Q:=λr s'=>r=w/\EP X pins σ Q r s') pl.isList ⋯ (by rw [eY] <;> lia) ⋯ (by rw [hj];simpa using ew) ⟨rfl,fin⟩) hs
theorem aU:vg X (KW X.K):=by
 intro value slice pins s σ H x y v u Q I rx ry h hs;intros bn26 h p xs i z rfl rfl hq he q;cases rx;obtain ⟨t,rfl⟩:=ry;obtain ⟨av,r,pl,hz⟩:=I.tuple hq;obtain ⟨j,h1,h2,h3,h4,h5⟩:=Fn he;obtain ⟨w,ew,qv⟩:=r.get h2;have hl:=r.length;have hn:=yP;have fin:EP X pins σ Q w s:=(ap z H I qv q)
 exact subscriptTail_builtinR (x:=w) pl.typeIs slot_tuple_getitem.lookup
  (getItem_tuple (j:=j) (Q:=λr s'=>r=w/\EP X pins σ Q r s') pl ⋯ ⋯ (by rw [eY,<-hl];exact h1) (by simpa using ew) ⟨rfl,fin⟩) hs
theorem SA(av:List Value)(n j:Nat)(u:Value):Obj.mapSeq (·.setIfInBounds j u) {cls:=.type "list",data:=.seq av.toArray n}={cls:=.type "list",data:=.seq (av.set j u).toArray n}:=by simp [Obj.mapSeq]
theorem Inv.lst{pins:bE}{σ:St}{H:Hp}{s:Shared}{p:Addr}{xs:List V}(I:Inv X pins σ H s)(h:H p=some (.lst xs)) :
  ∃(av:List Value) (n:Nat),Vals xs av/\s.heap.get? p=some {cls:=.type "list",data:=.seq av.toArray n}/\xs.length<=sizeLine:=by
 obtain ⟨z,av,n,r,e⟩:=I.aG p _ h;exact (ap av n r e z)
variable {pins:bE} {σ:St} {H:Hp} {s:Shared}
theorem Inv.SD{p:Addr}{xs ys:List V}{av its':List Value}{n n':Nat}{f:Obj->Obj}(I:Inv X pins σ H s)(h:H p=some (.lst xs))
  (ho:s.heap.get? p=some {cls:=.type "list",data:=.seq av.toArray n}) (hf:f {cls:=.type "list",data:=.seq av.toArray n}={cls:=.type "list",data:=.seq its'.toArray n'}) (r:Vals ys its') (hz:ys.length<=sizeLine) (t:Nat) :
  Inv X pins σ (upd H p (.lst ys)) {s with heap:=s.heap.update p f,toks:=t}:=by
 have e:(s.heap.update p f).get? p=some {cls:=.type "list",data:=.seq its'.toArray n'}:=by rw [Heap.get?_update_self f ho (by rw [hf] <;> rfl),hf]
 refine I.write (x:=p) (e:=p) (by rw [h];trivial) (.inl rfl) (λb u hb q=>(Heap.get?_update_other _ _ (Ne.symm hb)).trans q) ⟨_,e⟩ ?_
 exact ⟨hz,its',n',r,e⟩
def SE:V->V->V->Hp->(Hp->Prop)->Prop:=λo i v H Q=>∃p xs k j,o=.ref p/\i=.int k/\H p=some (.lst xs)/\fY xs.length k=some j/\Q (upd H p (.lst (xs.set j v)))
theorem set_list:E4 X SE:=by
 intro pins s σ H o i v ov iv u Q I ro ri rv h;intros bn26 h p xs k j rfl rfl hp hj q;cases ro;obtain ⟨t,rfl⟩:=ri;obtain ⟨av,n,r,ho,hz⟩:=I.lst hp;obtain ⟨h1,h2,h3,h4⟩:=KQ hj;have hl:=r.length;have hn:=yP;have I':Inv X pins σ (upd H p (.lst (xs.set j v))) {s with heap:=s.heap.update p (Obj.mapSeq (·.setIfInBounds j u))}:=
  I.SD hp ho (SA av n j u) (r.set rv j) (by rw [uD];exact hz) s.toks
 by_cases h0:0<=k
 ·have hk:k.toNat=j:=by rw [seqIndex_of h0 h4] at h1;exact Option.some.inj h1
  exact PySem.W.ki_setAt ho h0 ⋯ (by rw [eY,<-hl];exact h4) (by rw [hk];exact (ac _ I' q))
 ·have hk:(k+(av.toArray.size:Int)).toNat=j:=by
   rw [seqIndex_neg ⋯ h3] at h1
   rw [eY,<-hl];exact Option.some.inj h1
  exact PySem.W.ki_setBack ho ⋯ (by rw [eY,<-hl];exact h3) ⋯ (by rw [hk];exact (ac _ I' q))
theorem SF(lo hi:Option Int)(n:Nat):(sliceBounds lo hi none n).1=((HT.fH n 0 lo:Nat):Int)/\(sliceBounds lo hi none n).2.1=((HT.fH n n hi:Nat):Int)/\(sliceBounds lo hi none n).2.2=1:=by
 refine ⟨?_,?_,rfl⟩
 ·cases lo with
  | none=>simp [sliceBounds,HT.fH]
  | some i=>
   simp only [sliceBounds,HT.fH,Option.getD_none,show (1:Int)>0 by decide,if_true]
   by_cases h:i<0;·simp only [h,if_true] <;> lia
   ·simp only [h,if_false] <;> lia
 ·cases hi with
  | none=>simp [sliceBounds,HT.fH]
  | some i=>
   simp only [sliceBounds,HT.fH,Option.getD_none,show (1:Int)>0 by decide,if_true]
   by_cases h:i<0;·simp only [h,if_true] <;> lia
   ·simp only [h,if_false] <;> lia
theorem SG(av:List Value)(lo hi:Option Int):slicePick av.toArray lo hi none=((av.drop (HT.fH av.length 0 lo)).take (HT.fH av.length av.length hi-HT.fH av.length 0 lo)).toArray:=by obtain ⟨h1,h2,h3⟩:=SF lo hi av.toArray.size;unfold slicePick;rw [h1,h2,h3];simp only [sliceRange_one,pick_run,eY] <;> rfl
def SH(K:aI):V->Option Int->Option Int->Hp->VK->Prop:=λx lo hi H Q=>∃a xs,x=.ref a/\bG K H a xs/\∀p,H p=none->Q (.ref p) (upd H p (.lst (o8 xs lo hi)))
theorem vh:KP X (SH X.K):=by
 intro pins s σ H x v vl vu lo hi sl Q I rx hs pl pu h;intros bn9 h a xs rfl hx q;cases rx;obtain ⟨av,r,ht,hz⟩:=I.list hx;have hlen:=r.length;refine (ap ("list") _ slot_list_getitem.lookup ht.isList.typeIs ?_);refine wpAny_getItem_list_slice ht.isList hs pl pu .none (by simp) ?_ (by rw [eY] <;> lia)
 rw [SG,<-hlen];refine ⟨.ref s.heap.objs.size,_,I.laid (t':=s.toks) (o:=.lst (o8 xs lo hi)) (λb ob q=>dU _ q) (aL _) ?_,rfl,q _ (I.aG.fresh (aL _))⟩;exact ⟨af (Sz xs lo hi) hz,_,0,(r.drop (HT.fH xs.length 0 lo)).take (HT.fH xs.length xs.length hi-HT.fH xs.length 0 lo),iI _ rfl⟩
def lO:V->Bool
 | .a9=>true
 | .bl _=>true
 | .int _=>true
 | .str _=>true
 | _=>false
def vi:V->V->Bool
 | .a9,.a9=>true
 | .bl a,.bl b=>a == b
 | .bl a,.int b=>(if a then 1 else 0) == b
 | .int a,.bl b=>a == (if b then 1 else 0)
 | .int a,.int b=>a == b
 | .str a,.str b=>a == b
 | _,_=>false
variable {x:V} {v:Value}
theorem Fs{A:Around}{y:V}{u:Value}(ry:RelV y u)(rx:RelV x v)(fy:lO y=true)(fx:lO x=true):SeqAt.EqAt A s u v (vi y x):=by
 cases y with
 | a9=>
  cases ry;cases x with
  | a9=>cases rx;exact SeqAt.EqAt.same _
  | bl b=>cases rx;exact SeqAt.EqAt.none_bool b
  | int b=>obtain ⟨t,rfl⟩:=rx;exact SeqAt.EqAt.none_int b t
  | str b=>obtain ⟨t,rfl⟩:=rx;exact SeqAt.EqAt.none_str b t
  | _=>exact absurd (show false=true from fx) dW
 | bl a=>
  cases ry;cases x with
  | a9=>cases rx;exact SeqAt.EqAt.bool_none a
  | bl b=>cases rx;exact SeqAt.EqAt.bool_bool a b
  | int b=>obtain ⟨t,rfl⟩:=rx;exact SeqAt.EqAt.bool_int a b t
  | str b=>obtain ⟨t,rfl⟩:=rx;exact SeqAt.EqAt.bool_str a b t
  | _=>exact absurd (show false=true from fx) dW
 | int a=>
  obtain ⟨t',rfl⟩:=ry;cases x with
  | a9=>cases rx;exact SeqAt.EqAt.int_none a t'
  | bl b=>cases rx;exact SeqAt.EqAt.int_bool a t' b
  | int b=>obtain ⟨t,rfl⟩:=rx;exact SeqAt.EqAt.int_int a t' b t
  | str b=>obtain ⟨t,rfl⟩:=rx;exact SeqAt.EqAt.int_str a t' b t
  | _=>exact absurd (show false=true from fx) dW
 | str a=>
  obtain ⟨t',rfl⟩:=ry;cases x with
  | a9=>cases rx;exact SeqAt.EqAt.str_none a t'
  | bl b=>cases rx;exact SeqAt.EqAt.str_bool a t' b
  | int b=>obtain ⟨t,rfl⟩:=rx;exact SeqAt.EqAt.str_int a t' b t
  | str b=>obtain ⟨t,rfl⟩:=rx;exact SeqAt.EqAt.str_str a t' b t
  | _=>exact absurd (show false=true from fx) dW
 | _=>exact absurd (show false=true from fy) dW
theorem bR:lL X (.builtin "len") (λxs H Q=>∃p ys,xs=[.ref p]/\(bG X.K H p ys\/fE X.K H p ys)/\Q (.int ys.length) H):=by
 intro pins s σ H xs us Q I r h;intros bn9 h p ys rfl hq q;obtain ⟨u,rfl,rx⟩:=vals1 r;cases rx;have hn:=yP;rcases hq with hq | hq
 ·obtain ⟨av,r',pl,hz⟩:=I.list hq
  have hlen:=r'.length;exact Calls.call_len_list pl.isList (by simp only [eY] <;> lia) ⟨.int ys.length,H,I.tok _,⟨s.toks+1,by rw [eY,hlen]⟩,q⟩
 ·obtain ⟨av,r',pl,hz⟩:=I.tuple hq
  have hlen:=r'.length;exact len_tuple pl (by simp only [eY] <;> lia) ⟨.int ys.length,H,I.tok _,⟨s.toks+1,by rw [eY,hlen]⟩,q⟩
theorem qH:lL X (.type "list") (λxs H Q=>∃p ys,xs=[.ref p]/\(bG X.K H p ys\/fE X.K H p ys)/\∀l,H l=none->Q (.ref l) (upd H l (.lst ys))):=by
 intro pins s σ H xs us Q I r h;intros bn9 h p ys rfl hq q;obtain ⟨u,rfl,rx⟩:=vals1 r;cases rx
 have fin:∀(av:List Value),Vals ys av->ys.length<=sizeLine->∀(h':Heap) (c':Nat),(∀b o',s.heap.get? b=some o'->h'.get? b=some o')->
   h'.get? s.heap.objs.size=some {cls:=.type "list",dict:=none,data:=.seq av.toArray c',slots:=#[]}->EP X pins σ Q (.ref s.heap.objs.size) {s with heap:=h'}:=λav r' hz h' c' kp e=>
  ⟨.ref s.heap.objs.size,_,I.laid (t':=s.toks) kp (aL _) (show fD X.prog X.w _ h' _ (.lst ys) from ⟨hz,av,c',r',e⟩),rfl,q _ (I.aG.fresh (aL _))⟩
 rcases hq with hq | hq
 ·obtain ⟨av,r',pl,hz⟩:=I.list hq
  have hlen:=r'.length;obtain ⟨o,ho,hc,n,hd⟩:=pl.isList;exact call_list_seq p (.inl rfl) ho hc hd (λh' c' kp e=>fin av r' hz h' c' kp e) (by simp only [eY] <;> lia)
 ·obtain ⟨av,r',pl,hz⟩:=I.tuple hq
  have hlen:=r'.length;intros bn4 pl o ho hc bnE n hd;exact call_list_seq p (.inr rfl) ho hc hd (λh' c' kp e=>fin av r' hz h' c' kp e) (by simp only [eY] <;> lia)
def Ft(K:aI)(T:String)(x:V)(H:Hp):Prop:=match x with
 | .str _=>T="str"
 | .int _=>T="int"
 | .ref p=>(T="list"/\∃xs,bG K H p xs)\/(T="tuple"/\∃o,K.lookup p=some o/\o.cls=.type "tuple"/\o.dict=none) \/
   (T="dict"/\((∃eE,H p=some (.dK eE))\/∃eE,H p=some (.dT eE)))\/(T="set"/\∃S n,H p=some (.set S n))
 | _=>False
theorem KY{T:String}(I:Inv X pins σ H s)(r:RelV x v)(ty:Ft X.K T x H) :
  s.TypeIs v T/\∀a,v=.ref a->∃ob,s.heap.get? a=some ob/\ob.dict=none:=by
 cases x with
 | str z=>obtain ⟨t,rfl⟩:=r;cases (show T="str" from ty);exact ⟨typeIs_str s z t,λ_ e=>nomatch e⟩
 | int i=>obtain ⟨t,rfl⟩:=r;cases (show T="int" from ty);exact ⟨typeIs_int s i t,λ_ e=>nomatch e⟩
 | ref p=>
  cases r;rcases ty with ⟨rfl,xs,hq⟩ | ⟨rfl,o,hk,hc,hd⟩ | ⟨rfl,hk⟩ | ⟨rfl,S,n,hk⟩
  ·obtain ⟨av,_,pl,_⟩:=I.list hq
   refine ⟨pl.isList.typeIs,λa e=>?_⟩;cases e;intros bn10 pl o n e c hd _;exact (ac o e hd)
  ·refine ⟨⟨o,I.d9 p o hk,hc⟩,λa e=>?_⟩
   cases e;exact ⟨o,I.d9 _ o hk,hd⟩
  ·have z:∃o,s.heap.get? p=some o/\o.ExactDict:=by
    rcases hk with ⟨eE,hk⟩ | ⟨eE,hk⟩
    ·obtain ⟨_,_,_,_,o,_,_,e,ex,_⟩:=I.aG p _ hk
     exact ⟨o,e,ex⟩
    ·obtain ⟨_,_,_,_,o,_,_,e,ex,_⟩:=I.aG p _ hk
     exact ⟨o,e,ex⟩
   intros bn0 z o e ex;refine ⟨(ac o e ex.1),λa e2=>?_⟩;cases e2;exact (ac o e ex.2.1)
  ·obtain ⟨o,_,_,_,e,ex,_⟩:=I.aG p _ hk
   refine ⟨(ac o e ex.1),λa e2=>?_⟩;cases e2;exact (ac o e ex.2.1)
 | _=>exact False.elim ty
def SI(K:aI)(T:String)(r:V->List V->Hp->VK->Prop)(to:TE):TE:=λσ H Q=>to σ H λx H1=>Ft K T x H1/\r x [] H1 Q
def SJ(K:aI)(T:String)(r:V->List V->Hp->VK->Prop)(to:TE)(t:TA):TE:=λσ H Q=>to σ H λx H1=>Ft K T x H1/\t σ H1 λxs H2=>r x xs H2 Q
variable {o e:Expr} {es:List Expr} {to:TE} {t:TA} {name:Str} {apos jh:Pos} {T id:String} {r:V->List V->Hp->VK->Prop}
theorem SK(pa:PlainAttrs T)(slot:Slot T name id)(Fu:typeOf (.builtin id)=pure (.type "method_descriptor"))(hm:Fo X id r)(ho:PE X o to)
  (Fv:attributeBase o name X.env (eval o X.env)=eval o X.env:=by rfl) (Fw:(apos.endLine == jh.line)=true:=by rfl):PE X (.Call (.Attribute o name apos) [] [] jh) (SI X.K T r to):=by
 intro pins s σ H Q I h;refine wpAny_Call_method0_late Fv Fw (aK (ho pins s σ H _ I h) λv s1 ⟨x,H1,I1,r1,ty,q1⟩=>?_);obtain ⟨h1,h2⟩:=KY I1 r1 ty;exact (pi T id pa slot Fu h1 h2 (Calls.callWith_builtin rfl (PySem.evalArgs_none (hm pins s1 σ H1 x [] v [] Q I1 r1 .nil q1))))
theorem KZ(pa:PlainAttrs T)(slot:Slot T name id)(Fu:typeOf (.builtin id)=pure (.type "method_descriptor"))(hm:Fo X id r)(ho:PE X o to)(ha:PA X (e::es) t)
  (Fv:attributeBase o name X.env (eval o X.env)=eval o X.env:=by rfl)
  (SM:((backTo jh (starEach (e::es) X.env)).all (λx=>!x.1) && (backToKw jh (keywordEach [] X.env)).all (λx=>x.1.isSome)
   && decide ((e::es).length+([]:List Keyword).length+(if ([]:List Keyword).isEmpty then 0 else 1)<30))=true:=by rfl)
  (Fw:(apos.endLine == jh.line)=true:=by rfl) (hs:starEach (e::es) X.env=(false,eval e X.env)::starEach es X.env:=by rfl) (SN:(backTo jh (starEach es X.env)).any (·.1)=false:=by rfl) :
  PE X (.Call (.Attribute o name apos) (e::es) [] jh) (SJ X.K T r to t):=by
 intro pins s σ H Q I h;refine wpAny_Call_method_late Fv SM Fw rfl (aK (ho pins s σ H _ I h) λv s1 ⟨x,H1,I1,r1,ty,q1⟩=>?_);obtain ⟨h1,h2⟩:=KY I1 r1 ty;refine (pi T id pa slot Fu h1 h2 ?_);have hA:=ha jh pins s1 σ H1 _ I1 q1;rw [hs] at hA ⊢;refine Calls.callWith_builtin (by show (false || (backTo jh (starEach es X.env)).any (·.1))=false;rw [SN] <;> rfl) (Calls.evalArgs_plain ?_)
 exact aK hA λus s2 ⟨vs,H2,I2,r2,q2⟩=>hm pins s2 σ H2 x vs v us Q I2 r1 r2 q2
end
def K0(X:Cx)(id:String)(r:V->List V->Hp->VK->Prop):Prop:=
 ∀(pins:bE) (s:Shared) (σ:St) (H:Hp) (x:V) (xs:List V) (v:Value) (us:List Value) (Q:VK),Inv X pins σ H s->RelV x v->Vals xs us->r x xs H Q->
  wpAny (model X.prog X.w) X.A (call (.builtin id) (v::us)) (EP X pins σ Q) X.xe s
theorem Vals.one:∀{x:V} {us:List Value},Vals [x] us->∃u,us=[u]/\RelV x u
 | _,_,.cons r .nil=>⟨_,rfl,r⟩
theorem Vals.zero:∀{us:List Value},Vals [] us->us=[]
 | _,.nil=>rfl
theorem Vals.rep{xs:List V}{us:List Value}(h:Vals xs us):∀k:Nat,Vals (List.replicate k xs).flatten (List.replicate k us).flatten
 | 0=>.nil
 | k+1=>by rw [mT,mT,yu,yu];exact Vals.append h (Vals.rep h k)
theorem foldl_rep(av:List Value):∀(k:Nat) (acc:List Value),
  List.foldl (λx1 x2=>x1++x2) acc.toArray (List.replicate k av.toArray)=(acc++(List.replicate k av).flatten).toArray
 | 0,acc=>by simp
 | k+1,acc=>by
  have e:acc.toArray++av.toArray=(acc++av).toArray:=by simp
  have e2:(acc++av)++(List.replicate k av).flatten=acc++(List.replicate (k+1) av).flatten:=by rw [mT,yu,i_]
  rw [<-e2,<-foldl_rep av k (acc++av),<-e,mT,List.foldl_cons]
section
variable {X:Cx} {pins:bE} {σ:St} {H:Hp} {s:Shared} {l b:Addr} {xs ys zs:List V}
variable {av:List Value} {n t':Nat}
theorem Inv.K6{its':List Value}{f:Array Value->Array Value}(I:Inv X pins σ H s)(hH:H l=some (.lst xs))
  (e:s.heap.get? l=some {cls:=.type "list",data:=.seq av.toArray n}) (hf:f av.toArray=its'.toArray) (hv:Vals ys its') (hz:ys.length<=sizeLine) :
  Inv X pins σ (upd H l (.lst ys)) {s with heap:=s.heap.update l (Obj.mapSeq f),toks:=t'}:=by
 have q:=PySem.IsL.update e f;rw [hf] at q;refine I.write (x:=l) (e:=l) (by rw [hH];exact trivial) (.inl rfl) (λb' u hb hu=>(Heap.get?_update_other s.heap (Obj.mapSeq f) (Ne.symm hb)).trans hu) ⟨_,q⟩ ?_
 exact ⟨hz,its',_,hv,q⟩
theorem Inv.K7(I:Inv X pins σ H s)(hv:Vals ys av)(hz:ys.length<=sizeLine) :
  Inv X pins σ (upd H s.heap.objs.size (.lst ys)) {s with heap:=s.heap.push {cls:=.type "list",data:=.seq av.toArray},toks:=t'}:=
 I.laid (λ_ _ q=>dU _ q) (aL _) ⟨hz,av,0,hv,iI _ rfl⟩
theorem Inv.fresh(I:Inv X pins σ H s):H s.heap.objs.size=none:=I.aG.fresh (aL _)
theorem Inv.vj(I:Inv X pins σ H s)(hH:H l=some (.lst xs)):xs.length<=sizeLine/\∃(av:List Value) (n:Nat),Vals xs av/\xs.length=av.length/\s.heap.get? l=some {cls:=.type "list",data:=.seq av.toArray n}:=by obtain ⟨z,av,n,r,e⟩:=I.aG l _ hH;exact ⟨z,av,n,r,r.length,e⟩
theorem K8(h:n<=sizeLine):Builtin.List.listTooLong n=false:=by unfold Builtin.List.listTooLong;exact iH ⋯
end
section
variable {X:Cx}
def SO:V->List V->Hp->VK->Prop:=λx vs H Q=>∃l xs y,x=.ref l/\vs=[y]/\H l=some (.lst xs)/\xs.length<sizeLine/\Q .a9 (upd H l (.lst (xs++[y])))
theorem vk:K0 X "list.append" SO:=by
 intro pins s σ H x vs v us Q I rx rv h;intros bn2 h l xs bn15 y rfl rfl hH hz q;cases rx;obtain ⟨u,rfl,ru⟩:=rv.one;obtain ⟨z,av,n,r,hl,e⟩:=I.vj hH;refine call_meets F.slot_list_append (ac _ e rfl) F.entry_list_append (F.args_list_append_2 _ _) (PySem.list_append l av.toArray n u (by rw [eY];lia)) ⟨e,?_⟩
 refine ⟨.a9,_,I.K6 (its':=av++[u]) hH e (by simp) (r.append (.cons ru .nil)) ?_,rfl,q⟩
 rw [kq,EI];lia
def SQ:V->List V->Hp->VK->Prop:=λx vs H Q=>∃l b xs zs,x=.ref l/\vs=[.ref b]/\H l=some (.lst xs)/\H b=some (.lst zs)/\xs.length+zs.length<=sizeLine/\Q .a9 (upd H l (.lst (xs++zs)))
theorem afO:K0 X "list.extend" SQ:=by
 intro pins s σ H x vs v us Q I rx rv h;intros bnE h l bn25 b xs zs rfl rfl hH hB hz q;cases rx;obtain ⟨u,rfl,ru⟩:=rv.one;cases ru;obtain ⟨z,av,n,r,hl,e⟩:=I.vj hH;obtain ⟨z2,qI,n2,r2,SR,e2⟩:=I.vj hB;have Ku:av.toArray.size+qI.toArray.size<=sizeLine:=by rw [eY,eY];lia
 have Fx:¬(!av.toArray.isEmpty && Builtin.List.listTooLong (av.toArray.size+qI.toArray.size))=true:=by rw [K8 Ku,Bool.and_false];exact dW
 refine call_meets F.slot_list_extend (ac _ e rfl) F.entry_list_extend (F.args_list_extend_2 _ _)
  (AutoSeq1.list_extend_list_list_0 l av.toArray n b qI.toArray n2 Fx (by rw [eY];lia) ⋯) ⟨e,e2,?_⟩
 refine ⟨.a9,_,I.K6 (its':=av++qI) hH e (by simp) (r.append r2) ?_,rfl,q⟩
 rw [kq];lia
def SU:R2:=λx y H Q=>∃l b xs zs,x=.ref l/\y=.ref b/\H l=some (.lst xs)/\H b=some (.lst zs)/\xs.length+zs.length<=sizeLine/\∀p,H p=none->Q (.ref p) (upd H p (.lst (xs++zs)))
theorem nJ:c_ X (binaryOp .Add) SU:=by
 intro pins s σ H x y v u Q I rx ry h;intros bnE h l bn25 b xs zs rfl rfl hH hB hz q;cases rx;cases ry;obtain ⟨z,av,n,r,hl,e⟩:=I.vj hH;obtain ⟨z2,qI,n2,r2,SR,e2⟩:=I.vj hB;refine PySem.P.add_list e e2 ?_ (by rw [eY,eY];lia)
 have ea:av.toArray++qI.toArray=(av++qI).toArray:=by simp
 rw [ea];exact ⟨.ref _,_,I.K7 (t':=s.toks) (r.append r2) (by rw [kq];lia),rfl,q _ I.fresh⟩
def SV:R2:=λx y H Q=>∃l k xs,x=.ref l/\y=.int k/\H l=some (.lst xs)/\-(2 ^ 63)<=k/\k<2 ^ 63/\xs.length*k.toNat<=sizeLine /\
 ∀p,H p=none->Q (.ref p) (upd H p (.lst (List.replicate k.toNat xs).flatten))
theorem len_rep(xs:List α)(k:Nat):(List.replicate k xs).flatten.length=k*xs.length:=by
 induction k with
 | zero=>simp
 | succ k ih=>rw [mT,yu,kq,ih,Nat.succ_mul,Nat.add_comm]
theorem yR:c_ X (binaryOp .Mult) SV:=by
 intro pins s σ H x y v u Q I rx ry h;intros bnE h l bn27 k xs rfl rfl hH h1 h2 hz q;cases rx;obtain ⟨t,rfl⟩:=ry;obtain ⟨z,av,n,r,hl,e⟩:=I.vj hH;have hlen:av.toArray.size*k.toNat<=sizeLine:=by rw [eY,<-hl];exact hz
 have SW:¬av.toArray.size*k.toNat>(2 ^ 63-1) / 8:=by
  have:(sizeLine:Nat)<=(2 ^ 63-1) / 8:=by decide
  lia
 have SX:¬(!Builtin.List.listFitsIndex k)=true:=by rw [fitsIndex_both h1 h2];exact dW
 have Fx:¬Builtin.List.listTooLong (av.toArray.size*k.toNat)=true:=by rw [K8 hlen];exact dW
 have SY:List.foldl (λx1 x2=>x1++x2) #[] (List.replicate (if av.toArray.isEmpty=true then 0 else k.toNat) av.toArray)=(List.replicate k.toNat av).flatten.toArray:=by
  have f0:∀m:Nat,List.foldl (λx1 x2=>x1++x2) #[] (List.replicate m av.toArray)=(List.replicate m av).flatten.toArray:=λm=>by have:=foldl_rep av m [];rw [gg] at this;exact this
  rw [f0];cases av with
  | nil=>simp
  | cons a r'=>rw [ao (by simp)]
 refine wpAny_binaryOp_repeat_ref (T:="list") (U:="int") ∅ (ac _ e rfl) (λs'=>typeIs_int s' k t) noFill_list_mul F.fills_int_mul F.slot_int_rmul repeat_list F.slot_int_index.lookup
  (call_meets F.slot_int_rmul (typeIs_int s k t) F.entry_int_rmul (F.args_int_rmul_2 _ _) (int___rmul___int_list k t l av.toArray n)
   ⟨e,rfl,(ac _ e rfl),call_meets F.slot_list_mul (ac _ e rfl) F.entry_list_mul (F.args_list_mul_2 _ _) (AutoListH.list___mul___list_int_3 l av.toArray n k t SX SW Fx) ⟨e,?_⟩⟩)
 rw [SY];exact ⟨.ref _,_,I.K7 (t':=s.toks) (r.rep k.toNat) (by rw [len_rep,kr];exact hz),rfl,q _ I.fresh⟩
end
section
variable {prog:Program} {w:World} {A:Around} {E:cQ} {s:Shared}
end
section
variable {X:Cx}
end
end L2
namespace K9
open PySem PySem.W PySem.Calls PyProof.Rows
variable {P:Params} {h:Heap}
theorem S0:∀(ns:List Int) (vs:List Value),WellAll P h vs (ns.map WData.int)->IntsAre vs ns:=by
 intro ns
 induction ns with
 | nil=>intro vs w;rw [List.map_nil] at w;cases w;exact .nil
 | cons n ns ih=>
  intro vs w;rw [qg] at w;cases w with
  | cons a b=>cases a;exact .cons _ _ (ih _ b)
variable {l:OpenLaw} {n:Nat}
theorem S2(hn:l.most=some n){args:List WData}{vals:List Value}
  (Bu:l.row.toRowW.claim.pre args=true) (Fy:WellAll P h vals args) :
  ∃a vs ns,vals=[Value.ref a]/\args=[WData.list (ns.map WData.int)]/\h.get? a=some {cls:=.type "list",data:=.seq vs.toArray}/\IntsAre vs ns/\ns.length<=n:=by
 have S3:WShape.hasAll [] args [.list .int]=true:=(pre_splitW Bu).1;have hc:l.pre.holds [] {args:=args}=true:=(pre_splitW Bu).2;obtain ⟨d,r,rfl,h1,h2⟩:=hasAllW_cons S3;obtain rfl:=hasAllW_nil h2;obtain ⟨xs,rfl,h3⟩:=hasW_list h1;obtain ⟨ns,rfl⟩:=items_int h3;have hlen:ns.length<=n:=by
  unfold OpenLaw.pre at hc;have h4:(WTm.not (.lt (.lit (.int (n:Int))) (.len (.arg 0)))).holds [] {args:=[.list (ns.map .int)]}=true:=by have h4:=(holds_andW hc).1;rw [hn] at h4;exact h4
  have h5:=condW_of h4 (w_not (w_lt w_lit (w_len_list (w_arg rfl))));rw [aW] at h5;refine yv λq=>?_;have q':(n:Int)<((ns.length:Nat):Int):=by lia
  first
   | (rw [dZ q'] at h5;exact absurd h5 ∅)
   | (simp at h5;lia)
 cases Fy with
 | cons w1 w2=>
  cases w2;cases w1 with
  | list ho S4=>exact ⟨_,_,ns,rfl,rfl,ho,S0 ns _ S4,hlen⟩
theorem S5(l:OpenLaw)(args:List WData):l.row.toRowW.claim.post args (.bool true) args=true:=
 postW_of (r:=l.row.toRowW) (X:=(true == true))
  (show WShape.has [] (.bool true) .bool=true by first | rfl | decide | simp [WShape.has,WShape.arms,WShape.armsAll])
  (show (WTm.eq .res (.lit (.bool true))).value [] {args:=args,res:=some (.bool true),after:=args}=some (.bool (true == true)) from w_eq_bool (w_res rfl) w_lit) rfl
theorem S6{q:Program}{loose:List Str}{XP:(Str->Option Value)->Heap->Prop}{YP:World->Heap->Prop}{d:DefRec}
  (hn:l.most=some n) (o9:d.params.defaults=[])
  (call:∀(w:World) (s₀ s₁:Shared) (mg mb:dX) (fa:Addr) (o:Obj) (pm cd doc:Value) (a:Addr) (vs:List Value) (ns:List Int),
   Ground q loose [] XP w s₀ mg mb s₁.heap->YP w s₁.heap->
   s₁.heap.get? fa=some o->o.data=.func (docDef d.name d.params d.body d.scope pm cd doc)->s₁.heap.CodeRec cd d.name->mg d.name=some (.ref fa)->
   s₁.heap.get? a=some {cls:=.type "list",data:=.seq vs.toArray}->IntsAre vs ns->ns.length<=n->s₁.gens = #[]->
   codeAny (model l.prog w) callerA (.call (.ref fa) ⟨[.ref a],[]⟩) (λr s'=>r=.ok (.ret (.bool true))/\OldK s₁.heap s'.heap/\s'.os=s₁.os/\AllBare s'.gens) s₁) :
  WalkO q loose XP YP l.row.toRowW d [] (λf vs=>PySem.call f vs):=by
 intro w s₀ s₁ mg mb G Y fa o pm cd doc dV kV ho hd gi hD yS hg args vals as Bu afP hrd Fy hlo;obtain rfl:dV=.none:=Dflts.none hD o9;obtain rfl:kV=.none:=Dflts.noKw hD;obtain ⟨a,vs,ns,rfl,rfl,Fz,hints,hlen⟩:=S2 hn Bu Fy;refine enter_call (codeAny_mono (call w s₀ s₁ mg mb fa o pm cd doc a vs ns G Y ho (fd_plain hd) gi yS Fz hints hlen hg) λr s' hq=>?_);obtain ⟨rfl,h2,h3,h4⟩:=hq;exact ⟨.inl ⟨.bool true,.bool true,[],rfl,λ_=>rfl,.bool true,S5 l _,λ_=>⟨List.Pairwise.nil,λ_ hm=>(nomatch hm)⟩⟩,h2,h3,h4⟩
section
variable {prog:Program} {w:World} {A:Around} {E:cQ} {s:Shared} {K:Frag}
end
end K9
namespace L2
open PySem PySem.Spec PyProof.Rows
theorem K_:∀{vs:List Value} {ns:List Int},IntsAre vs ns->Vals (ns.map V.int) vs
 | _,_,.nil=>.nil
 | _,_,.cons n t h=>.cons ⟨t,rfl⟩ (K_ h)
def FA(H:Hp):Prop:=∀b,H b=none\/∃o xs,H b=some (.ik o (.lst xs))
variable {K:aI} {k:Nat} {x:Str}
theorem S7{P:Program}{w:World}{mg mb:dX}{CX:jE}{fa a:Addr}{fd:FuncData}{sp:Sp}{s₁:Shared}{vs:List Value}{ns:List Int}
  (KX:K.In s₁.heap) (La:s₁.heap.Ns mainGlobals mg) (hb:s₁.heap.Ns builtinsNs mb) (S8:∀x:Str,x ≠ "__name__"->mb x=bootBuiltins x) (S9:s₁.heap.NoLimit) (hg:s₁.gens = #[])
  (ha:s₁.heap.get? a=some {cls:=.type "list",data:=.seq vs.toArray}) (hi:IntsAre vs ns) (hl:ns.length<=sizeLine) (hr:dN k callerA)
  (F:∀base:Heap,K.In base->base.Ns mainGlobals mg->a8 P w K mg base CX k fa fd [x] sp) (S_:∀(s:Shared) (u:Value),BindsTo s fd ⟨[u],[]⟩ [(x,u)])
  (ke:∀H:Hp,FA H->bG K H a (ns.map V.int)->sp [.ref a] H (λv _=>v=.bl true) λ_ _ _=>False)
  (FC:∀H e s',CX [] H s₁ (λ_ _ _=>False) e s'->False) :
  codeAny (model P w) callerA (.call (.ref fa) ⟨[.ref a],[]⟩) (λr s'=>r=.ok (.ret (.bool true))/\OldK s₁.heap s'.heap/\s'.os=s₁.os/\AllBare s'.gens) s₁:=by
 have rv:=K_ hi;have Ta:=hi.length
 have core:∀H:Hp,FA H->bG K H a (ns.map V.int)->dq P w H s₁.heap->(∀b,H b≠none->b=a)->(H a≠none->K.lookup a=none)->
   codeAny (model P w) callerA (.call (.ref fa) ⟨[.ref a],[]⟩) (λr s'=>r=.ok (.ret (.bool true))/\OldK s₁.heap s'.heap/\s'.os=s₁.os/\AllBare s'.gens) s₁:=by
  intro H hO hS aG hA hK;have Lb:∀{b:Addr} {o:Obj},s₁.heap.get? b=some o->H b=none->(m6 s₁.heap H).get? b=some o:=λe n=>QY e n;have yQ:∀{b:Addr} {o:Obj} {es:Array DictEntry} {ep:Nat},s₁.heap.get? b=some o->o.data=.dict es ep->H b=none:=fun{b o es ep} e d=>by
   cases q:H b with
   | none=>rfl
   | some u=>
    have e':b=a:=hA b (by rw [q];simp)
    subst e';rw [ha] at e;cases e;have d':Data.seq vs.toArray _=Data.dict es ep:=d;cases d'
  have Bv:∀{b:Addr} {m:dX},s₁.heap.Ns b m->(m6 s₁.heap H).Ns b m:=fun{b m} ⟨o,es,ep,e,d,r⟩=>⟨o,es,ep,Lb e (yQ e d),d,r⟩;have Lc:K.In (m6 s₁.heap H):=λb o e=>Lb (KX b o e) (by
   cases q:H b with
   | none=>rfl
   | some u=>
    have e':b=a:=hA b (by rw [q];simp)
    subst e';rw [hK (by rw [q];simp)] at e;cases e)
  have hM:Mod K mg (m6 s₁.heap H):=⟨Lc,Bv La,⟨mb,Bv hb,S8⟩,let ⟨mc,h1,h2⟩:=S9;⟨mc,Bv h1,h2⟩⟩
  have e0:qF P w K mg (m6 s₁.heap H) callerA [] s₁ H:=⟨rfl,hM,λb o e=>QZ e,jX (QX _ _),trivial,λb hb=>absurd (show b∈([]:List Addr) from hb) (by simp),aG,.of_eq hg⟩
  refine codeAny_mono ((F _ Lc (Bv La)).run callerA [] s₁ H ⟨[.ref a],[]⟩ [.ref a] [.ref a] _ _ hr e0 (S_ s₁ (.ref a)) (.cons rfl .nil) (ke H hO hS)) λr s' h=>?_;cases r with
  | error e=>exact (FC H e s' h).elim
  | ok fl=>
   cases fl with
   | next=>exact False.elim h
   | brk=>exact False.elim h
   | cont=>exact False.elim h
   | ret u=>
    intros bn10 h v H' os bare un bn1 Tb r' q;have q':v=.bl true:=q;subst q';obtain rfl:u=Value.bool true:=r';refine ⟨rfl,OldK.of_keep λb o e=>?_,os,bare⟩;cases q:H b with
    | none=>exact un.keep b o e q (by intro z;exact absurd (show b∈([]:List Addr) from z) (by simp)) (by simp)
    | some u=>
     rcases hO b with z | ⟨ob,xs,z⟩;·rw [q] at z;cases z
     ·have z2:=un.g9 b ob _ z
      obtain ⟨e1,_⟩:=aG b _ z;obtain ⟨e2,_⟩:=Tb b _ z2;rw [e] at e1;cases e1;exact e2
 cases hk:K.lookup a with
 | some o=>have e:=KX a o hk;rw [ha] at e;cases e;refine core (λ_=>none) (λ_=>.inl rfl) (.inr (re _ vs.toArray _ hk rfl rfl rfl (by rw [eY,Ta];exact hl) (by simpa using rv))) (λb u z=>by have z':(none:Option HO)=some u:=z;cases z') (λb z=>absurd rfl z) λz=>absurd rfl z
 | none=>
  refine core (λb=>if b=a then some (.ik {cls:=.type "list",data:=.seq vs.toArray} (.lst (ns.map V.int))) else none) (λb=>?_) (.inl (.inr ⟨{cls:=.type "list",data:=.seq vs.toArray},aq rfl⟩)) (λb u z=>?_) (λb z=>?_) λ_=>hk
  ·by_cases hb:b=a
   ·exact .inr ⟨_,_,aq hb⟩
   ·exact .inl (ao hb)
  ·by_cases hb:b=a
   ·have z':=(aq hb).symm.trans z
    cases z';subst hb;exact ⟨ha,by rw [aW];exact hl,vs,_,rv,ha⟩
   ·have z':=(ao hb).symm.trans z
    cases z'
  ·by_cases hb:b=a
   ·exact hb
   ·exact absurd (ao hb) z
abbrev Ld {K:aI} {h:Heap} (_:K.In h):PySem.W.Frag:=K
variable {n:Nat}
theorem Tc{l:PySem.W.OpenLaw}{q:Program}{loose:List Str}{XP:(Str->Option Value)->Heap->Prop}{YP:World->Heap->Prop}{d:DefRec}{K:Params->PySem.W.Frag}{CX:World->jE}{sp:World->Sp}
  (hn:l.most=some n) (va:n<=sizeLine) (o9:d.params.defaults=[]) (hr:dN k callerA)
  (hY:∀(w:World) (h:Heap),YP w h->(K w.params).In h)
  (F:∀(w:World) (mg:dX) (fa:Addr) (h:Heap),(K w.params).In h->h.Ns mainGlobals mg->mg d.name=some (.ref fa)->
   ∃fd:FuncData,(∀(s:Shared) (u:Value),BindsTo s fd ⟨[u],[]⟩ [(x,u)]) /\
    ∀base:Heap,(K w.params).In base->base.Ns mainGlobals mg->a8 l.prog w (K w.params) mg base (CX w) k fa fd [x] (sp w))
  (ke:∀(w:World) (H:Hp) (a:Addr) (ns:List Int),ns.length<=n->FA H->bG (K w.params) H a (ns.map V.int)->sp w [.ref a] H (λv _=>v=.bl true) λ_ _ _=>False)
  (FC:∀(w:World) (H:Hp) (s:Shared) (e:Value) (s':Shared),CX w [] H s (λ_ _ _=>False) e s'->False) :
  PySem.W.WalkO q loose XP YP l.row.toRowW d [] (λf vs=>PySem.call f vs):=by
 refine K9.S6 hn o9 λw s₀ s₁ mg mb fa o pm cd doc a vs ns G Y ho hd gi yS Fz hints hlen hg=>?_;have KX:=hY w _ Y;obtain ⟨fd,hb,hF⟩:=F w mg fa _ KX G.T.g yS;exact S7 KX G.T.g G.T.b G.T.builtins G.T.nolimit hg Fz hints (af hlen va) hr hF hb (λH hO hS=>ke w H a ns hlen hO hS) λH e s'=>FC w H s₁ e s'
def inClass(s:Stmt)(j:Nat):Stmt:=match s with
 | .ClassDef _ _ _ body _ _ _ _ _ _ _=>body.getD j (.Pass ⟨0,0,0,0⟩)
 | _=>.Pass ⟨0,0,0,0⟩
def jG(s:Stmt):Arguments:=match s with
 | .FunctionDef _ a _ _ _ _ _ _ _ _=>a
 | _=>{posonlyargs:=[],args:=[],vararg:=none,kwonlyargs:=[],kw_defaults:=[],kwarg:=none,defaults:=[]}
def gN(s:Stmt):List Stmt:=match s with
 | .FunctionDef _ _ b _ _ _ _ _ _ _=>b
 | _=>[]
def aN(s:Stmt):Scope:=match s with
 | .FunctionDef _ _ _ _ _ _ sc _ _ _=>sc
 | _=>{kind:=.function,names:=[],isGenerator:=false,isCoroutine:=false}
abbrev ck:jE:=λ_ _ _ _ _ _=>False
abbrev E0:XK:=λ_ _ _=>False
theorem ax{X:Cx}:Passes ck X E0:=λ_ _ _ _ _ _ _ h=>h.elim
structure fZ (K:aI) (x qual:Str) (st:Stmt) (f:Addr) (fd:FuncData):Prop where
 ex:∃(oc:Value) (od:Option Addr) (kV doc pm:Value) (an:Option Addr) (a7 ct:Value) (gr:Array (Option Value)),
  fd=PySem.W.fnOf x qual (jG st) (gN st) (aN st) .none kV doc pm an a7 ct/\K.lookup f=some ⟨oc,od,.func fd,gr⟩/\PySem.W.codeIn K a7 qual=true
 kp:PySem.W.keepIn K (.ref f)=true
abbrev aH (K:aI) (x:Str) (st:Stmt) (f:Addr) (fd:FuncData):Prop:=fZ K x x st f fd
section
variable {P:Program} {w:World} {K:aI} {mg:dX} {base:Heap}
variable {qual:Str} {st:Stmt} {f:Addr} {fd:FuncData} {N ps:List Str} {sp:Sp}
theorem fZ.ok(F:fZ K x qual st f fd)(S:bH N ps (aN st))(len:∀vs H Q E,sp vs H Q E->vs.length=ps.length)
  (kB:∀(a7:Value) (A:Around) (outer:List Env) (s:Shared) (H:Hp) (vs:List V) (Q:VK) (E:XK),dN k (A.deeper (envOfC qual (aN st) s.heap.objs.size f a7))->sp vs H Q E->
   ∃t,fU (jF ck P w K mg base N qual (aN st) f a7 A outer s H E).qr (gN st) t/\t {nx:=λ_ H'=>Q .a9 H',rt:=Q} (start N vs) H):a8 P w K mg base ck (k+1) f fd ps sp:=by
 obtain ⟨oc,od,kV,doc,pm,an,a7,ct,gr,rfl,lk,gi⟩:=F.ex;refine Fl lk gi S len λA outer s H vs Q E hr ke=>?_;obtain ⟨t,h,q⟩:=kB a7 A outer s H vs Q E hr ke;exact (ac t h.qr q)
theorem fZ.cS(F:fZ K x qual st f fd)(S:bH N ps (aN st))
  (kB:∀(a7:Value) (A:Around) (outer:List Env) (s:Shared) (H:Hp) (vs:List V) (Q:VK) (E:XK),dN k (A.deeper (envOfC qual (aN st) s.heap.objs.size f a7))->sp vs H Q E->
   ∃t,fU (jF ck P w K mg base N qual (aN st) f a7 A outer s H E).qr (gN st) t/\t {nx:=λ_ H'=>Q .a9 H',rt:=Q} (start N vs) H)
  (len:∀vs H Q E,sp vs H Q E->vs.length=ps.length:=by intro vs H Q E h;repeat first | (obtain ⟨rfl,_⟩:=h;rfl) | (subst h;rfl) | obtain ⟨_,h⟩:=h):a8 P w K mg base ck (k+1) f fd ps sp:=F.ok S len kB
theorem fZ.binds(F:fZ K x qual st f fd)
  (h:∀(kV doc pm:Value) (an:Option Addr) (a7 ct:Value) (us:List Value),us.length=ps.length->bindArgs (PySem.W.fnOf x qual (jG st) (gN st) (aN st) .none kV doc pm an a7 ct) ⟨us,[]⟩=pure (ps.zip us)):Binds K fd ps []:=by
 obtain ⟨oc,od,kV,doc,pm,an,a7,ct,gr,rfl,lk,gi⟩:=F.ex;exact .all (h kV doc pm an a7 ct)
theorem fZ.b_(F:fZ K x qual st f fd)
  (h:∀(kV doc pm:Value) (an:Option Addr) (a7 ct:Value) (us:List Value),us.length=ps.length->bindArgs (PySem.W.fnOf x qual (jG st) (gN st) (aN st) .none kV doc pm an a7 ct) ⟨us,[]⟩=pure (ps.zip us):=by intro _ _ _ _ _ _ us hl;rcases us with _ | ⟨_,_ | ⟨_,_ | ⟨_,_ | ⟨_,_ | ⟨_,_ | ⟨_,_ | ⟨_,_⟩⟩⟩⟩⟩⟩⟩ <;> first | rfl | (simp at hl;done)):Binds K fd ps []:=F.binds h
theorem cf{oc:Value}{od an:Option Addr}{gr:Array (Option Value)}{kV doc pm a7 ct:Value}(l:K.lookup f=some ⟨oc,od,.func (PySem.W.fnOf x qual (jG st) (gN st) (aN st) .none kV doc pm an a7 ct),gr⟩)
  (c:PySem.W.codeIn K a7 qual=true) (k:PySem.W.keepIn K (.ref f)=true):fZ K x qual st f (PySem.W.fnOf x qual (jG st) (gN st) (aN st) .none kV doc pm an a7 ct):=⟨⟨oc,od,kV,doc,pm,an,a7,ct,gr,rfl,l,c⟩,k⟩
end
theorem jH(h:n<=1000):n<sizeLine:=ic h ∅
section
variable {X:Cx}
theorem pv(i:Nat){pos:Pos}(hN:X.N[i]?=some x:=by rfl)(hv:oW X.env.scope x:=by first | exact Or.inl rfl | exact Or.inr (Or.inl rfl) | exact Or.inr (Or.inr rfl))(hd:(x == ("__debug__":Str))=false:=by decide)
  (gi:(x == ("__classdict__":Str))=false:=by decide):PE X (.Name x pos) (lH i):=Q6 hN hv hd gi
end
variable {A B:Prop}
theorem b5(h:B):if false=true then A else B:=by rw [ao dW];exact h
theorem fm(h:A):if true=true then A else B:=by rw [aq rfl];exact h
theorem cD{c:Prop}[Decidable c](h1:c->A)(h2:¬c->B):if c then A else B:=by
 by_cases h:c
 ·rw [aq h]
  exact h1 h
 ·rw [ao h]
  exact h2 h
def ai(H H':Hp):Prop:=∀b o,H b=some o->H' b=some o
theorem ai.refl(H:Hp):ai H H:=λ_ _ h=>h
variable {H:Hp}
theorem ai.trans{H1 H2:Hp}(a:ai H H1)(b:ai H1 H2):ai H H2:=λc o h=>b c o (a c o h)
theorem ai.seq{H':Hp}{a:Addr}{xs:List V}(e:ai H H')(h:bG K H a xs):bG K H' a xs:=by
 rcases h with (h | ⟨o,h⟩) | h;·exact .inl (.inl (e _ _ h))
 ·exact .inl (.inr ⟨o,e _ _ h⟩)
 ·exact .inr h
end L2
set_option maxHeartbeats 4000000
namespace L2
open PySem PySem.Spec PyProof.Rows
structure Bw (P:Program) (w:World) (outer:List Env) (H:Hp) (s:Shared) (H':Hp) (ea C:Addr) (B:Heap) (t:Addr) (s':Shared):Prop where
 os:s'.os=s.os
 bare:AllBare s'.gens
 fl:Heap.FlyingW B outer ea (.ref C) (.ref t) s'.heap
 aG:dq P w H' B
 kb:∀b o,s.heap.get? b=some o->H b=none->b∉dk outer->B.get? b=some o
 tb:∀b o,s.heap.get? b=some o->b∉dk outer->∃o',B.get? b=some o'
 sl:∀b o,s.heap.get? b=some o->H b=none->b∈dk outer->∃l,s'.heap.get? b=some {o with slots:=l}
 frh:∀b∈dk outer,H b=none
 Te:∀b o,s.heap.get? b=some o->H b=none->H' b=none
 il:∀b xs,H b=some (.tup xs)->H' b=some (.tup xs)
 g9:∀b o u,H b=some (.ik o u)->H' b=some (.ik o u)
 ip:∀b ps,H b=some (.m5 ps)->∃more,H' b=some (.m5 (ps++more))
def e_(P:Program)(w:World):jE:=λouter H s E e s'=>∃ea C H' B t,e=.ref ea/\Bw P w outer H s H' ea C B t s'/\E (.ref C) none H'
section
variable {P:Program} {w:World} {outer:List Env} {H H':Hp} {s s':Shared} {ea C t:Addr} {B:Heap}
def ExcAt(ea C:Addr)(h:Heap):Prop:=∃oe,h.get? ea=some oe/\oe.cls=.ref C/\PySem.W.notCls oe=true
def Tf(ea C:Addr):HO:=.ext (ExcAt ea C)
end
section
variable {X:Cx} {pins:bE} {σ:St} {H H':Hp} {s s':Shared} {ea C t:Addr} {B:Heap}
structure vm (X:Cx) (E:XK):Prop where
 jy:X.stack=X.env::X.outer
 fr:X.env.frame=some X.env.locals
 ex:X.ex=[]
 xe:X.xe=λe s'=>wpAny (model X.prog X.w) X.A (leaving X.env e) (λ_ fG=>e_ X.prog X.w X.outer X.H₀ X.s₀ E e fG) (λe' fG=>e_ X.prog X.w X.outer X.H₀ X.s₀ E e' fG) s'
theorem Bx{env:Env}{outer:List Env}{L:Addr}(h:env.frame=some L):dk (env::outer)=L::dk outer:=by unfold dk;rw [AO,h]
variable {E:XK}
theorem Bw.leave(L:vm X E)(I:Inv X pins σ H s)(f:Bw X.prog X.w X.stack H s H' ea C B t s'){h:Heap}(x:Heap.FlyingW B X.outer ea (.ref C) (.ref t) h)(up:s'.heap.UpToSlots h):Bw X.prog X.w X.outer X.H₀ X.s₀ H' ea C B t {s' with heap:=h}:=by
 have nL:∀b o,X.s₀.heap.get? b=some o->b≠X.env.locals:=λb o e=>fA (eU (cJ e) I.ok.above);have ns:∀b o,X.s₀.heap.get? b=some o->b∉dk X.outer->b∉dk X.stack:=λb o e nb z=>by
  rw [L.jy,Bx L.fr] at z;rcases eV.mp z with z | z;·exact nL b o e z
  ·exact nb z
 have nx:∀b:Addr,b∉X.ex:=λb z=>by rw [L.ex] at z;cases z
 refine ⟨f.os.trans I.os,f.bare,x,f.aG,λb o e n nb=>?_,λb o e nb=>?_,λb o e n hb=>?_,I.ok.m7,λb o e n=>?_,λb xs e=>f.il b xs (I.base.il b xs e),λb o u e=>f.g9 b o u (I.base.g9 b o u e),λb ps e=>?_⟩;·exact f.kb b o (I.base.keep b o e n nb (nx b)) (I.base.free b o e n (nx b)) (ns b o e nb)
 ·obtain ⟨o',e'⟩:=I.base.there b o e (nx b)
  exact f.tb b o' e' (ns b o e nb)
 ·obtain ⟨l,q⟩:=I.base.slot b o e n hb (nx b)
  have hs:b∈dk X.stack:=by rw [L.jy,Bx L.fr];exact i6 _ hb
  obtain ⟨l2,q2⟩:=f.sl b _ q (I.base.free b o e n (nx b)) hs;obtain ⟨_,o2,q3,nf⟩:=f.fl.2.2.1.mem hs;rw [q2] at q3;cases q3;obtain ⟨l3,q4⟩:=up b _ q2 nf;exact ⟨l3,q4⟩
 ·obtain ⟨o',e'⟩:=I.base.there b o e (nx b)
  exact f.Te b o' e' (I.base.free b o e n (nx b))
 ·obtain ⟨m1,e1⟩:=I.base.ip b ps e
  obtain ⟨m2,e2⟩:=f.ip b _ e1;exact ⟨m1++m2,by rw [e2,Array.append_assoc]⟩
theorem lQ:Passes (e_ X.prog X.w) X (λ_ _ _=>False):=λpins σ H s e s' I h=>by intros bn2 h _ _ bn13 _ _ _ _ _ q;exact q.elim
theorem o_(L:vm X E):Passes (e_ X.prog X.w) X E:=λpins σ H s e s' I h=>by
 intros bn2 h ea C bn13 H' B t rfl f q;rw [L.xe];refine wpAny_leaves_onW (by rw [I.ok.frames,L.jy]) L.fr (by have z:=f.fl;rw [L.jy] at z;exact z) λh' x up=>?_
 exact ⟨ea,C,H',B,t,rfl,f.leave L I x up,q⟩
end
variable {K:aI} {h:Heap}
theorem Tg{C:Addr}{vn:List Value}{newId:String}(dE:K.In h)(hq:PySem.W.excIn K C vn newId=true) :
  ∃bm N nm qn bs hdct sn sub ab col dd k0 k1 k2 k3 k5 mN,h.get? C=some (excClassObj nm qn C N bs bm hdct sn sub ab col dd k0 k1 k2 k3 k5 newId)/\h.Ns N mN/\mN "__init__"=none/\OwnTail h vn bm/\PySem.W.mroIn K C=λb=>some ((Value.ref C::bm).contains b):=by
 unfold PySem.W.excIn at hq
 split at hq
 ·rename_i vo cls slt look
  split at hq
  ·rename_i CC rest a0 a1 a2 a3 nn a5 em es
   simp only [yw,k7,Bool.not_eq_true'] at hq;obtain ⟨⟨⟨⟨⟨e1,e2⟩,e3⟩,e4⟩,e5⟩,e6⟩:=hq;subst e1 e2;have Th:PySem.W.mroIn K CC=λb=>some ((Value.ref CC::rest).contains b):=by
    funext b
    unfold PySem.W.mroIn PySem.W.clsIn;rw [look];simp [em]
   obtain ⟨c1,c2,c3,c4,c5,c6,c7,c8,c9,FD,Le⟩:=cls;dsimp only at em e3 e5 e6;subst em e3;have Ti:slt = #[a0,a1,a2,a3,some (.builtin nn),a5]:=by obtain ⟨ll⟩:=slt;simp only at es;rw [es]
   subst Ti;exact (ut rest c4 c1 (xz c5 c2 c6 c7 c8 c9 FD vo a0 a1 (ii a2 a3 a5 _ (dE _ _ look) (.of_isNs (PySem.W.isNs_of_in dE e5)) (PySem.W.nsMap_none_of_in dE e5 e6) (PySem.W.tail_of_in dE e4) Th)))
  ·cases hq
 ·cases hq
section
variable {X:Cx} {E:XK} {x:Str} {C:Addr} {np jh pos:Pos} {e:Expr} {es:List Expr} {ta:TA} {B newId Tj:String} {vn:List Value}
def Tn(C:Addr)(E:XK)(ta:TA):TS:=λ_ σ H=>ta σ H λvs H1=>vs.length<=sizeLine/\E (.ref C) none H1
theorem vp(L:vm X E)(hc:X.calm=true)(FB:ExcBaseFacts B newId Tj vn)(hq:PySem.W.excIn X.K C vn newId=true)(hg:Gl X x)(hm:X.mg x=some (.ref C))(ha:PA X (e::es) ta)
  (hs:starEach (e::es) X.env=(false,eval e X.env)::starEach es X.env:=by rfl) (hp:(backTo jh (starEach es X.env)).any (·.1)=false:=by rfl) (hd:(x == ("__debug__":Str))=false:=by decide) :
  PS X (.Raise (some (.Call (.Name x np) (e::es) [] jh)) none pos) (Tn C E ta):=by
 intro pins s σ H D I h;have q'24:=Tg I.ok.mod.dE hq;intros bn23 q'24 bm N nm qn bs hdct sn sub bn23 ab col dd k0 k1 k2 k3 k5 bn15 mN hC hN To T _
 refine wpAny_Raise_call_subT (C:=C) (nm:=nm) (q:=qn) (N:=N) (bs:=bs) (bm:=bm) (hdct:=hdct) (sn:=sn) (sub:=sub) (ab:=ab) (col:=col) (dd:=dd) (k0:=k0) (k1:=k1) (k2:=k2) (k3:=k3) (k5:=k5) FB (mN:=mN) (T.hasType FB.hasBase) (I.ok.hd hc)
  (by rw [hs];show (false || (backTo jh (starEach es X.env)).any (·.1))=false;rw [hp];rfl) To (Bc I hg hm ⟨rfl,?_⟩ hd)
 have h1:=ha jh pins s σ H _ I h;rw [hs] at h1 ⊢;refine Calls.evalArgs_plain (aK h1 λus s2 ⟨vs,H1,I1,r,hl,q⟩=>⟨rfl,by rw [<-r.length];exact hl,I1.bk _ _ hC,hN.keeps I1.bk,T.keeps I1.bk,λh' ea mk=>?_⟩)
 rw [L.xe];have nL:∀b o,X.s₀.heap.get? b=some o->b≠X.env.locals:=λb o q=>fA (eU (cJ q) I1.ok.above);have ns:∀b o,X.s₀.heap.get? b=some o->b∉dk X.outer->b∉dk X.stack:=λb o q nb z=>by
  rw [L.jy,Bx L.fr] at z;rcases eV.mp z with z | z;·exact nL b o q z
  ·exact nb z
 have nx:∀b:Addr,b∉X.ex:=λb z=>by rw [L.ex] at z;cases z
 have ff:s2.heap.FunFrames (PySem.W.hideAll s2.heap (dk X.stack)) (X.env::X.outer):=by have z:=I1.stack;rw [<-L.jy];exact PySem.W.funFrames_hide z λenv he a hf=>List.mem_filterMap.mpr (ac env he hf)
 refine wpAny_leaves_madeW (base:=PySem.W.hideAll s2.heap (dk X.stack)) (h:=s2.heap) (by rw [I1.ok.frames,L.jy]) L.fr (λb o q=>PySem.W.of_hideAll _ q) ff mk λh2 t fl _ _ up=>?_
 refine (ut ea C H1 (ap _ t rfl ⟨I1.os,I1.bare,fl,λa o e1=>?_,λb o e1 n nb=>?_,λb o e1 nb=>?_,λb o e1 n hb=>?_,I1.ok.m7,λb o e1 n=>?_,I1.base.il,I1.base.g9,I1.base.ip⟩ q))
 ·refine (I1.aG a o e1).jc (λb u hb e2=>AN _ e2 λz=>?_) (λ_ z=>z) λ_ _ z=>z
  have n0:=I1.uU b z;rcases hb with hb | hb
  ·subst hb
   rw [e1] at n0;cases n0
  ·rw [hb] at n0
   cases n0
 ·exact AN _ (I1.base.keep b o e1 n nb (nx b)) (ns b o e1 nb)
 ·obtain ⟨o',e2⟩:=I1.base.there b o e1 (nx b)
  exact ⟨o',AN _ e2 (ns b o e1 nb)⟩
 ·obtain ⟨l,e2⟩:=I1.base.slot b o e1 n hb (nx b)
  have lM:b∈dk X.stack:=by rw [L.jy,Bx L.fr];exact i6 _ hb
  obtain ⟨_,o2,e3,nf⟩:=I1.stack.mem lM;rw [e2] at e3;cases e3;obtain ⟨l2,e4⟩:=up b _ (mk.keeps _ _ e2) nf;exact ⟨l2,e4⟩
 ·obtain ⟨o',e2⟩:=I1.base.there b o e1 (nx b)
  exact I1.base.free b o e1 n (nx b)
end
section
variable {X:Cx} {k:Nat} {f C:Addr} {fd:FuncData} {ps:List Str} {sp:Sp} {e7:List V} {ds:List Value} {x m:Str} {p pos apos:Pos} {e o:Expr} {es:List Expr} {ta:TE} {t:TA}
variable {te:TX} {i:Nat} {pos':Pos}
end
section
variable {X:Cx} {pins:bE} {σ:St} {H:Hp} {s:Shared} {ea:Addr}
end
section
variable {M:Model} {A:Around} {E:cQ} {h:Heap} {g:Array GenState} {d:Drawn} {t:Nat} {os:OsState} {e:Addr} {oe:Obj} {Q:Bool->Shared->Prop}
variable {nm q nm' q':Str} {C N D N':Addr} {bs bm bs' pd:List Value} {hdct afV:Bool} {sn sn':List Str} {sub afX:List Value} {ab ab':Bool} {col afZ:Option Bool} {dd dd':Option Addr} {k0 k1 k2 k3 k5 j0 j1 j2 j3 j5:Option Value} {newId af1:String}
end
section
variable {X:Cx} {body:List Stmt} {b₀:Stmt} {af2:List Stmt} {np af3 pos:Pos} {x n:Str} {D:Addr} {tb:TSX} {ts:TS} {vn:List Value} {newId:String} {i:Nat}
end
section
variable {P:Program} {w:World} {K:aI} {mg:dX} {base:Heap}
variable {x qual:Str} {st:Stmt} {f:Addr} {fd:FuncData} {N ps:List Str} {k:Nat} {sp:Sp}
theorem fZ.FE(F:fZ K x qual st f fd)(S:bH N ps (aN st))(len:∀vs H Q E,sp vs H Q E->vs.length=ps.length)
  (kB:∀(a7:Value) (A:Around) (outer:List Env) (s:Shared) (H:Hp) (vs:List V) (Q:VK) (E:XK),dN k (A.deeper (envOfC qual (aN st) s.heap.objs.size f a7))->sp vs H Q E->
   vm (jF (e_ P w) P w K mg base N qual (aN st) f a7 A outer s H E) E->
   ∃t,fU (jF (e_ P w) P w K mg base N qual (aN st) f a7 A outer s H E) (gN st) t/\t {nx:=λ_ H'=>Q .a9 H',rt:=Q} (start N vs) H):a8 P w K mg base (e_ P w) (k+1) f fd ps sp:=by
 obtain ⟨oc,od,kV,doc,pm,an,a7,ct,gr,rfl,lk,gi⟩:=F.ex;exact Fl lk gi S len λA outer s H vs Q E hr ke=>kB a7 A outer s H vs Q E hr ke ⟨rfl,rfl,rfl,rfl⟩
theorem fZ.fI(F:fZ K x qual st f fd)(S:bH N ps (aN st))
  (kB:∀(a7:Value) (A:Around) (outer:List Env) (s:Shared) (H:Hp) (vs:List V) (Q:VK) (E:XK),dN k (A.deeper (envOfC qual (aN st) s.heap.objs.size f a7))->sp vs H Q E->
   vm (jF (e_ P w) P w K mg base N qual (aN st) f a7 A outer s H E) E->
   ∃t,fU (jF (e_ P w) P w K mg base N qual (aN st) f a7 A outer s H E) (gN st) t/\t {nx:=λ_ H'=>Q .a9 H',rt:=Q} (start N vs) H)
  (len:∀vs H Q E,sp vs H Q E->vs.length=ps.length:=by intro vs H Q E h;repeat first | (obtain ⟨rfl,_⟩:=h;rfl) | (subst h;rfl) | obtain ⟨_,h⟩:=h):a8 P w K mg base (e_ P w) (k+1) f fd ps sp:=F.FE S len kB
end
structure qJ (K:aI) (C:Addr):Prop where
 ci:PySem.W.hasDictIn K C=true
 ga:PySem.W.findIn K (.ref C) "__getattribute__"=some (some (.builtin "BaseException.__getattribute__"))
 gn:PySem.W.findIn K (.ref C) "__getattr__"=some none
 ca:PySem.W.findIn K (.ref C) "__class__"=some (some (.builtin "object.__class__"))
 mo:PySem.W.mroIn K C (.type "object")=some true
 mb:PySem.W.mroIn K C (.type "BaseException")=some true
section
variable {prog:Program} {w:World} {A:Around} {E:cQ} {h:Heap} {g:Array GenState} {d:Drawn} {t:Nat} {os:OsState} {K:aI} {a C:Addr} {o:Obj}
theorem Tp{R:Result->Shared->Prop}(dE:K.In h)(c:qJ K C)(hx:h.get? a=some o)(hc:o.cls=.ref C)(hq:R (.ok (.ret (.ref C))) ⟨h,g,d,t,os⟩) :
  codeAny (model prog w) A (.call (.builtin "getset_descriptor.__get__") ⟨[.builtin "object.__class__",.ref a,.ref C],[]⟩) R ⟨h,g,d,t,os⟩:=by
 have By:(⟨h,g,d,t,os⟩:Shared).TypeIs (.builtin "object.__class__") "getset_descriptor":=EJ;have L1:=PySem.W.looks_mroIn (M:=model prog w) dE c.mo;have ow:=F.owner_object_class;refine codeAny_call_builtin F.slot_gs_get.plain F.entry_gs_get (F.slot_gs_get.check _ _ _ _ _ _ _ _ By (F.args_gs_get _ _ _) ?_)
 repeat (any_goals (first | assumption | (with_reducible refine yx hx ?_;rw [hc]) | (rw [ow];with_reducible refine L1.at ?_) | wp_step))
 refine ⟨Code.quiet_builtin _ (by decide +kernel),codeAny_builtin F.entry_object_class ?_⟩
 repeat (any_goals (first | assumption | (with_reducible refine yx hx ?_;rw [hc]) | wp_step))
variable {tk:Tok}
theorem Tq{Q:Fin->Shared->Prop}(dE:K.In h)(c:qJ K C)(hx:h.get? a=some o)(hc:o.cls=.ref C)(hq:Q (.done (.ret (.ref C))) ⟨h,g,d,t,os⟩) :
  wpAny (model prog w) A (Builtin.«object.__getattribute__» ⟨[.ref a,.str "__class__" tk],[]⟩) Q E ⟨h,g,d,t,os⟩:=by
 have By:(⟨h,g,d,t,os⟩:Shared).TypeIs (.builtin "object.__class__") "getset_descriptor":=EJ;have L1:=AR (M:=model prog w) dE c.ca;have f5:=EJ;have f6:=F.slot_gs_get.lookup;have f7:=F.slot_gs_set.lookup
 repeat (any_goals (first | assumption | (with_reducible refine yx hx ?_;rw [hc]) | with_reducible refine L1.at ?_ | wp_step))
 refine Tp dE c hx hc ?_
 repeat (any_goals (first | assumption | wp_step))
theorem Tr{M:Model}{nv:Value}{Q:Unit->Shared->Prop}(dE:K.In h)(c:qJ K C)(hx:h.get? a=some o)(hc:o.cls=.ref C)(hq:Q () ⟨h,g,d,t,os⟩) :
  wpAny M A (checkBuiltinCall "BaseException.__getattribute__" ⟨[.ref a,nv],[]⟩) Q E ⟨h,g,d,t,os⟩:=by
 have hk:builtinKind "BaseException.__getattribute__"=some .slot:=by decide +kernel
 have hs:splitId "BaseException.__getattribute__"=some ("BaseException","__getattribute__"):=by decide +kernel
 have L1:=PySem.W.looks_mroIn (M:=M) dE c.mb;have ha:=F.args_bexc_ga (.ref a) nv;simp only [checkBuiltinCall,hk,hs];refine dh ?_;unfold isInstance
 repeat (first | (with_reducible refine yx hx ?_;rw [hc]) | with_reducible refine L1.at ?_ | wp_step)
 exact hq
theorem Ts{fill expr:Bool}{Q:cQ}(dE:K.In h)(c:qJ K C)(hx:h.get? a=some o)(hc:o.cls=.ref C)(hq:Q (.ref C) ⟨h,g,d,t,os⟩) :
  wpAny (model prog w) A (getAttrBy (.ref a) (.str "__class__" tk) fill expr) Q E ⟨h,g,d,t,os⟩:=by
 have f3:=F.attrBase_ValueError.ga.bind (.ref a);have z0:(expr && onTheHeap (Value.builtin "BaseException.__getattribute__"))=false:=by cases expr <;> rfl
 have z2:(Value.builtin "BaseException.__getattribute__" == Value.builtin "object.__getattribute__")=false:=by decide +kernel
 have z1:(onTheHeap (Value.ref C) && Value.builtin "BaseException.__getattribute__" == Value.builtin "object.__getattribute__")=false:=by rw [z2];rfl
 have L1:=AR (M:=model prog w) dE c.ga;have L2:=AR (M:=model prog w) dE c.gn
 repeat (any_goals (first | assumption | (with_reducible refine yx hx ?_;rw [hc]) | with_reducible refine L1.at ?_ | with_reducible refine L2.at ?_ | wp_step))
 refine codeAny_call_builtin F.attrBase_ValueError.ga.plain F.entry_bexc_ga (Tr dE c hx hc (Tq dE c hx hc ?_))
 repeat (any_goals (first | assumption | wp_step))
theorem Tu{Q:Option Value->Shared->Prop}(dE:K.In h)(c:qJ K C)(hx:h.get? a=some o)(hc:o.cls=.ref C)(hq:Q (some (.ref C)) ⟨h,g,d,t+1,os⟩) :
  wpAny (model prog w) A (getAttr? (.ref a) "__class__") Q E ⟨h,g,d,t,os⟩:=by
 unfold getAttr? getAttrBy?
 repeat (any_goals (first | assumption | with_reducible apply Ts dE c hx hc | wp_step))
theorem Tv(c:qJ K C):PySem.W.KitX K (.ref a) (.ref C) (ExcAt a C) where
 ty:=λM h _ k=>by intros bn4 k oe e1 e2 _;exact e2▸(PySem.W.Looks.ld e1).andThen .now
 it:=λM h dE _=>by
  obtain ⟨cd,hc,_⟩:=PySem.W.any_some c.ci;unfold PySem.W.clsIn at hc
  split at hc
  ·rename_i look
   intro A' Q' E' s' k q;unfold isType loadHead;exact dh (wpAny_loadPart (k _ _ (dE _ _ look)) (fB q))
  ·cases hc
 ne:=λh tp dd av n sl dE Tw=>by
  obtain ⟨cd,hc,_⟩:=PySem.W.any_some c.ci;refine Bool.eq_false_iff.mpr λq=>?_;have e:C=tp:=Value.ref.inj (k7.mp q);subst e;unfold PySem.W.clsIn at hc
  split at hc
  ·rename_i look
   have z:=(dE _ _ look).symm.trans Tw;cases z
  ·cases hc
 ca:=fun{prog w A E Q s} dE k z=>by intros bn4 k oe e1 e2 _;obtain ⟨h,g,d,t,os⟩:=s;exact Tu dE c e1 e2 z
end
def Bz(a:Addr)(h:Heap):Prop:=∃o ep,h.get? a=some o/\o.ExactDict/\o.data=.dict #[] ep/\(a == sysModules)=false
theorem Bz.FF{a:Addr}(e:Bz a h):PySem.W.KitAt a "dict" h:=by intros bn9 e o _ e c _;exact (ac o e c.1)
def Lg(a:Addr):HO:=.ext (Bz a)
inductive yT (K:aI) (H:Hp):V->Value->Prop where
 | of {x:V} {t:Value} (h:jD K H x t):yT K H x t
 | exc {a C:Addr} (e:H a=some (Tf a C)) (c:qJ K C):yT K H (.ref a) (.ref C)
 | vo {a:Addr} (e:H a=some (Lg a)):yT K H (.ref a) (.type "dict")
def Lh:V->Value
 | .ty n=>.type n
 | .ref a=>.ref a
 | _=>.none
def Tx:V->Bool
 | .ty _=>true
 | .ref _=>true
 | _=>false
def Tz(K:aI):List V->Hp->VK->Prop:=λxs H Q=>∃x c t b,xs=[x,c]/\Tx c=true/\yT K H x t/\PySem.W.kitOne K t (Lh c)=some b/\Q (.bl b) H
variable {X:Cx}
theorem ji(hK:X.K=K:=by rfl):lL X (.builtin "isinstance") (Tz K):=by
 intro pins s σ H xs us Q I r h;subst hK;intros bn26 h x c t b rfl hc ty e q;obtain ⟨u,cv,rfl,rx,rc⟩:=vals2 r;have ec:cv=Lh c:=by
  cases c with
  | ty n=>exact rc
  | ref a=>exact rc
  | _=>cases hc
 subst ec;cases ty with
 | of ty=>exact Sg I rx ty e λtk=>⟨.bl b,H,I.tok tk,rfl,q⟩
 | @vo a ea=>cases rx;obtain ⟨k,_,_⟩:=(show fD X.prog X.w H s.heap a (.ext (Bz a)) from I.aG a _ ea);exact jt PySem.W.kitx_dict I.d9 k.FF e (λz=>nomatch z) λtk=>⟨.bl b,H,I.tok tk,rfl,q⟩
 | @exc a C ea cc=>cases rx;obtain ⟨k,_,_⟩:=(show fD X.prog X.w H s.heap a (.ext (ExcAt a C)) from I.aG a _ ea);exact jt (Tv cc) I.d9 k e (λz=>nomatch z) λtk=>⟨.bl b,H,I.tok tk,rfl,q⟩
def ix:List V->List V->Bool
 | [],[]=>true
 | x::xs,y::ys=>vi x y && ix xs ys
 | _,_=>false
def BA(K:aI)(neg:Bool):R2:=λx y H Q=>∃a b xs ys,x=.ref a/\y=.ref b/\fE K H a xs/\fE K H b ys/\xs.all lO=true/\ys.all lO=true/\Q (.bl (if neg then !ix xs ys else ix xs ys)) H
theorem FG{A:Around}{s:Shared}:∀{xs ys:List V} {us vs:List Value},Vals xs us->Vals ys vs->xs.all lO=true->ys.all lO=true->
  ∃e:Nat->Bool,(∀j (h1:j<us.length) (h2:j<vs.length),SeqAt.EqAt A s us[j] vs[j] (e j))/\((List.range (min us.length vs.length)).all e && us.length == vs.length)=ix xs ys
 | [],[],_,_,.nil,.nil,_,_=>⟨λ_=>true,λj h1=>absurd h1 (mU _),by simp [ix]⟩
 | [],_::_,_,_,.nil,.cons _ _,_,_=>⟨λ_=>true,λj h1=>absurd h1 (mU _),by simp [ix]⟩
 | _::_,[],_,_,.cons _ _,.nil,_,_=>⟨λ_=>true,λj _ h2=>absurd h2 (mU _),by simp [ix]⟩
 | x::xs,y::ys,u::us,v::vs,.cons r1 t1,.cons r2 t2,f1,f2=>by
  rw [List.all_cons,yw] at f1 f2;obtain ⟨e,h,q⟩:=FG (A:=A) (s:=s) t1 t2 f1.2 f2.2;refine ⟨λj=>match j with | 0=>vi x y | k+1=>e k,λj h1 h2=>?_,?_⟩
  ·cases j with
   | zero=>exact Fs r1 r2 f1.1 f2.1
   | succ k=>exact h k (by simpa using h1) (by simpa using h2)
  ·have em:min (u::us).length (v::vs).length=min us.length vs.length+1:=by simp only [fC];lia
   rw [em,List.range_succ_eq_map,List.all_cons,List.all_map];show (vi x y && (List.range (min us.length vs.length)).all e && ((us.length+1) == (vs.length+1)))=(vi x y && ix xs ys);rw [<-q];have eb:((us.length+1) == (vs.length+1))=(us.length == vs.length):=by rw [yt,k7,k7];lia
   rw [eb,Bool.and_assoc]
theorem Li(hu:X.A.units<cLine):c_ X (compareOp .Eq) (BA X.K false):=by
 intro pins s σ H x y v u Q I rx ry h;intros bn2 h a b bn27 xs ys rfl rfl h1 h2 f1 f2 q;cases rx;cases ry;obtain ⟨us,r1,t1,_⟩:=I.tuple h1;obtain ⟨vs,r2,t2,_⟩:=I.tuple h2;obtain ⟨e,he,eq⟩:=FG (A:=X.A.in1) (s:=s) r1 r2 f1 f2;refine SeqAt.eq_tupleAt (e:=e) t1 t2 hu (λj z1 z2=>by simpa using he j (by simpa using z1) (by simpa using z2)) (ap (.bl (ix xs ys)) H I ?_ q)
 show _=Value.bool (ix xs ys);rw [<-eq];simp
theorem TB(hu:X.A.units<cLine):c_ X (compareOp .NotEq) (BA X.K true):=by
 intro pins s σ H x y v u Q I rx ry h;intros bn2 h a b bn27 xs ys rfl rfl h1 h2 f1 f2 q;cases rx;cases ry;obtain ⟨us,r1,t1,_⟩:=I.tuple h1;obtain ⟨vs,r2,t2,_⟩:=I.tuple h2;obtain ⟨e,he,eq⟩:=FG (A:=X.A.in1) (s:=s) r1 r2 f1 f2;refine SeqAt.RcNeAt.tuples (e:=e) t1 t2 hu (λj z1 z2=>by simpa using he j (by simpa using z1) (by simpa using z2)) _ _ _ _ (ap (.bl (!ix xs ys)) H I ?_ q)
 show _=Value.bool (!ix xs ys);rw [<-eq];simp
theorem boot_isinstance:bootBuiltins "isinstance"=some (.builtin "isinstance"):=by decide +kernel
theorem boot_abs:bootBuiltins "abs"=some (.builtin "abs"):=by decide +kernel
theorem boot_min:bootBuiltins "min"=some (.builtin "min"):=by decide +kernel
theorem boot_max:bootBuiltins "max"=some (.builtin "max"):=by decide +kernel
theorem boot_int:bootBuiltins "int"=some (.type "int"):=by decide +kernel
theorem boot_bool:bootBuiltins "bool"=some (.type "bool"):=by decide +kernel
theorem boot_tuple:bootBuiltins "tuple"=some (.type "tuple"):=by decide +kernel
theorem boot_list:bootBuiltins "list"=some (.type "list"):=by decide +kernel
end L2
namespace My
open PySem L2
def kC(n:Int):Bool:=(List.range 32).all λe=>decide (e<2) || decide (n<(e:Int)*(e:Int)) || decide (n % (e:Int)≠0)
variable {n d:Int}
theorem Lj(h2:n<=997)(hd:2<=d)(hq:d*d<=n)(hm:n % d=0):kC n=false:=by
 have hd2:d<32:=by
  by_cases h:d<32;·exact h
  ·have:32*32<=d*d:=Int.mul_le_mul ⋯ ⋯ ⋯ ⋯
   lia
 obtain ⟨k,rfl⟩:∃k:Nat,d=(k:Int):=⟨d.toNat,⋯⟩
 cases e:kC n with
 | false=>rfl
 | true=>
  have z:=yy.mp e k (List.mem_range.mpr ⋯)
  simp only [Bool.or_eq_true,oP] at z;rcases z with (z | z) | z;·lia
  ·lia
  ·exact absurd hm z
theorem TC(hq:n<d*d)(hd:2<=d)(hm:∀e:Int,2<=e->e<d->n % e≠0):kC n=true:=by
 refine yy.mpr λk _=>?_;simp only [Bool.or_eq_true,oP];by_cases h1:k<2;·exact .inl (.inl h1)
 ·by_cases h2:n<(k:Int)*(k:Int)
  ·exact .inl (.inr h2)
  ·refine .inr (hm k ⋯ ?_)
   by_cases h3:(k:Int)<d;·exact h3
   ·have:d*d<=(k:Int)*(k:Int):=Int.mul_le_mul ⋯ ⋯ ⋯ ⋯
    lia
inductive Td where
 | a (w:Str)
 | b (w:Str) (n:Int)
def Td.vs:Td->List V
 | .a w=>[.str w]
 | .b w n=>[.str w,.int n]
def Td.yU:Td->Bool
 | .a w=>decide (w="fractions")
 | .b _ _=>false
def Td.kf:Td->Bool
 | .a _=>false
 | .b w n=>decide (w="wheel") && (decide (2<=n) && decide (n<=997) && kC n)
def Td.good(d:Td):Bool:=d.yU || d.kf
def Td.prime:Td->V
 | .a _=>.a9
 | .b _ n=>.int n
end My
namespace L2
open PySem PySem.Spec PyProof.Rows
abbrev Cx.bq (X:Cx) (N:List Str) (scope:Scope) (cl:List (Str×Addr)) (s₃:Shared) (H₃:Hp) (fp:List Addr):Cx:=
 {X with N:=N,s₀:=s₃,H₀:=H₃,env:=compEnvC scope cl s₃.heap.objs.size X.env,outer:=X.stack,stack:=X.stack,ex:=fp,fn:=λ_=>false,pn:=[],xe:=λ_ _=>False}
inductive lR (X:Cx):List Expr->TT->Prop where
 | nil:lR X [] (λ_ H Q=>Q true H)
 | one {c:Expr} {t:TT} (h:PT X c t):lR X [c] t
def qK(wi:TI)(ρ:St->St)(tt:TT)(te:TE):TE:=λσ H Q=>wi σ H λJ H1=>∀D,H1 D=none->∃W:Nat->Nat->List V->Hp->Prop,(∃m,W 0 m [] (upd H1 D (.lst []))) /\
 ∀i m ys Hc,W i m ys Hc->Hc D=some (.lst ys)/\((J.stop i Hc/\Q (.ref D) Hc)\/(J.go i Hc/\∀x H',J.fW i Hc x H'->tt (some x::ρ σ) H' λb H2=>
  if b=true then te (some x::ρ σ) H2 λy H3=>H3 D=some (.lst ys)/\ys.length<sizeLine/\∃m',m'<m/\W (i+1) m' (ys++[y]) (upd H3 D (.lst (ys++[y]))) else ∃m',m'<m/\W (i+1) m' ys H2))
section
variable {X:Cx} {N:List Str} {scope:Scope} {cl:List (Str×Addr)} {x:Str} {px pos:Pos} {iter elt:Expr} {ifs:List Expr} {wi:TI} {ρ:St->St} {tt:TT} {te:TE}
structure FH (X:Cx) (N:List Str) (scope:Scope) (cl:List (Str×Addr)) (x:Str) (ρ:St->St):Prop where
 yV:closureFor scope X.env=pure cl
 kind:scope.kind=.function
 yW:∀y∈scope.names,y.2≠.cell
 names:∀y∈scope.names,y.2=.local->scope.names.lookup y.1=some .local
 sub:∀p∈cl,X.env.cells.lookup p.1=some p.2
 has:∀y,((relabel scope X.env).names.lookup y=some .cell\/(relabel scope X.env).names.lookup y=some .free)->∃c,cl.lookup y=some c
 n0:N[0]?=some x
 nd:N.Nodup
 hx:scope.names.lookup x=some .local
 yX:∀(σ:St) (j:Nat) (v:V),(ρ σ)[j]?=some (some v)->∃(i:Nat) (y:Str),N[j+1]?=some y/\X.N[i]?=some y/\σ[i]?=some (some v)/\oW X.env.scope y/\(X.env.kindOf y=some .cell\/X.env.kindOf y=some .free)/\((relabel scope X.env).names.lookup y=some .cell\/(relabel scope X.env).names.lookup y=some .free)
 len:∀σ:St,σ.length=X.N.length->(ρ σ).length+1=N.length
theorem Lk{names:List (Str×NameKind)}(h:(names.all λq=>(q.2 != .cell && q.2 != .free) || (cl.lookup q.1).isSome)=true) :
  ∀y,(names.lookup y=some .cell\/names.lookup y=some .free)->∃c,cl.lookup y=some c:=λy hy=>by
 have key:∀k:NameKind,(k != .cell && k != .free)=false->names.lookup y=some k->∃c,cl.lookup y=some c:=λk hk e=>by have z:=yy.mp h (y,k) (k8 e);rw [hk,Bool.false_or] at z;exact Option.isSome_iff_exists.mp z
 rcases hy with e | e;·exact key .cell rfl e
 ·exact key .free rfl e
theorem join_some{o:Option (Option V)}{v:V}(h:some o.join=some (some v)):o=some (some v):=by
 cases o with
 | none=>cases h
 | some o=>cases h;rfl
def BC(X:Cx)(sc:Scope):List Str->List Nat->Prop
 | n::ns,i::is=>(X.N[i]?=some n/\oW X.env.scope n/\(X.env.kindOf n=some .cell\/X.env.kindOf n=some .free)/\((relabel sc X.env).names.lookup n=some .cell\/(relabel sc X.env).names.lookup n=some .free))/\BC X sc ns is
 | _,[]=>True
 | [],_::_=>False
theorem FI{X:Cx}{sc:Scope}:∀{ns:List Str} {is:List Nat},BC X sc ns is->∀(σ:St) (j:Nat) (v:V),(is.map λi=>σ[i]?.join)[j]?=some (some v)->∃(i:Nat) (n:Str),ns[j]?=some n/\X.N[i]?=some n/\σ[i]?=some (some v)/\oW X.env.scope n/\(X.env.kindOf n=some .cell\/X.env.kindOf n=some .free)/\((relabel sc X.env).names.lookup n=some .cell\/(relabel sc X.env).names.lookup n=some .free)
 | _,[],_,_,_,_,e=>by cases e
 | [],_::_,h,_,_,_,_=>h.elim
 | n::_,i::_,h,_,0,_,e=>(i' i n rfl h.1.1 (join_some e) h.1.2)
 | _::_,_::_,h,σ,j+1,v,e=>FI h.2 σ j v e
theorem iy(is:List Nat)(h1:closureFor scope X.env=pure cl)(h:BC X scope N.tail is:=by repeat' first | exact True.intro | refine And.intro ⟨rfl,Or.inr (Or.inl rfl),.inl rfl,.inl rfl⟩ ?_)(h2:scope.kind=.function:=by rfl)(h3:∀y∈scope.names,y.2≠.cell:=by decide +kernel)(h4:∀y∈scope.names,y.2=.local->scope.names.lookup y.1=some .local:=by decide +kernel)(h5:∀p∈cl,X.env.cells.lookup p.1=some p.2:=by repeat' first | exact List.forall_mem_nil _ | refine List.forall_mem_cons.mpr ⟨rfl,?_⟩)(h6:((relabel scope X.env).names.all λq=>(q.2 != .cell && q.2 != .free) || (cl.lookup q.1).isSome)=true:=by rfl)(h7:N[0]?=some x:=by rfl)(h8:N.Nodup:=by decide +kernel)(h9:scope.names.lookup x=some .local:=by rfl)(hr:∀σ:St,ρ σ=is.map λi=>σ[i]?.join:=by exact λ_=>rfl)(hl:is.length+1=N.length:=by rfl):FH X N scope cl x ρ:=
 ⟨h1,h2,h3,h4,h5,Lk h6,h7,h8,h9,λσ j v e=>by rw [hr] at e;rw [<-List.getElem?_tail];exact FI h σ j v e,λσ _=>by rw [hr,aW];exact hl⟩
theorem lT(B:FH X N scope cl x ρ)(hc:X.calm=true)(hi:PI X (.Name x px) iter wi)(ht:∀s₃ H₃ fp,lR (X.bq N scope cl s₃ H₃ fp) ifs tt)(he:∀s₃ H₃ fp,PE (X.bq N scope cl s₃ H₃ fp) elt te)
  (hs:∀x,foldedSetIterable iter X.env x=pure x:=by intro _;rfl):PE X (.ListComp elt [⟨.Name x px,iter,ifs,0⟩] scope pos) (qK wi ρ tt te):=by
 intro pins s σ H Q I h
 rw [eval_ListComp]
 refine AW (use:=none) rfl hs B.yV B.kind B.names (aK (hi pins s σ H _ I h) λv s1 h1=>aK h1 λu6 s2 h2=>?_)
 intros bn31 h2 it fp tn J H2 rfl I2 T hE f2 q2
 have nD:H2 s2.heap.objs.size=none:=I2.aG.fresh (aL _)
 obtain ⟨W,⟨m0,w0⟩,turn⟩:=q2 _ nD
 refine yp (AX B.yW (by intro y hy;simp at hy) (λh₁ gu gx=>?_) B.kind)
 dsimp only at gu gx ⊢
 generalize hD:s2.heap.objs.size=D at nD w0 turn gu gx ⊢
 generalize eO:({s2 with heap:=s2.heap.push {cls:=.type "list",dict:=none,data:=.seq ([]:List Value).toArray}}:Shared)=s3
 have I3:Inv X pins σ (upd H2 D (.lst [])) s3:=by
  subst hD eO
  exact I2.laid (t':=s2.toks) (λb u e=>dU _ e) (aL _) ⟨cn _,[],_,.nil,iI _ rfl⟩
 have e3:s3.heap=s2.heap.push {cls:=.type "list",dict:=none,data:=.seq ([]:List Value).toArray}:=by rw [<-eO]
 have gy:∀b o,s2.heap.get? b=some o->s3.heap.get? b=some o:=λb o e=>by rw [e3];exact dU _ e
 rw [<-e3] at gu gx ⊢
 have below:∀b o,s3.heap.get? b=some o->b≠s3.heap.objs.size:=λb o e=>fA (cJ e)
 have d7:∀b o,s3.heap.get? b=some o->h₁.get? b=some o:=λb o e=>gx.extBut b o (below b o e) (dU _ e)
 have iQ:∀b∈fp,∃o,s2.heap.get? b=some o/\∀v,o.data≠.cell v:=T.obj _ _ hE
 have qL:∀b∈fp,b≠D:=λb hb z=>by
  obtain ⟨o,e,_⟩:=iQ b hb
  rw [z,<-hD] at e
  exact absurd (cJ e) (ib _)
 have dH:∀y c,cl.lookup y=some c->X.env.cells.lookup y=some c:=λy c e=>B.sub (y,c) (k8 e)
 have qM:=I3.uU
 have fI:(X.bq N scope cl s3 (upd H2 D (.lst [])) fp).Ok:=by
  refine ⟨I.ok.mod,B.kind,I.ok.glob,I.ok.blt,aL _,λa b c e1 e2=>I.ok.inj a b c (dH a c e1) (dH b c e2),λy hy=>B.has y hy,(λ_ _ z _=>absurd z dW),(λ_=>I.ok.hd hc),I.ok.frames,.inl rfl,λb hb=>⟨?_,λy c e z=>?_⟩,λb o e=>?_,af I.ok.iO I3.sz,λb o e hb=>?_,λb hb z=>?_,I3.stack,qM⟩
  ·obtain ⟨o,e,_⟩:=iQ b hb
   exact below b o (gy b o e)
  ·exact (f2 b hb).2.2.2.2.1 y c (dH y c e) z
  ·exact I3.bs b o e
  ·rcases (f2 b hb).2.2.2.1 with z | z
   ·exact I.ok.oX b o e z
   ·exact absurd (eU (cJ e) (af I.ok.iO z)) (ib _)
  ·rcases eV.mp (I3.uT b z) with z | z
   ·exact (f2 b hb).2.1 z
   ·exact (f2 b hb).2.2.1 z
 have IB:∀tk:Nat,Inv (X.bq N scope cl s3 (upd H2 D (.lst [])) fp) [] (none::ρ σ) (upd H2 D (.lst [])) {s3 with heap:=h₁,toks:=tk}:=λtk=>by
  refine ⟨fI,rfl,I3.bare,Un.kept d7,(ac _ gu (λj y v e1 e2 e3=>?_)),λy c e=>?_,?_,λy c e=>I3.jz y c (dH y c e),(λp hp=>nomatch hp),I3.aG.kept d7,?_⟩
  ·cases j with
   | zero=>cases e2
   | succ j=>
    obtain ⟨i,y',a1,a2,a3,a4,a5,a6⟩:=B.yX σ j v e2
    have h_:N[j+1]?=some y:=e1
    rw [h_] at a1
    cases a1
    obtain ⟨m,hn,hl⟩:=I3.loc
    obtain ⟨u,r,l⟩:=hl i y v a2 a3 a4
    refine (ac u r (.inr ⟨a6,?_⟩))
    obtain ⟨c,ec⟩:=B.has y a6
    rcases l with ⟨k,_⟩ | ⟨_,c',kD,z⟩
    ·rcases a5 with q | q <;> (rw [k] at q;cases q)
    ·have:=dH y c ec
     rw [this] at kD
     cases kD
     intros bn0 z o ho hd
     exact (ul c ec o (d7 _ _ ho) hd)
  ·obtain ⟨v,o,ho,hd⟩:=I3.cell y c (dH y c e)
   exact ⟨v,o,d7 _ _ ho,hd⟩
  ·exact I3.aG.fresh (aL _)
  ·show (none::ρ σ).length=N.length
   rw [fC]
   exact B.len σ I.len
 have fin:∀{σ':St} {H':Hp} {s':Shared},Inv (X.bq N scope cl s3 (upd H2 D (.lst [])) fp) [] σ' H' s'->Q (.ref D) H'->compPost (model X.prog X.w) X.A X.xe none (EP X pins σ Q) (.ref D) s3.heap.objs.size (.ok .next) s':=fun{σ' H' s'} J q=>by
  obtain ⟨m,hn,_⟩:=J.loc
  refine (ac m hn (λh' gz=>(ap (.ref D) H' ?_ rfl q)))
  have old:∀b o,s3.heap.get? b=some o->b≠s3.heap.objs.size:=below
  have u1:Un (dk X.stack) fp (upd H2 D (.lst [])) H' s3.heap h':=by
   refine ⟨λb o e n hb hx=>?_,λb o e n hb hx=>?_,J.base.free,λb o e hx=>?_,J.base.il,J.base.g9,J.base.ip⟩
   ·exact (gz.2 b (old b o e)).trans (J.base.keep b o e n hb hx)
   ·obtain ⟨sl,z⟩:=J.base.slot b o e n hb hx
    exact ⟨sl,(gz.2 b (old b o e)).trans z⟩
   ·obtain ⟨o',z⟩:=J.base.there b o e hx
    exact ⟨o',(gz.2 b (old b o e)).trans z⟩
  have qN:dq X.prog X.w H' h':=λb u e=>by
   refine (J.aG b u e).jc (λc v hc z=>(gz.2 c λy=>?_).trans z) (λ_ z=>z) λ_ _ z=>z
   have fr:=J.free
   have y':c=s3.heap.objs.size:=y
   rcases hc with hc | hc
   ·rw [<-hc,y'] at e
    exact absurd (fr.symm.trans e) (by simp)
   ·rw [y'] at hc
    exact absurd (fr.symm.trans hc) (by simp)
  refine I3.lF (s':={s' with heap:=h'}) (ch:=fp) (J.os) u1 qN J.bare λb hb=>?_
  obtain ⟨g0,g1,g2,g3,g4,g5⟩:=f2 b hb
  exact ⟨g3,g1,g4,g5⟩
 have gk:∀{H':Hp},(∀b∈fp,H' b=none)->∀b∈fp,lJ (X.bq N scope cl s3 (upd H2 D (.lst [])) fp) [] H' b:=λhn b hb=>by
  refine ⟨hn b hb,?_,?_,.inl hb,λy c e z=>(f2 b hb).2.2.2.2.1 y c (dH y c e) z,λp hp=>nomatch hp⟩
  ·obtain ⟨o,e,_⟩:=iQ b hb
   exact below b o (gy b o e)
  ·exact fI.oY b hb
 have loop:∀tk:Nat,codeAny (model X.prog X.w) X.A (.compLoop (.ListComp elt [⟨.Name x px,iter,ifs,0⟩] scope pos) 0 (.ref it) (.ref D) (compEnvC scope cl s3.heap.objs.size X.env))
   (compPost (model X.prog X.w) X.A X.xe none (EP X pins σ Q) (.ref D) s3.heap.objs.size) {s3 with heap:=h₁,toks:=tk}:=λtk=>by
  refine codeAny_compLoop_tests (λn s'=>∃i ys o H',Inv (X.bq N scope cl s3 (upd H2 D (.lst [])) fp) [] (o::ρ σ) H' s'/\tn i s'.heap/\(∀b∈fp,H' b=none)/\W i n ys H') ?_ m0
   ⟨0,[],none,_,IB tk,T.keep _ _ _ hE λb hb o e=>d7 _ _ (gy _ _ e),λb hb=>by rw [cq (qL b hb)];exact (f2 b hb).1,w0⟩
  intro n s4;intros bn22 _ i ys o H4 I4 kF kG w4
  obtain ⟨FJ,qO⟩:=turn i n ys H4 w4
  rcases qO with ⟨stop,qn⟩ | ⟨go,step⟩
  ·refine cY (T.done (X.bq N scope cl s3 (upd H2 D (.lst [])) fp) rfl rfl rfl hc i [] s4 _ H4 (λ_ _=>False) I4 (gk kG) kF stop) (λr s5 ⟨hr,I5⟩=>?_) λ_ _ z=>z.elim
   subst hr
   exact fin I5 qn
  ·refine cY (T.item (X.bq N scope cl s3 (upd H2 D (.lst [])) fp) rfl rfl rfl hc i [] s4 _ H4 (λ_ _=>False) I4 (gk kG) kF go) (λr s5 ⟨u,hr,h5⟩=>?_) λ_ _ z=>z.elim
   subst hr
   have z:letOwnedTupleGo (.Name x px) (.ref it) u=pure ():=rfl
   rw [z] at h5
   show wpAny _ _ ((pure ():Sem Unit) >>= λ_=>assign (.Name x px) (compEnvC scope cl s3.heap.objs.size X.env) u) _ _ s5
   refine dh (cY h5 (λ_ s5 ⟨y,H5,I5,r5,y5,gq,nq⟩=>?_) λ_ _ z=>z.elim)
   have ny:=I5.pinned (gk nq) (T.obj _ _ gq)
   have pg:PG (X.bq N scope cl s3 (upd H2 D (.lst [])) fp) (.Name x px) (bo 0):=fF (i:=0) B.nd B.n0 (.inl (jY B.hx)) (.inr (jY B.hx))
   have again:∀{σ7:St} {H7:Hp} {s7:Shared},Inv (X.bq N scope cl s3 (upd H2 D (.lst [])) fp) ([]++j_ fp s5.heap) σ7 H7 s7->Inv (X.bq N scope cl s3 (upd H2 D (.lst [])) fp) [] σ7 H7 s7/\tn (i+1) s7.heap/\∀b∈fp,H7 b=none:=fun{σ7 H7 s7} I7=>by
    refine ⟨I7.qw,T.keep _ _ _ gq λb hb o e=>(I7.pin (b,o) (eW _ (eW _ (lK hb e)))).1,λb hb=>?_⟩
    obtain ⟨o,e,d⟩:=T.obj _ _ gq b hb
    exact (I7.pin (b,o) (eW _ (eW _ (lK hb e)))).2.1
   refine cY (pg _ s5 _ H5 y u (λσ2 H6=>σ2=some y::ρ σ/\H6=H5) ny r5 ⟨rfl,rfl⟩) (λ_ s6 ⟨σ6,H6,I6,q6⟩=>?_) λ_ _ z=>z.elim
   obtain ⟨rfl,rfl⟩:=q6
   have qP:=step y _ y5
   have tests:∀{iR:TT},lR (X.bq N scope cl s3 (upd H2 D (.lst [])) fp) ifs iR->∀{R:Bool->Hp->Prop},iR (some y::ρ σ) H6 R->wpAny (model X.prog X.w) X.A
     (forIn ifs true λc r=>if r=true then do let ok <-isTrue c (compEnvC scope cl s3.heap.objs.size X.env) (eval c (compEnvC scope cl s3.heap.objs.size X.env));pure (ForInStep.yield ok) else pure (ForInStep.yield r))
     (λok s7=>∃H7,Inv (X.bq N scope cl s3 (upd H2 D (.lst [])) fp) ([]++j_ fp s5.heap) (some y::ρ σ) H7 s7/\R ok H7) (λ_ _=>False) s6:=fun{iR} p {R} hR=>by
    cases p with
    | nil=>exact AY (ac _ I6 hR)
    | one p=>exact AZ (p _ s6 _ _ _ I6 hR)
   refine cY (tests (ht s3 _ fp) qP) (λok s7 ⟨H7,I7,q7⟩=>?_) λ_ _ z=>z.elim
   cases ok with
   | false=>
    intros bn0 q7 m' iS w7
    obtain ⟨a1,a2,a3⟩:=again I7
    exact ⟨m',iS,i+1,ys,_,H7,a1,a2,a3,w7⟩
   | true=>
    refine cY (he s3 _ fp _ s7 _ H7 _ I7 q7) (λev s8 ⟨z,H8,I8,r8,qQ,hz,m',iS,w8⟩=>?_) λ_ _ z=>z.elim
    refine cY (vk (X:=X.bq N scope cl s3 (upd H2 D (.lst [])) fp) _ s8 _ H8 (.ref D) [z] (.ref D) [ev] (λ_ H9=>H9=upd H8 D (.lst (ys++[z]))) I8 rfl (.cons r8 .nil) ⟨D,ys,z,rfl,rfl,qQ,hz,rfl⟩) (λ_ s9 ⟨_,H9,I9,_,q9⟩=>?_) λ_ _ z=>z.elim
    subst q9
    obtain ⟨a1,a2,a3⟩:=again I9
    exact ⟨m',iS,i+1,ys++[z],_,_,a1,a2,a3,w8⟩
 have start:=loop (s3.toks+([]:List (Str×Value)).length)
 have es:({s3 with heap:=h₁,toks:=s3.toks+([]:List (Str×Value)).length}:Shared)={s2 with heap:=h₁,toks:=s2.toks+([]:List (Str×Value)).length}:=by rw [<-eO]
 rw [es] at start
 exact A0 start (T.self _ 0 _ _ _ (T.keep _ _ _ hE λb hb o e=>d7 _ _ (gy _ _ e)) start)
end
def aQ(i:Int):Prop:=i.natAbs<2 ^ 2048
variable {i:Int}
theorem aQ.log(h:aQ i):i.natAbs.log2<2048:=by
 by_cases z:i.natAbs=0;·rw [z];decide
 ·exact (Nat.log2_lt z).mpr h
def BE(i j:Int):Prop:=j≠0/\aQ j
def BF(i j:Int):Prop:=aQ i/\aQ j
theorem BF.ok{j:Int}(h:BF i j):IntMulOk i j:=by
 have b:∀{k:Int},aQ k->Builtin.Int.intBits k<=2048:=fun{k} hk=>by
  have z:=hk.log;unfold Builtin.Int.intBits
  split <;> lia
 unfold IntMulOk;have e:Builtin.Int.intTooBig ((Builtin.Int.intBits i:Int)+(Builtin.Int.intBits j:Int))=false:=by
  unfold Builtin.Int.intTooBig;have h1:=b h.1;have h2:=b h.2;have h3:(4096:Int)<=bitsLine:=by decide +kernel
  exact iH ⋯
 intro z;rw [yw] at z;have z2:=z.2;rw [show Builtin.Int.intTooBig ((Builtin.Int.intBits i:Int)+(Builtin.Int.intBits j:Int))=false from e] at z2;cases z2
section
variable {X:Cx}
theorem yY:c_ X (binaryOp .FloorDiv) (rI BE λi j=>.int (i.fdiv j)):=qy λ_ _ _ _ _ _ _ hc q=>floordiv_int hc.1 q (.inl (PyProof.noPylong_of_log2 (eU hc.2.log ∅)))
theorem gO:c_ X (binaryOp .Mult) (rI BF λi j=>.int (i*j)):=qy λ_ _ _ _ _ _ _ hc q=>mul_int q hc.ok
def TF(i j:Int):Prop:=0<j/\aQ j
theorem FK:c_ X (binaryOp .FloorDiv) (rI TF λi j=>.int (i / j)):=qy λi j _ _ _ _ _ hc q=>floordiv_int (Int.ne_of_gt hc.1) (by rw [yr i (Int.le_of_lt hc.1)];exact q) (.inl (PyProof.noPylong_of_log2 (eU hc.2.log ∅)))
def allR(K:aI):List V->Hp->VK->Prop:=λxs H Q=>∃(p:Addr) (bs:List Bool),xs=[.ref p]/\bG K H p (bs.map V.bl)/\Q (.bl (bs.all id)) H
theorem TH{K:aI}(hc:X.calm=true)(hK:X.K=K:=by rfl):lL X (.builtin "all") (allR K):=by
 intro pins s σ H xs us Q I r h;subst hK;intros bn9 h p bs rfl hq q;obtain ⟨u,rfl,ru⟩:=vals1 r;cases ru;obtain ⟨av,rv,pl,hz⟩:=I.list hq;have pe:p≠s.heap.objs.size:=by obtain ⟨o,e,_⟩:=pl.isList;exact fA (cJ e)
 have hl:av.length=bs.length:=by rw [<-rv.length,aW]
 refine call_all_walk (wpAny_pyIter_list pl.isList ?_);refine (ut s.heap.objs.size _ _ (ii _ _ _ (λi=>bs.getD i true) rfl (Walks.list (A:=X.A.in1) (show X.A.in1.handled=none from I.ok.hd hc) s.heap.objs.size p pe av.toArray) ⟨(ad _ (iI _ rfl) rfl rfl),pl.isList.push _⟩ (λi v s' Q' E' hv qG=>?_) (λh' tk hk=>?_)))
 ·have u_:av[i]?=some v:=by simpa using hv
  cases eb:bs[i]? with
  | none=>
   have:=rv.none_of (i:=i) (by rw [gf,eb];rfl)
   rw [this] at u_;cases u_
  | some b=>
   obtain ⟨u,hu,ru⟩:=rv.get (i:=i) (x:=V.bl b) (by rw [gf,eb];rfl)
   rw [hu] at u_;cases u_;cases ru;have e:bs.getD i true=b:=by rw [fP,eb];rfl
   have nK:Q' (bs.getD i true) s':=qG;rw [e] at nK;exact mR nK
 ·refine (ap (.bl (bs.all id)) H (I.kept λb o e=>hk b o (λz=>?_) (dU _ e)) ?_ q)
  ·exact absurd (cJ e) (by rw [jZ.mp z];exact ib _)
  ·show Value.bool _=Value.bool _
   congr 1
   rw [eY,hl];clear hk q rv pl hz hl hq
   induction bs with
   | nil=>rfl
   | cons b bs ih=>rw [fC,List.range_succ_eq_map,List.all_cons,List.all_map,List.all_cons];show (b && (List.range bs.length).all λi=>bs.getD i true)=(b && bs.all id);rw [ih]
end
theorem boot_all:bootBuiltins "all"=some (.builtin "all"):=by decide +kernel
def FL:Expr->Bool
 | .Starred _ _=>false
 | _=>true
variable {e:Expr} {es:List Expr}
theorem TJ{env:Env}(h:FL e=true):starEach (e::es) env=(false,eval e env)::starEach es env:=by cases e <;> first | rfl | cases h
theorem d_{X:Cx}{e:Expr}{es:List Expr}{te:TE}{t:TA}(hs:FL e=true)(ha:PE X e te)(hr:PA X es t):PA X (e::es) (eJ te t):=
 Sj ha hr (TJ hs)
variable {X:Cx} {te:TE}
theorem aa{t:TA}(ha:PE X e te)(hr:PA X es t)(hs:FL e=true:=by rfl):PA X (e::es) (eJ te t):=d_ hs ha hr
theorem FN{X:Cx}{pos:Pos}{i:Nat}{x:Str}{e:Expr}{te:TE}{pos':Pos}(hs:swapsWith e (some (.Name x pos')) pos.line X.env=pure false)(hf:X.fn x=true\/X.env.scope.names.lookup x=some .local)(hN:X.N.Nodup)(hi:X.N[i]?=some x)(hx:Loc X.env.scope x)(he:PE X e te) :
  PS X (.Assign [.Name x pos'] e pos) (m_ te (bo i)):=Rq hN hi hx he hs hf
variable {pos pos':Pos} {x:Str}
theorem putL(i:Nat)(hN:X.N.Nodup)(he:PE X e te)(hs:swapsWith e (some (.Name x pos')) pos.line X.env=pure false:=by rfl)(hi:X.N[i]?=some x:=by rfl)(hx:X.env.scope.names.lookup x=some .local:=by rfl) :
  PS X (.Assign [.Name x pos'] e pos) (m_ te (bo i)):=FN hs (.inr hx) hN hi (.inl hx) he
theorem lV(i:Nat)(hN:X.N.Nodup)(he:PE X e te)(hs:swapsWith e (some (.Name x pos')) pos.line X.env=pure false:=by rfl)(hf:X.fn x=true\/X.env.scope.names.lookup x=some .local:=by first | exact .inl rfl | exact .inr rfl | assumption)(hi:X.N[i]?=some x:=by rfl)(hx:X.env.scope.names.lookup x=some .cell:=by rfl) :
  PS X (.Assign [.Name x pos'] e pos) (m_ te (bo i)):=FN hs hf hN hi (.inr hx) he
def TK:V->List V->Hp->VK->Prop:=λx xs H Q=>∃i:Int,x=.int i/\xs=[]/\Q (.int ((Builtin.Int.intBits i:Nat):Int)) H
theorem TL:Fo X "int.bit_length" TK:=by intro pins s σ H x xs v us Q I rx rv h;intros bn4 h i rfl rfl q;have TM:=rv.zero;subst TM;obtain ⟨t,rfl⟩:=rx;exact call_int_bit_length ⟨.int ((Builtin.Int.intBits i:Nat):Int),H,I.tok _,⟨_,rfl⟩,q⟩
theorem TN(h:aQ i):Builtin.Int.intBits i<=2048:=by
 have z:=h.log;unfold Builtin.Int.intBits
 split <;> lia
end L2
namespace My
open PySem L2
theorem FO(a b:Str):decide (V.str a=V.str b)=decide (a=b):=by
 by_cases h:a=b;·subst h;simp
 ·rw [iH h];exact iH λe=>h (V.str.inj e)
theorem lW(a b:Int):decide (V.int a=V.int b)=decide (a=b):=by
 by_cases h:a=b;·subst h;simp
 ·rw [iH h];exact iH λe=>h (V.int.inj e)
variable {K:aI}
theorem nN{T:String}:PySem.W.kitOne K (.type T) (.type T)=some true:=by unfold PySem.W.kitOne;rw [aq (beq_self_eq_true _)]
variable {H:Hp}
theorem aJ{p:Addr}{o:HO}(h:H p=none):ai H (upd H p o):=λb u e=>by rw [cq (gL e h)];exact e
variable {i:Int}
theorem Ll{α:Type}{xs:List α}(h0:0<=i)(h1:i<xs.length):∃v,dF xs i=some v/\v∈xs:=by
 obtain ⟨k,rfl⟩:∃k:Nat,i=(k:Int):=⟨i.toNat,⋯⟩
 have hk:k<xs.length:=by lia
 exact ⟨xs[k],iw (by simp [hk]),gZ _⟩
theorem qR(v:V):([(("prime":Str),v)]:List (Str×V)).lookup ("prime":Str)=some v:=by simp [List.lookup]
inductive Any (H:Hp):V->Prop where
 | a9:Any H .a9
 | bl (b:Bool):Any H (.bl b)
 | int (i:Int):Any H (.int i)
 | str (x:Str):Any H (.str x)
 | lst {a:Addr} {xs:List V} (e:H a=some (.lst xs)):Any H (.ref a)
 | tup {a:Addr} {xs:List V} (e:H a=some (.tup xs)):Any H (.ref a)
 | vo {a:Addr} (e:H a=some (Lg a)):Any H (.ref a)
def vq:V->Bool
 | .int _=>true
 | _=>false
def vt:V->Bool
 | .bl _=>true
 | _=>false
def BG(H:Hp):V->Bool
 | .ref a=>(match H a with | some (.tup _)=>true | _=>false)
 | _=>false
variable {v:V}
theorem Any.FF(h:Any H v):∃T:String,yT K H v (.type T)/\PySem.W.kitOne K (.type T) (.type "int")=some (vq v || vt v)/\PySem.W.kitOne K (.type T) (.type "bool")=some (vt v) /\
  PySem.W.kitOne K (.type T) (.type "tuple")=some (BG H v):=by
 cases h with
 | a9=>exact ⟨"NoneType",.of .a9,rfl,rfl,rfl⟩
 | bl b=>exact ⟨"bool",.of (.bl b),rfl,rfl,rfl⟩
 | int i=>exact ⟨"int",.of (.int i),rfl,rfl,rfl⟩
 | str x=>exact ⟨"str",.of (.str x),rfl,rfl,rfl⟩
 | lst e=>exact ⟨"list",.of (.lst e),rfl,rfl,by unfold BG;dsimp only;rw [e];rfl⟩
 | tup e=>exact ⟨"tuple",.of (.tup e),rfl,rfl,by unfold BG;dsimp only;rw [e];rfl⟩
 | vo e=>exact ⟨"dict",.vo e,rfl,rfl,by unfold BG;dsimp only;rw [e];rfl⟩
theorem TQ(h:vt v=true):vq v=false:=by cases v <;> first | rfl | cases h
theorem gP{m:Str}(e:(m == ("prime":Str))=false):([(("prime":Str),v)]:List (Str×V)).lookup m=none:=by simp [List.lookup,e]
theorem Lm(m n:Nat):Nat.gcd n (m % n)=Nat.gcd m n:=by rw [Nat.gcd_comm n,<-Nat.gcd_rec,Nat.gcd_comm]
theorem BH(a:Int):(if a<0 then -a else a)=(a.natAbs:Int):=by split <;> lia
def lowG(a b:Int):Int:=if b<0 then 0-(Int.gcd a b:Int) else (Int.gcd a b:Int)
variable {b:Int}
theorem qS{a:Int}(h:b≠0):0<Int.gcd a b:=EK _ (iJ.mpr h)
theorem TR{a:Int}(h:b≠0)(m:aQ b):Int.gcd a b<2 ^ 2048:=ic (Nat.gcd_le_right _ (iJ.mpr h)) m
theorem Ln{a:Int}(h:b≠0)(m:aQ b):BE 0 (lowG a b):=by
 have h1:=qS (a:=a) h;have h2:=TR (a:=a) h m;unfold lowG;refine ⟨by split <;> lia,?_⟩
 unfold aQ
 split
 ·rw [show (0-(Int.gcd a b:Int)).natAbs=Int.gcd a b by lia];exact h2
 ·rw [Int.natAbs_natCast];exact h2
theorem aQ.of_lt(h1:-(10 ^ 70)<i)(h2:i<10 ^ 70):aQ i:=by
 have h3:i.natAbs<2 ^ 240:=by lia
 exact eU h3 (dD ∅ ∅)
def TU:Sp:=λvs H Q _=>∃v:V,vs=[v]/\Any H v/\Q (.bl (vq v)) H
def TV:Sp:=λvs H Q _=>∃a b:Int,vs=[.int a,.int b]/\aQ b/\Q (.int (Int.gcd a b:Int)) H
def TY:Sp:=λvs H Q _=>∃n:Int,vs=[.int n]/\2<=n/\n<=997/\Q (.bl (kC n)) H
def TZ:Sp:=λvs H Q _=>∃(p:Addr) (d:Td),vs=[.ref p]/\H p=some (.tup d.vs)/\Q (.bl d.yU) H
def T3:Sp:=λvs H Q _=>∃(p:Addr) (d:Td),vs=[.ref p]/\H p=some (.tup d.vs)/\Q (.bl d.kf) H
def T4(C N:Addr):Sp:=λvs H Q E=>∃(x dx p:Addr) (d:Td),vs=[.ref x,.ref p]/\H x=some (.ins C dx [])/\H p=some (.tup d.vs) /\
 (d.good=true->Q .a9 (upd H x (.ins C dx [("prime",d.prime)])))/\(d.good=false->E (.ref N) none H)
def dO(C:Addr)(H:Hp)(x:Addr)(q:Int):Prop:=∃dx,H x=some (.ins C dx [("prime",if q=0 then .a9 else .int q)])
variable {H':Hp} {q:Int}
theorem dO.mono{C:Addr}{x:Addr}(h:dO C H x q)(s:ai H H'):dO C H' x q:=by obtain ⟨dx,e⟩:=h;exact ⟨dx,s _ _ e⟩
def T5:Sp:=λvs H Q _=>∃a b:Int,vs=[.int a,.int b]/\b≠0/\aQ b/\∀(q:Addr) (H':Hp),ai H H'->H' q=some (.tup [.int (a.fdiv (lowG a b)),.int (b.fdiv (lowG a b))])->Q (.ref q) H'
def BI(K:aI):Sp:=λvs H Q _=>∃(a:Addr) (ns:List Int),vs=[.ref a]/\bG K H a (ns.map V.int)/\ns.length<=63/\∀H',Q (.bl true) H'
theorem yZ{u v:Int}(hu:0<u)(h:0<u*v):0<v:=by
 by_cases z:0<v;·exact z
 ·have y:=k9 (show v<=0 by lia) (show 0<=u by lia)
  rw [cO] at y;lia
theorem FP{a:Int}(h:∀d:Nat,(d:Int)∣a->(d:Int)∣b->d=1):Int.gcd a b=1:=h _ (yz ..) (qi ..)
variable {d:Nat}
theorem FQ{a:Int}(h:Int.gcd a b=1)(h1:(d:Int)∣a)(h2:(d:Int)∣b):d=1:=by have z:(d:Int)∣((Int.gcd a b:Nat):Int):=Int.dvd_coe_gcd h1 h2;rw [h] at z;exact Nat.dvd_one.mp (Int.natCast_dvd_natCast.mp z)
variable {c:Int}
theorem FR{a:Int}(h:Int.gcd b c=1)(h1:(d:Int)∣b)(h2:(d:Int)∣a*c):(d:Int)∣a:=by
 have hc:Nat.Coprime d c.natAbs:=by have z:Nat.Coprime b.natAbs c.natAbs:=h;exact Nat.Coprime.coprime_dvd_left (Int.ofNat_dvd_left.mp h1) z
 have z:d∣a.natAbs*c.natAbs:=by rw [<-aZ];exact Int.ofNat_dvd_left.mp h2
 exact Int.ofNat_dvd_left.mpr (hc.dvd_of_dvd_mul_right z)
theorem Lo{a:Int}(h1:Int.gcd a b=1)(h2:Int.gcd a c=1):Int.gcd a (b*c)=1:=by refine FP λd x y=>?_;exact FQ h1 x (FR (a:=b) (b:=a) (c:=c) h2 x y)
theorem T6{a:Int}(h:Int.gcd a b=1):Int.gcd b a=1:=by rw [Int.gcd_comm];exact h
theorem Lp{a:Int}(h:b≠0):Int.gcd (a / (Int.gcd a b:Int)) (b / (Int.gcd a b:Int))=1:=by have z:0<Int.gcd a b:=EK _ (iJ.mpr h);exact Int.gcd_ediv_gcd_ediv_gcd z
structure jI (x m:Int):Prop where
 pos:1<=m
 y3:Int.gcd x m=1
def ph(x:Int):Prop:=x.natAbs<=10 ^ 300
theorem T7:(10:Nat) ^ 300<2 ^ 2048:=by decide +kernel
def T8(C:Addr)(fr:Int->Int->Int->Int->Int)(rm:Int->Int->Int):Sp:=λvs H Q _=>∃(z:Addr) (q:Int) (v u:V),vs=[.ref z,v,u]/\dO C H z q /\
  ((q=0/\∃(p r:Addr) (x m y n:Int),v=.ref p/\u=.ref r/\H p=some (.tup [.int x,.int m])/\H r=some (.tup [.int y,.int n])/\jI x m/\jI y n/\ph x/\ph m/\ph y/\ph n /\
    ∀(r':Addr) (H':Hp) (a d:Int),ai H H'->H' r'=some (.tup [.int a,.int d])->jI a d->a*(m*n)=fr x m y n*d->Q (.ref r') H') \/
   (2<=q/\∃i j:Int,v=.int i/\u=.int j/\0<=i/\i<1000/\Q (.int (rm i j % q)) H))
def au(p:Int):Prop:=p=0\/(2<=p/\p<=997/\kC p=true)
inductive aY (B:Nat) (H:Hp):Int->V->Int->Int->Prop where
 | cm {p:Addr} {x m:Int} (e:H p=some (.tup [.int x,.int m])) (l:jI x m) (bx:x.natAbs<=B) (bm:m.natAbs<=B):aY B H 0 (.ref p) x m
 | rem {q i:Int} (h0:0<=i) (h1:i<q) (h2:q<=997):aY B H q (.int i) i 1
theorem aY.mono{B:Nat}{x m:Int}(h:aY B H q v x m)(s:ai H H'):aY B H' q v x m:=by
 cases h with
 | cm e l bx bm=>exact .cm (s _ _ e) l bx bm
 | rem h0 h1 h2=>exact .rem h0 h1 h2
theorem Lq{a:Int}(h:1<=b):∃u d:Int,a.fdiv (lowG a b)=u/\b.fdiv (lowG a b)=d/\jI u d/\u.natAbs<=a.natAbs/\d.natAbs<=b.natAbs:=by
 have hp:=qS (a:=a) (b:=b) ⋯
 have e:lowG a b=(Int.gcd a b:Int):=by unfold lowG;rw [ao ⋯]
 rw [e]
 refine ⟨a / (Int.gcd a b:Int),b / (Int.gcd a b:Int),yr _ ⋯,yr _ ⋯,⟨?_,Lp ⋯⟩,oQ ..,oQ ..⟩
 obtain ⟨b',eb⟩:=qi (a:=a) (b:=b)
 have z:b / (Int.gcd a b:Int)=b':=by
                       conv=>lhs;lhs;rw [eb]
                       exact oR _ ⋯
 rw [z]
 exact yZ (u:=(Int.gcd a b:Int)) ⋯ (by rw [<-eb];lia)
theorem BJ{u d T B:Int}(l:jI u d)(hB:0<B)(e:u*B=T*d):d<=B/\u.natAbs<=T.natAbs:=by
 have h0:=l.pos;have hd:d∣B:=by
  have z:((d.natAbs:Nat):Int)∣B:=FR (a:=B) (b:=d) (c:=u) (T6 l.y3) (Int.natAbs_dvd.mpr (ja d)) ⟨T*(d / (d.natAbs:Int)),by
   have q:(d.natAbs:Int)=d:=by lia
   rw [q,Int.ediv_self ⋯,dC,jb B u,e,jb]⟩
  exact Int.natAbs_dvd.mp z
 have hle:=uE hB hd;refine ⟨hle,?_⟩;have z:u.natAbs*B.natAbs=T.natAbs*d.natAbs:=by rw [<-aZ,e,aZ]
 have z2:T.natAbs*d.natAbs<=T.natAbs*B.natAbs:=dJ _ ⋯
 rw [<-z] at z2;exact EL z2 ⋯
theorem FT(h1:2<=q)(h2:q<=997)(hp:kC q=true)(b1:1<=b)(b2:b<q):Int.gcd q b=1:=by
 have gp:0<Int.gcd q b:=EK _ (iJ.mpr ⋯)
 by_cases g1:Int.gcd q b=1;·exact g1
 exfalso
 obtain ⟨k,ek⟩:=yz (a:=q) (b:=b);have hb:=uE ⋯ (qi (a:=q) (b:=b))
 generalize Int.gcd q b=g at *;have kp:0<k:=yZ (u:=(g:Int)) ⋯ (by rw [<-ek];lia)
 have k2:k≠1:=λz=>by rw [z,dC] at ek;lia
 have no:∀d:Int,2<=d->d*d<=q->q % d=0->False:=λd x y z=>by rw [Lj h2 x y z] at hp;cases hp
 by_cases c:(g:Int)<=k;·exact no g ⋯ (by rw [ek];exact k9 c ⋯) (by rw [ek];exact Int.mul_emod_right ..)
 ·exact no k ⋯ (by rw [ek];exact Int.mul_le_mul_of_nonneg_right ⋯ ⋯) (by rw [ek];exact Int.mul_emod_left ..)
structure nO (q b last lt now nt:Int):Prop where
 l:∃s,last=lt*b+s*q
 n:∃s,now=nt*b+s*q
 y3:Int.gcd last now=1
 pos:1<=now
 less:now<=last
variable {nt:Int}
theorem nO.step{last lt now:Int}(h:nO q b last lt now nt)(h1:1<now):nO q b now nt (last-last / now*now) (lt-last / now*nt)/\last-last / now*now<now:=by
 obtain ⟨⟨s,es⟩,⟨r,er⟩,c,p,le⟩:=h;have e:last-last / now*now=last % now:=by have z:=EM last now;rw [jb] at z;lia
 have lt1:=ej last (show 0<now by lia)
 have ge:=d0 last (show now≠0 by lia)
 have c':Int.gcd now (last % now)=1:=FP λd x y=>FQ c (by have z:=EM last now;rw [<-z];exact Int.dvd_add y (j4 x (yA ..))) x
 have nz:last % now≠0:=λz=>by rw [z,Int.gcd_zero_right] at c';lia
 refine ⟨⟨⟨r,er⟩,⟨s-last / now*r,?_⟩,by rw [e];exact c',⋯,⋯⟩,⋯⟩
 generalize last / now=f;rw [es,er,Int.sub_mul,Int.sub_mul,jv,gJ,gJ];lia
theorem nO.done{last lt:Int}(h:nO q b last lt 1 nt)(hq:2<=q):(nt % q*b) % q=1:=by
 obtain ⟨s,e⟩:=h.n;have z:nt*b=1+(-s)*q:=by rw [Int.neg_mul];lia
 have y:nt % q*b % q=nt*b % q:=by rw [yB (nt % q) b,Int.emod_emod,<-yB]
 rw [y,z,Int.add_mul_emod_self_right];exact mV ⋯ ⋯
theorem nO.start(h1:2<=q)(h2:q<=997)(hp:kC q=true)(b1:1<=b)(b2:b<q):nO q b q 0 b 1:=
 ⟨⟨1,⋯⟩,⟨0,⋯⟩,FT h1 h2 hp b1 b2,b1,⋯⟩
end My
namespace L2
open PySem PySem.Spec PyProof.Rows
def Lr(K:aI):R2:=λx y H Q=>(∃a xs i,x=.ref a/\y=.int i/\fE K H a xs/\Q (.bl false) H)\/(∃a xs i,x=.int i/\y=.ref a/\fE K H a xs/\Q (.bl false) H)\/BA K false x y H Q\/Kk x y H Q
theorem Ls{X:Cx}(hu:X.A.units<cLine):c_ X (compareOp .Eq) (Lr X.K):=by
 intro pins s σ H x y v u Q I rx ry h;rcases h with ⟨a,xs,i,rfl,rfl,h1,q⟩ | ⟨a,xs,i,rfl,rfl,h1,q⟩ | h | h
 ·cases rx
  obtain ⟨t,rfl⟩:=ry;obtain ⟨us,r1,t1,_⟩:=I.tuple h1;exact SeqAt.RcAt.tuple_int i t t1 hu _ _ _ _ ⟨.bl false,H,I,rfl,q⟩
 ·cases ry
  obtain ⟨t,rfl⟩:=rx;obtain ⟨us,r1,t1,_⟩:=I.tuple h1;exact SeqAt.RcAt.int_tuple i t t1 hu _ _ _ _ ⟨.bl false,H,I,rfl,q⟩
 ·exact Li hu pins s σ H x y v u Q I rx ry h
 ·exact eI pins s σ H x y v u Q I rx ry h
end L2
namespace My
open PySem L2
def T9(N:Addr):Sp:=λvs H Q E=>∃q b:Int,vs=[.int q,.int b]/\2<=q/\q<=997/\kC q=true/\0<=b/\b<q/\(b=0->E (.ref N) none H)/\(b≠0->∀r:Int,0<=r->r<q->(r*b) % q=1->Q (.int r) H)
def T_(N:Addr):Sp:=λvs H Q E=>∃q i j:Int,vs=[.int q,.int i,.int j]/\2<=q/\q<=997/\kC q=true/\0<=i/\i<q/\0<=j/\j<q/\(j=0->E (.ref N) none H)/\(j≠0->∀r:Int,0<=r->r<q->(r*j) % q=i->Q (.int r) H)
theorem Ua{q i j r:Int}(hq:2<=q)(i0:0<=i)(i1:i<q)(h:(r*j) % q=1):(i*r % q*j) % q=i:=by
 have y:i*r % q*j % q=i*(r*j) % q:=by rw [yB (i*r % q) j,Int.emod_emod,<-yB,gJ]
 rw [y,yB,h,mV i0 i1,dC,mV i0 i1]
end My
namespace L2
open PySem PySem.Spec PyProof.Rows
structure jK (K:aI) (x qual:Str) (st:Stmt) (i:Int) (f:Addr) (fd:FuncData):Prop where
 ex:∃(oc:Value) (od:Option Addr) (kV doc pm:Value) (an:Option Addr) (a7 ct:Value) (gr:Array (Option Value)) (dT:Addr) (tk:Tok) (pj:Value) (pk:Option Addr) (n:Nat) (pz:Array (Option Value)),
  fd=PySem.W.fnOf x qual (jG st) (gN st) (aN st) (.ref dT) kV doc pm an a7 ct/\K.lookup f=some ⟨oc,od,.func fd,gr⟩/\PySem.W.codeIn K a7 qual=true/\K.lookup dT=some ⟨pj,pk,.seq #[.int i tk] n,pz⟩
 kp:PySem.W.keepIn K (.ref f)=true
section
variable {P:Program} {w:World} {K:aI} {mg:dX} {base:Heap}
variable {x qual:Str} {st:Stmt} {i:Int} {f:Addr} {fd:FuncData} {ps:List Str}
theorem jK.FE{N:List Str}{k:Nat}{sp:Sp}(F:jK K x qual st i f fd)(S:bH N ps (aN st))(len:∀vs H Q E,sp vs H Q E->vs.length=ps.length)
  (kB:∀(a7:Value) (A:Around) (outer:List Env) (s:Shared) (H:Hp) (vs:List V) (Q:VK) (E:XK),dN k (A.deeper (envOfC qual (aN st) s.heap.objs.size f a7))->sp vs H Q E->
   vm (jF (e_ P w) P w K mg base N qual (aN st) f a7 A outer s H E) E->
   ∃t,fU (jF (e_ P w) P w K mg base N qual (aN st) f a7 A outer s H E) (gN st) t/\t {nx:=λ_ H'=>Q .a9 H',rt:=Q} (start N vs) H):a8 P w K mg base (e_ P w) (k+1) f fd ps sp:=by
 have q'50:=F.ex;intros bnE q'50 oc bn23 od kV doc pm an a7 ct gr bn29 dT tk pj pk n pz rfl lk gi ld;exact Fl lk gi S len λA outer s H vs Q E hr ke=>kB a7 A outer s H vs Q E hr ke ⟨rfl,rfl,rfl,rfl⟩
theorem BK{dT:Addr}{oc:Value}{od an:Option Addr}{gr:Array (Option Value)}{kV doc pm a7 ct:Value}{tk:Tok}{pj:Value}{pk:Option Addr}{n:Nat}{pz:Array (Option Value)}
  (l:K.lookup f=some ⟨oc,od,.func (PySem.W.fnOf x qual (jG st) (gN st) (aN st) (.ref dT) kV doc pm an a7 ct),gr⟩)
  (c:PySem.W.codeIn K a7 qual=true) (k:PySem.W.keepIn K (.ref f)=true) (ld:K.lookup dT=some ⟨pj,pk,.seq #[.int i tk] n,pz⟩):jK K x qual st i f (PySem.W.fnOf x qual (jG st) (gN st) (aN st) (.ref dT) kV doc pm an a7 ct):=
 ⟨(ut oc od kV (xz doc pm an a7 ct gr dT tk pj pk (i' n pz rfl l c ld))),k⟩
theorem jK.binds(F:jK K x qual st i f fd)
  (h:∀(s:Shared) (dT:Addr) (kV doc pm:Value) (an:Option Addr) (a7 ct:Value) (tk:Tok) (o:Obj) (n:Nat) (us:List Value),s.heap.get? dT=some o->o.data=.seq #[.int i tk] n->us.length=ps.length->
   BindsTo s (PySem.W.fnOf x qual (jG st) (gN st) (aN st) (.ref dT) kV doc pm an a7 ct) ⟨us,[]⟩ (ps.zip us)):Binds K fd ps []:=by
 have q'51:=F.ex;intros bnE q'51 oc bn23 od kV doc pm an a7 ct gr bn29 dT tk pj pk n pz rfl lk gi ld;intro s us X hl;rw [qh] at hl ⊢;exact h s dT kV doc pm an a7 ct tk _ n us (X _ _ ld) rfl hl
theorem jK.Ub(F:jK K x qual st i f fd)
  (h:∀(s:Shared) (dT:Addr) (kV doc pm:Value) (an:Option Addr) (a7 ct:Value) (tk:Tok) (o:Obj) (n:Nat) (us:List Value),s.heap.get? dT=some o->o.data=.seq #[.int i tk] n->us.length+1=ps.length->
   BindsTo s (PySem.W.fnOf x qual (jG st) (gN st) (aN st) (.ref dT) kV doc pm an a7 ct) ⟨us,[]⟩ (ps.zip (us++[.int i tk]))):∃v,Vals [V.int i] [v]/\Binds K fd ps [v]:=by
 have q'52:=F.ex;intros bnE q'52 oc bn23 od kV doc pm an a7 ct gr bn29 dT tk pj pk n pz rfl lk gi ld;refine ⟨.int i tk,.cons ⟨tk,rfl⟩ .nil,λs us X hl=>?_⟩;exact h s dT kV doc pm an a7 ct tk _ n us (X _ _ ld) rfl (by simpa using hl)
theorem jK.Uc{y:Str}(F:jK K x qual st i f fd)
  (h:∀(s:Shared) (dT:Addr) (kV doc pm:Value) (an:Option Addr) (a7 ct:Value) (tk:Tok) (o:Obj) (n:Nat) (us ws:List Value),s.heap.get? dT=some o->o.data=.seq #[.int i tk] n->ws.length=1->us.length+1=ps.length->
   BindsTo s (PySem.W.fnOf x qual (jG st) (gN st) (aN st) (.ref dT) kV doc pm an a7 ct) ⟨us,[y].zip ws⟩ (ps.zip (us++ws))) :
  ∀(s:Shared) (us ws:List Value),K.In s.heap->ws.length=1->us.length+1=ps.length->BindsTo s fd ⟨us,[y].zip ws⟩ (ps.zip (us++ws)):=by
 have q'53:=F.ex;intros bnE q'53 oc bn23 od kV doc pm an a7 ct gr bn29 dT tk pj pk n pz rfl lk gi ld;intro s us ws X hw hl;exact h s dT kV doc pm an a7 ct tk _ n us ws (X _ _ ld) rfl hw hl
end
section
variable {X:Cx} {CX:jE} {k:Nat} {f C:Addr} {fd:FuncData} {ps:List Str} {y:Str} {sp:Sp} {E:XK} {m:Str} {pos apos Sq:Pos} {e e' o:Expr} {ta:TE} {t tk:TA}
def Lu(K:aI):R2:=λx y H Q=>BA K true x y H Q\/Kl x y H Q
theorem Ud(hu:X.A.units<cLine):c_ X (compareOp .NotEq) (Lu X.K):=by
 intro pins s σ H x y v u Q I rx ry h;rcases h with h | h;·exact TB hu pins s σ H x y v u Q I rx ry h
 ·exact jB pins s σ H x y v u Q I rx ry h
end
end L2
namespace My
open PySem L2
def fJ(a b:Int):Int:=a.fdiv (lowG a b)
def gA(a b:Int):Int:=b.fdiv (lowG a b)
variable {b:Int}
theorem FU{a:Int}(hb:b≠0):jI (fJ a b) (gA a b)/\fJ a b*b=a*gA a b/\(fJ a b).natAbs<=a.natAbs/\(gA a b).natAbs<=b.natAbs:=by
 have gp:=qS (a:=a) hb;have c:=Lp (a:=a) hb;obtain ⟨a',ea⟩:=yz (a:=a) (b:=b);obtain ⟨b',eb⟩:=qi (a:=a) (b:=b);unfold fJ gA lowG;generalize Int.gcd a b=g at *;have g0:(g:Int)≠0:=by lia
 have ga:a / (g:Int)=a':=by rw [ea];exact oR _ g0
 have gb:b / (g:Int)=b':=by rw [eb];exact oR _ g0
 rw [ga,gb] at c;have la:a'.natAbs<=a.natAbs:=by rw [<-ga];exact oQ ..
 have lb:b'.natAbs<=b.natAbs:=by rw [<-gb];exact oQ ..
 have cr:a'*b=a*b':=by rw [ea,eb];simp only [gJ,jb,Int.mul_left_comm]
 by_cases h:b<0
 ·have d1:(0-(g:Int))∣a:=⟨-a',by rw [ea,qj,Int.neg_mul_neg]⟩
  have d2:(0-(g:Int))∣b:=⟨-b',by rw [eb,qj,Int.neg_mul_neg]⟩
  rw [aq h,A3 d1,A3 d2,qj,Int.ediv_neg,Int.ediv_neg,ga,gb];refine ⟨⟨?_,by rw [Int.neg_gcd,Int.gcd_neg];exact c⟩,?_,?_,?_⟩
  ·have z:0 < -b':=yZ (u:=(g:Int)) ⋯ (by rw [fh,<-eb];lia)
   lia
  ·rw [Int.neg_mul,fh,cr]
  ·rw [mX];exact la
  ·rw [mX];exact lb
 ·rw [ao h,A3 ⟨a',ea⟩,A3 ⟨b',eb⟩,ga,gb]
  have z:0<b':=yZ (u:=(g:Int)) ⋯ (by rw [<-eb];lia)
  exact ⟨⟨⋯,c⟩,cr,la,lb⟩
theorem Lv(a:Int):fJ a 1=a/\gA a 1=1:=by
 unfold fJ gA lowG;rw [A4,ao ∅]
 exact ⟨uF a,uF 1⟩
def Ue(N:Addr):Sp:=λvs H Q E=>∃a b:Int,vs=[.int a,.int b]/\aQ b/\(b=0->E (.ref N) none H)/\(b≠0->∀(r:Addr) (H':Hp),ai H H'->H' r=some (.tup [.int (fJ a b),.int (gA a b)])->Q (.ref r) H')
def lX(q b:Int):Prop:=if q=0 then b=0 else b % q=0
def qT(H:Hp)(q:Int)(v:V)(a b:Int):Prop:=
 (q=0/\∃r:Addr,v=.ref r/\H r=some (.tup [.int (fJ a b),.int (gA a b)]))\/(2<=q/\∃r:Int,v=.int r/\0<=r/\r<q/\(r*(b % q)) % q=a % q)
theorem qT.mono{H H':Hp}{q:Int}{v:V}{a:Int}(h:qT H q v a b)(s:ai H H'):qT H' q v a b:=by
 rcases h with ⟨h,r,e,h2⟩ | h;·exact .inl (im h r e (s _ _ h2))
 ·exact .inr h
def Ug(C N:Addr):Sp:=λvs H Q E=>∃(z:Addr) (q a b:Int),vs=[.ref z,.int a,.int b]/\dO C H z q/\au q/\aQ b /\
 (lX q b->E (.ref N) none H)/\(¬lX q b->∀(v:V) (H':Hp),ai H H'->qT H' q v a b->Q v H')
end My
namespace L2
open PySem PySem.Spec PyProof.Rows
section
variable {X:Cx}
end
end L2
namespace My
open PySem L2
inductive lY (H:Hp):Int->V->Int->Int->Prop where
 | cm {p:Addr} {u d t b:Int} (e:H p=some (.tup [.int u,.int d])) (l:jI u d) (hb:b≠0) (h:u*b=t*d):lY H 0 (.ref p) t b
 | rem {q r t b:Int} (q2:2<=q) (h0:0<=r) (h1:r<q) (g:Int.gcd q b=1) (h:q∣r*b-t):lY H q (.int r) t b
variable {B:Nat} {H:Hp} {q x m:Int} {v:V}
theorem aY.BL(h:aY B H q v x m)(hq:au q):lY H q v x m:=by
 cases h with
 | cm e l bx bm=>exact .cm e l (by have:=l.pos;lia) rfl
 | rem h0 h1 h2=>
  have q2:2<=q:=(hq.resolve_left ⋯).1
  exact .rem q2 h0 h1 (by rw [A4]) ⟨0,⋯⟩
variable {t b:Int}
theorem Lw{u d:Int}(l:jI u d)(hb:b≠0)(e:u*b=t*d):u.natAbs<=t.natAbs/\d.natAbs<=b.natAbs:=by
 have h3:=l.pos;by_cases c:0<b
 ·obtain ⟨z1,z2⟩:=BJ l c e
  lia
 ·have e':u*(-b)=(-t)*d:=by rw [fh,e,Int.neg_mul]
  obtain ⟨z1,z2⟩:=BJ l (show 0 < -b by lia) e'
  lia
variable {c:Int}
theorem FV{a:Int}(h:c≠0)(e:a*c=b*c):a=b:=EN h e
theorem Uh(h:Int.gcd q c=1)(d:q∣c-t):Int.gcd q t=1:=by
 refine FP λe h1 h2=>FQ h h1 ?_;have z:=Int.dvd_add (j4 h1 d) h2;rw [show c-t+t=c by lia] at z
 exact z
theorem Lx{a:Int}(q2:2<=q)(g:Int.gcd q c=1)(d:q∣a*c):q∣a:=by
 have qq:((q.natAbs:Nat):Int)=q:=by lia
 have z:=FR (a:=a) (b:=q) (c:=c) (d:=q.natAbs) g (by rw [qq];exact ja q) (by rw [qq];exact d)
 rw [qq] at z;exact z
theorem y4(a q:Int):∃w,a % q+q*w=a:=⟨a / q,EM a q⟩
section
variable {C N z:Addr} {q:Int} {v u:V} {t b t' b':Int} {H:Hp} {Q:VK} {E:XK}
theorem af6(hw:dO C H z q)(hq:au q)(hv:lY H q v t b)(hu:lY H q u t' b')(b1:ph t)(b2:ph b)(b3:ph t')(b4:ph b')
  (k:∀(v':V) (H':Hp),ai H H'->lY H' q v' (t*b'+t'*b) (b*b')->Q v' H'):T8 C (λx m y n=>x*n+y*m) (λi j=>i+j) [.ref z,v,u] H Q E:=by
 refine (ut z q v (ad u rfl hw ?_));cases hv with
 | cm e l hb h=>
  cases hu with
  | cm e' l' vv h'=>
   rename_i p x m p' y n
   obtain ⟨c1,c2⟩:=Lw l hb h;obtain ⟨c3,c4⟩:=Lw l' vv h';refine .inl (And.intro rfl (xL _ _ x m y (wv n rfl rfl e e' l l' (af c1 b1) (af c2 b2) (af c3 b3) ⟨af c4 b4,λr' H' a d s' er la ea=>k _ H' s' (.cm er la (Int.mul_ne_zero hb vv) ?_)⟩)));have m0:=l.pos;have n0:=l'.pos;refine FV (c:=m*n) (Int.mul_ne_zero ⋯ ⋯) ?_
   grind
  | rem q2 h0 h1 g h=>lia
 | rem q2 h0 h1 g h=>
  cases hu with
  | cm e' l' vv h'=>lia
  | rem Ui pA BM g' h'=>
   rename_i i j
   have q3:q<=997:=(hq.resolve_left ⋯).2.1
   refine .inr ⟨q2,i,j,rfl,rfl,h0,⋯,k _ H (ai.refl H) (.rem q2 (d0 _ ⋯) (ej _ ⋯) (Lo g g') ?_)⟩
   obtain ⟨k1,e1⟩:=h;obtain ⟨k2,e2⟩:=h';obtain ⟨w,ew⟩:=y4 (i+j) q;exact ⟨k1*b'+k2*b-w*(b*b'),by grind⟩
theorem Ly(nz:¬q∣b):¬lX q b:=λh=>nz (by
  unfold lX at h;by_cases z:q=0;·rw [aq z] at h;rw [h];exact dA q
  ·rw [ao z] at h;exact EO h)
theorem Lz{u d u' d':Int}(l:jI u d)(l':jI u' d')(e:u*d'=u'*d):u=u'/\d=d':=by
 have h1:=l.pos;have h2:=l'.pos;have a:=(BJ l (show 0<d' by lia) e).1
 have c:=(BJ l' (show 0<d by lia) e.symm).1
 have dd:d=d':=by lia
 subst dd;exact ⟨FV (show d≠0 by lia) e,rfl⟩
theorem Uj(hv:lY H q v t b)(hu:lY H q u t' b')(e:t*b'=t'*b) :
  (∃p p' x m,v=.ref p/\u=.ref p'/\H p=some (.tup [.int x,.int m])/\H p'=some (.tup [.int x,.int m]))\/(∃i:Int,v=.int i/\u=.int i):=by
 cases hv with
 | cm e1 l hb h=>
  cases hu with
  | cm e2 l' vv h'=>
   rename_i p x m p' y n
   have z:x*n=y*m:=by refine FV (c:=b*b') (Int.mul_ne_zero hb vv) ?_;grind
   obtain ⟨rfl,rfl⟩:=Lz l l' z;exact .inl ⟨_,_,_,_,rfl,rfl,e1,e2⟩
  | rem q2 h0 h1 g h=>lia
 | rem q2 h0 h1 g h=>
  cases hu with
  | cm e' l' vv h'=>lia
  | rem Ui pA BM g' h'=>
   rename_i i j
   have d:q∣(i-j)*(b*b'):=by obtain ⟨k1,e1⟩:=h;obtain ⟨k2,e2⟩:=h';exact ⟨k1*b'-k2*b,by grind⟩
   have d2:=Lx q2 (Lo g g') d;have ij:i=j:=by
    obtain ⟨k,ek⟩:=d2;by_cases z:k=0;·rw [z,cO] at ek;lia
    ·exfalso
     rcases Int.lt_or_gt_of_ne z with z | z
     ·have:=k9 (show k<=-1 by lia) (show 0<=q by lia)
      lia
     ·have:=k9 (show 1<=k by lia) (show 0<=q by lia)
      lia
   subst ij;exact .inr ⟨_,rfl,rfl⟩
theorem LA(x m:Int):ix [V.int x,V.int m] [V.int x,V.int m]=true:=by show ((x == x) && ((m == m) && true))=true;simp
end
theorem aY.b7{H':Hp}{D:Addr}{ys:List V}(h:aY B H q v x m)(eD:H D=some (.lst ys))(k:∀b o,b≠D->H b=some o->H' b=some o):aY B H' q v x m:=by
 cases h with
 | cm e l bx bm=>refine .cm (k _ _ (λz=>?_) e) l bx bm;rw [z,eD] at e;cases e
 | rem h0 h1 h2=>exact .rem h0 h1 h2
end My
namespace L2
open PySem PySem.Spec PyProof.Rows
structure vw (J:It) (xs:List V) (H1:Hp):Prop where
 go:∀i Hc,ai H1 Hc->i<xs.length->J.go i Hc
 fW:∀i Hc x H',ai H1 Hc->J.fW i Hc x H'->H'=Hc/\(i<xs.length->xs[i]?=some x)
 stop:∀i Hc,ai H1 Hc->xs.length<=i->J.stop i Hc
variable {K:aI} {xs:List V} {H1:Hp}
theorem pB{a:Addr}(h:bG K H1 a xs):vw (u7 K a) xs H1 where
 go:=λi Hc s hi=>⟨xs,xs[i],s.seq h,by simp [hi]⟩
 fW:=λi Hc x H' s y=>⟨y.1,λ_=>y.2 xs (s.seq h)⟩
 stop:=λi Hc s hi=>⟨xs,s.seq h,hi⟩
theorem BN{lo:Int}{n:Nat}:vw (o6 lo n) ((List.range n).map λi:Nat=>V.int (lo+(i:Int))) H1 where
 go:=λi Hc s hi=>by
  have hi:i<n:=by simpa using hi
  exact hi
 fW:=λi Hc x H' s y=>⟨y.1,λhi=>by
  have hi:i<n:=by simpa using hi
  rw [y.2];simp [hi]⟩
 stop:=λi Hc s hi=>by
  have hi:n<=i:=by simpa using hi
  exact hi
variable {H:Hp} {D:Addr}
theorem iT{H':Hp}{o:HO}(s:ai H H')(n:H D=none):ai H (upd H' D o):=λb u e=>by rw [cq (gL e n)];exact s b u e
variable {te:TE} {Q:VK}
theorem LB{J:It}{ρσ:St}(js:vw J xs H1)(nD:H1 D=none)(hn:xs.length<sizeLine)
  (P:Nat->V->Hp->Prop) (mono:∀i y H H' ys,P i y H->H D=some (.lst ys)->(∀b o,b≠D->H b=some o->H' b=some o)->P i y H')
  (step:∀i x,xs[i]?=some x->∀(Hc:Hp) (R:VK),ai H1 Hc->(∃ys,Hc D=some (.lst ys))->(∀y H3,ai Hc H3->P i y H3->R y H3)->te (some x::ρσ) Hc R)
  (fin:∀ys Hc,ai H1 Hc->ys.length=xs.length->(∀i y,ys[i]?=some y->P i y Hc)->Hc D=some (.lst ys)->Q (.ref D) Hc) :
  ∃W:Nat->Nat->List V->Hp->Prop,(∃m,W 0 m [] (upd H1 D (.lst []))) /\
   ∀i m ys Hc,W i m ys Hc->Hc D=some (.lst ys)/\((J.stop i Hc/\Q (.ref D) Hc)\/(J.go i Hc/\∀x H',J.fW i Hc x H'->
    if true=true then te (some x::ρσ) H' λy H3=>H3 D=some (.lst ys)/\ys.length<sizeLine/\∃m',m'<m/\W (i+1) m' (ys++[y]) (upd H3 D (.lst (ys++[y]))) else ∃m',m'<m/\W (i+1) m' ys H')):=by
 refine (ac (λi m ys Hc=>m=xs.length-i/\i<=xs.length/\Hc D=some (.lst ys)/\ai H1 Hc/\ys.length=i/\∀j y,ys[j]?=some y->P j y Hc) ⟨_,rfl,cn _,az,iT (ai.refl H1) nD,rfl,λj y e=>by simp at e⟩ ?_)
 rintro i m ys Hc ⟨rfl,hi,eD,sH,el,hP⟩;refine ⟨eD,?_⟩;by_cases cZ:i<xs.length
 ·refine .inr ⟨js.go i Hc sH cZ,λx H' hy=>?_⟩
  obtain ⟨rfl,hx⟩:=js.fW i Hc x H' sH hy;rw [aq rfl];refine step i x (hx cZ) _ _ sH ⟨ys,eD⟩ λy H3 s3 hp=>?_;have e3:=s3 _ _ eD;refine ⟨e3,⋯,xs.length-(i+1),⋯,rfl,cZ,az,iT (sH.trans s3) nD,by simp [el],λj y' e=>?_⟩
  have b7:∀b o,b≠D->H3 b=some o->upd H3 D (.lst (ys++[y])) b=some o:=λb o nb e=>by rw [cq nb];exact e
  by_cases hj:j<i
  ·have e':ys[j]?=some y':=by rw [ju ⋯] at e;exact e
   refine mono j y' H' _ ys (hP j y' e') eD λb o nb e=>?_;exact b7 b o nb (s3 _ _ e)
  ·have hj:j=i:=by have:=(dj.mp e).1;simp at this;lia
   subst hj;have e':y'=y:=by rw [i8 ⋯,el,k_] at e;simpa using e.symm
   subst e';exact mono _ _ H3 _ ys hp e3 b7
 ·have e:i=xs.length:=by lia
  subst e;exact .inl ⟨js.stop _ Hc sH (aL _),fin ys Hc sH el hP eD⟩
variable {wi:TI} {ρ:St->St} {σ:St}
theorem Uk(jL:∀R:It->Hp->Prop,(∀J H1,ai H H1->vw J xs H1->R J H1)->wi σ H R)(hn:xs.length<sizeLine)
  (P:Addr->Nat->V->Hp->Prop) (mono:∀D i y H H' ys,P D i y H->H D=some (.lst ys)->(∀b o,b≠D->H b=some o->H' b=some o)->P D i y H')
  (step:∀D i x,xs[i]?=some x->∀(Hc:Hp) (R:VK),ai H Hc->(∃ys,Hc D=some (.lst ys))->(∀y H3,ai Hc H3->P D i y H3->R y H3)->te (some x::ρ σ) Hc R)
  (fin:∀D ys Hc,ai H Hc->ys.length=xs.length->(∀i y,ys[i]?=some y->P D i y Hc)->Hc D=some (.lst ys)->Q (.ref D) Hc):qK wi ρ (λ_ H Q=>Q true H) te σ H Q:=by
 refine jL _ λJ H1 s1 js=>?_;intro D nD;exact LB (ρσ:=ρ σ) (te:=te) (Q:=Q) js nD hn (P D) (mono D) (λi x hx Hc R sc=>step D i x hx Hc R (s1.trans sc)) (λys Hc sc=>fin D ys Hc (s1.trans sc))
theorem d8{g:TG}{D:Ends}(h:te σ H λx H1=>g x σ H1 D.nx):m_ te g D σ H:=h
theorem kg{a b:TS}{D:Ends}(h:a {D with nx:=λσ H=>b D σ H} σ H):E2 a b D σ H:=h
section
variable {X:Cx} {N:List Str} {scope:Scope} {cl:List (Str×Addr)} {x:Str} {px pos:Pos} {iter elt:Expr} {ifs:List Expr} {wi:TI} {ρ:St->St} {tt:TT} {te:TE}
theorem vx{y:Str}{py y6:Pos}{i0:Nat}(B:FH X N scope cl x ρ)(hc:X.calm=true)(hN:X.N.Nodup)(nQ:X.N[i0]?=some y)(hy:Loc X.env.scope y)(hi:PI X (.Name x px) iter wi)(ht:∀s₃ H₃ fp,lR (X.bq N scope cl s₃ H₃ fp) ifs tt)(he:∀s₃ H₃ fp,PE (X.bq N scope cl s₃ H₃ fp) elt te)
  (FW:swapsWith (.ListComp elt [⟨.Name x px,iter,ifs,0⟩] scope pos) (some (.Name y py)) y6.line X.env=pure true:=by rfl) (hf:X.fn y=true\/X.env.scope.names.lookup y=some .local:=by first | exact .inl rfl | exact .inr rfl | assumption)
  (hs:∀x,foldedSetIterable iter X.env x=pure x:=by intro _;rfl):PS X (.Assign [.Name y py] (.ListComp elt [⟨.Name x px,iter,ifs,0⟩] scope pos) y6) (m_ (qK wi ρ tt te) (bo i0)):=by
 intro pins s σ H D0 I h
 have h:qK wi ρ tt te σ H (λv H1=>D0.nx (σ.set i0 (some v)) H1):=h
 rw [exec_Assign_Name_used _ _ _ _ FW]
 refine dh (yo (dh ?_))
 show wpAny _ X.A (do let _ <-comprehension (.ListComp elt [⟨.Name x px,iter,ifs,0⟩] scope pos) scope X.env _ (newList []) false (eval iter X.env) (some (assign (.Name y py) X.env))) _ _ s
 refine dh (cY (Q:=λ_ s'=>SP X pins D0 .next s') ?_ (λ_ s' hq=>fB (fB hq)) λ_ _ e=>e)
 refine AW (use:=some (assign (.Name y py) X.env)) rfl hs B.yV B.kind B.names (aK (hi pins s σ H _ I h) λv s1 h1=>aK h1 λu6 s2 h2=>?_)
 intros bn31 h2 it fp tn J H2 rfl I2 T hE f2 q2
 have nD:H2 s2.heap.objs.size=none:=I2.aG.fresh (aL _)
 obtain ⟨W,⟨m0,w0⟩,turn⟩:=q2 _ nD
 refine yp (AX B.yW (by intro y hy;simp at hy) (λh₁ gu gx=>?_) B.kind)
 dsimp only at gu gx ⊢
 generalize hD:s2.heap.objs.size=D at nD w0 turn gu gx ⊢
 generalize eO:({s2 with heap:=s2.heap.push {cls:=.type "list",dict:=none,data:=.seq ([]:List Value).toArray}}:Shared)=s3
 have I3:Inv X pins σ (upd H2 D (.lst [])) s3:=by
  subst hD eO
  exact I2.laid (t':=s2.toks) (λb u e=>dU _ e) (aL _) ⟨cn _,[],_,.nil,iI _ rfl⟩
 have e3:s3.heap=s2.heap.push {cls:=.type "list",dict:=none,data:=.seq ([]:List Value).toArray}:=by rw [<-eO]
 have gy:∀b o,s2.heap.get? b=some o->s3.heap.get? b=some o:=λb o e=>by rw [e3];exact dU _ e
 rw [<-e3] at gu gx ⊢
 have below:∀b o,s3.heap.get? b=some o->b≠s3.heap.objs.size:=λb o e=>fA (cJ e)
 have d7:∀b o,s3.heap.get? b=some o->h₁.get? b=some o:=λb o e=>gx.extBut b o (below b o e) (dU _ e)
 have iQ:∀b∈fp,∃o,s2.heap.get? b=some o/\∀v,o.data≠.cell v:=T.obj _ _ hE
 have qL:∀b∈fp,b≠D:=λb hb z=>by
  obtain ⟨o,e,_⟩:=iQ b hb
  rw [z,<-hD] at e
  exact absurd (cJ e) (ib _)
 have dH:∀y c,cl.lookup y=some c->X.env.cells.lookup y=some c:=λy c e=>B.sub (y,c) (k8 e)
 have qM:=I3.uU
 have fI:(X.bq N scope cl s3 (upd H2 D (.lst [])) fp).Ok:=by
  refine ⟨I.ok.mod,B.kind,I.ok.glob,I.ok.blt,aL _,λa b c e1 e2=>I.ok.inj a b c (dH a c e1) (dH b c e2),λy hy=>B.has y hy,(λ_ _ z _=>absurd z dW),(λ_=>I.ok.hd hc),I.ok.frames,.inl rfl,λb hb=>⟨?_,λy c e z=>?_⟩,λb o e=>?_,af I.ok.iO I3.sz,λb o e hb=>?_,λb hb z=>?_,I3.stack,qM⟩
  ·obtain ⟨o,e,_⟩:=iQ b hb
   exact below b o (gy b o e)
  ·exact (f2 b hb).2.2.2.2.1 y c (dH y c e) z
  ·exact I3.bs b o e
  ·rcases (f2 b hb).2.2.2.1 with z | z
   ·exact I.ok.oX b o e z
   ·exact absurd (eU (cJ e) (af I.ok.iO z)) (ib _)
  ·rcases eV.mp (I3.uT b z) with z | z
   ·exact (f2 b hb).2.1 z
   ·exact (f2 b hb).2.2.1 z
 have IB:∀tk:Nat,Inv (X.bq N scope cl s3 (upd H2 D (.lst [])) fp) [] (none::ρ σ) (upd H2 D (.lst [])) {s3 with heap:=h₁,toks:=tk}:=λtk=>by
  refine ⟨fI,rfl,I3.bare,Un.kept d7,(ac _ gu (λj y v e1 e2 e3=>?_)),λy c e=>?_,?_,λy c e=>I3.jz y c (dH y c e),(λp hp=>nomatch hp),I3.aG.kept d7,?_⟩
  ·cases j with
   | zero=>cases e2
   | succ j=>
    obtain ⟨i,y',a1,a2,a3,a4,a5,a6⟩:=B.yX σ j v e2
    have h_:N[j+1]?=some y:=e1
    rw [h_] at a1
    cases a1
    obtain ⟨m,hn,hl⟩:=I3.loc
    obtain ⟨u,r,l⟩:=hl i y v a2 a3 a4
    refine (ac u r (.inr ⟨a6,?_⟩))
    obtain ⟨c,ec⟩:=B.has y a6
    rcases l with ⟨k,_⟩ | ⟨_,c',kD,z⟩
    ·rcases a5 with q | q <;> (rw [k] at q;cases q)
    ·have:=dH y c ec
     rw [this] at kD
     cases kD
     intros bn0 z o ho hd
     exact (ul c ec o (d7 _ _ ho) hd)
  ·obtain ⟨v,o,ho,hd⟩:=I3.cell y c (dH y c e)
   exact ⟨v,o,d7 _ _ ho,hd⟩
  ·exact I3.aG.fresh (aL _)
  ·show (none::ρ σ).length=N.length
   rw [fC]
   exact B.len σ I.len
 have qU:∀b o,s3.heap.get? b=some o->b≠s3.heap.objs.size:=below
 have fin:∀{σ':St} {H':Hp} {s':Shared},Inv (X.bq N scope cl s3 (upd H2 D (.lst [])) fp) [] σ' H' s'->D0.nx (σ.set i0 (some (.ref D))) H'->compPost (model X.prog X.w) X.A X.xe (some (assign (.Name y py) X.env)) (λ_ s'=>SP X pins D0 .next s') (.ref D) s3.heap.objs.size (.ok .next) s':=fun{σ' H' s'} J q=>by
  obtain ⟨m,hn,_⟩:=J.loc
  have hn:s'.heap.Ns s3.heap.objs.size m:=hn
  have JC:H' s3.heap.objs.size=none:=J.free
  have u1:Un (dk X.stack) fp (upd H2 D (.lst [])) H' s3.heap s'.heap:=by
   refine ⟨λb o e n hb hx=>J.base.keep b o e n hb hx,λb o e n hb hx=>J.base.slot b o e n hb hx,J.base.free,λb o e hx=>J.base.there b o e hx,J.base.il,J.base.g9,J.base.ip⟩
  have IX:Inv X pins σ H' s':=I3.lF (ch:=fp) (J.os) u1 J.aG J.bare λb hb=>by
   obtain ⟨g0,g1,g2,g3,g4,g5⟩:=f2 b hb
   exact ⟨g3,g1,g4,g5⟩
  have nl:X.env.locals≠s3.heap.objs.size:=by
   obtain ⟨m3,⟨o3,_,_,e3,_⟩,_⟩:=I3.loc
   exact qU _ _ e3
  have nc:∀z c,X.env.cells.lookup z=some c->c≠s3.heap.objs.size:=λz c e=>by
   obtain ⟨v3,o3,e3,_⟩:=I3.cell z c e
   exact qU _ _ e3
  refine wpAny_assign_Name (EY (v:=.ref D) IX hN nQ hy rfl (λfG qV qW=>?_) hf)
  intros bn0 qW a qW ha
  have na:s3.heap.objs.size≠a:=by
   rcases ha with rfl | e
   ·exact λz=>nl z.symm
   ·exact λz=>nc _ _ e z.symm
  refine ⟨m,hn.sameBut qW na,λh' gz=>⟨σ.set i0 (some (.ref D)),H',?_,q⟩⟩
  have u2:Un (dk X.stack) [s3.heap.objs.size] H' H' fG.heap h':=by
   refine ⟨λb o e n hb hx=>(gz.2 b (by simpa using hx)).trans e,λb o e n hb hx=>⟨o.slots,(gz.2 b (by simpa using hx)).trans e⟩,λb o e n hx=>n,λb o e hx=>⟨o,(gz.2 b (by simpa using hx)).trans e⟩,λb xs z=>z,λb o u z=>z,λb ps z=>⟨#[],by simpa using z⟩⟩
  have qN:dq X.prog X.w H' h':=λb u e=>by
   refine (qV.aG b u e).jc (λc v hc z=>(gz.2 c λy=>?_).trans z) (λ_ z=>z) λ_ _ z=>z
   have y':c=s3.heap.objs.size:=y
   rcases hc with hc | hc
   ·rw [<-hc,y',JC] at e
    cases e
   ·rw [y',JC] at hc
    cases hc
  refine qV.lF (s':={fG with heap:=h'}) (ch:=[s3.heap.objs.size]) rfl u2 qN qV.bare λb hb=>?_
  have eb:b=s3.heap.objs.size:=by simpa using hb
  subst eb
  refine ⟨.inr I3.sz,λz=>nl z.symm,λz c e=>nc z c e,λp hp=>?_⟩
  exact qU _ _ (I3.pin p hp).1
 have gk:∀{H':Hp},(∀b∈fp,H' b=none)->∀b∈fp,lJ (X.bq N scope cl s3 (upd H2 D (.lst [])) fp) [] H' b:=λhn b hb=>by
  refine ⟨hn b hb,?_,?_,.inl hb,λy c e z=>(f2 b hb).2.2.2.2.1 y c (dH y c e) z,λp hp=>nomatch hp⟩
  ·obtain ⟨o,e,_⟩:=iQ b hb
   exact below b o (gy b o e)
  ·exact fI.oY b hb
 have loop:∀tk:Nat,codeAny (model X.prog X.w) X.A (.compLoop (.ListComp elt [⟨.Name x px,iter,ifs,0⟩] scope pos) 0 (.ref it) (.ref D) (compEnvC scope cl s3.heap.objs.size X.env))
   (compPost (model X.prog X.w) X.A X.xe (some (assign (.Name y py) X.env)) (λ_ s'=>SP X pins D0 .next s') (.ref D) s3.heap.objs.size) {s3 with heap:=h₁,toks:=tk}:=λtk=>by
  refine codeAny_compLoop_tests (λn s'=>∃i ys o H',Inv (X.bq N scope cl s3 (upd H2 D (.lst [])) fp) [] (o::ρ σ) H' s'/\tn i s'.heap/\(∀b∈fp,H' b=none)/\W i n ys H') ?_ m0
   ⟨0,[],none,_,IB tk,T.keep _ _ _ hE λb hb o e=>d7 _ _ (gy _ _ e),λb hb=>by rw [cq (qL b hb)];exact (f2 b hb).1,w0⟩
  intro n s4;intros bn22 _ i ys o H4 I4 kF kG w4
  obtain ⟨FJ,qO⟩:=turn i n ys H4 w4
  rcases qO with ⟨stop,qn⟩ | ⟨go,step⟩
  ·refine cY (T.done (X.bq N scope cl s3 (upd H2 D (.lst [])) fp) rfl rfl rfl hc i [] s4 _ H4 (λ_ _=>False) I4 (gk kG) kF stop) (λr s5 ⟨hr,I5⟩=>?_) λ_ _ z=>z.elim
   subst hr
   exact fin I5 qn
  ·refine cY (T.item (X.bq N scope cl s3 (upd H2 D (.lst [])) fp) rfl rfl rfl hc i [] s4 _ H4 (λ_ _=>False) I4 (gk kG) kF go) (λr s5 ⟨u,hr,h5⟩=>?_) λ_ _ z=>z.elim
   subst hr
   have z:letOwnedTupleGo (.Name x px) (.ref it) u=pure ():=rfl
   rw [z] at h5
   show wpAny _ _ ((pure ():Sem Unit) >>= λ_=>assign (.Name x px) (compEnvC scope cl s3.heap.objs.size X.env) u) _ _ s5
   refine dh (cY h5 (λ_ s5 ⟨y,H5,I5,r5,y5,gq,nq⟩=>?_) λ_ _ z=>z.elim)
   have ny:=I5.pinned (gk nq) (T.obj _ _ gq)
   have pg:PG (X.bq N scope cl s3 (upd H2 D (.lst [])) fp) (.Name x px) (bo 0):=fF (i:=0) B.nd B.n0 (.inl (jY B.hx)) (.inr (jY B.hx))
   have again:∀{σ7:St} {H7:Hp} {s7:Shared},Inv (X.bq N scope cl s3 (upd H2 D (.lst [])) fp) ([]++j_ fp s5.heap) σ7 H7 s7->Inv (X.bq N scope cl s3 (upd H2 D (.lst [])) fp) [] σ7 H7 s7/\tn (i+1) s7.heap/\∀b∈fp,H7 b=none:=fun{σ7 H7 s7} I7=>by
    refine ⟨I7.qw,T.keep _ _ _ gq λb hb o e=>(I7.pin (b,o) (eW _ (eW _ (lK hb e)))).1,λb hb=>?_⟩
    obtain ⟨o,e,d⟩:=T.obj _ _ gq b hb
    exact (I7.pin (b,o) (eW _ (eW _ (lK hb e)))).2.1
   refine cY (pg _ s5 _ H5 y u (λσ2 H6=>σ2=some y::ρ σ/\H6=H5) ny r5 ⟨rfl,rfl⟩) (λ_ s6 ⟨σ6,H6,I6,q6⟩=>?_) λ_ _ z=>z.elim
   obtain ⟨rfl,rfl⟩:=q6
   have qP:=step y _ y5
   have tests:∀{iR:TT},lR (X.bq N scope cl s3 (upd H2 D (.lst [])) fp) ifs iR->∀{R:Bool->Hp->Prop},iR (some y::ρ σ) H6 R->wpAny (model X.prog X.w) X.A
     (forIn ifs true λc r=>if r=true then do let ok <-isTrue c (compEnvC scope cl s3.heap.objs.size X.env) (eval c (compEnvC scope cl s3.heap.objs.size X.env));pure (ForInStep.yield ok) else pure (ForInStep.yield r))
     (λok s7=>∃H7,Inv (X.bq N scope cl s3 (upd H2 D (.lst [])) fp) ([]++j_ fp s5.heap) (some y::ρ σ) H7 s7/\R ok H7) (λ_ _=>False) s6:=fun{iR} p {R} hR=>by
    cases p with
    | nil=>exact AY (ac _ I6 hR)
    | one p=>exact AZ (p _ s6 _ _ _ I6 hR)
   refine cY (tests (ht s3 _ fp) qP) (λok s7 ⟨H7,I7,q7⟩=>?_) λ_ _ z=>z.elim
   cases ok with
   | false=>
    intros bn0 q7 m' iS w7
    obtain ⟨a1,a2,a3⟩:=again I7
    exact ⟨m',iS,i+1,ys,_,H7,a1,a2,a3,w7⟩
   | true=>
    refine cY (he s3 _ fp _ s7 _ H7 _ I7 q7) (λev s8 ⟨z,H8,I8,r8,qQ,hz,m',iS,w8⟩=>?_) λ_ _ z=>z.elim
    refine cY (vk (X:=X.bq N scope cl s3 (upd H2 D (.lst [])) fp) _ s8 _ H8 (.ref D) [z] (.ref D) [ev] (λ_ H9=>H9=upd H8 D (.lst (ys++[z]))) I8 rfl (.cons r8 .nil) ⟨D,ys,z,rfl,rfl,qQ,hz,rfl⟩) (λ_ s9 ⟨_,H9,I9,_,q9⟩=>?_) λ_ _ z=>z.elim
    subst q9
    obtain ⟨a1,a2,a3⟩:=again I9
    exact ⟨m',iS,i+1,ys++[z],_,_,a1,a2,a3,w8⟩
 have start:=loop (s3.toks+([]:List (Str×Value)).length)
 have es:({s3 with heap:=h₁,toks:=s3.toks+([]:List (Str×Value)).length}:Shared)={s2 with heap:=h₁,toks:=s2.toks+([]:List (Str×Value)).length}:=by rw [<-eO]
 rw [es] at start
 exact A0 start (T.self _ 0 _ _ _ (T.keep _ _ _ hE λb hb o e=>d7 _ _ (gy _ _ e)) start)
end
def FX(K:aI)(l1 l2:Addr):It:=
  ⟨λi H=>∃xs ys x y,bG K H l1 xs/\bG K H l2 ys/\xs[i]?=some x/\ys[i]?=some y,
   λi H v H'=>∃T x y,H T=none/\v=.ref T/\H'=upd H T (.tup [x,y])/\∀xs ys,bG K H l1 xs->bG K H l2 ys->xs[i]?=some x/\ys[i]?=some y,
   λi H=>∃xs ys,bG K H l1 xs/\bG K H l2 ys/\(xs.length<=i\/ys.length<=i)⟩
theorem Ul{P:Program}{w:World}{elts:List Expr}{k:Nat}{pos:Pos}{z TI TO i1 i2 l1 l2:Addr}(D:ZipApart z TI TO i1 i2 l1 l2):Turn P w K (.Tuple elts k pos) (FX K l1 l2) [z,TI,TO,i1,i2] z
  (λi h=>IsZip h z TI TO .none/\IsPair h TI (.ref i1) (.ref i2)/\(∃a b,IsPair h TO a b)/\h.IsListIter i1 l1 i/\h.IsListIter i2 l2 i) where
 mem:=by simp
 obj:=λi h st b hb=>by
  obtain ⟨hz,nR,⟨a,c,pC⟩,h1,h2⟩:=st;simp only [eV,lq,lA] at hb;rcases hb with rfl | rfl | rfl | rfl | rfl;·exact ⟨_,hz,λv z=>by cases z⟩
  ·exact ⟨_,nR,λv z=>by cases z⟩
  ·exact ⟨_,pC,λv z=>by cases z⟩
  ·intros bn4 h1 o e c d
   exact ⟨o,e,λv z=>by rw [d] at z;cases z⟩
  ·intros bn4 h2 o e c d
   exact ⟨o,e,λv z=>by rw [d] at z;cases z⟩
 keep:=λi h h' st k=>by obtain ⟨hz,nR,⟨a,c,pC⟩,h1,h2⟩:=st;exact ⟨k _ (by simp) _ hz,k _ (by simp) _ nR,⟨a,c,k _ (by simp) _ pC⟩,h1.at λo e=>k _ (by simp) o e,h2.at λo e=>k _ (by simp) o e⟩
 item:=by
  intro X hP hw hK hc i pins s σ H E I hf st hg;subst hP hw hK;obtain ⟨hz,nR,⟨a,c,pC⟩,h1,h2⟩:=st;intros bn22 hg xs ys x y jM nK hx hy;obtain ⟨av,rv,p,_⟩:=I.list jM;obtain ⟨LC,BO,p',_⟩:=I.list nK;obtain ⟨u,hu,ru⟩:=rv.get hx;obtain ⟨u',lZ,Um⟩:=BO.get hy;refine wpAny_pyNext_zip_item D hz nR pC h1 h2 p.isList p'.isList (x:=u) (y:=u') (by simpa using hu) (by simpa using lZ) λh' g1 g2 g3 g4 g5 g6 g7=>(ac _ rfl ?_)
  refine wpAny_letOwnedTupleGo_zip g1 λl_ q1 sb=>?_;have y7:H s.heap.objs.size=none:=I.aG.fresh (aL _);have lt:∀b o,s.heap.get? b=some o->b≠s.heap.objs.size:=λb o e=>fA (cJ e);have keep:∀b o,b∉[z,TI,TO,i1,i2]->s.heap.get? b=some o->l_.get? b=some o:=λb o nb e=>by simp only [eV,lq,lA,not_or] at nb;exact sb.extBut _ _ nb.1 (g7 b o nb.1 nb.2.2.1 nb.2.2.2.1 nb.2.2.2.2 e)
  have Uo:z≠s.heap.objs.size:=lt _ _ hz;have pT:IsPair l_ s.heap.objs.size u u':=sb.extBut _ _ Uo.symm g5;have kH:∀{b:Addr} {o:HO} (e:H b=some o),upd H s.heap.objs.size (.tup [x,y]) b=some o:=λe=>by rw [cq (gL e y7)];exact e
  have aG:dq X.prog X.w (upd H s.heap.objs.size (.tup [x,y])) l_:=λb o e=>by
   by_cases hb:b=s.heap.objs.size
   ·subst hb
    rw [az] at e;cases e;exact ⟨by show 2<=sizeLine;decide,[u,u'],.cons ru (.cons Um .nil),⟨_,pT,rfl,_,rfl⟩⟩
   ·rw [cq hb] at e
    refine (I.aG b o e).jc (λc v fj q=>keep c v (λm=>?_) q) (λc q=>kH q) λc xs q=>kH q;have nn:=(hf c m).1;rcases fj with rfl | fj;·rw [nn] at e;cases e
    ·rw [nn] at fj;cases fj
  have u1:Un (dk X.stack) [z,TI,TO,i1,i2] H (upd H s.heap.objs.size (.tup [x,y])) s.heap l_:=
   ⟨λb o e n _ hx=>keep b o hx e,λb o e n _ hx=>⟨o.slots,keep b o hx e⟩,λb o e n hx=>by rw [cq (lt b o e)];exact n,λb o e hx=>⟨o,keep b o hx e⟩,λb xs e=>kH e,λb o u e=>kH e,λb ps e=>⟨#[],by rw [kH e];simp⟩⟩
  refine (jp (.ref s.heap.objs.size) (upd H s.heap.objs.size (.tup [x,y])) (I.lF (s':={s with heap:=l_}) (ch:=[z,TI,TO,i1,i2]) rfl u1 aG I.bare (λb hb=>?_)) rfl ⟨_,x,y,y7,rfl,rfl,λas bs ha hb=>⟨by rw [I.Be ha jM];exact hx,by rw [I.Be hb nK];exact hy⟩⟩ ?_ (λb hb=>?_))
  ·obtain ⟨f0,f1,f2,f3,f4,f5⟩:=hf b hb
   exact ⟨f3,f1,f4,f5⟩
  ·exact ⟨q1,sb.extBut _ _ D.TIz (g7 _ _ D.TIz D.TITO D.TIi1 D.TIi2 nR),⟨_,_,sb.extBut _ _ D.TOz g2⟩,g3.extBut sb.extBut D.i1z,g4.extBut sb.extBut D.i2z⟩
  ·have nb:b≠s.heap.objs.size:=by
    simp only [eV,lq,lA] at hb;rcases hb with rfl | rfl | rfl | rfl | rfl;·exact lt _ _ hz
    ·exact lt _ _ nR
    ·exact lt _ _ pC
    ·intros bn0 h1 o e _;exact lt _ _ e
    ·intros bn0 h2 o e _;exact lt _ _ e
   rw [cq nb];exact (hf b hb).1
 done:=by
  intro X hP hw hK hc i pins s σ H E I hf st hg;subst hP hw hK;obtain ⟨hz,nR,⟨a,c,pC⟩,h1,h2⟩:=st;intros bn9 hg xs ys jM nK hx;obtain ⟨av,rv,p,_⟩:=I.list jM;obtain ⟨LC,BO,p',_⟩:=I.list nK;have hl:=rv.length;have hl':=BO.length;refine wpAny_pyNext_zip_end (I.ok.hd hc) D hz nR pC h1 h2 p.isList p'.isList (hx.imp (λh=>by simp;lia) λh=>by simp;lia) λh' g=>⟨rfl,?_⟩
  have keep:∀b o,b∉[z,TI,TO,i1,i2]->s.heap.get? b=some o->h'.get? b=some o:=λb o nb e=>by simp only [eV,lq,lA,not_or] at nb;exact g b o nb.1 nb.2.2.1 nb.2.2.2.1 nb.2.2.2.2 e
  have aG:dq X.prog X.w H h':=λb o e=>by
   refine (I.aG b o e).jc (λc v fj q=>keep c v (λm=>?_) q) (λc q=>q) λc xs q=>q;have nn:=(hf c m).1;rcases fj with rfl | fj;·rw [nn] at e;cases e
   ·rw [nn] at fj;cases fj
  have u1:Un (dk X.stack) [z,TI,TO,i1,i2] H H s.heap h':=
   ⟨λb o e n _ hx=>keep b o hx e,λb o e n _ hx=>⟨o.slots,keep b o hx e⟩,λb o e n hx=>n,λb o e hx=>⟨o,keep b o hx e⟩,λb xs e=>e,λb o u e=>e,λb ps e=>⟨#[],by rw [e];simp⟩⟩
  refine I.lF (s':={s with heap:=h'}) (ch:=[z,TI,TO,i1,i2]) rfl u1 aG I.bare λb hb=>?_;obtain ⟨f0,f1,f2,f3,f4,f5⟩:=hf b hb;exact ⟨f3,f1,f4,f5⟩
 self:=λ_ _ _ _ _ st h=>wpAny_pyIter_zip st.1 h
theorem boot_zip:bootBuiltins "zip"=some (.type "zip"):=by decide +kernel
def Up(K:aI)(ta:TA):TI:=λσ H R=>ta σ H λvs H1=>∃l1 l2,vs=[.ref l1,.ref l2]/\(∃xs,bG K H1 l1 xs)/\(∃ys,bG K H1 l2 ys)/\R (FX K l1 l2) H1
section
variable {X:Cx}
theorem FY{elts:List Expr}{k:Nat}{uZ:Pos}{a b:Expr}{ta:TA}{p pos:Pos}(hg:Gl X "zip")(hm:X.mg "zip"=none)(ha:PA X [a,b] ta)(hs:starEach [a,b] X.env=[(false,eval a X.env),(false,eval b X.env)]:=by rfl)(lM:starEach [b] X.env=[(false,eval b X.env)]:=by rfl) :
  PI X (.Tuple elts k uZ) (.Call (.Name "zip" p) [a,b] [] pos) (Up X.K ta):=by
 intro pins s σ H R I h;refine Call_ (qp I hg hm boot_zip (yq (aK (ha pos pins s σ H _ I h) λus s1 ⟨vs,H1,I1,r1,q1⟩=>?_) (by rw [hs,lM]) (by rw [lM];rfl)))
 obtain ⟨l1,l2,e,⟨xs,jM⟩,⟨ys,nK⟩,q⟩:=q1;subst e;cases r1 with
 | cons r rr=>
  cases rr with
  | cons r' rr=>
   cases rr;cases r;cases r';obtain ⟨av,rv,p1,_⟩:=I1.list jM;obtain ⟨LC,BO,p2,_⟩:=I1.list nK;have b1:l1<s1.heap.objs.size:=by obtain ⟨o,e,_⟩:=p1.isList;exact cJ e
   have b2:l2<s1.heap.objs.size:=by obtain ⟨o,e,_⟩:=p2.isList;exact cJ e
   refine call_zip_2 p1.isList p2.isList λh' z1 z2 z3 z4 z5 z6 z7=>?_;refine wpAny_pyIter_zip (s:={s1 with heap:=h'}) z1 ?_;have D:ZipApart (s1.heap.objs.size+4) (s1.heap.objs.size+2) (s1.heap.objs.size+3) s1.heap.objs.size (s1.heap.objs.size+1) l1 l2:=by constructor <;> (intro h;have h:@Eq Nat _ _:=h;have b1:@LT.lt Nat _ l1 s1.heap.objs.size:=b1;have b2:@LT.lt Nat _ l2 s1.heap.objs.size:=b2;lia)
   refine ⟨_,_,_,_,H1,rfl,I1.kept (t':=s1.toks) z7,Ul D,⟨z1,z2,⟨_,_,z3⟩,z4,z5⟩,λb hb=>?_,q⟩;have le:s1.heap.objs.size<=b:=by
    simp only [eV,lq,lA] at hb;rcases hb with rfl | rfl | rfl | rfl | rfl;·exact oS ..
    ·exact oS ..
    ·exact oS ..
    ·exact aL _
    ·exact oS ..
   exact I1.u5 le (I1.aG.fresh le)
end
section
variable {prog:Program} {w:World} {A:Around} {R:Result->Shared->Prop} {s:Shared}
theorem LF{elt target iter:Expr}{ifs:List Expr}{scope:Scope}{pos:Pos}{it acc:Value}{env:Env}(I:Nat->Shared->Prop)
  (turn:∀n s,I n s->wpAny (model prog w) A (pyNext it) (λr s₁=>match r with
   | none=>R (.ok .next) s₁
   | some v=>wpAny (model prog w) A (letOwnedTupleGo target it v) (λ_ s₁=>wpAny (model prog w) A (assign target env v) (λ_ s₂=>
     wpAny (model prog w) A (forIn ifs true λc r=>if r=true then do let ok <-isTrue c env (eval c env);pure (ForInStep.yield ok) else pure (ForInStep.yield r)) (λok s₃=>
      if ok=true then wpAny (model prog w) A (eval elt env) (λx s₄=>
       wpAny (model prog w) A (call (.builtin "list.append") [acc,x]) (λ_ s₅=>∃m,m<n/\I m s₅) (notedBy (model prog w) A env λe s'=>R (.error e) s') s₄) (notedBy (model prog w) A env λe s'=>R (.error e) s') s₃
      else ∃m,m<n/\I m s₃) (notedBy (model prog w) A env λe s'=>R (.error e) s') s₂) (notedBy (model prog w) A env λe s'=>R (.error e) s') s₁) (notedBy (model prog w) A env λe s'=>R (.error e) s') s₁) (notedBy (model prog w) A env λe s'=>R (.error e) s') s)
  (n:Nat) (h:I n s):codeAny (model prog w) A (.compLoop (.ListComp elt [⟨target,iter,ifs,0⟩] scope pos) 0 it acc env) R s:=by
 refine codeAny_loop rfl I (λn s hI=>?_) n h
 show wpAny _ A ((compTurn (.ListComp elt [⟨target,iter,ifs,0⟩] scope pos) 0 it acc env).onRaise (λx=>do noteFrame x env;theTreesLotGoes x)) _ _ s
 refine wpAny_noted ?_
 rw [compTurn_list]
 refine dh (yo (dh (cY (turn n s hI) (λr s₁ h₁=>?_) λ_ _ h'=>h')))
 cases r with
 | none=>exact fB h₁
 | some v=>
  refine dh (cY h₁ (λ_ s₁ h₁=>?_) λ_ _ h'=>h')
  refine dh (cY h₁ (λ_ s₂ h₂=>dh (cY h₂ (λok s₃ h₃=>?_) λ_ _ h'=>h')) λ_ _ h'=>h')
  cases ok with
  | false=>exact fB ⟨rfl,h₃⟩
  | true=>
   exact dh (dh (cY h₃ (λx s₄ h₄=>dh (cY h₄ (λ_ s₅ h₅=>fB (fB ⟨rfl,h₅⟩)) λ_ _ h'=>h')) λ_ _ h'=>h'))
end
def vy(K:aI)(wi:TI)(ρ:St->St)(tt:TT)(te:TE):TE:=λσ H Q=>wi σ H λJ H1=>∀D,H1 D=none->∃W:Nat->Nat->List V->Hp->Prop,(∃m,W 0 m [] (upd H1 D (.lst []))) /\
 ∀i m ys Hc,W i m ys Hc->Hc D=some (.lst ys)/\((J.stop i Hc/\Q (.ref D) Hc)\/(J.go i Hc/\∀v H',J.fW i Hc v H'->∃T x1 x2,v=.ref T/\fE K H' T [x1,x2]/\tt (some x1::some x2::ρ σ) H' λb H2=>
  if b=true then te (some x1::some x2::ρ σ) H2 λy H3=>H3 D=some (.lst ys)/\ys.length<sizeLine/\∃m',m'<m/\W (i+1) m' (ys++[y]) (upd H3 D (.lst (ys++[y]))) else ∃m',m'<m/\W (i+1) m' ys H2))
section
variable {X:Cx} {N:List Str} {scope:Scope} {cl:List (Str×Addr)} {x y:Str} {px py pos tp:Pos} {kI:Nat} {iter elt:Expr} {ifs:List Expr} {wi:TI} {ρ:St->St} {tt:TT} {te:TE}
structure FZ (X:Cx) (N:List Str) (scope:Scope) (cl:List (Str×Addr)) (x y:Str) (ρ:St->St):Prop where
 yV:closureFor scope X.env=pure cl
 kind:scope.kind=.function
 yW:∀y∈scope.names,y.2≠.cell
 names:∀y∈scope.names,y.2=.local->scope.names.lookup y.1=some .local
 sub:∀p∈cl,X.env.cells.lookup p.1=some p.2
 has:∀y,((relabel scope X.env).names.lookup y=some .cell\/(relabel scope X.env).names.lookup y=some .free)->∃c,cl.lookup y=some c
 n0:N[0]?=some x
 n1:N[1]?=some y
 nd:N.Nodup
 hx:scope.names.lookup x=some .local
 hy:scope.names.lookup y=some .local
 yX:∀(σ:St) (j:Nat) (v:V),(ρ σ)[j]?=some (some v)->∃(i:Nat) (y:Str),N[j+1+1]?=some y/\X.N[i]?=some y/\σ[i]?=some (some v)/\oW X.env.scope y/\(X.env.kindOf y=some .cell\/X.env.kindOf y=some .free)/\((relabel scope X.env).names.lookup y=some .cell\/(relabel scope X.env).names.lookup y=some .free)
 len:∀σ:St,σ.length=X.N.length->(ρ σ).length+1+1=N.length
theorem F0(is:List Nat)(h1:closureFor scope X.env=pure cl)(h:BC X scope N.tail.tail is:=by repeat' first | exact True.intro | refine And.intro ⟨rfl,Or.inr (Or.inl rfl),.inl rfl,.inl rfl⟩ ?_)(h2:scope.kind=.function:=by rfl)(h3:∀y∈scope.names,y.2≠.cell:=by decide +kernel)(h4:∀y∈scope.names,y.2=.local->scope.names.lookup y.1=some .local:=by decide +kernel)(h5:∀p∈cl,X.env.cells.lookup p.1=some p.2:=by repeat' first | exact List.forall_mem_nil _ | refine List.forall_mem_cons.mpr ⟨rfl,?_⟩)(h6:((relabel scope X.env).names.all λq=>(q.2 != .cell && q.2 != .free) || (cl.lookup q.1).isSome)=true:=by rfl)(h7:N[0]?=some x:=by rfl)(Uq:N[1]?=some y:=by rfl)(h8:N.Nodup:=by decide +kernel)(h9:scope.names.lookup x=some .local:=by rfl)(Ur:scope.names.lookup y=some .local:=by rfl)(hr:∀σ:St,ρ σ=is.map λi=>σ[i]?.join:=by exact λ_=>rfl)(hl:is.length+1+1=N.length:=by rfl):FZ X N scope cl x y ρ:=
 ⟨h1,h2,h3,h4,h5,Lk h6,h7,Uq,h8,h9,Ur,λσ j v e=>by rw [hr] at e;rw [<-List.getElem?_tail,<-List.getElem?_tail];exact FI h σ j v e,λσ _=>by rw [hr,aW];exact hl⟩
theorem LH(B:FZ X N scope cl x y ρ)(hc:X.calm=true)(hi:PI X (.Tuple [.Name x px,.Name y py] kI tp) iter wi)(ht:∀s₃ H₃ fp,lR (X.bq N scope cl s₃ H₃ fp) ifs tt)(he:∀s₃ H₃ fp,PE (X.bq N scope cl s₃ H₃ fp) elt te)
  (hs:∀x,foldedSetIterable iter X.env x=pure x:=by intro _;rfl):PE X (.ListComp elt [⟨.Tuple [.Name x px,.Name y py] kI tp,iter,ifs,0⟩] scope pos) (vy X.K wi ρ tt te):=by
 intro pins s σ H Q I h
 rw [eval_ListComp]
 refine AW (use:=none) rfl hs B.yV B.kind B.names (aK (hi pins s σ H _ I h) λv s1 h1=>aK h1 λu6 s2 h2=>?_)
 intros bn31 h2 it fp tn J H2 rfl I2 T hE f2 q2
 have nD:H2 s2.heap.objs.size=none:=I2.aG.fresh (aL _)
 obtain ⟨W,⟨m0,w0⟩,turn⟩:=q2 _ nD
 refine yp (AX B.yW (by intro y hy;simp at hy) (λh₁ gu gx=>?_) B.kind)
 dsimp only at gu gx ⊢
 generalize hD:s2.heap.objs.size=D at nD w0 turn gu gx ⊢
 generalize eO:({s2 with heap:=s2.heap.push {cls:=.type "list",dict:=none,data:=.seq ([]:List Value).toArray}}:Shared)=s3
 have I3:Inv X pins σ (upd H2 D (.lst [])) s3:=by
  subst hD eO
  exact I2.laid (t':=s2.toks) (λb u e=>dU _ e) (aL _) ⟨cn _,[],_,.nil,iI _ rfl⟩
 have e3:s3.heap=s2.heap.push {cls:=.type "list",dict:=none,data:=.seq ([]:List Value).toArray}:=by rw [<-eO]
 have gy:∀b o,s2.heap.get? b=some o->s3.heap.get? b=some o:=λb o e=>by rw [e3];exact dU _ e
 rw [<-e3] at gu gx ⊢
 have below:∀b o,s3.heap.get? b=some o->b≠s3.heap.objs.size:=λb o e=>fA (cJ e)
 have d7:∀b o,s3.heap.get? b=some o->h₁.get? b=some o:=λb o e=>gx.extBut b o (below b o e) (dU _ e)
 have iQ:∀b∈fp,∃o,s2.heap.get? b=some o/\∀v,o.data≠.cell v:=T.obj _ _ hE
 have qL:∀b∈fp,b≠D:=λb hb z=>by
  obtain ⟨o,e,_⟩:=iQ b hb
  rw [z,<-hD] at e
  exact absurd (cJ e) (ib _)
 have dH:∀y c,cl.lookup y=some c->X.env.cells.lookup y=some c:=λy c e=>B.sub (y,c) (k8 e)
 have qM:=I3.uU
 have fI:(X.bq N scope cl s3 (upd H2 D (.lst [])) fp).Ok:=by
  refine ⟨I.ok.mod,B.kind,I.ok.glob,I.ok.blt,aL _,λa b c e1 e2=>I.ok.inj a b c (dH a c e1) (dH b c e2),λy hy=>B.has y hy,(λ_ _ z _=>absurd z dW),(λ_=>I.ok.hd hc),I.ok.frames,.inl rfl,λb hb=>⟨?_,λy c e z=>?_⟩,λb o e=>?_,af I.ok.iO I3.sz,λb o e hb=>?_,λb hb z=>?_,I3.stack,qM⟩
  ·obtain ⟨o,e,_⟩:=iQ b hb
   exact below b o (gy b o e)
  ·exact (f2 b hb).2.2.2.2.1 y c (dH y c e) z
  ·exact I3.bs b o e
  ·rcases (f2 b hb).2.2.2.1 with z | z
   ·exact I.ok.oX b o e z
   ·exact absurd (eU (cJ e) (af I.ok.iO z)) (ib _)
  ·rcases eV.mp (I3.uT b z) with z | z
   ·exact (f2 b hb).2.1 z
   ·exact (f2 b hb).2.2.1 z
 have IB:∀tk:Nat,Inv (X.bq N scope cl s3 (upd H2 D (.lst [])) fp) [] (none::none::ρ σ) (upd H2 D (.lst [])) {s3 with heap:=h₁,toks:=tk}:=λtk=>by
  refine ⟨fI,rfl,I3.bare,Un.kept d7,(ac _ gu (λj y v e1 e2 e3=>?_)),λy c e=>?_,?_,λy c e=>I3.jz y c (dH y c e),(λp hp=>nomatch hp),I3.aG.kept d7,?_⟩
  ·cases j with
   | zero=>cases e2
   | succ j=>
   cases j with
   | zero=>cases e2
   | succ j=>
    obtain ⟨i,y',a1,a2,a3,a4,a5,a6⟩:=B.yX σ j v e2
    have h_:N[j+1+1]?=some y:=e1
    rw [h_] at a1
    cases a1
    obtain ⟨m,hn,hl⟩:=I3.loc
    obtain ⟨u,r,l⟩:=hl i y v a2 a3 a4
    refine (ac u r (.inr ⟨a6,?_⟩))
    obtain ⟨c,ec⟩:=B.has y a6
    rcases l with ⟨k,_⟩ | ⟨_,c',kD,z⟩
    ·rcases a5 with q | q <;> (rw [k] at q;cases q)
    ·have:=dH y c ec
     rw [this] at kD
     cases kD
     intros bn0 z o ho hd
     exact (ul c ec o (d7 _ _ ho) hd)
  ·obtain ⟨v,o,ho,hd⟩:=I3.cell y c (dH y c e)
   exact ⟨v,o,d7 _ _ ho,hd⟩
  ·exact I3.aG.fresh (aL _)
  ·show (none::none::ρ σ).length=N.length
   rw [fC,fC]
   exact B.len σ I.len
 have fin:∀{σ':St} {H':Hp} {s':Shared},Inv (X.bq N scope cl s3 (upd H2 D (.lst [])) fp) [] σ' H' s'->Q (.ref D) H'->compPost (model X.prog X.w) X.A X.xe none (EP X pins σ Q) (.ref D) s3.heap.objs.size (.ok .next) s':=fun{σ' H' s'} J q=>by
  obtain ⟨m,hn,_⟩:=J.loc
  refine (ac m hn (λh' gz=>(ap (.ref D) H' ?_ rfl q)))
  have old:∀b o,s3.heap.get? b=some o->b≠s3.heap.objs.size:=below
  have u1:Un (dk X.stack) fp (upd H2 D (.lst [])) H' s3.heap h':=by
   refine ⟨λb o e n hb hx=>?_,λb o e n hb hx=>?_,J.base.free,λb o e hx=>?_,J.base.il,J.base.g9,J.base.ip⟩
   ·exact (gz.2 b (old b o e)).trans (J.base.keep b o e n hb hx)
   ·obtain ⟨sl,z⟩:=J.base.slot b o e n hb hx
    exact ⟨sl,(gz.2 b (old b o e)).trans z⟩
   ·obtain ⟨o',z⟩:=J.base.there b o e hx
    exact ⟨o',(gz.2 b (old b o e)).trans z⟩
  have qN:dq X.prog X.w H' h':=λb u e=>by
   refine (J.aG b u e).jc (λc v hc z=>(gz.2 c λy=>?_).trans z) (λ_ z=>z) λ_ _ z=>z
   have fr:=J.free
   have y':c=s3.heap.objs.size:=y
   rcases hc with hc | hc
   ·rw [<-hc,y'] at e
    exact absurd (fr.symm.trans e) (by simp)
   ·rw [y'] at hc
    exact absurd (fr.symm.trans hc) (by simp)
  refine I3.lF (s':={s' with heap:=h'}) (ch:=fp) (J.os) u1 qN J.bare λb hb=>?_
  obtain ⟨g0,g1,g2,g3,g4,g5⟩:=f2 b hb
  exact ⟨g3,g1,g4,g5⟩
 have gk:∀{H':Hp},(∀b∈fp,H' b=none)->∀b∈fp,lJ (X.bq N scope cl s3 (upd H2 D (.lst [])) fp) [] H' b:=λhn b hb=>by
  refine ⟨hn b hb,?_,?_,.inl hb,λy c e z=>(f2 b hb).2.2.2.2.1 y c (dH y c e) z,λp hp=>nomatch hp⟩
  ·obtain ⟨o,e,_⟩:=iQ b hb
   exact below b o (gy b o e)
  ·exact fI.oY b hb
 have loop:∀tk:Nat,codeAny (model X.prog X.w) X.A (.compLoop (.ListComp elt [⟨.Tuple [.Name x px,.Name y py] kI tp,iter,ifs,0⟩] scope pos) 0 (.ref it) (.ref D) (compEnvC scope cl s3.heap.objs.size X.env))
   (compPost (model X.prog X.w) X.A X.xe none (EP X pins σ Q) (.ref D) s3.heap.objs.size) {s3 with heap:=h₁,toks:=tk}:=λtk=>by
  refine LF (λn s'=>∃i ys o o2 H',Inv (X.bq N scope cl s3 (upd H2 D (.lst [])) fp) [] (o::o2::ρ σ) H' s'/\tn i s'.heap/\(∀b∈fp,H' b=none)/\W i n ys H') ?_ m0
   ⟨0,[],none,none,_,IB tk,T.keep _ _ _ hE λb hb o e=>d7 _ _ (gy _ _ e),λb hb=>by rw [cq (qL b hb)];exact (f2 b hb).1,w0⟩
  intro n s4;intros bnE _ i bn22 ys o o2 H4 I4 kF kG w4
  obtain ⟨FJ,qO⟩:=turn i n ys H4 w4
  rcases qO with ⟨stop,qn⟩ | ⟨go,step⟩
  ·refine cY (T.done (X.bq N scope cl s3 (upd H2 D (.lst [])) fp) rfl rfl rfl hc i [] s4 _ H4 (λ_ _=>False) I4 (gk kG) kF stop) (λr s5 ⟨hr,I5⟩=>?_) λ_ _ z=>z.elim
   subst hr
   exact fin I5 qn
  ·refine cY (T.item (X.bq N scope cl s3 (upd H2 D (.lst [])) fp) rfl rfl rfl hc i [] s4 _ H4 (λ_ _=>False) I4 (gk kG) kF go) (λr s5 ⟨u,hr,h5⟩=>?_) λ_ _ z=>z.elim
   subst hr
   refine cY h5 (λ_ s5 ⟨y0,H5,I5,r5,y5,gq,nq⟩=>?_) λ_ _ z=>z.elim
   have q'86:=step y0 _ y5;intros bn13 q'86 Tt x1 x2 e0 F5 qP
   subst e0
   have ny:=I5.pinned (gk nq) (T.obj _ _ gq)
   have pg:PG (X.bq N scope cl s3 (upd H2 D (.lst [])) fp) (.Tuple [.Name x px,.Name y py] kI tp) (E6 X.K 2 (yN (bo 0) (yN (bo 1) E5))):=
    Bi (X:=X.bq N scope cl s3 (upd H2 D (.lst [])) fp) hc (o5 (fF (i:=0) B.nd B.n0 (.inl (jY B.hx)) (.inr (jY B.hx))) (o5 (fF (i:=1) B.nd B.n1 (.inl (jY B.hy)) (.inr (jY B.hy))) Bh))
   have again:∀{σ7:St} {H7:Hp} {s7:Shared},Inv (X.bq N scope cl s3 (upd H2 D (.lst [])) fp) ([]++j_ fp s5.heap) σ7 H7 s7->Inv (X.bq N scope cl s3 (upd H2 D (.lst [])) fp) [] σ7 H7 s7/\tn (i+1) s7.heap/\∀b∈fp,H7 b=none:=fun{σ7 H7 s7} I7=>by
    refine ⟨I7.qw,T.keep _ _ _ gq λb hb o e=>(I7.pin (b,o) (eW _ (eW _ (lK hb e)))).1,λb hb=>?_⟩
    obtain ⟨o,e,d⟩:=T.obj _ _ gq b hb
    exact (I7.pin (b,o) (eW _ (eW _ (lK hb e)))).2.1
   refine cY (pg _ s5 _ H5 (.ref Tt) u (λσ2 H6=>σ2=some x1::some x2::ρ σ/\H6=H5) ny r5 (ap Tt _ rfl F5 (lf rfl _ (j' _ rfl _ _ rfl rfl rfl rfl)))) (λ_ s6 ⟨σ6,H6,I6,q6⟩=>?_) λ_ _ z=>z.elim
   obtain ⟨rfl,rfl⟩:=q6
   have tests:∀{iR:TT},lR (X.bq N scope cl s3 (upd H2 D (.lst [])) fp) ifs iR->∀{R:Bool->Hp->Prop},iR (some x1::some x2::ρ σ) H6 R->wpAny (model X.prog X.w) X.A
     (forIn ifs true λc r=>if r=true then do let ok <-isTrue c (compEnvC scope cl s3.heap.objs.size X.env) (eval c (compEnvC scope cl s3.heap.objs.size X.env));pure (ForInStep.yield ok) else pure (ForInStep.yield r))
     (λok s7=>∃H7,Inv (X.bq N scope cl s3 (upd H2 D (.lst [])) fp) ([]++j_ fp s5.heap) (some x1::some x2::ρ σ) H7 s7/\R ok H7) (λ_ _=>False) s6:=fun{iR} p {R} hR=>by
    cases p with
    | nil=>exact AY (ac _ I6 hR)
    | one p=>exact AZ (p _ s6 _ _ _ I6 hR)
   refine cY (tests (ht s3 _ fp) qP) (λok s7 ⟨H7,I7,q7⟩=>?_) λ_ _ z=>z.elim
   cases ok with
   | false=>
    intros bn0 q7 m' iS w7
    obtain ⟨a1,a2,a3⟩:=again I7
    exact ⟨m',iS,i+1,ys,_,_,H7,a1,a2,a3,w7⟩
   | true=>
    refine cY (he s3 _ fp _ s7 _ H7 _ I7 q7) (λev s8 ⟨z,H8,I8,r8,qQ,hz,m',iS,w8⟩=>?_) λ_ _ z=>z.elim
    refine cY (vk (X:=X.bq N scope cl s3 (upd H2 D (.lst [])) fp) _ s8 _ H8 (.ref D) [z] (.ref D) [ev] (λ_ H9=>H9=upd H8 D (.lst (ys++[z]))) I8 rfl (.cons r8 .nil) ⟨D,ys,z,rfl,rfl,qQ,hz,rfl⟩) (λ_ s9 ⟨_,H9,I9,_,q9⟩=>?_) λ_ _ z=>z.elim
    subst q9
    obtain ⟨a1,a2,a3⟩:=again I9
    exact ⟨m',iS,i+1,ys++[z],_,_,_,a1,a2,a3,w8⟩
 have start:=loop (s3.toks+([]:List (Str×Value)).length)
 have es:({s3 with heap:=h₁,toks:=s3.toks+([]:List (Str×Value)).length}:Shared)={s2 with heap:=h₁,toks:=s2.toks+([]:List (Str×Value)).length}:=by rw [<-eO]
 rw [es] at start
 exact A0 start (T.self _ 0 _ _ _ (T.keep _ _ _ hE λb hb o e=>d7 _ _ (gy _ _ e)) start)
end
section
variable {X:Cx}
end
section
variable {M:Model} {A:Around} {E:cQ} {s:Shared}
end
section
variable {X:Cx} {N:List Str} {scope:Scope} {cl:List (Str×Addr)} {x:Str} {px pos:Pos} {iter elt:Expr} {ifs:List Expr} {wi:TI} {ρ:St->St} {tt:TT} {te:TE}
end
def y8(K:aI)(H:Hp):Nat->V->V->Prop
 | 0,v,u=>v=u/\lO v=true
 | n+1,v,u=>(v=u/\lO v=true)\/∃a b xs ys,v=.ref a/\u=.ref b/\((bG K H a xs/\bG K H b ys)\/(fE K H a xs/\fE K H b ys))/\xs.length=ys.length/\∀(j:Nat) (x y:V),xs[j]?=some x->ys[j]?=some y->y8 K H n x y
theorem LJ{v:V}(h:lO v=true):vi v v=true:=by
 cases v with
 | a9=>rfl
 | bl b=>show (b == b)=true;simp
 | int i=>show (i == i)=true;simp
 | str x=>show (x == x)=true;simp
 | _=>cases h
theorem all_range(n:Nat):(List.range n).all (λ_=>true)=true:=by simp
section
variable {X:Cx} {pins:bE} {σ:St} {H:Hp} {s:Shared}
theorem BP(I:Inv X pins σ H s):∀(n:Nat) (A:Around) (v u:V) (a b:Value),y8 X.K H n v u->RelV v a->RelV u b->A.units+n<cLine->SeqAt.EqAt A s a b true
 | 0,A,v,u,a,b,h,ra,rb,hu=>by obtain ⟨rfl,hf⟩:=h;have z:=Fs (A:=A) (s:=s) ra rb hf hf;rw [LJ hf] at z;exact z
 | n+1,A,v,u,a,b,h,ra,rb,hu=>by
  rcases h with ⟨rfl,hf⟩ | ⟨p,q,xs,ys,rfl,rfl,hs,hl,hi⟩
  ·have z:=Fs (A:=A) (s:=s) ra rb hf hf
   rw [LJ hf] at z;exact z
  ·cases ra
   cases rb;by_cases pq:p=q
   ·subst pq
    exact SeqAt.EqAt.same _
   rcases hs with ⟨h1,h2⟩ | ⟨h1,h2⟩
   ·obtain ⟨us,r1,t1,_⟩:=I.list h1
    obtain ⟨vs,r2,t2,_⟩:=I.list h2;have l1:=r1.length;have l2:=r2.length;have z:=SeqAt.RcAt.lists (A:=A) (e:=λ_=>true) t1.isList t2.isList (by simp;lia) ⋯ (λj z1 z2=>by
     have F6:j<us.length:=by simpa using z1
     have F7:j<vs.length:=by simpa using z2
     obtain ⟨x,ex⟩:∃x,xs[j]?=some x:=⟨xs[j],by simp [show j<xs.length by lia]⟩
     obtain ⟨y,ey⟩:∃y,ys[j]?=some y:=⟨ys[j],by simp [show j<ys.length by lia]⟩
     obtain ⟨x',jx,rx⟩:=r1.get ex;obtain ⟨y',qX,ry⟩:=r2.get ey;have e1:us.toArray[j]=x':=by simpa using (dj.mp jx).2
     have e2:vs.toArray[j]=y':=by simpa using (dj.mp qX).2
     rw [e1,e2];exact BP I n A.in1 x y x' y' (hi j x y ex ey) rx ry (by rw [A5];lia))
    rw [all_range] at z;exact SeqAt.EqAt.of_refs pq z
   ·obtain ⟨us,r1,t1,_⟩:=I.tuple h1
    obtain ⟨vs,r2,t2,_⟩:=I.tuple h2;have l1:=r1.length;have l2:=r2.length;have z:=SeqAt.RcAt.tuples (A:=A) (e:=λ_=>true) t1 t2 ⋯ (λj z1 z2=>by
     have F6:j<us.length:=by simpa using z1
     have F7:j<vs.length:=by simpa using z2
     obtain ⟨x,ex⟩:∃x,xs[j]?=some x:=⟨xs[j],by simp [show j<xs.length by lia]⟩
     obtain ⟨y,ey⟩:∃y,ys[j]?=some y:=⟨ys[j],by simp [show j<ys.length by lia]⟩
     obtain ⟨x',jx,rx⟩:=r1.get ex;obtain ⟨y',qX,ry⟩:=r2.get ey;have e1:us.toArray[j]=x':=by simpa using (dj.mp jx).2
     have e2:vs.toArray[j]=y':=by simpa using (dj.mp qX).2
     rw [e1,e2];exact BP I n A.in1 x y x' y' (hi j x y ex ey) rx ry (by rw [A5];lia))
    have e3:(us.toArray.size == vs.toArray.size)=true:=by simp;lia
    rw [all_range,e3] at z;exact SeqAt.EqAt.of_refs pq z
end
section
variable {X:Cx}
def BQ(K:aI)(n:Nat)(r:Bool):R2:=λx y H Q=>∃a b xs ys,x=.ref a/\y=.ref b/\bG K H a xs/\bG K H b ys/\xs.length=ys.length/\(∀(j:Nat) (x y:V),xs[j]?=some x->ys[j]?=some y->y8 K H n x y)/\Q (.bl r) H
variable {n:Nat}
theorem LK(hu:X.A.units+64<cLine)(hn:n<60:=by decide):c_ X (compareOp .Eq) (BQ X.K n true):=by
 intro pins s σ H x y v u Q I rx ry h;intros bn2 h a b bn27 xs ys rfl rfl h1 h2 hl hi q;cases rx;cases ry;obtain ⟨us,r1,t1,_⟩:=I.list h1;obtain ⟨vs,r2,t2,_⟩:=I.list h2;have l1:=r1.length;have l2:=r2.length;refine SeqAt.eq_listAt (e:=λ_=>true) t1.isList t2.isList (by simp;lia) ⋯ (λj z1 z2=>?_) ?_
 ·have F6:j<us.length:=by simpa using z1
  have F7:j<vs.length:=by simpa using z2
  obtain ⟨x,ex⟩:∃x,xs[j]?=some x:=⟨xs[j],by simp [show j<xs.length by lia]⟩
  obtain ⟨y,ey⟩:∃y,ys[j]?=some y:=⟨ys[j],by simp [show j<ys.length by lia]⟩
  obtain ⟨x',jx,rx⟩:=r1.get ex;obtain ⟨y',qX,ry⟩:=r2.get ey;have e1:us.toArray[j]=x':=by simpa using (dj.mp jx).2
  have e2:vs.toArray[j]=y':=by simpa using (dj.mp qX).2
  rw [e1,e2];exact BP I n X.A.in1 x y x' y' (hi j x y ex ey) rx ry (by rw [A5];lia)
 ·rw [all_range]
  exact ⟨.bl true,H,I,rfl,q⟩
theorem y_(hu:X.A.units+64<cLine)(hn:n<60:=by decide):c_ X (compareOp .NotEq) (BQ X.K n false):=by
 intro pins s σ H x y v u Q I rx ry h;intros bn2 h a b bn27 xs ys rfl rfl h1 h2 hl hi q;cases rx;cases ry;obtain ⟨us,r1,t1,_⟩:=I.list h1;obtain ⟨vs,r2,t2,_⟩:=I.list h2;have l1:=r1.length;have l2:=r2.length;refine SeqAt.RcNeAt.lists (e:=λ_=>true) t1.isList t2.isList (by simp;lia) ⋯ (λj z1 z2=>?_) _ _ _ _ ?_
 ·have F6:j<us.length:=by simpa using z1
  have F7:j<vs.length:=by simpa using z2
  obtain ⟨x,ex⟩:∃x,xs[j]?=some x:=⟨xs[j],by simp [show j<xs.length by lia]⟩
  obtain ⟨y,ey⟩:∃y,ys[j]?=some y:=⟨ys[j],by simp [show j<ys.length by lia]⟩
  obtain ⟨x',jx,rx⟩:=r1.get ex;obtain ⟨y',qX,ry⟩:=r2.get ey;have e1:us.toArray[j]=x':=by simpa using (dj.mp jx).2
  have e2:vs.toArray[j]=y':=by simpa using (dj.mp qX).2
  rw [e1,e2];exact BP I n X.A.in1 x y x' y' (hi j x y ex ey) rx ry (by rw [A5];lia)
 ·rw [all_range]
  exact ⟨.bl false,H,I,rfl,q⟩
end
section
variable {X:Cx} {N:List Str} {scope:Scope} {cl:List (Str×Addr)} {x:Str} {px pos:Pos} {iter elt:Expr} {ifs:List Expr} {wi:TI} {ρ:St->St} {tt:TT} {te:TE}
end
structure BR (J:It) (zs:List (V×V)) (H1:Hp):Prop where
 go:∀i Hc,ai H1 Hc->i<zs.length->J.go i Hc
 fW:∀i Hc v H',ai H1 Hc->J.fW i Hc v H'->∃T x y,v=.ref T/\Hc T=none/\H'=upd Hc T (.tup [x,y])/\(i<zs.length->zs[i]?=some (x,y))
 stop:∀i Hc,ai H1 Hc->zs.length<=i->J.stop i Hc
theorem F8{a b:Addr}{ys:List V}(h1:bG K H1 a xs)(h2:bG K H1 b ys):BR (FX K a b) (xs.zip ys) H1 where
 go:=λi Hc s hi=>by
  have hi:i<min xs.length ys.length:=by simpa using hi
  exact ⟨xs,ys,xs[i],ys[i],s.seq h1,s.seq h2,by simp [show i<xs.length by lia],by simp [show i<ys.length by lia]⟩
 fW:=λi Hc v H' s y=>by intros bn18 y T x y nT ev eH hx;obtain ⟨e1,e2⟩:=hx xs ys (s.seq h1) (s.seq h2);exact ⟨T,x,y,ev,nT,eH,λ_=>by rw [ER];exact ⟨e1,e2⟩⟩
 stop:=λi Hc s hi=>by
  have hi:min xs.length ys.length<=i:=by simpa using hi
  exact ⟨xs,ys,s.seq h1,s.seq h2,⋯⟩
theorem Us{zs:List (V×V)}(jL:∀R:It->Hp->Prop,(∀J H1,ai H H1->BR J zs H1->R J H1)->wi σ H R)(hn:zs.length<sizeLine)
  (P:Nat->V->Prop)
  (step:∀i x y,zs[i]?=some (x,y)->∀(Hc:Hp) (R:VK),ai H Hc->(∀v H3,ai Hc H3->P i v->R v H3)->te (some x::some y::ρ σ) Hc R)
  (fin:∀D vs Hc,ai H Hc->vs.length=zs.length->(∀(i:Nat) (v:V),vs[i]?=some v->P i v)->Hc D=some (.lst vs)->Q (.ref D) Hc):vy K wi ρ (λ_ H Q=>Q true H) te σ H Q:=by
 refine jL _ λJ H1 s1 js=>?_;intro D nD;refine (ac (λi m vs Hc=>m=zs.length-i/\i<=zs.length/\Hc D=some (.lst vs)/\ai H1 Hc/\vs.length=i/\∀(j:Nat) (v:V),vs[j]?=some v->P j v) ⟨_,rfl,cn _,az,iT (ai.refl H1) nD,rfl,λj y e=>by simp at e⟩ ?_)
 rintro i m vs Hc ⟨rfl,hi,eD,sH,el,hP⟩;refine ⟨eD,?_⟩;by_cases cZ:i<zs.length
 ·refine .inr ⟨js.go i Hc sH cZ,λv H' hy=>?_⟩
  have q'6:=js.fW i Hc v H' sH hy;intros bn18 q'6 T x y ev nT eH hx;subst ev eH;refine (Exists.intro T (ap x y rfl (.of az) ?_));dsimp only;rw [aq rfl];have sT:ai Hc (upd Hc T (.tup [x,y])):=λb o e=>by rw [cq (gL e nT)];exact e
  refine step i x y (hx cZ) _ _ (s1.trans (sH.trans sT)) λw H3 s3 hp=>?_;have e3:=s3 _ _ (sT _ _ eD);refine ⟨e3,⋯,zs.length-(i+1),⋯,rfl,cZ,az,iT (sH.trans (sT.trans s3)) nD,by simp [el],λj v' e=>?_⟩
  by_cases hj:j<i;·exact hP j v' (by rw [ju ⋯] at e;exact e)
  ·have hj:j=i:=by have:=(dj.mp e).1;simp at this;lia
   subst hj;have e':v'=w:=by rw [i8 ⋯,el,k_] at e;simpa using e.symm
   subst e';exact hp
 ·have e:i=zs.length:=by lia
  subst e;exact .inl ⟨js.stop _ Hc sH (aL _),fin D vs Hc (s1.trans sH) el hP eD⟩
theorem qY(jL:∀R:It->Hp->Prop,(∀J H1,ai H H1->vw J xs H1->R J H1)->wi σ H R)(hn:xs.length<sizeLine)
  (P:Addr->Nat->V->Hp->Prop) (mono:∀D i y H H' ys,P D i y H->H D=some (.lst ys)->(∀b o,b≠D->H b=some o->H' b=some o)->P D i y H')
  (step:∀D i x,xs[i]?=some x->∀(Hc:Hp) (R:VK),ai H Hc->(∃ys,Hc D=some (.lst ys))->(∀y H3,ai Hc H3->P D i y H3->R y H3)->te (some x::ρ σ) Hc R)
  (fin:∀D ys Hc,H D=none->ai H Hc->ys.length=xs.length->(∀(i:Nat) (y:V),ys[i]?=some y->P D i y Hc)->Hc D=some (.lst ys)->Q (.ref D) Hc):qK wi ρ (λ_ H Q=>Q true H) te σ H Q:=by
 refine jL _ λJ H1 s1 js=>?_;intro D nD;have hD:H D=none:=by
  cases e:H D with
  | none=>rfl
  | some o=>rw [s1 _ _ e] at nD;cases nD
 exact LB (ρσ:=ρ σ) (te:=te) (Q:=Q) js nD hn (P D) (mono D) (λi x hx Hc R sc=>step D i x hx Hc R (s1.trans sc)) (λys Hc sc=>fin D ys Hc hD (s1.trans sc))
section
variable {X:Cx} {K:aI}
theorem BS(hK:X.K=K:=by rfl):vg X (KW K):=by subst hK;exact aU
theorem Ut(hK:X.K=K:=by rfl):vg X (KU K):=by subst hK;exact cz
end
end L2
namespace My
open PySem L2
variable {te:TE} {σ:St} {H:Hp} {Q:VK}
theorem Uu{r:List V->Hp->VK->Prop}(h:te σ H λx H1=>r [x] H1 Q):Fm r (eJ te iu) σ H Q:=h
theorem za{D:Ends}(h:te σ H D.rt):Kb te D σ H:=h
theorem Uv{t:TA}(h:te σ H λx H1=>t σ H1 λxs H2=>(x::xs).length<=sizeLine/\∀p,H2 p=none->Q (.ref p) (upd H2 p (.tup (x::xs)))):KC (eJ te t) σ H Q:=h
theorem BU{vs:List V}{ws:List Int}(hl:vs.length=ws.length)(h:∀(i:Nat) (v:V),vs[i]?=some v->∃w,ws[i]?=some w/\v=.int w):vs=ws.map V.int:=by
 refine A6 λi=>?_;rw [gf];by_cases hi:i<vs.length
 ·obtain ⟨w,e1,e2⟩:=h i vs[i] (by simp [hi])
  rw [e1,show vs[i]?=some vs[i] by simp [hi],e2]
  rfl
 ·rw [ku ⋯,ku ⋯]
  rfl
def LM(H0 H:Hp)(v:V)(ts:List Int)(B:Int):Prop:=∃tp l:Addr,v=.ref tp/\H tp=some (.tup [.ref l,.int B])/\H l=some (.lst (ts.map V.int))/\H0 l=none
variable {b:Int}
theorem Uw{m:Int}(hb:1<=b)(hm:1<=m):1<=b / (Int.gcd b m:Int)*m/\m∣b / (Int.gcd b m:Int)*m/\b∣b / (Int.gcd b m:Int)*m/\(b / (Int.gcd b m:Int)*m).natAbs<=b.natAbs*m.natAbs:=by
 have gp:=qS (a:=b) (b:=m) ⋯
 obtain ⟨b',eb⟩:=yz (a:=b) (b:=m);obtain ⟨m',em⟩:=qi (a:=b) (b:=m);generalize Int.gcd b m=g at *;have g0:(g:Int)≠0:=by lia
 have gb:b / (g:Int)=b':=by rw [eb];exact oR _ g0
 rw [gb];have b0:0<b':=yZ (u:=(g:Int)) ⋯ (by rw [<-eb];lia)
 have mp:0<b'*m:=Int.mul_pos b0 ⋯
 refine ⟨⋯,uH ..,⟨m',?_⟩,?_⟩
 ·rw [em,eb]
  simp only [gJ,jb,Int.mul_left_comm]
 ·rw [aZ]
  refine gK _ ?_;rw [<-gb];exact oQ ..
theorem pick{α β:Type}{xs:List α}{R:Nat->α->β->Prop}(h:∀(i:Nat) (x:α),xs[i]?=some x->∃w,R i x w):∃ws:List β,ws.length=xs.length/\∀(i:Nat) (x:α) (w:β),xs[i]?=some x->ws[i]?=some w->R i x w:=by
 refine ⟨List.ofFn λi:Fin xs.length=>Classical.choose (h i.1 xs[i.1] (by simp)),by simp,λi x w hx hw=>?_⟩
 have hi:i<xs.length:=(dj.mp hx).1;have ex:xs[i]=x:=(dj.mp hx).2;rw [List.getElem?_ofFn,dif_pos hi] at hw;have hw:=Option.some.inj hw;rw [<-hw];have z:=Classical.choose_spec (h i xs[i] (by simp [hi]))
 rw [<-ex];exact z
variable {q:Int}
theorem dr{c:Int}(hq:au q)(h1:¬q∣b)(h2:¬q∣c):¬q∣b*c:=λh=>by
 rcases hq with rfl | ⟨q2,q3,q4⟩
 ·have z:=ie.mp h
  rcases Int.mul_eq_zero.mp z with z | z;·exact h1 (by rw [z];exact ja 0)
  ·exact h2 (by rw [z];exact ja 0)
 ·have k1:=d0 c (show q≠0 by lia)
  have k2:=ej c (show 0<q by lia)
  have k3:c % q≠0:=λz=>h2 (EO z);have g:=FT q2 q3 q4 (show 1<=c % q by lia) k2
  obtain ⟨w,ew⟩:=y4 c q;exact h1 (Lx q2 (Uh g ⟨-w,by rw [fh];lia⟩) h)
def aP(q:Int)(b:Int):Prop:=(q=0->1<=b)/\(q≠0->b=1)
theorem Ux{vs:List V}{b:Bool}(h:∀(i:Nat) (v:V),vs[i]?=some v->v=.bl b):vs=(List.replicate vs.length b).map V.bl:=by
 refine A6 λi=>?_;rw [gf];by_cases hi:i<vs.length
 ·rw [show vs[i]?=some vs[i] by simp [hi],h i vs[i] (by simp [hi])]
  simp [hi]
 ·rw [ku ⋯,ku (by simp;lia)]
  rfl
theorem Uy(n:Nat):(List.replicate n true).all id=true:=by simp
theorem none_of{H':Hp}{b:Addr}(s:ai H H')(h:H' b=none):H b=none:=by
 cases e:H b with
 | none=>rfl
 | some o=>rw [s _ _ e] at h;cases h
theorem LN{K:aI}{v u:V}{t t' b':Int}(hv:lY H q v t b)(hu:lY H q u t' b')(e:t*b'=t'*b)(n:Nat):y8 K H (n+1) v u:=by
 rcases Uj hv hu e with ⟨p,p',x,m,rfl,rfl,e1,e2⟩ | ⟨i,rfl,rfl⟩
 ·refine .inr (ii p p' _ _ rfl rfl (.inr ⟨.of e1,.of e2⟩) rfl (λj x y h1 h2=>?_))
  rw [h1] at h2;cases h2;have hf:lO x=true:=by
   match j,h1 with
   | 0,h1=>cases h1;rfl
   | 1,h1=>cases h1;rfl
   | j+2,h1=>cases h1
  cases n with
  | zero=>exact ⟨rfl,hf⟩
  | succ n=>exact .inl ⟨rfl,hf⟩
 ·exact .inl ⟨rfl,rfl⟩
end My
namespace Srs
abbrev Row:=Nat->Int
def dR(c:Nat)(F:List Row->Int):List Row->List Row->Int
 | _,[]=>0
 | pre,r::post=>r c*F (pre++post)-dR c F (pre++[r]) post
def det:List Nat->List Row->Int
 | [],[]=>1
 | [],_::_=>0
 | c::cs,rows=>dR c (det cs) [] rows
def kh(a b:Int)(x y:Row):Row:=λi=>a*x i+b*y i
def F9(F:List Row->Int):Prop:=∀(A B:List Row) (x y:Row) (a b:Int),F (A++kh a b x y::B)=a*F (A++x::B)+b*F (A++y::B)
def Alt(F:List Row->Int):Prop:=∀(A B:List Row) (x:Row),F (A++x::x::B)=0
section
variable {F:List Row->Int} {c:Nat} {x y:Row} {a b:Int}
theorem LO(hF:F9 F)(P:List Row):∀(rows Q:List Row),dR c F (P++kh a b x y::Q) rows=a*dR c F (P++x::Q) rows+b*dR c F (P++y::Q) rows
 | [],Q=>by simp [dR]
 | r::post,Q=>by have h1:=hF P (Q++post) x y a b;have h2:=LO hF P post (Q++[r]);simp only [dR,i_,jw] at *;rw [h1,h2];grind
theorem LP(hF:F9 F)(B:List Row):∀(A P:List Row),dR c F P (A++kh a b x y::B)=a*dR c F P (A++x::B)+b*dR c F P (A++y::B)
 | [],P=>by have h:=LO (c:=c) (x:=x) (y:=y) (a:=a) (b:=b) hF P B [];simp only [gg,dR];rw [h];unfold kh;grind
 | r::A,P=>by have h1:=hF (P++A) B x y a b;have h2:=LP hF B A (P++[r]);simp only [dR,i_,jw] at *;rw [h1,h2];grind
theorem LQ(hF:Alt F)(P:List Row):∀(rows Q:List Row),dR c F (P++x::x::Q) rows=0
 | [],Q=>by simp [dR]
 | r::post,Q=>by have h1:=hF P (Q++post) x;have h2:=LQ hF P post (Q++[r]);simp only [dR,i_,jw] at *;rw [h1,h2];simp
theorem LR(hF:Alt F)(B:List Row):∀(A P:List Row),dR c F P (A++x::x::B)=0
 | [],P=>by have h:=LQ (c:=c) (x:=x) hF P B [];simp only [gg,dR,i_,jw] at *;rw [h];lia
 | r::A,P=>by have h1:=hF (P++A) B x;have h2:=LR hF B A (P++[r]);simp only [dR,i_,jw] at *;rw [h1,h2];simp
theorem LS:∀(rows P:List Row),(∀r∈rows,r c=0)->dR c F P rows=0
 | [],P,_=>rfl
 | r::post,P,h=>by rw [dR,h r mQ,LS post _ λr' hr=>h r' (i6 _ hr)];simp
end
theorem zb:∀cs,F9 (det cs)
 | []=>λA B x y a b=>by cases A <;> simp [det]
 | c::cs=>λA B x y a b=>LP (zb cs) B A []
theorem vz:∀cs,Alt (det cs)
 | []=>λA B x=>by cases A <;> rfl
 | c::cs=>λA B x=>LR (vz cs) B A []
variable {r:Row}
theorem LU{c:Nat}{cs:List Nat}{rows:List Row}(h:∀r'∈rows,r' c=0):det (c::cs) (r::rows)=r c*det cs rows:=by show dR c (det cs) [] (r::rows)=_;rw [dR,LS rows _ h,gg];lia
theorem Uz(cs:List Nat)(A B:List Row)(x y:Row):det cs (A++x::y::B)=-det cs (A++y::x::B):=by have h:=vz cs A B (kh 1 1 x y);have l:=zb cs;rw [l A (kh 1 1 x y::B) x y 1 1] at h;have e1:=l (A++[x]) B x y 1 1;have e2:=l (A++[y]) B x y 1 1;simp only [i_,List.singleton_append] at e1 e2;rw [e1,e2,vz cs A B x,vz cs A B y] at h;lia
def nd(cs:List Nat)(rows:List Row):Nat:=(det cs rows).natAbs
section
variable {cs:List Nat}
theorem UA(A B:List Row)(x y:Row):nd cs (A++x::y::B)=nd cs (A++y::x::B):=by unfold nd;rw [Uz,mX]
theorem zc(x:Row)(B:List Row):∀(L A:List Row),nd cs (A++(L++x::B))=nd cs (A++x::(L++B))
 | [],A=>rfl
 | y::L,A=>by have h:=zc x B L (A++[y]);simp only [i_,gg,jw] at h ⊢;rw [h,UA]
theorem LV(B L:List Row):∀(M A:List Row),nd cs (A++(L++(M++B)))=nd cs (A++(M++(L++B)))
 | [],A=>rfl
 | x::M,A=>by have h:=LV B L M (A++[x]);simp only [i_,gg,jw] at h ⊢;rw [zc,h]
theorem UB{A B:List Row}{y:Row}(h:y∈A\/y∈B):det cs (A++y::B)=0:=by
 refine Int.natAbs_eq_zero.mp (show nd cs (A++y::B)=0 from ?_);rcases h with h | h
 ·obtain ⟨A1,A2,rfl⟩:=List.append_of_mem h
  have m:=zc (cs:=cs) y B A2 (A1++[y]);simp only [i_,gg,jw] at m ⊢;rw [m];unfold nd;rw [vz];rfl
 ·obtain ⟨B1,B2,rfl⟩:=List.append_of_mem h
  have m:=zc (cs:=cs) y B2 B1 (A++[y]);simp only [i_,gg,jw] at m ⊢;rw [m];unfold nd;rw [vz];rfl
end
def comb:List (Int×Row)->Row
 | []=>λ_=>0
 | p::l=>λi=>p.1*p.2 i+comb l i
theorem LW{cs:List Nat}{A B:List Row}{x:Row}{a:Int}:∀(l:List (Int×Row)),(∀p∈l,p.2∈A\/p.2∈B)->det cs (A++(λi=>a*x i+comb l i)::B)=a*det cs (A++x::B)
 | [],_=>by
  have e:(λi=>a*x i+comb [] i)=kh a 0 x x:=by funext i;simp [comb,kh]
  rw [e,zb];lia
 | p::l,h=>by
  have e:(λi=>a*x i+comb (p::l) i)=kh 1 p.1 (λi=>a*x i+comb l i) p.2:=by
   funext i
   simp only [comb,kh];lia
  rw [e,zb,LW l λp' hp=>h p' (i6 _ hp),UB (h p mQ)];lia
def sh(k:Nat)(r:Row):Row:=λi=>if i<3*k then 0 else r (i-3*k)
theorem UC(k d:Nat)(r:Row):sh k (sh d r)=sh (k+d) r:=by
 funext i
 unfold sh;by_cases h:i<3*k;·rw [aq h,aq ⋯]
 ·rw [ao h]
  by_cases h':i-3*k<3*d;·rw [aq h',aq ⋯]
  ·rw [ao h',ao ⋯]
   congr 1
   lia
theorem zd{k u:Nat}(h:k<=u):sh k r (3*u)=r (3*(u-k)):=by
 unfold sh;rw [ao ⋯]
 congr 1
 lia
theorem UD(r:Row):sh 0 r=r:=by
 funext i
 unfold sh;rw [ao ⋯]
 rfl
def cK(r:Row):Nat->List Row
 | 0=>[]
 | k+1=>sh k r::cK r k
theorem pD{r:Row}:∀{n:Nat} {s:Row},s∈cK r n↔∃k,k<n/\s=sh k r
 | 0,s=>by simp [cK]
 | n+1,s=>by
  rw [cK,eV,pD];constructor
  ·rintro (h | ⟨k,h,e⟩)
   ·exact ⟨n,⋯,h⟩
   ·exact ⟨k,⋯,e⟩
  ·intros bn0 _ k h e
   by_cases z:k=n;·exact .inl (by rw [e,z])
   ·exact .inr ⟨k,⋯,e⟩
def cols:Nat->Nat->List Nat
 | _,0=>[]
 | hi,k+1=>3*hi::cols (hi-1) k
def Red(a:Int)(f g h:Row)(d:Nat):Prop:=∃l:List (Int×Nat),(∀p∈l,p.2<=d)/\∀i,h i=a*f i+comb (l.map λp=>(p.1,sh p.2 g)) i
theorem LX(K:Nat)(g:Row):∀(l:List (Int×Nat)) (i:Nat),sh K (comb (l.map λp=>(p.1,sh p.2 g))) i=comb (l.map λp=>(p.1,sh (K+p.2) g)) i
 | [],i=>by unfold sh comb;simp
 | p::l,i=>by
  have h:=LX K g l i;have e:sh K (sh p.2 g) i=sh (K+p.2) g i:=by rw [UC]
  simp only [qg,comb];rw [<-h,<-e];unfold sh;by_cases z:i<3*K <;> simp [z,comb]
theorem F_{cs:List Nat}{a:Int}{f g h:Row}{d M:Nat}(red:Red a f g h d):∀(K:Nat) (A:List Row),K+d<=M->a.natAbs ^ K*nd cs (A++(cK f K++cK g M))=nd cs (A++(cK h K++cK g M))
 | 0,A,_=>by simp [cK]
 | K+1,A,hM=>by
  obtain ⟨l,hl,e⟩:=id red;have ih:=F_ (cs:=cs) (M:=M) red K (A++[sh K h]) ⋯
  simp only [i_,gg,jw,cK] at ih ⊢;rw [<-ih];have eh:sh K h=λi=>a*sh K f i+comb (l.map λp=>(p.1,sh (K+p.2) g)) i:=by
   funext i
   rw [<-LX];unfold sh;by_cases z:i<3*K;·simp [z]
   ·simp only [ao z];exact e _
  have dc:=LW (cs:=cs) (A:=A) (B:=cK f K++cK g M) (x:=sh K f) (a:=a) (l.map λp=>(p.1,sh (K+p.2) g)) λp hp=>by obtain ⟨p',UE,rfl⟩:=fQ.mp hp;exact .inr (eW _ (pD.mpr ⟨K+p'.2,by have:=hl p' UE;lia,rfl⟩))
  rw [<-eh] at dc;unfold nd;rw [dc,aZ,fR];grind
theorem Ga{g:Row}{m t:Nat}{H:List Row}(g0:∀u,m<u->g (3*u)=0):∀(p M hi cnt nQ:Nat),hi+1=m+(M+p)->nQ+p<=hi->(∀r∈H,∀u,nQ<u->r (3*u)=0)->nd (cols hi (cnt+p)++[t]) (H++cK g (M+p))=(g (3*m)).natAbs ^ p*nd (cols (hi-p) cnt++[t]) (H++cK g M)
 | 0,M,hi,cnt,nQ,_,_,_=>by simp
 | p+1,M,hi,cnt,nQ,e1,e2,hH=>by
  have ih:=Ga (t:=t) g0 p M (hi-1) cnt nQ ⋯ ⋯ hH
  have mv:=zc (cs:=cols hi (cnt+(p+1))++[t]) (sh (M+p) g) (cK g (M+p)) H [];rw [show cK g (M+(p+1))=sh (M+p) g::cK g (M+p) from rfl];rw [gg,gg] at mv;rw [mv];have pl:det (cols hi (cnt+(p+1))++[t]) (sh (M+p) g::(H++cK g (M+p)))=g (3*m)*det (cols (hi-1) (cnt+p)++[t]) (H++cK g (M+p)):=by
   have:=LU (c:=3*hi) (cs:=cols (hi-1) (cnt+p)++[t]) (r:=sh (M+p) g) (rows:=H++cK g (M+p)) λr hr=>by
    rcases i7.mp hr with hr | hr;·exact hH r hr hi ⋯
    ·obtain ⟨k,hk,rfl⟩:=pD.mp hr
     rw [zd ⋯]
     exact g0 _ ⋯
   rw [zd ⋯,show hi-(M+p)=m by lia] at this
   exact this
  unfold nd at ih ⊢;rw [pl,aZ,ih,fR,show hi-1-p=hi-(p+1) by lia]
  grind
theorem Gb{h:Row}{l t:Nat}(h0:∀u,l<u->h (3*u)=0):∀k,nd (cols (l+k) k++[t]) (cK h (k+1))=(h (3*l)).natAbs ^ k*(h t).natAbs
 | 0=>by unfold nd cK cK cols;show (dR t (det []) [] [sh 0 h]).natAbs=_;rw [UD];simp [dR,det]
 | k+1=>by
  have ih:=Gb h0 (t:=t) k;have pl:=LU (c:=3*(l+(k+1))) (cs:=cols (l+k) k++[t]) (r:=sh (k+1) h) (rows:=cK h (k+1)) λr hr=>by
   obtain ⟨k',hk,rfl⟩:=pD.mp hr;rw [zd ⋯]
   exact h0 _ ⋯
  rw [zd ⋯,show l+(k+1)-(k+1)=l by lia] at pl
  unfold nd at ih ⊢;rw [show cols (l+(k+1)) (k+1)++[t]=3*(l+(k+1))::(cols (l+k) k++[t]) from rfl,show cK h (k+1+1)=sh (k+1) h::cK h (k+1) from rfl,pl,aZ,ih,fR];grind
theorem LY{cs:List Nat}{c:Row}{e:Int}:∀(K:Nat) (A:List Row),nd cs (A++cK (λi=>e*c i) K)=e.natAbs ^ K*nd cs (A++cK c K)
 | 0,A=>by simp [cK]
 | K+1,A=>by
  have ih:=LY (cs:=cs) (c:=c) (e:=e) K (A++[sh K λi=>e*c i]);simp only [i_,gg,jw,cK] at ih ⊢;rw [ih];have es:(sh K λi=>e*c i)=kh e 0 (sh K c) (sh K c):=by
   funext i
   unfold sh kh;by_cases z:i<3*K <;> simp [z]
  unfold nd;rw [es,zb,gh,j6,aZ,fR];grind
def S(j:Nat)(f:Row)(n:Nat)(g:Row)(m t:Nat):Nat:=nd (cols (n+m-j-1) (n+m-2*j-1)++[t]) (cK f (m-j)++cK g (n-j))
section
variable {f g h:Row} {n m l j t:Nat} {a:Int}
theorem LZ(h0:∀u,l<u->h (3*u)=0)(K:Nat):∀r∈cK h K,∀u,l+K-1<u->r (3*u)=0:=λr hr u hu=>by
 obtain ⟨k,hk,rfl⟩:=pD.mp hr;rw [zd ⋯]
 exact h0 _ ⋯
theorem UG(red:Red a f g h (n-m))(mn:m<=n)(g0:∀u,m<u->g (3*u)=0)(h0:∀u,l<u->h (3*u)=0)(lm:l<m)(jl:j<l):a.natAbs ^ (m-j)*S j f n g m t=(g (3*m)).natAbs ^ (n-l)*S j g m h l t:=by
 have r:=F_ (cs:=cols (n+m-j-1) (n+m-2*j-1)++[t]) (M:=n-j) red (m-j) [] ⋯
 rw [gg,gg] at r;have p:=Ga (t:=t) (H:=cK h (m-j)) g0 (n-l) (l-j) (n+m-j-1) (m+l-2*j-1) (l+(m-j)-1) ⋯ ⋯ (LZ h0 (m-j))
 rw [show m+l-2*j-1+(n-l)=n+m-2*j-1 by lia,show l-j+(n-l)=n-j by lia,show n+m-j-1-(n-l)=m+l-j-1 by lia] at p
 have s:=LV (cs:=cols (m+l-j-1) (m+l-2*j-1)++[t]) [] (cK h (m-j)) (cK g (l-j)) [];simp only [gg,qh] at s;unfold S;rw [r,p,s]
theorem L0(red:Red a f g h (n-m))(mn:m<=n)(g0:∀u,m<u->g (3*u)=0)(h0:∀u,l<u->h (3*u)=0)(lj:l<=j)(jm:j<m):a.natAbs ^ (m-j)*S j f n g m t=(g (3*m)).natAbs ^ (n-j)*nd (cols (m-1) (m-j-1)++[t]) (cK h (m-j)):=by
 have r:=F_ (cs:=cols (n+m-j-1) (n+m-2*j-1)++[t]) (M:=n-j) red (m-j) [] ⋯
 rw [gg,gg] at r;have p:=Ga (t:=t) (H:=cK h (m-j)) g0 (n-j) 0 (n+m-j-1) (m-j-1) (l+(m-j)-1) ⋯ ⋯ (LZ h0 (m-j))
 rw [show m-j-1+(n-j)=n+m-2*j-1 by lia,Nat.zero_add,show n+m-j-1-(n-j)=m-1 by lia,show cK g 0=[] from rfl,qh] at p
 unfold S;rw [r,p]
theorem UH(red:Red ((g (3*m)) ^ (n-m+1)) f g h (n-m))(mn:m<=n)(m1:1<=m)(G:g (3*m)≠0)(g0:∀u,m<u->g (3*u)=0)(h0:∀u,m-1<u->h (3*u)=0):S (m-1) f n g m t=(h t).natAbs:=by
 have e:=L0 (t:=t) (l:=m-1) (j:=m-1) red mn g0 h0 (aL _) ⋯
 have p:=Gb (t:=t) h0 0;rw [show m-(m-1)-1=0 by lia,show m-(m-1)=1 by lia] at e
 rw [Nat.add_zero,Nat.pow_zero,Nat.one_mul] at p;rw [p,uI,iK,show n-(m-1)=n-m+1 by lia] at e
 exact yC (lB (iJ.mpr G)) e
end
def Ch(f:Row)(n0:Nat)(g:Row)(m0:Nat)(A:Row)(n:Nat)(B:Row)(m la ht:Nat):Prop:=∀j,j<m->∀t,S j A n B m t=la ^ (m-j)*ht ^ (n-j-1)*S j f n0 g m0 t
section
variable {f g A B C h:Row} {n0 m0 n m l la ht H:Nat}
theorem UI:Ch f n0 g m0 f n0 g m0 1 1:=λj _ t=>by simp
theorem UJ(c:Ch f n0 g m0 A n B m la ht)(red:Red ((B (3*m)) ^ (n-m+1)) A B h (n-m))(mn:m<=n)(m1:1<=m)(G:B (3*m)≠0)(g0:∀u,m<u->B (3*u)=0)(h0:∀u,m-1<u->h (3*u)=0)(t:Nat):(h t).natAbs=la*ht ^ (n-m)*S (m-1) f n0 g m0 t:=by rw [<-UH (t:=t) red mn m1 G g0 h0,c (m-1) ⋯ t,show m-(m-1)=1 by lia,uI,show n-(m-1)-1=n-m by lia]
variable {G s gap e k:Nat}
theorem pw_next{S':Nat}(hG:0<G)(hl:0<la)(hh:0<ht)(he:e<=k)(hH:H*ht ^ gap=G ^ gap*ht)(q:(G ^ (gap+1)) ^ (k+1)*(la ^ (k+1)*ht ^ (gap+k)*s)=G ^ (gap+e)*((la*ht ^ gap) ^ (k+1)*S')):S'=G ^ (k+1-e)*H ^ k*s:=by
 have p1:0<G ^ (gap+e)*(la*ht ^ gap) ^ (k+1):=Nat.mul_pos (lB hG) (lB (Nat.mul_pos hl (lB hh)))
 refine yC p1 ?_
 rw [lC,<-q]
 have e1:H ^ k*(ht ^ gap) ^ k=(G ^ gap) ^ k*ht ^ k:=by rw [<-Nat.mul_pow,hH,Nat.mul_pow]
 have e2:G ^ (gap+e)*G ^ (k+1-e)=G ^ gap*(G ^ k*G):=by
  rw [<-Nat.pow_add,<-fR,<-Nat.pow_add]
  congr 1
  lia
 have e3:(G ^ (gap+1)) ^ (k+1)=(G ^ gap) ^ k*G ^ gap*(G ^ k*G):=by rw [fR G gap,Nat.mul_pow,fR,fR]
 have e4:(la*ht ^ gap) ^ (k+1)=la ^ (k+1)*((ht ^ gap) ^ k*ht ^ gap):=by rw [Nat.mul_pow,fR (ht ^ gap)]
 rw [e3,e4,Nat.pow_add]
 calc _=(G ^ gap*(G ^ k*G))*la ^ (k+1)*ht ^ gap*((G ^ gap) ^ k*ht ^ k)*s:=by grind
  _=(G ^ (gap+e)*G ^ (k+1-e))*la ^ (k+1)*ht ^ gap*(H ^ k*(ht ^ gap) ^ k)*s:=by rw [e1,e2]
  _=_:=by grind
theorem UK{e:Int}(c:Ch f n0 g m0 A n B m la ht)(hl:0<la)(hh:0<ht)(red:Red ((B (3*m)) ^ (n-m+1)) A B (λi=>e*C i) (n-m))(he:e.natAbs=la*ht ^ (n-m))(mn:m<=n)(G:B (3*m)≠0)(g0:∀u,m<u->B (3*u)=0)(lm:l<m)(c0:∀u,l<u->C (3*u)=0)(hH:H*ht ^ (n-m)=(B (3*m)).natAbs ^ (n-m)*ht):Ch f n0 g m0 B m C l (B (3*m)).natAbs H:=λj hj t=>by
 have s:=UG (t:=t) red mn g0 (λu hu=>by rw [c0 u hu,cO]) lm hj
 have gm:=LY (cs:=cols (m+l-j-1) (m+l-2*j-1)++[t]) (c:=C) (e:=e) (m-j) (cK B (l-j));have UL:S j B m (λi=>e*C i) l t=e.natAbs ^ (m-j)*S j B m C l t:=gm;rw [UL,c j ⋯ t,he,iK] at s
 obtain ⟨k,hk⟩:∃k,m-j=k+1:=⟨m-j-1,⋯⟩
 have z:=pw_next (gap:=n-m) (e:=m-l) (k:=k) (iJ.mpr G) hl hh ⋯ hH (by
  rw [hk,show n-j-1=n-m+k by lia,show n-l=n-m+(m-l) by lia] at s
  exact s)
 rw [z,show k+1-(m-l)=l-j by lia,show k=m-j-1 by lia]
theorem pw_high{e c:Nat}(hG:0<G)(hl:0<la)(hh:0<ht)(hH:H*ht ^ gap=G ^ gap*ht)(q:(G ^ (gap+1)) ^ (k+1)*(la ^ (k+1)*ht ^ (gap+k)*s)=G ^ (gap+(k+1))*((la*ht ^ gap) ^ (k+1)*c ^ (k+1))):s*H ^ k=c ^ (k+1):=by
 have z:=pw_next (e:=k) (S':=G*c ^ (k+1)) hG hl hh (aL _) hH (by
  rw [q,show gap+(k+1)=gap+k+1 by lia,fR]
  grind)
 rw [show k+1-k=1 by lia,uI] at z
 have z:G*c ^ (k+1)=G*(s*H ^ k):=by rw [z];grind
 exact (yC hG z).symm
theorem UM{e:Int}(c:Ch f n0 g m0 A n B m la ht)(hl:0<la)(hh:0<ht)(red:Red ((B (3*m)) ^ (n-m+1)) A B (λi=>e*C i) (n-m))(he:e.natAbs=la*ht ^ (n-m))(mn:m<=n)(G:B (3*m)≠0)(g0:∀u,m<u->B (3*u)=0)(lm:l<m)(c0:∀u,l<u->C (3*u)=0)(hH:H*ht ^ (n-m)=(B (3*m)).natAbs ^ (n-m)*ht):S l f n0 g m0 (3*l)*H ^ (m-l-1)=(C (3*l)).natAbs ^ (m-l):=by
 have h0:∀u,l<u->(λi=>e*C i) (3*u)=0:=λu hu=>by show e*C (3*u)=0;rw [c0 u hu,cO]
 have s:=L0 (t:=3*l) red mn g0 h0 (aL l) lm;have p:=Gb (h:=λi=>e*C i) (l:=l) (t:=3*l) h0 (m-l-1);rw [show l+(m-l-1)=m-1 by lia,show m-l-1+1=m-l by lia] at p
 rw [p,c l lm,iK] at s;obtain ⟨k,hk⟩:∃k,m-l=k+1:=⟨m-l-1,⋯⟩
 have z:=pw_high (gap:=n-m) (k:=k) (c:=(C (3*l)).natAbs) (e:=0) (s:=S l f n0 g m0 (3*l)) (iJ.mpr G) hl hh hH (by
  rw [hk,show n-l-1=n-m+k by lia,show n-l=n-m+(k+1) by lia] at s
  rw [s,<-he];rw [aZ,show k+1-1=k by lia,<-fR,Nat.mul_pow])
 rw [hk,show k+1-1=k by lia]
 exact z
end
end Srs
namespace My
open PySem L2
def o1:Int×Int:=(0,1)
theorem getD_at{α:Type}{xs:List α}{d:α}{i:Nat}(hi:i<xs.length):xs.getD i d=xs[i]:=by
 rw [fP,show xs[i]?=some xs[i] by simp [hi]]
 rfl
def ar(q:Int)(p t:Int×Int):Prop:=q∣p.1*t.2-t.1*p.2
variable {q:Int}
theorem ar.refl(p:Int×Int):ar q p p:=⟨0,by rw [Int.sub_self,cO]⟩
variable {t:Int×Int}
theorem ar.symm{p:Int×Int}(h:ar q p t):ar q t p:=by obtain ⟨k,e⟩:=h;exact ⟨-k,by rw [fh];lia⟩
variable {x:Int}
theorem ar.cancel{b:Int}(ok:aP q b)(h:q∣b*x):q∣x:=by
 by_cases z:q=0
 ·subst z
  have h0:=ie.mp h;have b1:=ok.1 rfl;rcases Int.mul_eq_zero.mp h0 with e | e;·lia
  ·rw [e];exact ja 0
 ·rw [ok.2 z,g8] at h
  exact h
theorem ar.trans{p s:Int×Int}(h1:ar q p t)(h2:ar q t s)(ok:aP q t.2):ar q p s:=by obtain ⟨k1,e1⟩:=h1;obtain ⟨k2,e2⟩:=h2;refine ar.cancel ok ⟨k1*s.2+k2*p.2,?_⟩;grind
def aT:Nat->(Nat->Int)->Int
 | 0,_=>0
 | n+1,f=>f 0+aT n λi=>f (i+1)
theorem dt:∀{n:Nat} {f g:Nat->Int},(∀i,i<n->f i=g i)->aT n f=aT n g
 | 0,f,g,_=>rfl
 | n+1,f,g,h=>by unfold aT;rw [h 0 ⋯,dt λi hi=>h (i+1) ⋯]
theorem BV:∀(n:Nat) (f g:Nat->Int),aT n (λi=>f i+g i)=aT n f+aT n g
 | 0,f,g=>rfl
 | n+1,f,g=>by show f 0+g 0+aT n (λi=>f (i+1)+g (i+1))=(f 0+aT n λi=>f (i+1))+(g 0+aT n λi=>g (i+1));rw [BV n];lia
theorem vA(c:Int):∀(n:Nat) (f:Nat->Int),c*aT n f=aT n λi=>c*f i
 | 0,f=>by unfold aT;rw [cO]
 | n+1,f=>by unfold aT;rw [jv,vA c n]
theorem kJ:∀(n:Nat),aT n (λ_=>0)=0
 | 0=>rfl
 | n+1=>by unfold aT;rw [kJ n];rfl
theorem L3:∀(n j:Nat) (f:Nat->Int),j<n->aT n (λi=>if i=j then f i else 0)=f j
 | n+1,0,f,_=>by
  show (if (0:Nat)=0 then f 0 else 0)+aT n (λi=>if i+1=0 then f (i+1) else 0)=f 0
  rw [aq rfl,show (λi=>if i+1=0 then f (i+1) else 0)=λ_=>(0:Int) from funext λi=>ao ⋯,kJ]
  lia
 | n+1,j+1,f,h=>by
  show (if (0:Nat)=j+1 then f 0 else 0)+aT n (λi=>if i+1=j+1 then f (i+1) else 0)=f (j+1)
  rw [ao ⋯,show (λi=>if i+1=j+1 then f (i+1) else 0)=λi=>if i=j then (λi=>f (i+1)) i else 0 from funext λi=>by by_cases z:i=j <;> simp [z],L3 n j (λi=>f (i+1)) ⋯]
  lia
variable {B:Nat} {H:Hp} {v:V}
theorem L4(hB:1<=B){a:Int}(h:qT H q v a 1)(hq:au q)(ha:a=0\/a=1):aY B H q v a 1:=by
 rcases h with ⟨rfl,r,rfl,e⟩ | ⟨q2,r,rfl,r0,r1,er⟩
 ·rw [(Lv a).1,(Lv a).2] at e
  exact .cm e ⟨∅,A4 ..⟩ (by rcases ha with rfl | rfl <;> simp [hB]) (by simpa using hB)
 ·have q3:q<=997:=by rcases hq with z | ⟨_,z,_⟩ <;> lia
  rw [mV (show (0:Int)<=1 by decide) (show (1:Int)<q by lia),dC,mV r0 r1] at er
  have ea:a % q=a:=mV ⋯ ⋯
  rw [ea] at er;subst er;exact .rem r0 r1 q3
theorem Gd(hq:au q):¬lX q 1:=λh=>by
 unfold lX at h;rcases hq with rfl | ⟨q2,q3,q4⟩;·rw [aq rfl] at h;lia
 ·rw [ao ⋯,mV ⋯ ⋯] at h;lia
theorem aP.mul{a b:Int}(h1:aP q a)(h2:aP q b):aP q (a*b):=⟨λz=>by
  have:=Int.mul_pos (show 0<a by have:=h1.1 z;lia) (show 0<b by have:=h2.1 z;lia)
  lia,λz=>by rw [h1.2 z,h2.2 z];rfl⟩
theorem aP.one:aP q 1:=⟨λ_=>by decide,λ_=>rfl⟩
def er(P:Addr)(H:Hp):Hp:=λb=>if b=P then none else H b
variable {P:Addr}
theorem gQ:ai (er P H) H:=λb o e=>by
 unfold er at e
 split at e
 ·cases e
 ·exact e
variable {b:Addr}
theorem qZ(h:b≠P):er P H b=H b:=ao h
variable {o:HO}
theorem nS(h:b≠P)(e:H b=some o):er P H b=some o:=by rw [qZ h];exact e
variable {H':Hp}
theorem ze(s:ai H H'):ai (er P H) (er P H'):=λb o e=>by
 unfold er at e ⊢
 split at e
 ·cases e
 ·rename_i h
  rw [ao h];exact s _ _ e
theorem L5:er P (upd H P o)=er P H:=funext λb=>by
 unfold er
 split
 ·rfl
 ·rename_i h
  exact cq h
def dw(H:Hp)(P a:Addr):Prop:=∃x y:Int,H P=some (.lst [.ref a,.int x,.int y])/\0<=x/\0<=y
theorem dw.mono{a:Addr}(h:dw H P a)(s:ai H H'):dw H' P a:=by intros bn9 h x y e h1 h2;exact (ap x y (s _ _ e) h1 h2)
variable {D:Addr}
theorem dw.upd{a:Addr}(h:dw H P a)(n:D≠P):dw (L2.upd H D o) P a:=by intros bn9 h x y e h1 h2;exact (ap x y (by rw [cq n.symm];exact e) h1 h2)
theorem dw.ne{a:Addr}(h:dw H P a)(n:H D=none):D≠P:=λz=>by intros bn5 h x y e _;rw [z,e] at n;cases n
def aR(P:Addr)(H H':Hp):Prop:=ai (er P H) (er P H')
theorem aR.refl(H:Hp):aR P H H:=ai.refl _
theorem aR.trans{H2:Hp}(s:aR P H H')(t:aR P H' H2):aR P H H2:=ai.trans s t
theorem aR.of(s:ai H H'):aR P H H':=ze s
theorem aR.ma:aR P H (upd H P o):=by unfold aR;rw [L5];exact ai.refl _
theorem aR.but(s:aR P H H')(n:H D=none):aR P H (upd H' D o):=λb u e=>by
 have e0:=s b u e;have nb:b≠P:=λz=>by unfold er at e;rw [aq z] at e;cases e
 rw [qZ nb] at e e0 ⊢;rw [cq (gL e n)];exact e0
theorem aR.at(s:aR P H H')(nb:b≠P)(e:H b=some o):H' b=some o:=by have z:=s b o (nS nb e);rw [qZ nb] at z;exact z
def aD(B:Nat)(H:Hp)(q:Int)(a:Addr)(ps:aC):Prop:=∃vs:List V,H a=some (.lst vs)/\vs.length=ps.length/\∀(i:Nat) (v:V) (p:Int×Int),vs[i]?=some v->ps[i]?=some p->aY B H q v p.1 p.2
variable {ps:aC}
theorem aD.mono{a:Addr}(h:aD B H q a ps)(s:ai H H'):aD B H' q a ps:=by intros bn4 h vs e l k;exact (ad vs (s _ _ e) l (λi v p h1 h2=>(k i v p h1 h2).mono s))
variable {B':Nat} {m:Int}
theorem aY.weak(h:aY B H q v x m)(hb:B<=B'):aY B' H q v x m:=by
 cases h with
 | cm e l bx bm=>exact .cm e l (af bx hb) (af bm hb)
 | rem h0 h1 h2=>exact .rem h0 h1 h2
theorem aD.weak{a:Addr}(h:aD B H q a ps)(hb:B<=B'):aD B' H q a ps:=by intros bn4 h vs e l k;exact (ad vs e l (λi v p h1 h2=>(k i v p h1 h2).weak hb))
variable {K:aI}
theorem L6(hq:au q){a:Addr}(h1:aD B H q a ps)(h2:aD B' H q b ps)(n:Nat):y8 K H (n+2) (.ref a) (.ref b):=by
 intros bn4 h1 vs e1 l1 f1;intros bn4 h2 us e2 l2 f2;refine .inr (ii a b vs us rfl rfl (.inl ⟨.of e1,.of e2⟩) ⋯ (λj x y hx hy=>?_))
 have hj:j<ps.length:=by rw [<-l1];exact (dj.mp hx).1
 exact LN ((f1 j x ps[j] hx (by simp [hj])).BL hq) ((f2 j y ps[j] hy (by simp [hj])).BL hq) rfl n
variable {R:VK}
theorem zf(hq:au q){a:Addr}{r:Bool}(h1:aD B H q a ps)(h2:aD B' H q b ps)(k:R (.bl r) H):BQ K 1 r (.ref a) (.ref b) H R:=by
 intros bn4 h1 vs e1 l1 f1;intros bn4 h2 us e2 l2 f2;refine (ol a b vs us rfl rfl (.of e1) (.of e2) ⋯ (λj x y hx hy=>?_) k)
 have hj:j<ps.length:=by rw [<-l1];exact (dj.mp hx).1
 exact LN ((f1 j x ps[j] hx (by simp [hj])).BL hq) ((f2 j y ps[j] hy (by simp [hj])).BL hq) rfl 0
theorem L7{u:V}(hv:aY B H q v x m)(hu:aY B' H q u 0 1)(k:R (.bl (decide (x=0))) H):Lr K v u H R:=by
 cases hv with
 | cm e l bx bm=>
  cases hu with
  | cm e' l' _ _=>
   refine .inr (.inr (.inl (ol _ _ _ _ rfl rfl (.of e) (.of e') rfl rfl ?_)));have z:(ix [V.int x,V.int m] [V.int 0,V.int 1])=decide (x=0):=by
    show ((x == 0) && ((m == 1) && true))=_;by_cases hx:x=0
    ·subst hx
     have:=l.y3;rw [Int.gcd_zero_left] at this;have:=l.pos;have:m=1:=by lia
     subst this;rfl
    ·rw [iH hx,show (x == 0)=false from yn.mpr hx]
     rfl
   show R (.bl (ix [V.int x,V.int m] [V.int 0,V.int 1])) H;rw [z];exact k
  | rem h0 h1 h2=>lia
 | rem h0 h1 h2=>
  cases hu with
  | cm=>lia
  | rem pA BM L8=>
   refine .inr (.inr (.inr ⟨by simp [Ff],?_⟩))
   rw [lW];exact k
def dS(ps:aC):Nat->Nat
 | 0=>0
 | n+1=>if (ps.getD n o1).1=0 then dS ps n else n+1
theorem Ge(ps:aC):∀n,dS ps n<=n
 | 0=>aL _
 | n+1=>by
  unfold dS
  split
  ·exact af (Ge ps n) (Nat.le_succ n)
  ·exact aL _
def aF(ps:aC):List (Int×Int):=ps.take (dS ps ps.length)
theorem vB(xs:List V)(k:Nat)(h:k<=xs.length):o8 xs none (some (k:Int))=xs.take k:=by
 have e:HT.fH xs.length xs.length (some (k:Int))=k:=by rw [HT.Sv];lia
 unfold o8;rw [e,show HT.fH xs.length 0 none=0 from rfl,List.drop_zero,oT]
theorem aD.take{r:Addr}{vs:List V}{k:Nat}(e:H r=some (.lst (vs.take k)))(l:vs.length=ps.length)(f:∀(i:Nat) (v:V) (p:Int×Int),vs[i]?=some v->ps[i]?=some p->aY B H q v p.1 p.2):aD B H q r (ps.take k):=by
 refine ⟨vs.take k,e,by simp [l],λi v p h1 h2=>?_⟩
 have hi:i<k:=by have:=(dj.mp h1).1;rw [oO] at this;lia
 rw [EH hi] at h1 h2;exact f i v p h1 h2
end My
namespace L2
open PySem PySem.Spec PyProof.Rows
def UN(K:aI):R2:=λx y H Q=>∃a b xs,x=.ref a/\y=.ref b/\bG K H a xs/\H b=some (.lst [])/\(∀v∈xs,∃i,v=.int i)/\Q (.bl (!xs.isEmpty)) H
theorem UO{X:Cx}(hu:X.A.units+64<cLine):c_ X (compareOp .NotEq) (UN X.K):=by
 intro pins s σ H x y v u Q I rx ry h;intros bn25 h a b xs rfl rfl h1 h2 _ q;cases rx;cases ry;obtain ⟨us,r1,t1,_⟩:=I.list h1;obtain ⟨vs,r2,t2,_⟩:=I.list (bG.of h2);have l1:=r1.length;have l2:=r2.length;cases xs with
 | nil=>
  refine SeqAt.RcNeAt.lists (e:=λ_=>true) t1.isList t2.isList (by simp at l1 l2 ⊢;lia) ⋯ (λj z1 z2=>?_) _ _ _ _ ?_
  ·simp at l1
   have:us=[]:=kv.mp l1.symm;subst this;simp at z1
  ·rw [all_range]
   exact ⟨.bl false,H,I,rfl,q⟩
 | cons w ws=>
  refine SeqAt.RcNeAt.lists_lengths t1.isList t2.isList ?_ ⋯ _ _ _ _ ⟨.bl true,H,I,rfl,q⟩
  simp at l1 l2 ⊢;lia
end L2
namespace My
open PySem L2
def kK(q:Int):Td:=if q=0 then .a "fractions" else .b "wheel" q
variable {q:Int}
theorem UP(hq:au q):(kK q).good=true:=by
 unfold kK;rcases hq with rfl | ⟨h1,h2,h3⟩;·rw [aq rfl];simp [Td.good,Td.yU]
 ·rw [ao ⋯];simp [Td.good,Td.yU,Td.kf,h1,h2,h3]
theorem q8:kK 0=.a "fractions":=aq rfl
theorem pE(h:q≠0):kK q=.b "wheel" q:=ao h
def dP(H:Hp)(td:Addr)(q:Int):Prop:=H td=some (.tup (kK q).vs)
variable {H H':Hp}
theorem dP.mono{td:Addr}(h:dP H td q)(s:ai H H'):dP H' td q:=s _ _ h
def UQ:Sp:=λvs H Q _=>∃c a:Int,vs=[.int c,.int a]/\0<=a/\∀r:Int,0<=r->Q (.int r) H
def UR(K:aI):Sp:=λvs H Q _=>∃(P a:Addr) (ns:List Int) (many:Int),vs=[.ref P,.int many]/\dw H P a/\bG K (er P H) a (ns.map V.int)/\1<=many/\aQ many/\∀(r:Int) (H':Hp),0<=r->r<many->aR P H H'->dw H' P a->Q (.int r) H'
def bJ(q i:Int):Int×Int:=if q=0 then (i,1) else (i % q,1)
def eQ(q:Int)(p r:Int×Int):Int×Int:=if q=0 then (fJ (p.1*r.2+r.1*p.2) (p.2*r.2),gA (p.1*r.2+r.1*p.2) (p.2*r.2)) else ((p.1+r.1) % q,1)
def mulQ(q:Int)(p r:Int×Int):Int×Int:=if q=0 then (fJ (p.1*r.1) (p.2*r.2),gA (p.1*r.1) (p.2*r.2)) else (p.1*r.1 % q,1)
def L9(B:Nat):Sp:=λvs H Q _=>∃(td:Addr) (q i:Int),vs=[.ref td,.int i]/\dP H td q/\au q/\i.natAbs<=B/\1000<=B/\∀(v:V) (H':Hp),ai H H'->aY B H' q v (bJ q i).1 (bJ q i).2->Q v H'
variable {B:Nat} {r:Addr}
theorem BW{a b:Int}(e:H r=some (.tup [.int (fJ a b),.int (gA a b)]))(hb:1<=b)(ba:a.natAbs<=B)(bb:b.natAbs<=B):aY B H 0 (.ref r) (fJ a b) (gA a b):=by obtain ⟨u,d,e1,e2,l,l1,l2⟩:=Lq (a:=a) hb;unfold fJ gA at e ⊢;rw [e1,e2] at e ⊢;exact .cm e l (af l1 ba) (af l2 bb)
def US:Sp:=λvs H Q _=>∃(td:Addr) (q:Int) (v:V) (x m:Int) (B:Nat),vs=[.ref td,v]/\dP H td q/\au q/\aY B H q v x m/\B<=10 ^ 300/\∀H',ai H H'->Q (.bl true) H'
def UT:Sp:=λvs H Q _=>∃(td a:Addr) (q:Int) (ps:aC) (B:Nat),vs=[.ref td,.ref a]/\dP H td q/\au q/\aD B H q a ps/\ps.length<=1000/\B<=10 ^ 300/\∀H',ai H H'->Q (.bl true) H'
def UU(K:aI):Sp:=λvs H Q _=>∃(P a:Addr) (ns:List Int),vs=[.ref P]/\dw H P a/\bG K (er P H) a (ns.map V.int)/\∀(td:Addr) (q:Int) (H':Hp),au q->aR P H H'->dw H' P a->dP (er P H') td q->Q (.ref td) H'
def UW(C:Addr):Sp:=λvs H Q _=>∃(z a:Addr) (q:Int) (ps:aC) (B:Nat),vs=[.ref z,.ref a]/\dO C H z q/\au q/\aD B H q a ps/\ps.length<=1000/\∀(b:Addr) (H':Hp),ai H H'->H b=none->aD B H' q b (aF ps)->Q (.ref b) H'
def UX:Sp:=λvs H Q _=>∃(td a:Addr) (q:Int) (ps:aC) (B:Nat),vs=[.ref td,.ref a]/\dP H td q/\au q/\aD B H q a ps/\ps.length<=1000/\∀(b:Addr) (H':Hp),ai H H'->H b=none->aD B H' q b (aF ps)->Q (.ref b) H'
variable {v:V} {x m:Int} {P:Addr}
theorem aY.er{H':Hp}{a:Addr}(h:aY B H q v x m)(p:dw H P a):aY B (er P H) q v x m:=by
 cases h with
 | cm e l bx bm=>refine .cm (nS (λz=>?_) e) l bx bm;intros bn5 p x y e' _;rw [z,e'] at e;cases e
 | rem h0 h1 h2=>exact .rem h0 h1 h2
variable {D:Addr} {ys:List V}
theorem aY.BX(h:aY B (My.er P H) q v x m)(eD:H D=some (.lst ys))(k:∀b o,b≠D->b≠P->H b=some o->H' b=some o):aY B (My.er P H') q v x m:=by
 cases h with
 | cm e l bx bm=>
  rename_i r
  have nP:r≠P:=λz=>by unfold My.er at e;rw [aq z] at e;cases e
  rw [qZ nP] at e;refine .cm (nS nP (k _ _ (λz=>?_) nP e)) l bx bm;rw [z,eD] at e;cases e
 | rem h0 h1 h2=>exact .rem h0 h1 h2
theorem Gf(eD:H D=some (.lst ys))(hP:∀(i:Nat) (y:V),ys[i]?=some y->∃xm:Int×Int,aY B H q y xm.1 xm.2):∃ps,aD B H q D ps/\ps.length=ys.length:=by obtain ⟨ps,lp,hp⟩:=pick (R:=λ_ y xm=>aY B H q y (Prod.fst xm) (Prod.snd xm)) hP;exact (ac ps (ad ys eD lp.symm (λi v x h1 h2=>hp i v x h1 h2)) lp)
theorem aD.cat{vs us:List V}{ps rs:aC}(e:H r=some (.lst (vs++us)))(l1:vs.length=ps.length)(l2:us.length=rs.length)(f1:∀(i:Nat) (v:V) (p:Int×Int),vs[i]?=some v->ps[i]?=some p->aY B H q v p.1 p.2)(f2:∀(i:Nat) (v:V) (p:Int×Int),us[i]?=some v->rs[i]?=some p->aY B H q v p.1 p.2):aD B H q r (ps++rs):=by
 refine ⟨vs++us,e,by simp [l1,l2],λi v p h1 h2=>?_⟩
 by_cases hi:i<vs.length
 ·rw [ju hi] at h1
  rw [ju ⋯] at h2
  exact f1 i v p h1 h2
 ·rw [i8 ⋯] at h1
  rw [i8 ⋯,<-l1] at h2
  exact f2 _ v p h1 h2
end My
namespace L2
open PySem PySem.Spec PyProof.Rows
theorem UY{K:aI}{wi:TI}{ρ:St->St}{te:TE}{σ:St}{H:Hp}{Q:VK}{Z:List (V×V)->Hp->Prop}(jL:∀R:It->Hp->Prop,(∀J H1 zs,ai H H1->BR J zs H1->zs.length<sizeLine->Z zs H1->R J H1)->wi σ H R)
  (P:Addr->Nat->V->Hp->Prop) (mono:∀D i y H H' ys,P D i y H->H D=some (.lst ys)->(∀b o,b≠D->H b=some o->H' b=some o)->P D i y H')
  (step:∀zs H1,Z zs H1->ai H H1->∀D i x y,zs[i]?=some (x,y)->∀(Hc:Hp) (R:VK),ai H1 Hc->(∃ys,Hc D=some (.lst ys))->(∀v H3,ai Hc H3->P D i v H3->R v H3)->te (some x::some y::ρ σ) Hc R)
  (fin:∀zs H1,Z zs H1->ai H H1->∀D vs Hc,H D=none->ai H1 Hc->vs.length=zs.length->(∀(i:Nat) (v:V),vs[i]?=some v->P D i v Hc)->Hc D=some (.lst vs)->Q (.ref D) Hc):vy K wi ρ (λ_ H Q=>Q true H) te σ H Q:=by
 refine jL _ λJ H1 zs s1 js hn hZ=>?_;intro D nD;have hD:H D=none:=by
  cases e:H D with
  | none=>rfl
  | some o=>rw [s1 _ _ e] at nD;cases nD
 refine (ac (λi m vs Hc=>m=zs.length-i/\i<=zs.length/\Hc D=some (.lst vs)/\ai H1 Hc/\vs.length=i/\∀(j:Nat) (v:V),vs[j]?=some v->P D j v Hc) ⟨_,rfl,cn _,az,iT (ai.refl H1) nD,rfl,λj y e=>by simp at e⟩ ?_)
 rintro i m vs Hc ⟨rfl,hi,eD,sH,el,hP⟩;refine ⟨eD,?_⟩;by_cases cZ:i<zs.length
 ·refine .inr ⟨js.go i Hc sH cZ,λv H' hy=>?_⟩
  have q'18:=js.fW i Hc v H' sH hy;intros bn18 q'18 T x y ev nT eH hx;subst ev eH;refine (Exists.intro T (ap x y rfl (.of az) ?_));dsimp only;rw [aq rfl];have sT:ai Hc (upd Hc T (.tup [x,y])):=λb o e=>by rw [cq (gL e nT)];exact e
  refine step zs H1 hZ s1 D i x y (hx cZ) _ _ (sH.trans sT) ⟨vs,sT _ _ eD⟩ λw H3 s3 hp=>?_;have e3:=s3 _ _ (sT _ _ eD);have b7:∀b o,b≠D->H3 b=some o->upd H3 D (.lst (vs++[w])) b=some o:=λb o nb e=>by rw [cq nb];exact e
  refine ⟨e3,⋯,zs.length-(i+1),⋯,rfl,cZ,az,iT (sH.trans (sT.trans s3)) nD,by simp [el],λj v' e=>?_⟩
  by_cases hj:j<i;·exact mono D j v' Hc _ vs (hP j v' (by rw [ju ⋯] at e;exact e)) eD λb o nb e=>b7 b o nb (s3 _ _ (sT _ _ e))
  ·have hj:j=i:=by have:=(dj.mp e).1;simp at this;lia
   subst hj;have e':v'=w:=by rw [i8 ⋯,el,k_] at e;simpa using e.symm
   subst e';exact mono D _ _ H3 _ vs hp e3 b7
 ·have e:i=zs.length:=by lia
  subst e;exact .inl ⟨js.stop _ Hc sH (aL _),fin zs H1 hZ s1 D vs Hc hD sH el hP eD⟩
end L2
namespace My
open PySem L2
theorem UZ(q:Int)(p r:Int×Int):eQ q p r=eQ q r p:=by
 unfold eQ
 split
 ·rw [show p.1*r.2+r.1*p.2=r.1*p.2+p.1*r.2 by lia,show p.2*r.2=r.2*p.2 from jb ..]
 ·rw [Int.add_comm]
variable {q:Int}
theorem L_{B:Nat}{H:Hp}{v:V}{p:Int×Int}(h:aY B H q v p.1 p.2):eQ q p o1=p:=by
 obtain ⟨x,m⟩:=p;unfold eQ o1;dsimp only at h ⊢;cases h with
 | cm e l bx bm=>
  rw [aq rfl];have hm:=l.pos;have e1:lowG x m=1:=by unfold lowG;rw [ao ⋯,l.y3];rfl
  unfold fJ gA;rw [dC,dC,gh,j6,e1,uF,uF]
 | rem h0 h1 h2=>rw [ao ⋯,j6,mV h0 h1]
def jj(q:Int)(ps rs:aC):List (Int×Int):=(List.range (max ps.length rs.length)).map λk=>eQ q (ps.getD k o1) (rs.getD k o1)
theorem U0(q:Int)(ps rs:aC):jj q ps rs=jj q rs ps:=by unfold jj;rw [Nat.max_comm,show (λk=>eQ q (ps.getD k o1) (rs.getD k o1))=λk=>eQ q (rs.getD k o1) (ps.getD k o1) from funext λk=>UZ ..]
def dQ(ps:aC)(n:Nat):List (Int×Int):=ps++List.replicate (n-ps.length) o1
def U1(C:Addr):Sp:=λvs H Q _=>∃(z a:Addr) (q:Int) (ps:aC) (B n:Nat),vs=[.ref z,.ref a,.int (n:Int)]/\dO C H z q/\au q/\aD B H q a ps/\1<=B/\ps.length<=n/\n<=1000/\∀(b:Addr) (H':Hp),ai H H'->H b=none->aD B H' q b (dQ ps n)->Q (.ref b) H'
theorem iz(ps:aC):(aF ps).length<=ps.length:=by unfold aF;rw [oO];lia
theorem BY(q:Int)(ps rs:aC):(jj q ps rs).length=max ps.length rs.length:=by simp [jj]
theorem Ma{ps rs:aC}{k:Nat}(h:k<max ps.length rs.length):(jj q ps rs)[k]?=some (eQ q (ps.getD k o1) (rs.getD k o1)):=by unfold jj;rw [gf];simp [h]
end My
namespace L2
open PySem PySem.Spec PyProof.Rows
def zg(K:aI)(l:Addr):It:=
  ⟨λi H=>∃xs x,bG K H l xs/\xs[i]?=some x,
   λi H v H'=>∃T x,H T=none/\v=.ref T/\H'=upd H T (.tup [.int (i:Int),x])/\∀xs,bG K H l xs->xs[i]?=some x,
   λi H=>∃xs,bG K H l xs/\xs.length<=i⟩
variable {K:aI} {l:Addr}
theorem U2{P:Program}{w:World}{elts:List Expr}{k:Nat}{pos:Pos}{e it:Addr}(Mc:e≠it):Turn P w K (.Tuple elts k pos) (zg K l) [e,it] e
  (λi h=>(∃old,IsEnum h e it (i:Int) old)/\h.IsListIter it l i) where
 mem:=by simp
 obj:=λi h st b hb=>by
  obtain ⟨⟨old,he⟩,h1⟩:=st;simp only [eV,lq,lA] at hb;rcases hb with rfl | rfl;·exact ⟨_,he,λv z=>by cases z⟩
  ·intros bn4 h1 o e c d
   exact ⟨o,e,λv z=>by rw [d] at z;cases z⟩
 keep:=λi h h' st k=>by obtain ⟨⟨old,he⟩,h1⟩:=st;exact ⟨⟨old,k _ (by simp) _ he⟩,h1.at λo e=>k _ (by simp) o e⟩
 item:=by
  intro X hP hw hK hc i pins s σ H E I hf st hg;subst hP hw hK;obtain ⟨⟨old,he⟩,h1⟩:=st;intros bn5 hg xs x jM hx;obtain ⟨av,rv,p,_⟩:=I.list jM;obtain ⟨u,hu,ru⟩:=rv.get hx;refine wpAny_pyNext_enum_item he h1 p.isList (x:=u) (by simpa using hu) Mc λh' g1 g2 g3 g4 g5=>(ac _ rfl ?_)
  refine wpAny_letOwnedTupleGo_enum g1 λl_ q1 sb=>?_;have y7:H s.heap.objs.size=none:=I.aG.fresh (aL _);have lt:∀b o,s.heap.get? b=some o->b≠s.heap.objs.size:=λb o e=>fA (cJ e);have keep:∀b o,b∉[e,it]->s.heap.get? b=some o->l_.get? b=some o:=λb o nb e=>by simp only [eV,lq,lA,not_or] at nb;exact sb.extBut _ _ nb.1 (g5 b o nb.1 nb.2 e)
  have elt:e≠s.heap.objs.size:=lt _ _ he;have pT:=sb.extBut _ _ elt.symm g3;have kH:∀{b:Addr} {o:HO} (e:H b=some o),upd H s.heap.objs.size (.tup [.int (i:Int),x]) b=some o:=λe=>by rw [cq (gL e y7)];exact e
  have aG:dq X.prog X.w (upd H s.heap.objs.size (.tup [.int (i:Int),x])) l_:=λb o e=>by
   by_cases hb:b=s.heap.objs.size
   ·subst hb
    rw [az] at e;cases e;exact ⟨by show 2<=sizeLine;decide,[.int i s.toks,u],.cons ⟨_,rfl⟩ (.cons ru .nil),⟨_,pT,rfl,_,rfl⟩⟩
   ·rw [cq hb] at e
    refine (I.aG b o e).jc (λc v fj q=>keep c v (λm=>?_) q) (λc q=>kH q) λc xs q=>kH q;have nn:=(hf c m).1;rcases fj with rfl | fj;·rw [nn] at e;cases e
    ·rw [nn] at fj;cases fj
  have u1:Un (dk X.stack) [e,it] H (upd H s.heap.objs.size (.tup [.int (i:Int),x])) s.heap l_:=
   ⟨λb o e n _ hx=>keep b o hx e,λb o e n _ hx=>⟨o.slots,keep b o hx e⟩,λb o e n hx=>by rw [cq (lt b o e)];exact n,λb o e hx=>⟨o,keep b o hx e⟩,λb xs e=>kH e,λb o u e=>kH e,λb ps e=>⟨#[],by rw [kH e];simp⟩⟩
  refine (jp (.ref s.heap.objs.size) (upd H s.heap.objs.size (.tup [.int (i:Int),x])) (I.lF (s':={s with heap:=l_,toks:=s.toks+1}) (ch:=[e,it]) rfl u1 aG I.bare (λb hb=>?_)) rfl (i' _ x y7 rfl rfl (λas ha=>by rw [I.Be ha jM];exact hx)) ?_ (λb hb=>?_))
  ·obtain ⟨f0,f1,f2,f3,f4,f5⟩:=hf b hb
   exact ⟨f3,f1,f4,f5⟩
  ·refine ⟨⟨u,?_⟩,g2.extBut sb.extBut Mc.symm⟩
   have z:((i+1:Nat):Int)=(i:Int)+1:=by lia
   rw [z];exact q1
  ·have nb:b≠s.heap.objs.size:=by
    simp only [eV,lq,lA] at hb;rcases hb with rfl | rfl;·exact lt _ _ he
    ·intros bn0 h1 o e _;exact lt _ _ e
   rw [cq nb];exact (hf b hb).1
 done:=by
  intro X hP hw hK hc i pins s σ H E I hf st hg;subst hP hw hK;obtain ⟨⟨old,he⟩,h1⟩:=st;intros bn0 hg xs jM hx;obtain ⟨av,rv,p,_⟩:=I.list jM;have hl:=rv.length;refine wpAny_pyNext_enum_end (I.ok.hd hc) he h1 p.isList (by simp;lia) λh' g=>⟨rfl,?_⟩
  have keep:∀b o,b∉[e,it]->s.heap.get? b=some o->h'.get? b=some o:=λb o nb e=>by simp only [eV,lq,lA,not_or] at nb;exact g b o nb.2 e
  have aG:dq X.prog X.w H h':=λb o e=>by
   refine (I.aG b o e).jc (λc v fj q=>keep c v (λm=>?_) q) (λc q=>q) λc xs q=>q;have nn:=(hf c m).1;rcases fj with rfl | fj;·rw [nn] at e;cases e
   ·rw [nn] at fj;cases fj
  have u1:Un (dk X.stack) [e,it] H H s.heap h':=
   ⟨λb o e n _ hx=>keep b o hx e,λb o e n _ hx=>⟨o.slots,keep b o hx e⟩,λb o e n hx=>n,λb o e hx=>⟨o,keep b o hx e⟩,λb xs e=>e,λb o u e=>e,λb ps e=>⟨#[],by rw [e];simp⟩⟩
  refine I.lF (s':={s with heap:=h'}) (ch:=[e,it]) rfl u1 aG I.bare λb hb=>?_;obtain ⟨f0,f1,f2,f3,f4,f5⟩:=hf b hb;exact ⟨f3,f1,f4,f5⟩
 self:=λ_ _ _ _ _ st h=>by obtain ⟨⟨old,he⟩,_⟩:=st;exact wpAny_pyIter_enum he h
theorem boot_enumerate:bootBuiltins "enumerate"=some (.type "enumerate"):=by decide +kernel
def U3(K:aI)(ta:TA):TI:=λσ H R=>ta σ H λvs H1=>∃l,vs=[.ref l]/\(∃xs,bG K H1 l xs)/\R (zg K l) H1
section
variable {X:Cx}
theorem Md{elts:List Expr}{k:Nat}{uZ:Pos}{a:Expr}{ta:TA}{p pos:Pos}(hg:Gl X "enumerate")(hm:X.mg "enumerate"=none)(ha:PA X [a] ta)(hs:starEach [a] X.env=[(false,eval a X.env)]:=by rfl) :
  PI X (.Tuple elts k uZ) (.Call (.Name "enumerate" p) [a] [] pos) (U3 X.K ta):=by
 intro pins s σ H R I h;refine Call_ (qp I hg hm boot_enumerate (yq (aK (ha pos pins s σ H _ I h) λus s1 ⟨vs,H1,I1,r1,q1⟩=>?_) hs rfl));obtain ⟨l,e,⟨xs,jM⟩,q⟩:=q1;subst e;obtain ⟨u,rfl,ru⟩:=vals1 r1;cases ru;obtain ⟨av,rv,p1,_⟩:=I1.list jM;refine call_enumerate_list p1.isList λh' z1 z2 z3 z4=>?_;refine wpAny_pyIter_enum (s:={s1 with heap:=h'}) z1 ?_;refine ⟨_,_,_,_,H1,rfl,I1.kept (t':=s1.toks) z4,U2 (Nat.succ_ne_self _),⟨⟨_,z1⟩,z2⟩,λb hb=>?_,q⟩;have le:s1.heap.objs.size<=b:=by
  simp only [eV,lq,lA] at hb;rcases hb with rfl | rfl;·exact oS ..
  ·exact aL _
 exact I1.u5 le (I1.aG.fresh le)
end
theorem Me{xs:List V}{g:TG}{tb:TS}{D:Ends}{σ:St}{H:Hp}(Pv:Nat->St->Hp->Prop)(h0:Pv 0 σ H)(hl:∀i σ H,Pv i σ H->bG K H l xs)
  (hs:∀(i:Nat) (x:V) σ H T,xs[i]?=some x->Pv i σ H->H T=none->g (.ref T) σ (upd H T (.tup [.int (i:Int),x])) λσ2 H2=>tb {D with nx:=Pv (i+1),ct:=Pv (i+1),bk:=D.nx} σ2 H2) (hd:∀σ H,Pv xs.length σ H->D.nx σ H) :
  ∃W:Nat->Nat->St->Hp->Prop,(∃m,W 0 m σ H)/\∀i m σ H,W i m σ H->
   ((zg K l).stop i H/\D.nx σ H)\/((zg K l).go i H/\∃N:St->Hp->Prop,(∀σ' H',N σ' H'->∃m',m'<m/\W (i+1) m' σ' H')/\∀x H',(zg K l).fW i H x H'->g x σ H' λσ2 H2=>tb {D with nx:=N,ct:=N,bk:=D.nx} σ2 H2):=by
 refine (ac (λi m σ H=>m=xs.length-i/\i<=xs.length/\Pv i σ H) ⟨xs.length,by simp,cn _,h0⟩ ?_)
 rintro i m σ H ⟨rfl,hi,p⟩;have q1:=hl i σ H p;by_cases cZ:i<xs.length
 ·refine .inr ⟨⟨xs,xs[i],q1,by simp [cZ]⟩,Pv (i+1),λσ' H' p'=>⟨xs.length-(i+1),⋯,rfl,cZ,p'⟩,λv H' hy=>?_⟩
  intros bn10 hy T x nT rfl rfl hx;exact hs i x σ H T (hx xs q1) p nT
 ·have e:i=xs.length:=by lia
  subst e;exact .inl ⟨⟨xs,q1,aL _⟩,hd σ H p⟩
def U4(K:aI):V->V->Hp->VK->Prop:=λo i H Q=>∃p xs k v,o=.ref p/\i=.int k/\0<=k/\bG K H p xs/\dF xs k=some v/\Q v H
theorem U5{X:Cx}:Kd X (U4 X.K):=by
 intro pins s σ H o i ov iv Q I ro ri h;intros bnE h p bn25 xs k z rfl rfl h0 hq he q;cases ro;obtain ⟨t,rfl⟩:=ri;obtain ⟨av,r,pl,hz⟩:=I.list hq;obtain ⟨j,h1,h2,h3,h4,h5⟩:=Fn he;obtain ⟨w,ew,qv⟩:=r.get h2;have hl:=r.length;have hn:=yP;have hj:k.toNat=j:=by rw [seqIndex_of h0 h5] at h1;exact Option.some.inj h1
 exact wpAny_getItem_list pl.isList h0 ⋯ (by rw [hj];simpa using ew) (ap z H I qv q)
end L2
namespace My
open PySem L2
theorem iA:∀(n:Nat) (f:Nat->Int),aT (n+1) f=aT n f+f n
 | 0,f=>by show f 0+0=0+f 0;lia
 | n+1,f=>by show f 0+aT (n+1) (λi=>f (i+1))=(f 0+aT n λi=>f (i+1))+f (n+1);rw [iA n];lia
def di(m:Nat)(t:Int)(u:Nat->Int)(i k:Nat):Int:=aT m λj=>if i+j=k then t*u j else 0
def a_(n m:Nat)(f g:Nat->Int)(k:Nat):Int:=aT n λi=>di m (f i) g i k
def iU(ts us:List Int):List Int:=(List.range (ts.length+us.length-1)).map λk=>a_ ts.length us.length (λi=>ts.getD i 0) (λj=>us.getD j 0) k
def U6:Sp:=λvs H Q _=>∃(a b:Addr) (ts us:List Int),vs=[.ref a,.ref b]/\H a=some (.lst (ts.map V.int))/\H b=some (.lst (us.map V.int))/\(∀t∈ts,aQ t)/\(∀t∈us,aQ t)/\ts.length<=100/\us.length<=100 /\
 ∀(c:Addr) (H':Hp),ai H H'->H c=none->H' c=some (.lst ((iU ts us).map V.int))->Q (.ref c) H'
theorem U7{N x:Nat}{A:Nat->Int}{d:Int}(hx:x<N):(((List.range N).map A).map V.int).set x (.int (A x+d))=((List.range N).map λk=>A k+if x=k then d else 0).map V.int:=by
 refine A6 λi=>?_;by_cases hi:i<N
 ·by_cases z:x=i
  ·subst z
   rw [oM (by simpa using hx)]
   simp [hx]
  ·rw [oN z]
   simp [hi,z]
 ·rw [ku (by simp;lia),ku (by simp;lia)]
variable {B:Nat} {x:Int}
theorem aQ.BZ(hB:B<=10 ^ 300)(h:x.natAbs<=2*B*B):aQ x:=by have z:2*B*B<=2*10 ^ 300*10 ^ 300:=bN (dJ 2 hB) hB;exact ic (af h z) (by decide +kernel)
def Mf(f:Int->Int×Int->Int×Int->Int×Int):Sp:=λvs H Q _=>∃(td:Addr) (q:Int) (v u:V) (p r:Int×Int) (B:Nat),vs=[.ref td,v,u]/\dP H td q/\au q/\aY B H q v p.1 p.2/\aY B H q u r.1 r.2/\1000<=B/\B<=10 ^ 300/\∀(v':V) (H':Hp),ai H H'->aY (2*B*B) H' q v' (f q p r).1 (f q p r).2->Q v' H'
def da(q T D:Int):Int×Int:=if q=0 then (fJ T D,gA T D) else (T % q,1)
variable {q T D:Int}
theorem fo(ok:aP q D):ar q (da q T D) (T,D):=by
 unfold da ar;by_cases z:q=0
 ·subst z
  have hD:=ok.1 rfl;have e:=(FU (a:=T) (show D≠0 by lia)).2.1
  rw [aq rfl];exact ⟨0,by dsimp only;rw [e];lia⟩
 ·rw [ao z,ok.2 z]
  obtain ⟨w,ew⟩:=y4 T q;exact ⟨-w,by dsimp only;rw [fh];lia⟩
def Canon(q:Int)(p:Int×Int):Prop:=(q=0->jI p.1 p.2)/\(q≠0->p.2=1/\0<=p.1/\p.1<q)
variable {H:Hp} {v:V}
theorem aY.canon{m:Int}(h:aY B H q v x m):Canon q (x,m):=by
 cases h with
 | cm e l bx bm=>exact ⟨λ_=>l,λz=>absurd rfl z⟩
 | rem h0 h1 h2=>exact ⟨λz=>by lia,λ_=>⟨rfl,h0,h1⟩⟩
variable {r:Int×Int}
theorem gB(hq:au q){p:Int×Int}(h1:Canon q p)(h2:Canon q r)(e:ar q p r):p=r:=by
 obtain ⟨x,m⟩:=p;obtain ⟨y,n⟩:=r;unfold ar at e;dsimp only at e;by_cases z:q=0
 ·subst z
  have l1:=h1.1 rfl;have l2:=h2.1 rfl;have e:=ie.mp e;obtain ⟨a,b⟩:=Lz l1 l2 (show x*n=y*m by lia)
  dsimp only at a b;rw [a,b]
 ·obtain ⟨a1,a2,a3⟩:=h1.2 z
  obtain ⟨b1,b2,b3⟩:=h2.2 z;dsimp only at a1 a2 a3 b1 b2 b3;subst a1 b1;rw [dC,dC] at e;obtain ⟨k,ek⟩:=e;have:k=0:=by
   rcases Int.lt_trichotomy k 0 with h | h | h
   ·have:=k9 (show k<=-1 by lia) (show 0<=q by lia)
    lia
   ·exact h
   ·have:=k9 (show 1<=k by lia) (show 0<=q by lia)
    lia
  rw [this,cO] at ek;rw [show x=y by lia]
theorem fK(hq:au q)(ok:aP q D):Canon q (da q T D):=by
 unfold da;refine ⟨λz=>?_,λz=>?_⟩
 ·rw [aq z]
  exact (FU (a:=T) (show D≠0 by have:=ok.1 z;lia)).1
 ·rw [ao z]
  have q2:0<q:=by rcases hq with h | h <;> lia
  exact ⟨rfl,d0 _ z,ej _ q2⟩
theorem zh(hq:au q)(ok:aP q D)(b1:1000<=B)(bt:T.natAbs<=B)(bd:D.natAbs<=B):(da q T D).1.natAbs<=B/\(da q T D).2.natAbs<=B:=by
 unfold da;by_cases z:q=0
 ·rw [aq z]
  have hD:=ok.1 z;obtain ⟨u,d,e1,e2,l,l1,l2⟩:=Lq (a:=T) hD;unfold fJ gA;dsimp only;rw [e1,e2];exact ⟨af l1 bt,af l2 bd⟩
 ·rw [ao z]
  have q2:0<q/\q<=997:=by rcases hq with h | h <;> lia
  have:=d0 T z;have:=ej T q2.1;exact ⟨by dsimp only;lia,by dsimp only;lia⟩
variable {B':Nat}
theorem aY.jN{m:Int}(h:aY B H q v x m)(bx:x.natAbs<=B')(bm:m.natAbs<=B'):aY B' H q v x m:=by
 cases h with
 | cm e l _ _=>exact .cm e l bx bm
 | rem h0 h1 h2=>exact .rem h0 h1 h2
theorem Canon.bot{p:Int×Int}(h:Canon q p):aP q p.2:=⟨λz=>(h.1 z).pos,λz=>(h.2 z).1⟩
theorem Gg(hq:au q){p:Int×Int}(h1:Canon q p)(h2:Canon q r):Canon q (eQ q p r)/\ar q (eQ q p r) (p.1*r.2+r.1*p.2,p.2*r.2):=by
 have e:eQ q p r=da q (p.1*r.2+r.1*p.2) (p.2*r.2):=by
  unfold eQ da;by_cases z:q=0;·rw [aq z,aq z]
  ·rw [ao z,ao z,(h1.2 z).1,(h2.2 z).1,dC,dC]
 rw [e];exact ⟨fK hq (h1.bot.mul h2.bot),fo (h1.bot.mul h2.bot)⟩
theorem B0(hq:au q){p:Int×Int}(h1:Canon q p)(h2:Canon q r):Canon q (mulQ q p r)/\ar q (mulQ q p r) (p.1*r.1,p.2*r.2):=by have e:mulQ q p r=da q (p.1*r.1) (p.2*r.2):=rfl;rw [e];exact ⟨fK hq (h1.bot.mul h2.bot),fo (h1.bot.mul h2.bot)⟩
variable {U:Int}
theorem Gh(hq:au q)(ok:aP q D){p:Int×Int}(h1:Canon q p)(h2:Canon q r)(w1:ar q p (T,D))(w2:ar q r (U,D)):eQ q p r=da q (T+U) D:=by obtain ⟨c,w⟩:=Gg hq h1 h2;refine gB hq c (fK hq ok) ?_;refine ar.trans ?_ (fo (T:=T+U) ok).symm ok;refine ar.trans w ?_ (h1.bot.mul h2.bot);obtain ⟨k1,e1⟩:=w1;obtain ⟨k2,e2⟩:=w2;dsimp only at e1 e2;exact ⟨k1*r.2+k2*p.2,by dsimp only;grind⟩
variable {b:Int}
theorem aP.nz(hq:au q)(h:aP q b):¬q∣b:=λhd=>by
 by_cases z:q=0
 ·subst z
  have:=h.1 rfl;have:=ie.mp hd;lia
 ·rw [h.2 z] at hd
  have q2:2<=q:=by rcases hq with h | h <;> lia
  have:=uE ∅ hd
  lia
theorem lcm_dvd{m:Int}(hb:1<=b)(hm:1<=m)(h1:b∣D)(h2:m∣D):b / (Int.gcd b m:Int)*m∣D:=by
 have gp:=qS (a:=b) (b:=m) ⋯
 obtain ⟨b',eb⟩:=yz (a:=b) (b:=m)
 have g0:(Int.gcd b m:Int)≠0:=by lia
 have gb:b / (Int.gcd b m:Int)=b':=by
  conv=>lhs;lhs;rw [eb]
  exact oR _ g0
 have z:((Int.lcm b m:Nat):Int)∣D:=Int.coe_lcm_dvd h1 h2
 have e:((Int.lcm b m:Nat):Int)=b'*m:=by
  have h:=Int.gcd_mul_lcm b m
  have h2:((Int.gcd b m:Nat):Int)*((Int.lcm b m:Nat):Int)=((b*m).natAbs:Int):=by
   rw [<-Int.natCast_mul,h,aZ]
  have bm:0<b*m:=Int.mul_pos ⋯ ⋯
  have h3:((b*m).natAbs:Int)=b*m:=by lia
  rw [h3] at h2
  refine Int.eq_of_mul_eq_mul_left g0 ?_
  rw [h2,<-gJ,<-eb]
 rw [gb,<-e]
 exact z
structure Mg (q:Int) (ps:aC) (ts:List Int) (b D:Int) (B:Nat):Prop where
 len:ts.length=ps.length
 ok:aP q b
 dvd:b∣D
 each:∀i,i<ps.length->ts.getD i 0*(ps.getD i o1).2=(ps.getD i o1).1*b/\(ts.getD i 0).natAbs<=B*D.natAbs
theorem ki(h:b∣D)(hD:D≠0):b.natAbs<=D.natAbs:=Nat.le_of_dvd (iJ.mpr hD) (ES.mpr h)
theorem zi(ok:aP q D):(da q T D).2∣D:=by
 unfold da;by_cases z:q=0
 ·rw [aq z]
  have hD:=ok.1 z;have e:lowG T D=(Int.gcd T D:Int):=by unfold lowG;rw [ao ⋯]
  have gp:=qS (a:=T) (b:=D) ⋯
  unfold gA;dsimp only;rw [e,yr _ ⋯]
  exact Int.ediv_dvd_of_dvd (qi ..)
 ·rw [ao z]
  exact uJ D
theorem Gi{q b D:Int}:∀(n:Nat) (f g:Nat->Int),(∀i,i<n->ar q (f i,b) (g i,D))->ar q (aT n f,b) (aT n g,D)
 | 0,f,g,_=>⟨0,by show (0:Int)*D-0*b=_;simp⟩
 | n+1,f,g,h=>by
  obtain ⟨k1,e1⟩:=h 0 ⋯
  obtain ⟨k2,e2⟩:=Gi n (λi=>f (i+1)) (λi=>g (i+1)) (λi hi=>h (i+1) ⋯)
  refine ⟨k1+k2,?_⟩;show (f 0+aT n λi=>f (i+1))*D-(g 0+aT n λi=>g (i+1))*b=_;dsimp only at e1 e2;grind
variable {n m:Nat} {f g:Nat->Int}
theorem U8{b1 b2 D1 D2:Int}{f' g':Nat->Int}(hf:∀i,i<n->ar q (f i,b1) (f' i,D1))(hg:∀j,j<m->ar q (g j,b2) (g' j,D2))(k:Nat):ar q (a_ n m f g k,b1*b2) (a_ n m f' g' k,D1*D2):=by
 unfold a_;refine Gi n _ _ λi hi=>?_;unfold di;refine Gi m _ _ λj hj=>?_;by_cases z:i+j=k
 ·rw [aq z,aq z]
  obtain ⟨k1,e1⟩:=hf i hi;obtain ⟨k2,e2⟩:=hg j hj;dsimp only at e1 e2;exact ⟨f i*D1*k2+g' j*b2*k1,by dsimp only;grind⟩
 ·rw [ao z,ao z]
  exact ⟨0,by simp⟩
theorem vC{M:Nat}:∀(n:Nat) (f:Nat->Int),(∀i,i<n->(f i).natAbs<=M)->(aT n f).natAbs<=n*M
 | 0,f,_=>by simp [aT]
 | n+1,f,h=>by
  have a:=h 0 ⋯
  have b:=vC n (λi=>f (i+1)) (λi hi=>h (i+1) ⋯)
  show (f 0+aT n λi=>f (i+1)).natAbs<=_;rw [Nat.succ_mul];lia
variable {k:Nat}
theorem Gj{M:Nat}(h:∀i j,i<n->j<m->(f i*g j).natAbs<=M):(a_ n m f g k).natAbs<=n*(m*M):=by
 unfold a_;refine vC n _ λi hi=>?_;unfold di;refine vC m _ λj hj=>?_;by_cases z:i+j=k;·rw [aq z];exact h i j hi hj
 ·rw [ao z];exact cn _
theorem U9(hq:au q)(Gk:aP q b)(o2:aP q D)(w:ar q (T,b) (U,D)):da q T b=da q U D:=
 gB hq (fK hq Gk) (fK hq o2) (((fo (T:=T) Gk).trans w Gk).trans (fo (T:=U) o2).symm o2)
def B2:Nat:=10 ^ 290
def de(q:Int)(n m:Nat)(f g:Nat->Int)(D:Int)(N:Nat):List (Int×Int):=(List.range N).map λk=>da q (a_ n m f g k) D
variable {ps:aC}
theorem aD.jN{a:Addr}(h:aD B H q a ps)(hb:∀p∈ps,p.1.natAbs<=B'/\p.2.natAbs<=B'):aD B' H q a ps:=by intros bn4 h vs e l k;refine (ad vs e l (λi v p h1 h2=>?_));have b:=hb p (AV h2);exact (k i v p h1 h2).jN b.1 b.2
theorem Mh{ps:aC}{x:Int×Int}:∀n,n<=ps.length->dS (ps++[x]) n=dS ps n
 | 0,_=>rfl
 | n+1,h=>by
  have e:(ps++[x]).getD n o1=ps.getD n o1:=by rw [fP,fP,ju ⋯]
  show (if ((ps++[x]).getD n o1).1=0 then dS (ps++[x]) n else n+1)=if (ps.getD n o1).1=0 then dS ps n else n+1
  rw [e,Mh n ⋯]
theorem Mi{x:Int×Int}(h:x.1=0):aF (ps++[x])=aF ps:=by
 unfold aF;rw [kq,EI];have e:(ps++[x]).getD ps.length o1=x:=by
  rw [fP,i8 ⋯,k_]
  rfl
 have e2:dS (ps++[x]) (ps.length+1)=dS ps ps.length:=by
  show (if ((ps++[x]).getD ps.length o1).1=0 then dS (ps++[x]) ps.length else ps.length+1)=_
  rw [e,aq h,Mh _ (aL _)]
 rw [e2,List.take_append_of_le_length (Ge ps _)]
theorem U_:(da q 0 D).1=0:=by
 unfold da fJ
 split
 ·show Int.fdiv 0 (lowG 0 D)=0
  exact Int.zero_fdiv _
 ·exact Int.zero_emod q
theorem Mj(h:n+m<=k+1):a_ n m f g k=0:=by
 unfold a_;have:∀i,i<n->di m (f i) g i k=0:=λi hi=>by
  unfold di;refine Eq.trans (dt (g:=λ_=>0) λj hj=>?_) (kJ m);have:¬i+j=k:=by lia
  rw [ao this]
 rw [dt this,kJ]
theorem Va:aF (de q n m f g D (n+m))=aF (de q n m f g D (n+m-1)):=by
 by_cases z:n+m=0;·rw [z]
 ·obtain ⟨N,e⟩:∃N,n+m=N+1:=⟨n+m-1,⋯⟩
  rw [e,oU];unfold de;rw [List.range_succ,uK];refine Mi ?_;show (da q (a_ n m f g N) D).1=0;rw [Mj ⋯]
  exact U_
def Vb(K:aI):Sp:=λvs H Q _=>∃(P a td:Addr) (ns:List Int) (q b7:Int) (F:Nat),vs=[.ref P,.ref td,.int b7]/\dw H P a/\bG K (er P H) a (ns.map V.int)/\dP (er P H) td q/\au q/\1<=b7/\b7<=(F:Int)/\4<=F/\F<=10 ^ 20/\∀(v:V) (x m:Int) (H':Hp),aR P H H'->dw H' P a->aY F (er P H') q v x m->Q v H'
theorem B4{wi:TI}{ρ:St->St}{te:TE}{σ:St}{Q:VK}{P a:Addr}(hn:n<sizeLine)
  (jL:∀R:It->Hp->Prop,(∀(H1:Hp),aR P H H1->dw H1 P a->R (o6 0 n) H1)->wi σ H R)
  (Pr:Addr->Nat->V->Hp->Prop) (mono:∀D i y Hc H' ys,Pr D i y Hc->Hc D=some (.lst ys)->D≠P->(∀b o,b≠D->b≠P->Hc b=some o->H' b=some o)->Pr D i y H')
  (step:∀(D:Addr) (i:Nat),i<n->∀(Hc:Hp) (R:VK),aR P H Hc->dw Hc P a->(∃ys,Hc D=some (.lst ys))->D≠P->(∀y H3,aR P Hc H3->dw H3 P a->Pr D i y H3->R y H3)->te (some (.int (0+(i:Int)))::ρ σ) Hc R)
  (fin:∀(D:Addr) (ys:List V) (Hc:Hp),D≠P->aR P H Hc->dw Hc P a->ys.length=n->(∀(i:Nat) (y:V),ys[i]?=some y->Pr D i y Hc)->Hc D=some (.lst ys)->Q (.ref D) Hc):qK wi ρ (λ_ H Q=>Q true H) te σ H Q:=by
 refine jL _ λH1 s1 p1=>?_;intro D nD;have nP:=p1.ne nD;refine (ac (λi m ys Hc=>m=n-i/\i<=n/\Hc D=some (.lst ys)/\aR P H1 Hc/\dw Hc P a/\ys.length=i/\∀j y,ys[j]?=some y->Pr D j y Hc) (gl _ rfl (cn _) az ⟨(aR.refl H1).but nD,p1.upd nP,rfl,λj y e=>by simp at e⟩) ?_)
 rintro i m ys Hc ⟨rfl,hi,eD,sH,pc,el,hP⟩;refine ⟨eD,?_⟩;by_cases cZ:i<n
 ·refine .inr ⟨cZ,λx H' hy=>?_⟩
  obtain ⟨rfl,rfl⟩:=hy;rw [aq rfl];refine step D i ⋯ _ _ (s1.trans sH) pc ⟨ys,eD⟩ nP λy H3 s3 p3 hp=>?_
  have e3:=s3.at nP eD;refine ⟨e3,⋯,n-(i+1),⋯,rfl,cZ,az,(sH.trans s3).but nD,p3.upd nP,by simp [el],λj y' e=>?_⟩
  have b7:∀b o,b≠D->b≠P->H3 b=some o->upd H3 D (.lst (ys++[y])) b=some o:=λb o nb _ e=>by rw [cq nb];exact e
  by_cases hj:j<i
  ·have e':ys[j]?=some y':=by rw [ju ⋯] at e;exact e
   refine mono D j y' H' _ ys (hP j y' e') eD nP λb o nb np e=>?_;exact b7 b o nb np (s3.at np e)
  ·have hj:j=i:=by have:=(dj.mp e).1;simp at this;lia
   subst hj;have e':y'=y:=by rw [i8 ⋯,el,k_] at e;simpa using e.symm
   subst e';exact mono D _ _ H3 _ ys hp e3 nP b7
 ·have e:i=n:=by lia
  subst e;exact .inl ⟨aL _,fin D ys Hc nP (s1.trans sH) pc el hP eD⟩
theorem Ml{M:Nat}:∀(n:Nat) (f:Nat->Int),(∀i,i<n->(f i).natAbs<=M)->(aT n f).natAbs<=n*M
 | 0,_,_=>by show (0:Int).natAbs<=_;simp
 | n+1,f,h=>by rw [iA,Nat.succ_mul];exact af (uN ..) (oV (Ml n f λi hi=>h i ⋯) (h n ⋯))
end My
namespace L2
open PySem PySem.Spec PyProof.Rows
section
variable {X:Cx} {tg:Expr}
def vD(lo:Int)(n:Nat):It:=⟨λi _=>i<n,λi H x H'=>H'=H/\x=.int (lo-i),λi _=>n<=i⟩
theorem Vc{P:Program}{w:World}{K:aI}(it:Addr)(lo:Int)(n:Nat):Turn P w K tg (vD lo n) [it] it (λi h=>IsRangeIter h it (lo+(i:Nat)*(-1)) ((n:Int)-(i:Nat)) (-1)) where
 mem:=by simp
 obj:=λi h st b hb=>by
  have e:b=it:=by simpa using hb
  subst e;exact ⟨_,st,λv z=>by have z':Data.fields _=Data.cell v:=z;cases z'⟩
 keep:=λi h h' st k=>k it (by simp) _ st
 item:=by
  intro X hP hw hK hc i pins s σ H E I hf st hg;subst hP hw hK;obtain ⟨f0,f1,f2,f3,f4,f5⟩:=hf it (by simp)
  have W:=Walks.range (prog:=X.prog) (w:=X.w) (I.ok.hd hc) it lo (-1) n;refine W.item i s _ _ hg st λv h' tk hv kz kk=>?_;obtain ⟨t,rfl⟩:=hv;have I1:Inv X pins σ H {s with heap:=h',toks:=tk}:=I.turned (λb o hb e=>kk b o (by simpa using hb) e) f0 f1 f3 f4 f5
  refine (ac _ rfl (Bn (s:={s with heap:=h',toks:=tk}) (n:="range_iterator") kz rfl rfl ∅ (jp (.int (lo-i)) H I1 ⟨t,?_⟩ ⟨rfl,rfl⟩ kz (λb hb=>(hf b hb).1))))
  rw [show lo+(i:Int)*(-1)=lo-i by lia]
 done:=by
  intro X hP hw hK hc i pins s σ H E I hf st hg;subst hP hw hK;obtain ⟨f0,f1,f2,f3,f4,f5⟩:=hf it (by simp)
  exact wpAny_pyNext_range_end (I.ok.hd hc) st (by have:n<=i:=hg;lia) λh' eb=>⟨rfl,I.turned (t':=s.toks) (λb o hb e=>eb b o hb e) f0 f1 f3 f4 f5⟩
 self:=λ_ _ _ _ _ st h=>wpAny_pyIter_rangeiter st h
variable {σ:St} {H:Hp} {lo:Int}
theorem Vd{pins:bE}{s:Shared}{R:It->Hp->Prop}{E:cQ}{hi:Int}{t u v:Tok}{tk:Nat}(I:Inv X pins σ H s)(Ve:Builtin.Range.small lo hi (-1)=true)
  (q:R (vD lo (lo-hi).toNat) H):wpAny (model X.prog X.w) X.A (pyIter (.ref s.heap.objs.size)) (E9 X pins σ tg R) E {s with heap:=s.heap.push {cls:=.type "range",data:=.fields #[.int lo t,.int hi u,.int (-1) v]},toks:=tk}:=by
 refine wpAny_pyIter_range (IsRange.new ..) Ve ?_;have I1:Inv X pins σ H {s with heap:=s.heap.push {cls:=.type "range",data:=.fields #[.int lo t,.int hi u,.int (-1) v]},toks:=tk}:=I.kept λb o e=>dU _ e
 refine ⟨(s.heap.push {cls:=.type "range",data:=.fields #[.int lo t,.int hi u,.int (-1) v]}).objs.size,[(s.heap.push {cls:=.type "range",data:=.fields #[.int lo t,.int hi u,.int (-1) v]}).objs.size],_,_,H,rfl,
  I1.kept (t':=tk) λb o e=>dU _ e,Vc _ lo (lo-hi).toNat,?_,λb hb=>?_,q⟩
 ·have e1:lo+((0:Nat):Int)*(-1)=lo:=by simp
  have e2:(((lo-hi).toNat:Nat):Int)-((0:Nat):Int)=Builtin.Range.rangeSize lo hi (-1):=by
   unfold Builtin.Range.rangeSize;rw [ao ∅]
   split
   ·rw [show -(-1:Int)=1 from rfl,Int.ediv_one];lia
   ·lia
  show IsRangeIter _ _ (lo+((0:Nat):Int)*(-1)) ((((lo-hi).toNat:Nat):Int)-((0:Nat):Int)) (-1);rw [e1,e2];exact iI _ rfl
 ·have e:b=(s.heap.push {cls:=.type "range",data:=.fields #[.int lo t,.int hi u,.int (-1) v]}).objs.size:=by simpa using hb
  subst e;exact I1.u5 (aL _) (I1.aG.fresh (aL _))
theorem small_down{a b:Int}(h1:-(2 ^ 62)<=a)(h2:a<2 ^ 62)(h3:-(2 ^ 62)<=b)(h4:b<2 ^ 62):Builtin.Range.small a b (-1)=true:=by
 have e:Builtin.Range.rangeSize a b (-1)=if a>b then a-b else 0:=by
  unfold Builtin.Range.rangeSize;rw [ao ∅]
  split
  ·rw [show -(-1:Int)=1 from rfl,Int.ediv_one];lia
  ·rfl
 have f:∀{x:Int},-(2 ^ 63)<=x->x<2 ^ 63->Builtin.Range.rangeFitsLong x=true:=fun{x} h1 h2=>by unfold Builtin.Range.rangeFitsLong;simp;lia
 unfold Builtin.Range.small;rw [e,f (x:=a) ⋯ ⋯,f (x:=b) ⋯ ⋯,f (x:=-1) ∅ ∅,f (x:=if a>b then a-b else 0) (by split <;> lia) (by split <;> lia)]
 simp;exact .inr (f ⋯ ⋯)
def Vf(ta:TA):TI:=λσ H R=>ta σ H λvs H1=>∃i j:Int,vs=[.int i,.int j,.int (-1)]/\(-(2 ^ 62)<=i/\i<2 ^ 62/\-(2 ^ 62)<=j/\j<2 ^ 62)/\R (vD i (i-j).toNat) H1
theorem Vg{a b c:Expr}{ta:TA}{p pos:Pos}(hg:Gl X "range")(hm:X.mg "range"=none)(ha:PA X [a,b,c] ta)(hs:starEach [a,b,c] X.env=[(false,eval a X.env),(false,eval b X.env),(false,eval c X.env)]:=by rfl)(lM:starEach [b,c] X.env=[(false,eval b X.env),(false,eval c X.env)]:=by rfl) :
  PI X tg (.Call (.Name "range" p) [a,b,c] [] pos) (Vf ta):=by
 intro pins s σ H R I h;refine Call_ (qp I hg hm boot_range (yq (aK (ha pos pins s σ H _ I h) λus s1 ⟨vs,H1,I1,r1,q1⟩=>?_) (by rw [hs,lM]) (by rw [lM];rfl)))
 obtain ⟨i,j,e,⟨q1,q2,q3,q4⟩,q⟩:=q1;subst e;cases r1 with
 | cons r rr=>
  cases rr with
  | cons r' rr=>
   cases rr with
   | cons r3 rr=>
    cases rr;obtain ⟨t,rfl⟩:=r;obtain ⟨t',rfl⟩:=r';obtain ⟨t3,rfl⟩:=r3;refine call_range_3 ∅ (Vd I1 (small_down q1 q2 q3 q4) q) (.inl ?_)
    have z:decide ((if ((-1:Int) == 0)=true then 0 else (-1:Int).natAbs.log2 / 30+1)>300)=false:=by decide +kernel
    unfold Builtin.divisionGoesByPylong;dsimp only;rw [z];rfl
theorem Vh{n:Nat}{g:TG}{tb:TS}{D:Ends}(Pv:Nat->St->Hp->Prop)(h0:Pv 0 σ H)
  (hs:∀i σ H,i<n->Pv i σ H->g (.int (lo-i)) σ H λσ2 H2=>tb {D with nx:=Pv (i+1),ct:=Pv (i+1),bk:=D.nx} σ2 H2) (hd:∀σ H,Pv n σ H->D.nx σ H) :
  ∃W:Nat->Nat->St->Hp->Prop,(∃m,W 0 m σ H)/\∀i m σ H,W i m σ H->
   ((vD lo n).stop i H/\D.nx σ H)\/((vD lo n).go i H/\∃N:St->Hp->Prop,(∀σ' H',N σ' H'->∃m',m'<m/\W (i+1) m' σ' H')/\∀x H',(vD lo n).fW i H x H'->g x σ H' λσ2 H2=>tb {D with nx:=N,ct:=N,bk:=D.nx} σ2 H2):=by
 refine (ac (λi m σ H=>m=n-i/\i<=n/\Pv i σ H) ⟨n,by simp,cn _,h0⟩ ?_)
 rintro i m σ H ⟨rfl,hi,p⟩;by_cases cZ:i<n
 ·refine .inr ⟨cZ,Pv (i+1),λσ' H' p'=>⟨n-(i+1),⋯,rfl,cZ,p'⟩,λx H' y=>?_⟩
  obtain ⟨e,y⟩:=y;subst e y;exact hs i σ _ cZ p
 ·have e:i=n:=by lia
  subst e;exact .inl ⟨aL _,hd σ H p⟩
end
theorem Vi{X:Cx}{K:aI}{e:Expr}{f:Str}{pos:Pos}{ta:TE}(he:PE X e ta)(hb:attributeBase e f X.env (eval e X.env)=eval e X.env)(hK:X.K=K:=by rfl):PE X (.Attribute e f pos) (Ky K ta f):=by subst hK;exact qC he hb
end L2
namespace My
open PySem L2
def Cg(q a b:Int):Prop:=q∣a-b
variable {q:Int}
theorem Cg.refl(a:Int):Cg q a a:=⟨0,⋯⟩
variable {b:Int}
theorem Cg.of_eq{a:Int}(h:a=b):Cg q a b:=h▸Cg.refl a
theorem Cg.symm{a:Int}(h:Cg q a b):Cg q b a:=by obtain ⟨k,e⟩:=h;exact ⟨-k,by rw [fh];lia⟩
variable {c:Int}
theorem Cg.trans{a:Int}(h1:Cg q a b)(h2:Cg q b c):Cg q a c:=by obtain ⟨k,e⟩:=h1;obtain ⟨l,e'⟩:=h2;exact ⟨k+l,by rw [jv];lia⟩
variable {d:Int}
theorem Cg.add{a:Int}(h1:Cg q a b)(h2:Cg q c d):Cg q (a+c) (b+d):=by obtain ⟨k,e⟩:=h1;obtain ⟨l,e'⟩:=h2;exact ⟨k+l,by rw [jv];lia⟩
theorem Cg.sub{a:Int}(h1:Cg q a b)(h2:Cg q c d):Cg q (a-c) (b-d):=by obtain ⟨k,e⟩:=h1;obtain ⟨l,e'⟩:=h2;exact ⟨k-l,by rw [mY];lia⟩
theorem Cg.mulL{a:Int}(c:Int)(h:Cg q a b):Cg q (c*a) (c*b):=by obtain ⟨k,e⟩:=h;exact ⟨c*k,by rw [<-mY,e];grind⟩
theorem Cg.mulR{a:Int}(c:Int)(h:Cg q a b):Cg q (a*c) (b*c):=by rw [jb a,jb b];exact h.mulL c
theorem jk(q a:Int):Cg q (a % q) a:=⟨-(a / q),by have:=Int.mul_ediv_add_emod a q;rw [fh];lia⟩
theorem Cg.nz{a:Int}(h:Cg q a b)(n:¬q∣b):¬q∣a:=λd=>n (by
 have:b=a-(a-b):=by lia
 rw [this];exact Int.dvd_sub d h)
theorem B5{q:Int}:∀{n:Nat} {f g:Nat->Int},(∀i,i<n->Cg q (f i) (g i))->Cg q (aT n f) (aT n g)
 | 0,_,_,_=>Cg.refl _
 | n+1,f,g,h=>by unfold aT;exact (h 0 ⋯).add (B5 λi hi=>h (i+1) ⋯)
variable {B:Nat}
theorem Gm{a:Int}(hq:au q)(b1:1000<=B)(h:a.natAbs<=B):(a % q).natAbs<=B:=by
 rcases hq with rfl | ⟨h2,h3,_⟩;·rw [Int.emod_zero];exact h
 ·have:=d0 a (show q≠0 by lia)
  have:=ej a (show 0<q by lia)
  lia
theorem kM(t:Int)(u:Nat->Int)(i k:Nat):∀m,di m t u i k=if i<=k/\k<i+m then t*u (k-i) else 0
 | 0=>by
  rw [ao ⋯]
  rfl
 | m+1=>by
  have e:di (m+1) t u i k=di m t u i k+if i+m=k then t*u m else 0:=by unfold di;rw [iA]
  rw [e,kM t u i k m];by_cases h:i+m=k
  ·rw [ao ⋯,aq h,aq ⋯,show k-i=m by lia]
   lia
  ·rw [ao h]
   by_cases h2:i<=k/\k<i+m;·rw [aq h2,aq ⋯];lia
   ·rw [ao h2,ao ⋯];lia
def convS(s n m:Nat)(f g:Nat->Int)(k:Nat):Int:=aT n λi=>di m (f i) g (s+i) k
theorem B6(n m:Nat)(f g:Nat->Int)(k:Nat):convS 0 n m f g k=a_ n m f g k:=by unfold convS a_;exact dt λi _=>by rw [Nat.zero_add]
theorem Vj(s n m:Nat)(f g:Nat->Int)(k:Nat):convS s (n+1) m f g k=di m (f 0) g s k+convS (s+1) n m (λi=>f (i+1)) g k:=by unfold convS;rw [aT];exact gI (_ + ·) (dt λi _=>by rw [show s+(i+1)=s+1+i by lia])
theorem Vk(c t:Int)(u:Nat->Int)(m i k:Nat):di m (c*t) u i k=c*di m t u i k:=by
 rw [kM,kM]
 split
 ·rw [gJ]
 ·rw [cO]
theorem Mm(c:Int)(s n m:Nat)(f g:Nat->Int)(k:Nat):convS s n m (λi=>c*f i) g k=c*convS s n m f g k:=by unfold convS;rw [vA];exact dt λi _=>Vk ..
variable {t:Int}
theorem Mn{t':Int}(h:Cg q t t')(u:Nat->Int)(m i k:Nat):Cg q (di m t u i k) (di m t' u i k):=by
 rw [kM,kM]
 split
 ·exact h.mulR _
 ·exact Cg.refl _
variable {n m k:Nat} {f f' g:Nat->Int}
theorem Vl{s:Nat}(h:∀i,i<n->Cg q (f i) (f' i)):Cg q (convS s n m f g k) (convS s n m f' g k):=
 B5 λi hi=>Mn (h i hi) g m (s+i) k
structure md (q:Int) (ts us:List Int) (T U n i:Nat) (bs ls:List Int) (aE:Int):Prop where
 lb:bs.length=i
 ll:ls.length=ts.length-i
 eq:∀k,Cg q (aE*ts.getD k 0) (convS (n-i) i us.length (λj=>bs.getD j 0) (λj=>us.getD j 0) k+ls.getD k 0)
 nz:¬q∣aE
 last:0<i->¬q∣bs.getD (i-1) 0
 bb:∀x∈bs,x.natAbs*(2*U)<=T*(2*U) ^ i
 bl:∀x∈ls,x.natAbs<=T*(2*U) ^ i
 bm:aE.natAbs<=1000*(2*U) ^ i
theorem cF{α:Type}{xs:List α}{d:α}(h:xs.length<=k):xs.getD k d=d:=by rw [fP,ku h];rfl
variable {xs:List Int}
theorem pF(h:∀x∈xs,x.natAbs<=B)(k:Nat):(xs.getD k 0).natAbs<=B:=by
 by_cases hk:k<xs.length;·rw [getD_at hk];exact h _ (gZ _)
 ·rw [cF ⋯];exact cn _
theorem zj{f:Int->Int}(h0:f 0=0)(k:Nat):(xs.map f).getD k 0=f (xs.getD k 0):=by
 by_cases hk:k<xs.length;·rw [getD_at (by simpa using hk),getD_at hk,j7]
 ·rw [cF (by simp;lia),cF ⋯,h0]
variable {ts us:List Int} {T U:Nat}
theorem md.start(hq:au q)(hT:∀x∈ts,x.natAbs<=T)(hn:n=ts.length+1-us.length):md q ts us T U n 0 [] ts 1 where
 lb:=rfl
 ll:=rfl
 eq:=λk=>Cg.of_eq (by unfold convS aT;lia)
 nz:=λh=>by
  rcases hq with rfl | ⟨h2,_⟩
  ·have:=ie.mp h
   lia
  ·have:=uE ∅ h
   lia
 last:=λh=>absurd h ∅
 bb:=λx hx=>by simp at hx
 bl:=λx hx=>by simpa using hT x hx
 bm:=by simp
def f9(place:Nat)(head:Int)(us:List Int):List Int:=List.replicate place 0++us.dropLast.map λu=>head*u
variable {place:Nat} {head:Int}
theorem Gn:(f9 place head us).length=place+(us.length-1):=by unfold f9;rw [kq,i9,aW,List.length_dropLast]
theorem Vm(hk:k<place+(us.length-1)):(f9 place head us).getD k 0=if place<=k then head*us.getD (k-place) 0 else 0:=by
 unfold f9;rw [fP];by_cases h:place<=k
 ·rw [aq h,i8 (by simpa using h),i9,gf,List.getElem?_dropLast,aq ⋯,ET (show k-place<us.length by lia),getD_at (show k-place<us.length by lia)]
  rfl
 ·rw [ao h,ju (by simp;lia),mS,aq ⋯]
  rfl
variable {i:Nat} {ls:List Int}
theorem md.step{bs:List Int}{aE:Int}(h:md q ts us T U n i bs ls aE)(hq:au q)(hn:n=ts.length+1-us.length)(hi:i<n)(hu:1<=us.length)
  (hU:∀x∈us,x.natAbs<=U) (Mp:1<=U) (zk:1000<=T) (lz:¬q∣us.getD (us.length-1) 0) (tz:¬q∣ts.getD (ts.length-1) 0) :
  md q ts us T U n (i+1) (([ls.getD (ls.length-1) 0]++bs.map λx=>us.getD (us.length-1) 0*x).map λx=>x % q)
   (((List.zip ls (f9 (n-1-i) (ls.getD (ls.length-1) 0) us)).map λab=>us.getD (us.length-1) 0*ab.1-ab.2).map λx=>x % q) (aE*us.getD (us.length-1) 0 % q):=by
 generalize nU:us.getD (us.length-1) 0=lead at lz;generalize vE:ls.getD (ls.length-1) 0=head;have Mq:=h.ll;have Vn:=h.lb;have zm:head.natAbs<=T*(2*U) ^ i:=by rw [<-vE];exact pF h.bl _
 have zo:lead.natAbs<=U:=by rw [<-nU];exact pF hU _
 have pw:T*(2*U) ^ (i+1)=T*(2*U) ^ i*(2*U):=by rw [fR,lC]
 have pp:1<=(2*U) ^ i:=lB ⋯
 have T1:1000<=T*(2*U) ^ i:=af zk (fS _ pp);have T2:T*(2*U) ^ i<=T*(2*U) ^ (i+1):=by rw [pw];exact fS _ ⋯
 have zl:(List.zip ls (f9 (n-1-i) head us)).length=ts.length-(i+1):=by rw [A7,Gn,Mq];lia
 refine ⟨?_,?_,?_,?_,?_,?_,?_,?_⟩;·simp [Vn]
 ·rw [aW,aW,zl]
 ·intro k
  have e0:=h.eq k;have el:∀k,Cg q ((((List.zip ls (f9 (n-1-i) head us)).map λab=>lead*ab.1-ab.2).map λx=>x % q).getD k 0) (lead*ls.getD k 0-di us.length head (λj=>us.getD j 0) (n-1-i) k):=λk=>by
   rw [kM];by_cases hk:k<ts.length-(i+1)
   ·have zp:k<(List.zip ls (f9 (n-1-i) head us)).length:=by lia
    have k1:k<ls.length:=by lia
    have k2:k<(f9 (n-1-i) head us).length:=by rw [Gn];lia
    rw [getD_at (by simpa using zp),j7,j7,List.getElem_zip,getD_at k1]
    have e1:(f9 (n-1-i) head us)[k]=if n-1-i<=k/\k<n-1-i+us.length then head*us.getD (k-(n-1-i)) 0 else 0:=by
     rw [<-getD_at (d:=0) k2,Vm (by rw [Gn] at k2;exact k2)]
     by_cases z:n-1-i<=k;·rw [aq z,aq ⋯]
     ·rw [ao z,ao ⋯]
    rw [e1];exact jk _ _
   ·rw [cF (by rw [aW,aW,zl];lia)]
    by_cases zp:k=ts.length-(i+1)
    ·have e1:ls.getD k 0=head:=by rw [<-vE,Mq,zp];congr 1
     have e2:k-(n-1-i)=us.length-1:=by lia
     rw [aq ⋯,e1,e2,nU,jb]
     exact Cg.of_eq ⋯
    ·rw [ao ⋯,cF ⋯]
     exact Cg.of_eq (by simp)
  have eb:∀j,Cg q ((([head]++bs.map λx=>lead*x).map λx=>x % q).getD j 0) (if j=0 then head else lead*bs.getD (j-1) 0):=λj=>by
   rw [zj (by simp)]
   refine (jk _ _).trans (Cg.of_eq ?_);cases j with
   | zero=>rfl
   | succ j=>
    rw [ao ⋯]
    show ((head::bs.map λx=>lead*x).getD (j+1) 0)=_;rw [List.getD_cons_succ,zj (by simp)]
    simp
  have ec:Cg q (convS (n-(i+1)) (i+1) us.length (λj=>(([head]++bs.map λx=>lead*x).map λx=>x % q).getD j 0) (λj=>us.getD j 0) k) (di us.length head (λj=>us.getD j 0) (n-1-i) k+lead*convS (n-i) i us.length (λj=>bs.getD j 0) (λj=>us.getD j 0) k):=by
   refine (Vl λj _=>eb j).trans (Cg.of_eq ?_);rw [Vj,show n-(i+1)+1=n-i by lia,show n-(i+1)=n-1-i by lia,aq rfl]
   have:(λj=>if j+1=0 then head else lead*bs.getD (j+1-1) 0)=λj=>lead*bs.getD j 0:=funext λj=>by rw [ao ⋯,oU]
   rw [this,Mm]
  have em:Cg q (aE*lead % q*ts.getD k 0) (lead*(aE*ts.getD k 0)):=((jk q (aE*lead)).mulR _).trans (Cg.of_eq (by grind))
  refine em.trans ((e0.mulL lead).trans (Cg.trans ?_ (ec.add (el k)).symm));exact Cg.of_eq (by rw [jv];lia)
 ·exact (jk q _).nz (dr hq h.nz lz)
 ·intro _
  rw [zj (by simp)]
  refine (jk q _).nz ?_;show ¬q∣(head::bs.map λx=>lead*x).getD i 0;cases i with
  | zero=>
   rw [List.getD_cons_zero,<-vE,show ls.length-1=ts.length-1 by lia]
   have e0:=h.eq (ts.length-1);have z:convS (n-0) 0 us.length (λj=>bs.getD j 0) (λj=>us.getD j 0) (ts.length-1)=0:=rfl;rw [z,Int.zero_add] at e0;exact e0.symm.nz (dr hq h.nz tz)
  | succ i=>
   rw [List.getD_cons_succ,zj (by simp)]
   exact dr hq lz (h.last ⋯)
 ·intro x hx
  obtain ⟨y,hy,rfl⟩:=fQ.mp hx;refine af (gK (2*U) (Gm (B:=T*(2*U) ^ i) hq T1 ?_)) (jX pw.symm);rcases i7.mp hy with hy | hy
  ·rw [jZ.mp hy]
   exact zm
  ·obtain ⟨w,hw,rfl⟩:=fQ.mp hy
   rw [aZ,kr];exact af (dJ _ (af zo (show U<=2*U by lia))) (h.bb w hw)
 ·intro x hx
  obtain ⟨y,hy,rfl⟩:=fQ.mp hx;refine Gm hq (af T1 T2) ?_;obtain ⟨ab,Gp,rfl⟩:=fQ.mp hy;have m:=uC Gp;have b1:(lead*ab.1).natAbs<=T*(2*U) ^ i*U:=by rw [aZ,kr];exact bN (h.bl _ m.1) zo
  have b2:ab.2.natAbs<=T*(2*U) ^ i*U:=by
   have m2:=m.2;unfold f9 at m2;rcases i7.mp m2 with z | z;·rw [(yE.mp z).2];exact cn _
   ·obtain ⟨u,lZ,e⟩:=fQ.mp z
    rw [<-e,aZ];exact bN zm (hU u (List.dropLast_subset _ lZ))
  have e:T*(2*U) ^ i*(2*U)=T*(2*U) ^ i*U+T*(2*U) ^ i*U:=by rw [Nat.mul_left_comm,uO]
  rw [pw,e];show (lead*ab.1-ab.2).natAbs<=_;lia
 ·refine Gm hq ?_ ?_
  ·exact fS _ (lB ⋯)
  ·rw [aZ,fR,<-lC]
   exact bN h.bm (af zo ⋯)
variable {wi:TI} {ρ:St->St} {te:TE} {σ:St} {H:Hp} {Q:VK}
theorem zt(g:Int->Int)(hn:ts.length<=500)
  (jL:∀R:It->Hp->Prop,(∀J H1,ai H H1->vw J (ts.map V.int) H1->R J H1)->wi σ H R)
  (step:∀t∈ts,∀(Hc:Hp) (R:VK),ai H Hc->(∀H3,ai Hc H3->R (.int (g t)) H3)->te (some (.int t)::ρ σ) Hc R)
  (fin:∀D Hc,H D=none->ai H Hc->Hc D=some (.lst ((ts.map g).map V.int))->Q (.ref D) Hc):qK wi ρ (λ_ H Q=>Q true H) te σ H Q:=by
 refine qY (xs:=ts.map V.int) jL (by rw [aW];exact jH ⋯) (λ_ i y _=>∃t,ts[i]?=some t/\y=.int (g t)) (λ_ _ _ _ _ _ h _ _=>h) ?_ ?_
 ·intro D i v hi Hc R sc _ kc
  rw [gf] at hi;cases e:ts[i]? with
  | none=>rw [e] at hi;cases hi
  | some t=>rw [e] at hi;cases hi;exact step t (AV e) Hc R sc λH3 s3=>kc _ H3 s3 (ac t e rfl)
 ·intro D ys Hc nD sc fL hP eD
  have ey:ys=(ts.map g).map V.int:=BU (by rw [fL,aW,aW]) λi v e=>by obtain ⟨t,e1,e2⟩:=hP i v e;exact ⟨g t,by rw [gf,e1];rfl,e2⟩
  rw [ey] at eD;exact fin D Hc nD sc eD
theorem Mr{K:aI}{ys:List Int}(g:Int->Int->Int)(hn:xs.length<=500)
  (jL:∀R:It->Hp->Prop,(∀J H1,ai H H1->BR J ((xs.map V.int).zip (ys.map V.int)) H1->R J H1)->wi σ H R)
  (step:∀x y,(x,y)∈xs.zip ys->∀(Hc:Hp) (R:VK),ai H Hc->(∀H3,ai Hc H3->R (.int (g x y)) H3)->te (some (.int x)::some (.int y)::ρ σ) Hc R)
  (fin:∀D Hc,ai H Hc->Hc D=some (.lst (((xs.zip ys).map λab=>g ab.1 ab.2).map V.int))->Q (.ref D) Hc):vy K wi ρ (λ_ H Q=>Q true H) te σ H Q:=by
 have lz:((xs.map V.int).zip (ys.map V.int)).length=(xs.zip ys).length:=by simp [A7]
 have at':∀(i:Nat) (v u:V),((xs.map V.int).zip (ys.map V.int))[i]?=some (v,u)->∃x y,(xs.zip ys)[i]?=some (x,y)/\v=.int x/\u=.int y:=λi v u e=>by
  obtain ⟨h1,h2⟩:=ER.mp e;rw [gf] at h1 h2;cases e1:xs[i]? with
  | none=>rw [e1] at h1;cases h1
  | some x=>
   cases e2:ys[i]? with
   | none=>rw [e2] at h2;cases h2
   | some y=>rw [e1] at h1;rw [e2] at h2;cases h1;cases h2;exact (ap x y (ER.mpr ⟨e1,e2⟩) rfl rfl)
 refine Us (zs:=(xs.map V.int).zip (ys.map V.int)) jL (by rw [lz,A7];exact jH ⋯) (λi v=>∃x y,(xs.zip ys)[i]?=some (x,y)/\v=.int (g x y)) ?_ ?_
 ·intro i v u hi Hc R sc kc
  obtain ⟨x,y,e,rfl,rfl⟩:=at' i v u hi;exact step x y (AV e) Hc R sc λH3 s3=>kc _ H3 s3 ⟨x,y,e,rfl⟩
 ·intro D vs Hc sc Gq hP eD
  have ey:vs=((xs.zip ys).map λab=>g ab.1 ab.2).map V.int:=BU (by rw [Gq,lz,aW]) λi v e=>by obtain ⟨x,y,e1,e2⟩:=hP i v e;exact ⟨g x y,by rw [gf,e1];rfl,e2⟩
  rw [ey] at eD;exact fin D Hc sc eD
theorem Vo(xs:List V):o8 xs none (some (-1))=xs.dropLast:=by
 have e:HT.fH xs.length xs.length (some (-1))=xs.length-1:=by unfold HT.fH;simp;lia
 unfold o8;rw [e,show HT.fH xs.length 0 none=0 from rfl,List.drop_zero,oT,List.dropLast_eq_take]
theorem B7(h:1<=xs.length):dF (xs.map V.int) (-1)=some (.int (xs.getD (xs.length-1) 0)):=by
 obtain ⟨ys,y,rfl⟩:∃ys y,xs=ys++[y]:=⟨xs.dropLast,xs.getLast (by intro e;simp [e] at h),(List.dropLast_concat_getLast _).symm⟩
 rw [uK];show dF (ys.map V.int++[V.int y]) (-1)=_;rw [KR,kq,EI,oU,getD_at (by simp)]
 simp
theorem Gr:∀place:Nat,(List.replicate ((place:Int).toNat) [V.int 0]).flatten=(List.replicate place (0:Int)).map V.int:=λplace=>by
 rw [dI,List.map_replicate]
 induction place with
 | zero=>rfl
 | succ m ih=>rw [mT,yu,ih,mT];rfl
variable {x:Int}
theorem nV(hq:au q)(nb:¬q∣b)(h:q∣b*x):q∣x:=qk λnx=>dr hq nb nx h
variable {M:Int}
theorem Vp{p r:Int×Int}(hq:au q)(nM:¬q∣M)(h1:ar q p (x,M))(h2:ar q r (x,M))(hr:True:=trivial):ar q p r:=by refine nV hq nM ?_;obtain ⟨k,e1⟩:=h1;obtain ⟨l,e2⟩:=h2;dsimp only at e1 e2;refine ⟨k*r.2-l*p.2,?_⟩;grind
theorem Ms{a:Int}{v:V}(ho:qT H q v a b)(hq:au q)(nb:¬q∣b)(ba:a.natAbs<=B)(bb:b.natAbs<=B):∃p:Int×Int,aY B H q v p.1 p.2/\ar q p (a,b):=by
 rcases ho with ⟨rfl,r,rfl,e⟩ | ⟨q2,r,rfl,r0,r1,er⟩
 ·have hb:b≠0:=λz=>nb (z▸ja 0)
  obtain ⟨l,w,b1,b2⟩:=FU (a:=a) hb;exact ⟨(fJ a b,gA a b),.cm e l (af b1 ba) (af b2 bb),⟨0,by dsimp only;lia⟩⟩
 ·have q3:q<=997:=by rcases hq with h | h <;> lia
  refine ⟨(r,1),.rem r0 r1 q3,?_⟩;show q∣r*b-a*1;have h1:Cg q (r*(b % q)) a:=(jk q _).symm.trans (er▸jk q a);have h2:Cg q (r*b) (r*(b % q)):=((jk q b).mulL r).symm;have h3:=h2.trans h1;rw [dC];exact h3
theorem Mt(ps:aC):∀n k,dS ps n<=k->k<n->(ps.getD k o1).1=0
 | 0,_,_,h=>by lia
 | n+1,k,h1,h2=>by
  unfold dS at h1;by_cases z:(ps.getD n o1).1=0
  ·rw [aq z] at h1
   by_cases e:k=n;·rw [e];exact z
   ·exact Mt ps n k h1 ⋯
  ·rw [ao z] at h1
   lia
theorem Mu(ps:aC):∀n,0<dS ps n->(ps.getD (dS ps n-1) o1).1≠0
 | 0,h=>by simp [dS] at h
 | n+1,h=>by
  unfold dS at h ⊢;by_cases z:(ps.getD n o1).1=0
  ·rw [aq z] at h ⊢
   exact Mu ps n h
  ·rw [ao z] at h ⊢
   exact z
theorem Gs(ps:aC):(aF ps).length=dS ps ps.length:=by unfold aF;rw [oO];have:=Ge ps ps.length;lia
variable {ps:aC}
theorem iV(h:k<(aF ps).length):(aF ps).getD k o1=ps.getD k o1:=by have h':=h;rw [Gs] at h';unfold aF;rw [fP,EH h',<-fP]
theorem Gu(h:(aF ps).length<=k):(ps.getD k o1).1=0:=by
 rw [Gs] at h;by_cases hk:k<ps.length;·exact Mt ps ps.length k h hk
 ·rw [cF ⋯];rfl
theorem q_(h:0<(aF ps).length):((aF ps).getD ((aF ps).length-1) o1).1≠0:=by
 rw [iV ⋯]
 rw [Gs] at h ⊢;exact Mu ps ps.length h
theorem zu(h:0<ps.length->(ps.getD (ps.length-1) o1).1≠0):aF ps=ps:=by
 unfold aF;cases e:ps.length with
 | zero=>rw [kv.mp e];rfl
 | succ m=>
  unfold dS;have z:=h ⋯
  rw [e,oU] at z;rw [ao z,<-e,List.take_length]
theorem Gv(ps:aC):aF (aF ps)=aF ps:=zu λh=>q_ h
theorem me{p:Int×Int}(h:p∈aF ps):p∈ps:=List.mem_of_mem_take h
variable {ys:aC}
theorem Gw{xs:aC}(h:∀k,xs.getD k o1=ys.getD k o1):aF xs=aF ys:=by
 have pad:∀(n:Nat) (zs:aC),aF (zs++List.replicate n o1)=aF zs:=λn zs=>by
  induction n with
  | zero=>simp
  | succ n ih=>rw [List.replicate_succ',<-i_,Mi (show (o1:Int×Int).1=0 from rfl),ih]
 have e:xs++List.replicate ys.length o1=ys++List.replicate xs.length o1:=by
  refine uP (by simp;lia) λk h1 h2=>?_
  have g:∀(zs:aC) (n k:Nat),k<zs.length+n->∀hk,(zs++List.replicate n o1)[k]'hk=zs.getD k o1:=λzs n k hk h=>by
   by_cases z:k<zs.length;·rw [List.getElem_append_left z,getD_at z]
   ·rw [List.getElem_append_right ⋯,List.getElem_replicate,cF ⋯]
  rw [g xs _ k (by simpa using h1),g ys _ k (by simpa using h2),h k]
 rw [<-pad ys.length xs,e,pad]
theorem Vq{u:Nat->Int}{m':Nat}(h:m<=m')(z:∀j,m<=j->u j=0):di m' t u i k=di m t u i k:=by
 rw [kM,kM];by_cases h1:i<=k/\k<i+m;·rw [aq h1,aq ⋯]
 ·rw [ao h1]
  split
  ·rw [z _ ⋯,cO]
  ·rfl
theorem Vr(h:∀i,i<n->Cg q (f i) (f' i)):Cg q (a_ n m f g k) (a_ n m f' g k):=
 B5 λi hi=>Mn (h i hi) g m i k
theorem Mv(c:Int)(n m:Nat)(f g:Nat->Int)(k:Nat):a_ n m (λi=>c*f i) g k=c*a_ n m f g k:=by rw [<-B6,<-B6,Mm]
structure Vs (q:Int) (ps rs aV cW:aC) (D:Int) (F G u:Nat->Int):Prop where
 ok:aP q D
 prod:∀i j,i<aV.length->j<rs.length->ar q ((aV.getD i o1).1*(rs.getD j o1).1,(aV.getD i o1).2*(rs.getD j o1).2) (F i*u j,D)
 left:∀k,ar q (cW.getD k o1) (G k,D)
 whole:∀k,ar q (ps.getD k o1) (a_ aV.length rs.length F u k+G k,D)
variable {D:Int}
theorem Vt(hq:au q){rs aV cW:aC}{bs:List Int}{aE b1 b2:Int}{F G:Nat->Int}(nm:¬q∣aE)(kP:aP q b1)(gC:aP q b2)(cT:aP q D)
  (eq:∀k,Cg q (aE*ts.getD k 0) (a_ aV.length us.length (λj=>bs.getD j 0) (λj=>us.getD j 0) k+ls.getD k 0))
  (lu:us.length<=rs.length)
  (hP:∀k,ar q (ps.getD k o1) (ts.getD k 0,b1)) (hR:∀k,ar q (rs.getD k o1) (us.getD k 0,b2))
  (hb:∀i,i<aV.length->ar q (aV.getD i o1) (bs.getD i 0*b2,aE*b1)) (hl:∀k,ar q (cW.getD k o1) (ls.getD k 0,aE*b1))
  (hF:∀i,i<aV.length->ar q (F i,D) (bs.getD i 0,aE*b1)) (hG:∀k,ar q (G k,D) (ls.getD k 0,aE*b1)):Vs q ps rs aV cW D F G (λj=>us.getD j 0):=by
 have Vu:=kP.nz hq;have nM:=dr hq nm Vu;refine ⟨cT,λi j hi hj=>?_,λk=>Vp hq nM (hl k) (hG k),λk=>?_⟩
 ·refine nV hq (dr hq nM (gC.nz hq)) ?_
  obtain ⟨x,e1⟩:=hb i hi;obtain ⟨y,e2⟩:=hR j;obtain ⟨w,e3⟩:=hF i hi;dsimp only at e1 e2 e3 ⊢;generalize aV.getD i o1=B at e1;generalize rs.getD j o1=R at e2;generalize us.getD j 0=u at e2 ⊢;generalize bs.getD i 0=b at e1 e3;generalize aE*b1=M at e1 e3 ⊢;refine ⟨x*(R.1*b2*D)+b*b2*B.2*D*y-w*(u*(B.2*R.2)*b2),?_⟩;grind
 ·have e:a_ aV.length rs.length F (λj=>us.getD j 0) k=a_ aV.length us.length F (λj=>us.getD j 0) k:=dt λi _=>Vq lu λj hj=>cF hj
  rw [e];have Vv:∀i,i<aV.length->Cg q (aE*b1*F i) (D*bs.getD i 0):=λi hi=>by obtain ⟨w,e3⟩:=hF i hi;dsimp only at e3;exact ⟨w,by rw [<-e3];grind⟩
  have zy:Cg q (aE*b1*G k) (D*ls.getD k 0):=by obtain ⟨w,e3⟩:=hG k;dsimp only at e3;exact ⟨w,by rw [<-e3];grind⟩
  have c1:=Vr (m:=us.length) (g:=λj=>us.getD j 0) (k:=k) Vv;rw [Mv,Mv] at c1;have c2:=(c1.add zy).trans (Cg.of_eq (jv D _ _).symm);have c3:=c2.trans ((eq k).symm.mulL D);generalize a_ aV.length us.length F (λj=>us.getD j 0) k=S at c3 ⊢;have w:ar q (ts.getD k 0,b1) (S+G k,D):=by refine nV hq nm ?_;obtain ⟨x,e1⟩:=c3;refine ⟨-x,?_⟩;dsimp only;grind
  exact (hP k).trans w kP
theorem vF{f:Int}{p:Int×Int}(hq:au q)(hT:1000<=T)(hc:Canon q p)(e:t*p.2=p.1*b)(ok:aP q b)(cT:aP q D)(db:b∣D)(w:ar q p (f,D))(bf:f.natAbs<=T):t.natAbs<=T:=by
 by_cases z:q=0
 ·subst z
  have hp:=(hc.bot).1 rfl;have hb:=ok.1 rfl;have hD:=cT.1 rfl;obtain ⟨k,ek⟩:=w;have e2:p.1*D=f*p.2:=by dsimp only at ek;omega
  have e3:t*D=f*b:=by
   have:(t*D)*p.2=(f*b)*p.2:=by rw [uQ,e,uQ,e2,uQ]
   exact EN (show p.2≠0 by lia) this
  have e4:t.natAbs*D.natAbs=f.natAbs*b.natAbs:=by rw [<-aZ,e3,aZ]
  have e5:b.natAbs<=D.natAbs:=ki db ⋯
  have e6:t.natAbs*D.natAbs<=f.natAbs*D.natAbs:=by rw [e4];exact dJ _ e5
  exact af (EL e6 ⋯) bf
 ·have e1:=(hc.2 z)
  have q3:q<=997:=by rcases hq with h | h <;> lia
  rw [e1.1,ok.2 z] at e;lia
theorem B8(l:ts.length=(aF ps).length)(h:∀k,k<(aF ps).length->ar q ((aF ps).getD k o1) (ts.getD k 0,b))(k:Nat):ar q (ps.getD k o1) (ts.getD k 0,b):=by
 by_cases hk:k<(aF ps).length
 ·rw [<-iV hk]
  exact h k hk
 ·have z:=Gu (ps:=ps) (k:=k) ⋯
  rw [cF (xs:=ts) ⋯]
  exact ⟨0,by dsimp only;rw [z];simp⟩
theorem aD.cX{a:Addr}(h:aD B H q a ps):∀p∈ps,Canon q p:=λp hp=>by
 intros bn4 h vs e l k;obtain ⟨i,hi,rfl⟩:=ig hp;have hv:i<vs.length:=by lia
 exact (k i vs[i] ps[i] (by simp [hv]) (by simp [hi])).canon
theorem rf(hq:au q):Canon q o1:=⟨λ_=>⟨∅,∅⟩,λz=>⟨rfl,∅,by rcases hq with h | h;exact absurd h z;show (0:Int)<q;lia⟩⟩
theorem cH(hq:au q)(h:∀p∈ps,Canon q p)(k:Nat):Canon q (ps.getD k o1):=by
 by_cases hk:k<ps.length;·rw [getD_at hk];exact h _ (gZ _)
 ·rw [cF ⋯];exact rf hq
theorem Gx{p:Int×Int}(hq:au q)(hc:Canon q p)(nx:¬q∣x)(w:ar q p (x,M)):p.1≠0:=λz=>by obtain ⟨k,e⟩:=w;dsimp only at e;rw [z,gh,qj] at e;refine dr hq nx (hc.bot.nz hq) ⟨-k,?_⟩;rw [fh,<-e,Int.neg_neg]
theorem Gy{p:Int×Int}(hc:Canon q p)(h:p.1≠0):¬q∣p.1:=λd=>by
 by_cases z:q=0
 ·subst z
  exact h (ie.mp d)
 ·have e:=hc.2 z
  have:=uE ⋯ d
  lia
theorem B9{p:Int×Int}(hq:au q)(hc:Canon q p)(h:p.1≠0)(e:t*p.2=p.1*b)(ok:aP q b):¬q∣t:=λd=>by refine dr hq (Gy hc h) (ok.nz hq) ?_;rw [<-e];exact j4 d (yA ..)
theorem Vw(hq:au q)(hc:∀p∈ps,Canon q p)(l:ps.length=ls.length)(h:∀k,k<ls.length->ar q (ps.getD k o1) (ls.getD k 0*1,M))(k:Nat):ar q ((aF ps).getD k o1) (ls.getD k 0,M):=by
 by_cases hk:k<(aF ps).length
 ·have:=iz ps
  have z:=h k ⋯
  rw [iV hk];rw [dC] at z;exact z
 ·rw [cF (xs:=aF ps) ⋯]
  have z:=Gu (ps:=ps) (k:=k) ⋯
  have d:q∣ls.getD k 0:=by
   by_cases zp:k<ls.length
   ·obtain ⟨x,e⟩:=h k zp
    dsimp only at e;rw [z,dC,gh,qj] at e;refine nV hq ((cH hq hc k).bot.nz hq) ⟨-x,?_⟩;rw [fh,<-e];grind
   ·rw [cF ⋯];exact dA q
  obtain ⟨x,e⟩:=d;refine ⟨-x,?_⟩;show 0*M-ls.getD k 0*1=_;rw [e,fh];lia
theorem Mw{q:Int}{F:Nat}(hF:1<=F):∀(xs:aC),(∀p∈xs,aP q p.2/\p.2.natAbs<=F)->∃D:Int,aP q D/\(∀p∈xs,p.2∣D)/\D.natAbs<=F ^ xs.length/\∀p∈xs,D.natAbs<=p.2.natAbs*F ^ (xs.length-1)
 | [],_=>⟨1,aP.one,λp hp=>by simp at hp,by simp,λp hp=>by simp at hp⟩
 | x::xs,h=>by
  obtain ⟨D,h1,h2,h3,h4⟩:=Mw hF xs (λp hp=>h p (i6 _ hp));have hx:=h x mQ;refine ⟨x.2*D,hx.1.mul h1,λp hp=>?_,?_,λp hp=>?_⟩
  ·rcases eV.mp hp with e | e
   ·rw [e];exact yA ..
   ·exact j4 (h2 p e) (uH ..)
  ·rw [aZ,fC,fR,kr]
   exact bN h3 hx.2
  ·rw [aZ,fC,oU]
   rcases eV.mp hp with e | e;·rw [e];exact dJ _ h3
   ·have l:1<=xs.length:=List.length_pos_of_mem e
    refine af (bN hx.2 (h4 p e)) (jX ?_);rw [show xs.length=xs.length-1+1 by lia,fR,oU]
    rw [Nat.mul_left_comm,kr F]
structure RowW (q:Int) (ps:aC) (D:Int) (f:Nat->Int) (X Y L:Nat):Prop where
 ok:aP q D
 dvd:∀p∈ps,p.2∣D
 w:∀i,ar q (ps.getD i o1) (f i,D)
 bf:∀i,(f i).natAbs<=X
 bD:D.natAbs<=Y
 out:∀i,L<=i->f i=0
theorem canon_zero{p:Int×Int}(hc:Canon q p)(h:p.1=0):p=o1:=by
 obtain ⟨x,m⟩:=p;dsimp only at h;subst h;by_cases z:q=0
 ·have l:=hc.1 z
  have e:m=1:=by have l1:=l.pos;have l2:=l.2;simp at l2;lia
  rw [e];rfl
 ·rw [show m=1 from (hc.2 z).1]
  rfl
theorem pG(hq:au q)(hc:∀p∈ps,Canon q p)(k:Nat):(aF ps).getD k o1=ps.getD k o1:=by
 by_cases hk:k<(aF ps).length;·exact iV hk
 ·rw [cF ⋯,canon_zero (cH hq hc k) (Gu ⋯)]
theorem rg:ar q o1 (0,D):=⟨0,by show (0:Int)*D-0*1=_;simp⟩
variable {N:Nat}
theorem rh(hq:au q)(ok:aP q D):∀p∈de q n m f g D N,Canon q p:=λp hp=>by unfold de at hp;obtain ⟨k,_,rfl⟩:=fQ.mp hp;exact fK hq ok
theorem zA{α:Type}{F:Nat->α}{d:α}(hk:k<N):((List.range N).map F).getD k d=F k:=by rw [getD_at (by simpa using hk),j7,List.getElem_range]
theorem rj(ok:aP q D)(k:Nat):ar q ((de q n m f g D (n+m-1)).getD k o1) (a_ n m f g k,D):=by
 by_cases hk:k<n+m-1
 ·unfold de
  rw [zA hk];exact fo ok
 ·rw [cF (by simp [de];lia),Mj ⋯]
  exact rg
theorem zero_add{y:Int}(ok:aP q D)(hq:au q)(h1:ar q o1 (x,D))(h2:ar q o1 (y,D)):ar q o1 (x+y,D):=by obtain ⟨a,e1⟩:=h1;obtain ⟨b,e2⟩:=h2;refine ⟨a+b,?_⟩;show (0:Int)*D-(x+y)*1=_;have e1:(0:Int)*D-x*1=q*a:=e1;have e2:(0:Int)*D-y*1=q*b:=e2;rw [jv];lia
theorem Vx{xs:aC}{x y:Nat->Int}(hq:au q)(ok:aP q D)(cx:∀p∈xs,Canon q p)(cy:∀p∈ys,Canon q p)(wx:∀k,ar q (xs.getD k o1) (x k,D))(wy:∀k,ar q (ys.getD k o1) (y k,D))(k:Nat):(jj q xs ys).getD k o1=da q (x k+y k) D:=by
 by_cases hk:k<max xs.length ys.length
 ·unfold jj
  rw [zA hk];exact Gh hq ok (cH hq cx k) (cH hq cy k) (wx k) (wy k)
 ·rw [cF (by simp [jj];lia)]
  have a:=wx k;have b:=wy k;rw [cF ⋯] at a b
  exact gB hq (rf hq) (fK hq ok) ((zero_add ok hq a b).trans (fo ok).symm ok)
end My
namespace L2
open PySem PySem.Spec PyProof.Rows
variable {c:TT} {t:TS} {D:Ends} {σ:St} {H:Hp}
theorem zC{u:TS}(k:∀R:St->Hp->Prop,(∀σ H,D.nx σ H->R σ H)->Bf c t u {D with nx:=R} σ H):Bf c t u D σ H:=k D.nx λ_ _ h=>h
theorem Vy{u:TS}(hc:∀Q:Bool->Hp->Prop,(∀b,Q b H)->c σ H Q)(ht:t D σ H)(hu:u D σ H):Bf c t u D σ H:=hc _ λb=>by
 cases b with
 | true=>rw [aq rfl];exact ht
 | false=>rw [ao dW];exact hu
end L2
namespace My
open PySem L2
variable {q:Int} {ps:aC} {L:Nat}
theorem RowW.weak{D:Int}{f:Nat->Int}{X Y X' Y' L':Nat}(h:RowW q ps D f X Y L)(hx:X<=X')(hy:Y<=Y')(hl:L<=L'):RowW q ps D f X' Y' L':=
 ⟨h.ok,h.dvd,h.w,λi=>af (h.bf i) hx,af h.bD hy,λi hi=>h.out i ⋯⟩
theorem Vz(h:∀i,L<=i->(ps.getD i o1).1=0):(aF ps).length<=L:=yv λn=>by
 have z:=q_ (ps:=ps) ⋯
 rw [iV ⋯] at z
 exact z (h _ ⋯)
variable {b:Int}
theorem B_{a D1 D2:Int}{p r:Int×Int}(h1:ar q p (a,D1))(h2:ar q r (b,D2)):ar q (p.1*r.1,p.2*r.2) (a*b,D1*D2):=by obtain ⟨k1,e1⟩:=h1;obtain ⟨k2,e2⟩:=h2;dsimp only at e1 e2;refine ⟨k1*(r.1*D2)+a*p.2*k2,?_⟩;dsimp only;grind
theorem Cg.mul{a c d:Int}(h1:Cg q a b)(h2:Cg q c d):Cg q (a*c) (b*d):=(h1.mulR c).trans (h2.mulL b)
theorem Cg.pow{q a b:Int}(h:Cg q a b):∀k:Nat,Cg q (a ^ k) (b ^ k)
 | 0=>by rw [yF,yF];exact Cg.refl 1
 | k+1=>by rw [yG,yG];exact (Cg.pow h k).mul h
theorem rk{q a:Int}(hq:au q)(ha:¬q∣a):∀k:Nat,¬q∣a ^ k
 | 0=>by rw [yF];exact aP.one.nz hq
 | k+1=>by rw [yG];exact dr hq (rk hq ha k) ha
end My
namespace L2
open PySem PySem.Spec PyProof.Rows
section
variable {X:Cx} {e:Expr} {te:TE} {pos p2:Pos}
end
end L2
namespace My
open PySem L2
def Ca(n:Nat):Prop:=n=0\/40<n
def VA(N:Addr):Sp:=λvs H Q E=>∃(a:Addr) (xs:List V),vs=[.ref a]/\H a=some (.lst xs)/\xs.length<=1000/\(Ca xs.length->E (.ref N) none H)/\(¬Ca xs.length->Q (.int (xs.length:Int)) H)
def VC(N:Addr):Sp:=λvs H Q E=>∃(n:Nat) (a:Addr) (xs:List V),vs=[.int (n:Int),.ref a]/\H a=some (.lst xs)/\(xs.length≠n->E (.ref N) none H)/\(xs.length=n->Q .a9 H)
end My
namespace L2
open PySem PySem.Spec PyProof.Rows
section
variable {X:Cx} {pins:bE} {σ:St} {H:Hp} {s:Shared}
end
end L2
namespace My
open PySem L2
theorem VD{a b:Int}(h:Cg 0 a b):a=b:=by have:=ie.mp h;lia
variable {q:Int}
theorem VE{a:Int}(h:¬q∣a):a≠0:=λe=>h (e▸dA q)
def Mx(C:Addr):Sp:=λvs H Q _=>∃(z a:Addr) (q:Int) (ts:List Int) (b:Int) (u:Nat->Int),vs=[.ref z,.ref a,.int b]/\dO C H z q/\au q/\H a=some (.lst (ts.map V.int))/\ts.length<=500/\(∀t∈ts,aQ t)/\aQ b/\¬q∣b/\(∀i,i<ts.length->Cg q (ts.getD i 0) (b*u i)) /\
 ∀(c:Addr) (H':Hp) (rs:List Int),ai H H'->H c=none->H' c=some (.lst (rs.map V.int))->rs.length=ts.length->(∀i,i<ts.length->Cg q (rs.getD i 0) (u i))->(q≠0->∀x∈rs,0<=x/\x<q)->Q (.ref c) H'
def ae(xs:List Int):Nat->Int:=λi=>xs.getD i 0
def cv(f g:Nat->Int)(k:Nat):Int:=aT (k+1) λi=>f i*g (k-i)
section
variable {q:Int} {f f' g g':Nat->Int} {k:Nat}
theorem Cb:cv (λi=>f i+f' i) g k=cv f g k+cv f' g k:=by unfold cv;rw [<-BV];exact dt λi _=>by grind
theorem eK(c:Int):cv (λi=>c*f i) g k=c*cv f g k:=by unfold cv;rw [vA];exact dt λi _=>by grind
theorem Mz:cv f (λi=>g i+g' i) k=cv f g k+cv f g' k:=by unfold cv;rw [<-BV];exact dt λi _=>by grind
theorem kj(c:Int):cv f (λi=>c*g i) k=c*cv f g k:=by unfold cv;rw [vA];exact dt λi _=>by grind
theorem gR(h:∀i,Cg q (f i) (f' i))(h':∀i,Cg q (g i) (g' i)):Cg q (cv f g k) (cv f' g' k):=B5 λi _=>((h i).mulR _).trans ((h' _).mulL _)
theorem Gz(n:Nat)(F:Nat->Int):aT (n+1) F=aT n F+F n:=iA n F
theorem MA(F:QO):∀k,(aT (k+1) λi=>aT (k+1-i) λj=>F i j)=aT (k+1) λs=>aT (s+1) λi=>F i (s-i)
 | 0=>rfl
 | k+1=>by
  have ih:=MA F k;rw [Gz (k+1) λs=>aT (s+1) λi=>F i (s-i),<-ih,Gz (k+1) λi=>aT (k+1+1-i) λj=>F i j];rw [show (aT (k+1) λi=>aT (k+1+1-i) λj=>F i j)=(aT (k+1) λi=>aT (k+1-i) λj=>F i j)+aT (k+1) λi=>F i (k+1-i) by rw [<-BV];refine dt λi hi=>?_;rw [show k+1+1-i=k+1-i+1 by lia,iA]]
  rw [Gz (k+1) λi=>F i (k+1-i),show k+1+1-(k+1)=1 by lia]
  have:(aT 1 λj=>F (k+1) j)=F (k+1) (k+1-(k+1)):=by rw [k_];show F (k+1) 0+0=_;lia
  rw [this];lia
theorem VF(n:Nat)(F:Nat->Int):aT (n+1) F=aT (n+1) λi=>F (n-i):=by
 induction n with
 | zero=>rfl
 | succ n ih=>
  rw [iA,ih];show _=F (n+1-0)+aT (n+1) λi=>F (n+1-(i+1));rw [show (λi=>F (n+1-(i+1)))=λi=>F (n-i) from funext λi=>by congr 1;lia,oT]
  lia
theorem vG(f g:Nat->Int)(k:Nat):cv f g k=cv g f k:=by unfold cv;rw [VF];refine dt λi hi=>?_;rw [show k-(k-i)=i by lia,jb]
theorem vH(f g h:Nat->Int)(k:Nat):cv (cv f g) h k=cv f (cv g h) k:=by
 have l:cv (cv f g) h k=aT (k+1) λs=>aT (s+1) λi=>f i*g (s-i)*h (k-s):=by unfold cv;refine dt λs _=>?_;rw [jb,vA];exact dt λi _=>by grind
 have r:cv f (cv g h) k=aT (k+1) λi=>aT (k+1-i) λj=>f i*g j*h (k-(i+j)):=by
  unfold cv;refine dt λi hi=>?_;rw [vA,show k-i+1=k+1-i by lia]
  exact dt λj _=>by rw [show k-i-j=k-(i+j) by lia];grind
 rw [l,r,MA λi j=>f i*g j*h (k-(i+j))];refine dt λs _=>dt λi hi=>?_;rw [show i+(s-i)=s by lia]
end
theorem pH{n m:Nat}{f g:Nat->Int}(hf:∀i,n<=i->f i=0)(hg:∀i,m<=i->g i=0)(k:Nat):a_ n m f g k=cv f g k:=by
 have e:a_ n m f g k=aT n λi=>if i<=k then f i*g (k-i) else 0:=by
  unfold a_;refine dt λi _=>?_;rw [kM];by_cases h:i<=k
  ·rw [aq h]
   by_cases h2:k<i+m;·rw [aq ⟨h,h2⟩]
   ·rw [ao ⋯,hg _ ⋯,cO]
  ·rw [ao ⋯,ao h]
 rw [e];unfold cv;have ext:∀(a b:Nat) (F:Nat->Int),(∀i,a<=i->F i=0)->aT (a+b) F=aT a F:=λa b F hF=>by
  induction b with
  | zero=>rfl
  | succ b ih=>
   rw [show a+(b+1)=(a+b)+1 by lia,iA,ih,hF _ ⋯]
   lia
 have p1:=ext n (k+1) (λi=>if i<=k then f i*g (k-i) else 0) λi hi=>by show (if i<=k then f i*g (k-i) else 0)=0;rw [hf i hi];simp
 have p2:=ext (k+1) n (λi=>if i<=k then f i*g (k-i) else 0) λi hi=>ao ⋯
 rw [<-p1,Nat.add_comm n (k+1),p2];exact dt λi hi=>aq ⋯
theorem cU{xs:List Int}{i:Nat}(h:xs.length<=i):ae xs i=0:=cF h
theorem VG(ts us:List Int)(k:Nat):ae (iU ts us) k=cv (ae ts) (ae us) k:=by
 rw [<-pH (n:=ts.length) (m:=us.length) (λi hi=>cU hi) (λi hi=>cU hi)];unfold ae iU;by_cases hk:k<ts.length+us.length-1;·rw [getD_at (by simpa using hk),j7,List.getElem_range]
 ·rw [cF (by simp;lia)]
  unfold a_;rw [show (λi=>di us.length (ts.getD i 0) (λj=>us.getD j 0) i k)=λi=>if i<ts.length then 0 else di us.length (ts.getD i 0) (λj=>us.getD j 0) i k from funext λi=>by
   by_cases h:i<ts.length
   ·rw [aq h,kM]
    by_cases h2:i<=k/\k<i+us.length;·lia
    ·rw [ao h2]
   ·rw [ao h]]
  rw [dt (g:=λ_=>0) λi hi=>aq hi,kJ]
theorem gD(hq:au q):¬q∣1:=λh=>by
 rcases hq with rfl | ⟨h2,_⟩
 ·have:=ie.mp h
  lia
 ·have:=uE ∅ h
  lia
def bS(q:Int)(D X:Nat->Int):Prop:=∃(c:Int) (w:Nat->Int) (N:Nat),¬q∣c/\(∀i,N<=i->w i=0)/\∀t,Cg q (c*X t) (cv w D t)
section
variable {q:Int} {D X Y Z b:Nat->Int} {n:Nat}
theorem bS.self(hq:au q)(D:Nat->Int):bS q D D:=⟨1,λi=>if i=0 then 1 else 0,1,gD hq,λi hi=>ao ⋯,λt=>Cg.of_eq (by
 unfold cv;rw [aT,show (λi=>(λi=>if i=0 then (1:Int) else 0) (i+1)*D (t-(i+1)))=λ_=>0 from funext λi=>by simp,kJ]
 simp)⟩
theorem bS.VH(hq:au q)(h:∀t,Cg q (X t) 0):bS q D X:=⟨1,λ_=>0,0,gD hq,λ_ _=>rfl,λt=>((h t).mulL 1).trans (Cg.of_eq (by
 unfold cv;rw [show (λi=>0*D (t-i))=λ_=>0 from funext λi=>by simp,kJ]
 rfl))⟩
theorem MB{w:Nat->Int}{N M:Nat}(hw:∀i,N<=i->w i=0)(hb:∀i,M<=i->b i=0){k:Nat}(hk:N+M<=k):cv w b k=0:=by
 unfold cv;rw [dt (g:=λ_=>0) λi hi=>by
  by_cases h:N<=i;·rw [hw i h,gh]
  ·rw [hb _ ⋯,cO],kJ]
theorem bS.made(hq:au q)(hX:bS q D X)(hY:bS q D Y){aE least:Int}(hb:∀i,n<=i->b i=0)(nm:¬q∣aE)(e:∀t,Cg q (aE*Z t) (cv b X t+least*Y t)):bS q D Z:=by
 intros bn13 hX c1 w1 N1 a1 b1 d1;intros bn13 hY c2 w2 N2 a2 b2 d2;refine ⟨c1*c2*aE,λi=>c2*cv b w1 i+least*c1*w2 i,n+N1+N2,dr hq (dr hq a1 a2) nm,λi hi=>?_,λt=>?_⟩
 ·show c2*cv b w1 i+least*c1*w2 i=0
  rw [MB (k:=i) hb b1 ⋯,b2 i ⋯]
  simp
 ·have l:Cg q (c1*c2*aE*Z t) (c1*c2*(cv b X t+least*Y t)):=(Cg.of_eq (by grind)).trans ((e t).mulL (c1*c2))
  have x:Cg q (c1*cv b X t) (cv (cv b w1) D t):=by rw [<-kj,vH];exact gR (λ_=>Cg.refl _) d1
  have r:cv (λi=>c2*cv b w1 i+least*c1*w2 i) D t=c2*cv (cv b w1) D t+least*c1*cv w2 D t:=by rw [Cb,eK,eK]
  rw [r];refine l.trans ((Cg.of_eq (show _=c2*(c1*cv b X t)+least*c1*(c2*Y t) by grind)).trans ((x.mulL c2).add ((d2 t).mulL _)))
end
end My
namespace Srs
def kR:Nat->Nat
 | 0=>1
 | n+1=>(n+1)*kR n
theorem MC:∀(k hi:Nat),(cols hi k).length=k
 | 0,_=>rfl
 | k+1,hi=>by rw [cols,fC,MC]
theorem zD(r:Row):∀k,(cK r k).length=k
 | 0=>rfl
 | k+1=>by rw [cK,fC,zD]
theorem MD{W k:Nat}{r:Row}(h:∀i,(r i).natAbs<=W)(i:Nat):(sh k r i).natAbs<=W:=by
 unfold sh
 split
 ·simp
 ·exact h _
end Srs
namespace My
open PySem L2 Srs
def pI(b:Nat->Int)(B:Row)(i:Nat):Int:=aT (i / 3+1) λj=>b j*B (i-3*j)
def Lf(aE:Int)(A:Row)(b:Nat->Int)(B:Row):Row:=λi=>aE*A i-pI b B i
theorem ME(a b:Nat){F:Nat->Int}(hF:∀i,a<=i->F i=0):aT (a+b) F=aT a F:=by
 induction b with
 | zero=>rfl
 | succ b ih=>
  rw [show a+(b+1)=(a+b)+1 by lia,iA,ih,hF _ ⋯]
  lia
theorem MF(b:Nat->Int)(g:Row)(i:Nat):∀N s,comb ((((List.range' s N)).map λj=>(-(b j),j)).map λp=>(p.1,sh p.2 g)) i=-aT N λj=>b (s+j)*sh (s+j) g i
 | 0,s=>by simp [comb,aT]
 | N+1,s=>by
  have ih:=MF b g i N (s+1);rw [List.range'_succ,qg,qg,comb];dsimp only;rw [ih,aT,Nat.add_zero];rw [show (λj=>b (s+1+j)*sh (s+1+j) g i)=λj=>b (s+(j+1))*sh (s+(j+1)) g i from funext λj=>by rw [show s+1+j=s+(j+1) by lia]]
  show -b s*sh s g i+_=_;grind
theorem MG{aE:Int}{A B:Row}{b:Nat->Int}{d:Nat}(hb:∀j,d<j->b j=0):Red aE A B (Lf aE A b B) d:=by
 refine ⟨(List.range' 0 (d+1)).map λj=>(-(b j),j),λp hp=>?_,λi=>?_⟩
 ·obtain ⟨j,hj,rfl⟩:=fQ.mp hp
  have:=List.mem_range'.mp hj;show j<=d;intros bn0 this k hk e;lia
 ·rw [MF]
  have e:pI b B i=aT (d+1) λj=>b (0+j)*sh (0+j) B i:=by
   have p1:=ME (d+1) (i / 3+1) (F:=λj=>b (0+j)*sh (0+j) B i) λj hj=>by rw [Nat.zero_add,hb j ⋯,gh]
   have p2:=ME (i / 3+1) (d+1) (F:=λj=>b (0+j)*sh (0+j) B i) λj hj=>by rw [Nat.zero_add];unfold sh;rw [aq ⋯,cO]
   rw [<-p1,Nat.add_comm (d+1),p2];unfold pI;refine dt λj hj=>?_;rw [Nat.zero_add];unfold sh;rw [ao ⋯]
  unfold Lf;rw [e];lia
def up1(r:Nat->Int):Nat->Int:=λt=>if t=0 then 0 else r (t-1)
def aO(r u v:List Int):Row:=λi=>if i % 3=0 then up1 (ae r) (i / 3) else if i % 3=1 then ae u (i / 3) else ae v (i / 3)
theorem VI(b r:Nat->Int)(t:Nat):cv b (up1 r) t=up1 (cv b r) t:=by
 cases t with
 | zero=>show b 0*up1 r 0+0=0;show b 0*0+0=0;lia
 | succ t=>show _=cv b r t;unfold cv;rw [iA,k_,show up1 r 0=0 from rfl,cO,j6];exact dt λi hi=>by unfold up1;rw [ao ⋯,show t+1-i-1=t-i by lia]
section
variable {r u v:List Int} {t:Nat} {b:Nat->Int} {B:Row}
theorem pJ:aO r u v (3*t)=up1 (ae r) t:=by unfold aO;rw [aq ⋯,show 3*t / 3=t by lia]
theorem rl:aO r u v (3*t+1)=ae u t:=by unfold aO;rw [ao ⋯,aq ⋯,show (3*t+1) / 3=t by lia]
theorem rp:aO r u v (3*t+2)=ae v t:=by unfold aO;rw [ao ⋯,ao ⋯,show (3*t+2) / 3=t by lia]
theorem MH{P:Nat->Prop}(h0:∀t,P (3*t))(h1:∀t,P (3*t+1))(h2:∀t,P (3*t+2))(i:Nat):P i:=by
 have e:i=3*(i / 3)\/i=3*(i / 3)+1\/i=3*(i / 3)+2:=by lia
 rcases e with e | e | e;·rw [e];exact h0 _
 ·rw [e];exact h1 _
 ·rw [e];exact h2 _
theorem GA{c:Nat}(hc:c<3):pI b B (3*t+c)=cv b (λk=>B (3*k+c)) t:=by
 unfold pI cv;rw [show (3*t+c) / 3=t by lia]
 exact dt λj hj=>by rw [show 3*t+c-3*j=3*(t-j)+c by lia]
theorem VJ:pI b (aO r u v) (3*t)=up1 (cv b (ae r)) t:=by
 have:=GA (b:=b) (B:=aO r u v) (t:=t) (c:=0) ∅
 rw [Nat.add_zero] at this;rw [this,<-VI]
 congr 1
 funext k
 exact pJ
theorem MI:pI b (aO r u v) (3*t+1)=cv b (ae u) t:=by
 rw [GA ∅]
 congr 1
 funext k
 exact rl
theorem MJ:pI b (aO r u v) (3*t+2)=cv b (ae v) t:=by
 rw [GA ∅]
 congr 1
 funext k
 exact rp
end
theorem VL:∀a b:Nat,∃x y:Int,(a:Int)*x+(b:Int)*y=(Nat.gcd a b:Nat):=λa b=>by
 induction a,b using Nat.gcd.induction with
 | H0 n=>exact ⟨0,1,by simp⟩
 | H1 m n hm ih=>
  intros bn2 ih x y e;refine ⟨y-(n / m:Nat)*x,x,?_⟩;have h:=Nat.mod_add_div n m;have h':((n % m:Nat):Int)=(n:Int)-(m:Int)*((n / m:Nat):Int):=by
   have:((n % m:Nat):Int)+(m:Int)*((n / m:Nat):Int)=n:=by exact_mod_cast h
   lia
  rw [Nat.gcd_rec m n,<-e,h'];grind
variable {q b:Int}
theorem MK(hq:au q)(q0:q≠0)(nb:¬q∣b):∃c:Int,Cg q (b*c) 1:=by
 rcases hq with h | ⟨q2,q3,q4⟩;·exact absurd h q0
 ·have k1:=d0 b (show q≠0 by lia)
  have k2:=ej b (show 0<q by lia)
  have k3:b % q≠0:=λz=>nb (EO z);have g:=FT q2 q3 q4 (show 1<=b % q by lia) k2
  obtain ⟨x,y,e⟩:=VL q.natAbs (b % q).natAbs;have g':Nat.gcd q.natAbs (b % q).natAbs=1:=g;rw [g',show (q.natAbs:Int)=q by lia,show ((b % q).natAbs:Int)=b % q by lia] at e
  refine ⟨y,?_⟩;have c:Cg q (b*y) (b % q*y):=((jk q b).symm).mulR y;exact c.trans ⟨-x,by rw [fh];lia⟩
theorem zE{u x y:Int}(hq:au q)(nu:¬q∣u)(h:Cg q (u*x) (u*y)):Cg q x y:=by
 refine qk λz=>dr hq nu z ?_;unfold Cg at h
 rwa [mY]
theorem aux1{a k j:Int}(h:a-b*(q*k)=q*j):a=q*(j+b*k):=by grind
theorem aux2(m x y a b:Int):m*x-a+(m*y-b)=m*(x+y)-(a+b):=by grind
def jn(x:Int)(B:Nat):Prop:=x.natAbs<=B
structure CI (q:Int) (ts us:List Int) (f g:Row) (n0 m0:Nat) (W:Nat->Nat) (r u v r' u' v':List Int) (ld ht:Int):Prop where
 bz:∀t,Cg q (cv (ae u) (ae ts) t+cv (ae v) (ae us) t) (ae r t)
 ML:∀t,Cg q (cv (ae u') (ae ts) t+cv (ae v') (ae us) t) (ae r' t)
 tr:r≠[]->¬q∣ae r (r.length-1)
 mh:r'≠[]->¬q∣ae r' (r'.length-1)
 dv:∀D,bS q D (ae r)->bS q D (ae r')->bS q D (ae ts)/\bS q D (ae us)
 nl:¬q∣ld
 nh:¬q∣ht
 le:r'.length<=r.length
 h1:r.length=r'.length->ht=1
 ch:q=0->r'≠[]->Ch f n0 g m0 (aO r u v) r.length (aO r' u' v') r'.length ld.natAbs ht.natAbs
 ev:q=0->r'≠[]->∃X,X*ht.natAbs ^ (r.length-r'.length-1)=(ae r' (r'.length-1)).natAbs ^ (r.length-r'.length)/\X<=W r'.length
 bh:ht.natAbs<=W r.length
 bl:ld.natAbs<=W r.length
 bA:∀i,(aO r u v i).natAbs<=W r.length
 bB:∀i,(aO r' u' v' i).natAbs<=W r'.length
 Cc:∀i,(aO r' u' v' i).natAbs<=W (r.length-1)
 rn:r.length<=n0
 rm:r'.length<=m0
structure CG (q:Int) (f g:Row) (n0 m0:Nat) (W:Nat->Nat):Prop where
 sb:q=0->∀j t,j<m0->S j f n0 g m0 t<=W j
 mn:m0<=n0
 n5:n0<=41
 w1:∀j,1000<=W j
 am:∀i j,i<=j->W j<=W i
section
variable {q:Int} {ts us:List Int} {f g:Row} {n0 m0:Nat} {W:Nat->Nat} {r u v r' u' v':List Int} {ld ht:Int} {aE:Int} {bs ls:List Int}
variable {xs ys zs:List Int}
theorem zF:∀t,xs.length<t->aO xs ys zs (3*t)=0:=λt h=>by
 rw [pJ];unfold up1;rw [ao ⋯]
 exact cU ⋯
theorem nY(h:1<=xs.length):aO xs ys zs (3*xs.length)=ae xs (xs.length-1):=by rw [pJ];unfold up1;rw [ao ⋯]
theorem Cd{t:Nat}:Lf aE (aO r u v) (ae bs) (aO r' u' v') (3*t)=up1 (λk=>aE*ae r k-cv (ae bs) (ae r') k) t:=by
 unfold Lf;rw [pJ,VJ];unfold up1
 split <;> simp
theorem CI.left(hq:au q)(I:CI q ts us f g n0 m0 W r u v r' u' v' ld ht)(G:CG q f g n0 m0 W)(ne:r'≠[])(lb:bs.length=r.length-r'.length+1)(ll:ls.length=r'.length-1)(e:∀k,Cg q (aE*ae r k) (cv (ae bs) (ae r') k+ae ls k))(em:q=0->aE=ae r' (r'.length-1) ^ (r.length-r'.length+1)) :
  ∃C:Row,(∀i,Cg q (Lf aE (aO r u v) (ae bs) (aO r' u' v') i) (ld*ht ^ (r.length-r'.length)*C i))/\(q=0->∀i,(C i).natAbs<=W (r'.length-1)):=by
 have mi:¬q∣ld*ht ^ (r.length-r'.length):=dr hq I.nl (rk hq I.nh _);have l1:1<=r'.length:=by
  cases r' with
  | nil=>exact absurd rfl ne
  | cons _ _=>simp
 by_cases q0:q=0
 ·subst q0
  have e0:∀k,aE*ae r k=cv (ae bs) (ae r') k+ae ls k:=λk=>by have:=ie.mp (e k);lia
  have red:Red ((aO r' u' v' (3*r'.length)) ^ (r.length-r'.length+1)) (aO r u v) (aO r' u' v') (Lf aE (aO r u v) (ae bs) (aO r' u' v')) (r.length-r'.length):=by rw [nY l1,<-em rfl];exact MG λj hj=>cU ⋯
  have h0:∀t,r'.length-1<t->Lf aE (aO r u v) (ae bs) (aO r' u' v') (3*t)=0:=λt ht=>by
   rw [Cd];unfold up1;rw [ao ⋯]
   show aE*ae r (t-1)-cv (ae bs) (ae r') (t-1)=0;rw [e0,cU (show ls.length<=t-1 by lia)]
   lia
  have L:=λt=>UJ (I.ch rfl ne) red I.le l1 (by rw [nY l1];exact λz=>I.mh ne (by rw [z];exact dA 0)) zF h0 t
  have dvd:∀t,ld*ht ^ (r.length-r'.length)∣Lf aE (aO r u v) (ae bs) (aO r' u' v') t:=λt=>by rw [<-ES,aZ,iK,L t];exact ⟨_,rfl⟩
  refine ⟨λt=>Lf aE (aO r u v) (ae bs) (aO r' u' v') t / (ld*ht ^ (r.length-r'.length)),λt=>Cg.of_eq (Int.mul_ediv_cancel' (dvd t)).symm,λ_ t=>?_⟩;have eC:(Lf aE (aO r u v) (ae bs) (aO r' u' v') t / (ld*ht ^ (r.length-r'.length))).natAbs=S (r'.length-1) f n0 g m0 t:=by
   have p:0<(ld*ht ^ (r.length-r'.length)).natAbs:=iJ.mpr λz=>mi (by rw [z];exact dA 0)
   refine yC p ?_;rw [<-aZ,Int.mul_ediv_cancel' (dvd t),L t,aZ,iK]
  rw [eC];have rm:=I.rm;exact G.sb rfl _ _ (show r'.length-1<m0 by lia)
 ·obtain ⟨c,hc⟩:=MK hq q0 mi
  refine ⟨λi=>c*Lf aE (aO r u v) (ae bs) (aO r' u' v') i,λi=>?_,λz=>absurd z q0⟩;have:=hc.mulR (Lf aE (aO r u v) (ae bs) (aO r' u' v') i);exact ((Cg.of_eq (by grind)).trans (this.symm)).trans (Cg.of_eq (by grind))
theorem CI.next{r2 u2 v2:List Int}{h2:Int}{C:Row}(hq:au q)(I:CI q ts us f g n0 m0 W r u v r' u' v' ld ht)(G:CG q f g n0 m0 W)(ne:r'≠[])(lb:bs.length=r.length-r'.length+1)(ll:ls.length=r'.length-1)(e:∀k,Cg q (aE*ae r k) (cv (ae bs) (ae r') k+ae ls k))(nm:¬q∣aE)(em:q=0->aE=ae r' (r'.length-1) ^ (r.length-r'.length+1))
  (hC:∀i,Cg q (Lf aE (aO r u v) (ae bs) (aO r' u' v') i) (ld*ht ^ (r.length-r'.length)*C i)) (bC:q=0->∀i,(C i).natAbs<=W (r'.length-1)) (e2:∀i,Cg q (aO r2 u2 v2 i) (C i)) (b2:q≠0->∀i,(aO r2 u2 v2 i).natAbs<=1000) (l2:r2.length<=r'.length-1) (t2:r2≠[]->¬q∣ae r2 (r2.length-1))
  (eh:Cg q (ae r' (r'.length-1) ^ (r.length-r'.length)) (ht ^ (r.length-r'.length-1)*h2)) (VM:jn h2 (W r'.length)):CI q ts us f g n0 m0 W r' u' v' r2 u2 v2 (ae r' (r'.length-1)) h2:=by
 have mi:¬q∣ld*ht ^ (r.length-r'.length):=dr hq I.nl (rk hq I.nh _);have l1:1<=r'.length:=by
  cases r' with
  | nil=>exact absurd rfl ne
  | cons _ _=>simp
 have nG:=I.mh ne;have eA:∀i,Cg q (Lf aE (aO r u v) (ae bs) (aO r' u' v') i) (ld*ht ^ (r.length-r'.length)*aO r2 u2 v2 i):=λi=>(hC i).trans ((e2 i).symm.mulL _);have bT:∀i,(aO r2 u2 v2 i).natAbs<=W (r'.length-1):=λi=>by
  by_cases q0:q=0
  ·have z:=e2 i
   have z':=bC q0 i;subst q0
   rwa [mZ.mp (ie.mp z)]
  ·exact af (b2 q0 i) (G.w1 _)
 have e0:∀t,Cg q (ld*ht ^ (r.length-r'.length)*ae r2 t) (aE*ae r t-cv (ae bs) (ae r') t):=λt=>by have z:=(eA (3*(t+1))).symm;rw [pJ,Cd] at z;exact z
 have e1:∀t,Cg q (ld*ht ^ (r.length-r'.length)*ae u2 t) (aE*ae u t-cv (ae bs) (ae u') t):=λt=>by
  have z:=(eA (3*t+1)).symm;unfold Lf at z
  rwa [rl,rl,MI] at z
 have e3:∀t,Cg q (ld*ht ^ (r.length-r'.length)*ae v2 t) (aE*ae v t-cv (ae bs) (ae v') t):=λt=>by
  have z:=(eA (3*t+2)).symm;unfold Lf at z
  rwa [rp,rp,MJ] at z
 have VN:¬q∣h2:=λz=>by have:=eh.nz (b:=ht ^ (r.length-r'.length-1)*h2);exact rk hq nG (r.length-r'.length) (by obtain ⟨k,hk⟩:=z;obtain ⟨j,hj⟩:=eh;exact ⟨j+ht ^ (r.length-r'.length-1)*k,aux1 (by rw [hk] at hj;exact hj)⟩)
 have hH:q=0->h2.natAbs*ht.natAbs ^ (r.length-r'.length)=(aO r' u' v' (3*r'.length)).natAbs ^ (r.length-r'.length)*ht.natAbs:=λz=>by
  subst z;have z:=mZ.mp (ie.mp eh);have zz:=gI Int.natAbs z;rw [aZ,iK,iK] at zz;rw [nY l1,zz];by_cases g0:r.length=r'.length
  ·have h1:=I.h1 g0
   rw [h1,g0];simp
  ·obtain ⟨k,hk⟩:∃k,r.length-r'.length=k+1:=⟨r.length-r'.length-1,by have:=I.le;lia⟩
   rw [hk,show k+1-1=k by lia,fR]
   ac_rfl
 have lp:ld≠0:=λz=>I.nl (by rw [z];exact dA q)
 have hp:ht≠0:=λz=>I.nh (by rw [z];exact dA q)
 have fz:q=0->Red ((aO r' u' v' (3*r'.length)) ^ (r.length-r'.length+1)) (aO r u v) (aO r' u' v') (λi=>ld*ht ^ (r.length-r'.length)*aO r2 u2 v2 i) (r.length-r'.length):=λz=>by
  have:(λi=>ld*ht ^ (r.length-r'.length)*aO r2 u2 v2 i)=Lf aE (aO r u v) (ae bs) (aO r' u' v'):=funext λi=>by have y:=eA i;subst z;exact (mZ.mp (ie.mp y)).symm
  rw [this,nY l1,<-em z];exact MG λj hj=>cU ⋯
 have G0:aO r' u' v' (3*r'.length)≠0:=by rw [nY l1];exact λz=>nG (by rw [z];exact dA q)
 refine ⟨I.ML,λt=>zE hq mi ?_,I.mh,t2,λD d1 d2=>I.dv D ?_ d1,nG,VN,by clear hH;lia,λz=>by clear hH;lia,λz n2=>?_,λz n2=>?_,VM,by rw [<-nY (ys:=u') (zs:=v') l1];exact I.bB _,I.bB,λi=>?_,λi=>?_,by have:=I.le;have:=I.rn;lia,by have:=I.rm;lia⟩
 ·have a:=gR (k:=t) e1 (λi=>Cg.refl (ae ts i))
  have b:=gR (k:=t) e3 (λi=>Cg.refl (ae us i));rw [eK] at a b;have s1:∀(x y w:Nat->Int),cv (λi=>aE*x i-cv (ae bs) y i) w t=aE*cv x w t-cv (ae bs) (cv y w) t:=λx y w=>by
   rw [<-vH,<-eK,show (λi=>aE*x i-cv (ae bs) y i)=λi=>aE*x i+(-1)*cv (ae bs) y i from funext λi=>by lia,Cb,eK (-1),eK]
   lia
  rw [s1] at a b;have c1:=I.bz t;have c2:Cg q (cv (ae bs) (cv (ae u') (ae ts)) t+cv (ae bs) (cv (ae v') (ae us)) t) (cv (ae bs) (ae r') t):=by rw [<-Mz];exact gR (λ_=>Cg.refl _) I.ML
  refine (Cg.of_eq (jv ..)).trans ((a.add b).trans (Cg.trans ?_ (e0 t).symm));exact (Cg.of_eq (aux2 ..)).trans ((c1.mulL aE).sub c2)
 ·refine bS.made hq d1 d2 (least:=ld*ht ^ (r.length-r'.length)) (b:=ae bs) (n:=bs.length) (λi hi=>cU hi) nm λt=>?_
  have z:=(Cg.refl (q:=q) (cv (ae bs) (ae r') t)).add (e0 t);exact (Cg.of_eq (by rw [Int.add_comm,Int.sub_add_cancel])).trans z.symm
 ·have c:=UK (e:=ld*ht ^ (r.length-r'.length)) (C:=aO r2 u2 v2) (l:=r2.length) (I.ch z ne) (iJ.mpr lp) (iJ.mpr hp) (fz z) (by rw [aZ,iK]) I.le G0 zF (by clear hH;lia) zF (hH z)
  rwa [nY l1] at c
 ·have l3:1<=r2.length:=by
   cases r2 with
   | nil=>exact absurd rfl n2
   | cons _ _=>simp
  have c:=UM (e:=ld*ht ^ (r.length-r'.length)) (C:=aO r2 u2 v2) (l:=r2.length) (I.ch z ne) (iJ.mpr lp) (iJ.mpr hp) (fz z) (by rw [aZ,iK]) I.le G0 zF (by clear hH;lia) zF (hH z)
  rw [nY l3] at c;have rm:=I.rm;exact (ac _ c (by subst z;exact G.sb rfl _ _ (show r2.length<m0 by clear hH;lia)))
 ·exact af (bT i) (G.am _ _ ⋯)
 ·exact bT i
end
end My
namespace L2
open PySem PySem.Spec PyProof.Rows
theorem VO{X:Cx}:yM X .Mult (λx y H Q=>∃i j,x=.int i/\y=.int j/\BF i j/\Q (.int (i*j)) H):=by intro pins s σ H x y v u Q I r1 r2 h;intros bn10 h i j e1 e2 c q;subst e1;subst e2;obtain ⟨t,rfl⟩:=r1;obtain ⟨t',rfl⟩:=r2;exact imul_int ⟨.int _,H,I.tok _,⟨_,rfl⟩,q⟩ c.ok
end L2
namespace My
open PySem L2 Srs
variable {σ:St} {H:Hp}
theorem gS{a b:TS}{D:Ends}(h:∀R:St->Hp->Prop,(∀σ H,b D σ H->R σ H)->a {D with nx:=R} σ H):E2 a b D σ H:=h _ λ_ _ h=>h
theorem VP{te:TE}{tr:TA}{Q:List V->Hp->Prop}(h:te σ H λx H1=>tr σ H1 λys H2=>Q (x::ys) H2):eJ te tr σ H Q:=h
variable {x:Int}
theorem f_(h:x.natAbs<=10 ^ 600):aQ x:=ic h (by decide +kernel)
def Rm(q:Int)(xs:List Int):Prop:=q≠0->∀x∈xs,0<=x/\x<q
def dy(q:Int)(xs:List Int):Prop:=xs≠[]->¬q∣ae xs (xs.length-1)
variable {q:Int}
theorem VQ(h:q≠0->0<=x/\x<q)(n:x≠0):¬q∣x:=λd=>by
 by_cases q0:q=0
 ·rw [q0] at d
  exact n (ie.mp d)
 ·obtain ⟨k,hk⟩:=d
  have b:=h q0;have:k=0:=by
   rcases Int.lt_trichotomy k 0 with y | y | y
   ·have:q*k<=q*(-1):=k9 ⋯ ⋯
    lia
   ·exact y
   ·have:q*1<=q*k:=k9 ⋯ ⋯
    lia
  rw [this,cO] at hk;exact n hk
theorem MM{rs:List Int}{k:Nat}(nn:Rm q rs)(hk:k<=rs.length)(hn:0<k->ae rs (k-1)≠0)(hz:∀j,k<=j->ae rs j=0):Rm q (rs.take k)/\dy q (rs.take k)/\∀t,ae (rs.take k) t=ae rs t:=by
 have ek:∀t,ae (rs.take k) t=ae rs t:=λt=>by
  unfold ae;rw [fP,fP,List.getElem?_take];by_cases h:t<k;·rw [aq h]
  ·rw [ao h]
   have:=hz t ⋯
   unfold ae at this;rw [fP] at this;rw [this];rfl
 refine ⟨λq0 x hx=>nn q0 x (List.mem_of_mem_take hx),λne=>?_,ek⟩;have l:(rs.take k).length=k:=by rw [oO];lia
 have k1:0<k:=by rw [<-l];exact fT.mpr ne
 rw [ek,l];have hi:k-1<rs.length:=by lia
 refine VQ (λq0=>?_) (hn k1);rw [show ae rs (k-1)=rs[k-1] from getD_at hi];exact nn q0 _ (gZ hi)
variable {ts:List Int}
theorem GB{C z a:Addr}{Q:VK}{E:XK}(hz:dO C H z q)(hq:au q)(ea:H a=some (.lst (ts.map V.int)))(l:ts.length<=500)(m:∀t∈ts,aQ t)(k:∀(c:Addr) (H':Hp),ai H H'->H c=none->H' c=some (.lst ((ts.map λx=>x % q).map V.int))->Q (.ref c) H'):Mx C [.ref z,.ref a,.int 1] H Q E:=by
 refine (xL z a q ts 1 (wv (λi=>ts.getD i 0) rfl hz hq ea l m (aQ.of_lt ∅ ∅) (gD hq) (λi _=>Cg.of_eq (g8 _).symm) (λc H' rs s n e lr cg nn=>k c H' s n ?_)))
 rw [e]
 congr 3
 refine uP (by simp [lr]) λi h1 h2=>?_
 have hi:i<ts.length:=by lia
 have c1:Cg q (rs.getD i 0) (ts.getD i 0):=cg i hi;rw [getD_at h1,getD_at hi] at c1;rw [j7];by_cases q0:q=0
 ·subst q0
  rw [Int.emod_zero];exact mZ.mp (ie.mp c1)
 ·have b:=nn q0 _ (gZ h1)
  have c2:=c1.trans (jk q ts[i]).symm;have k1:=d0 ts[i] q0;have k2:=ej ts[i] (show 0<q by lia)
  obtain ⟨k,hk⟩:=c2;have:k=0:=by
   rcases Int.lt_trichotomy k 0 with y | y | y
   ·have:q*k<=q*(-1):=k9 ⋯ ⋯
    lia
   ·exact y
   ·have:q*1<=q*k:=k9 ⋯ ⋯
    lia
  rw [this] at hk;lia
def VR:Sp:=λvs H Q _=>∃(a:Addr) (ts:List Int),vs=[.ref a]/\H a=some (.lst (ts.map V.int))/\ts.length<=500 /\
 ∀(b:Addr) (H':Hp) (k:Nat),ai H H'->H b=none->k<=ts.length->(∀j,k<=j->ae ts j=0)->(0<k->ae ts (k-1)≠0)->H' b=some (.lst ((ts.take k).map V.int))->Q (.ref b) H'
def VS:Sp:=λvs H Q _=>∃(x n:Int),vs=[.int x,.int n]/\-5<=n/\n<=100/\(∀i,i<=n.toNat->(x ^ i).natAbs<=10 ^ 600)/\x.natAbs<=10 ^ 600/\Q (.int (x ^ n.toNat)) H
def VT:Sp:=λvs H Q _=>∃(a b:Addr) (ts us:List Int),vs=[.ref a,.ref b]/\H a=some (.lst (ts.map V.int))/\H b=some (.lst (us.map V.int))/\ts.length<=200/\us.length<=200 /\
 ∀(c:Addr) (H':Hp) (rs:List Int),ai H H'->H' c=some (.lst (rs.map V.int))->rs.length=max ts.length us.length->(∀t,ae rs t=ae ts t-ae us t)->Q (.ref c) H'
def MN(C0:Addr):Sp:=λvs H Q _=>∃(z a b c:Addr) (q:Int) (xs ys bs:List Int) (aE least:Int) (u:Nat->Int),vs=[.ref z,.ref a,.ref b,.ref c,.int aE,.int least]/\dO C0 H z q/\au q/\H a=some (.lst (xs.map V.int))/\H b=some (.lst (ys.map V.int))/\H c=some (.lst (bs.map V.int))/\xs.length<=50/\ys.length<=50/\bs.length<=50/\(∀x∈xs,x.natAbs<=10 ^ 600/\(aE*x).natAbs<=10 ^ 599)/\(∀y∈ys,y.natAbs<=10 ^ 600)/\(∀b∈bs,b.natAbs<=10 ^ 600)/\(∀t,(cv (ae bs) (ae ys) t).natAbs<=10 ^ 599)/\aE.natAbs<=10 ^ 600/\least.natAbs<=10 ^ 600/\¬q∣least/\(∀t,Cg q (aE*ae xs t-cv (ae bs) (ae ys) t) (least*u t)) /\
 ∀(r:Addr) (H':Hp) (rs:List Int),ai H H'->H r=none->H' r=some (.lst (rs.map V.int))->rs.length<=max xs.length (bs.length+ys.length-1)->(∀t,Cg q (ae rs t) (u t))->Rm q rs->dy q rs->Q (.ref r) H'
def VU(C0:Addr):Sp:=λvs H Q _=>∃(z a b:Addr) (q:Int) (ts us:List Int) (T U:Nat),vs=[.ref z,.ref a,.ref b]/\dO C0 H z q/\au q/\H a=some (.lst (ts.map V.int))/\H b=some (.lst (us.map V.int))/\ts.length<=100/\us.length<=100/\1<=us.length/\(∀x∈ts,x.natAbs<=T)/\(∀x∈us,x.natAbs<=U)/\1<=U/\1000<=T/\T*(2*U) ^ (ts.length+1-us.length)<=10 ^ 580/\U<=10 ^ 580/\¬q∣us.getD (us.length-1) 0/\(0<ts.length+1-us.length->¬q∣ts.getD (ts.length-1) 0) /\
 ∀(p l1 l2:Addr) (bs ls:List Int) (aE:Int) (H':Hp),ai H H'->H' p=some (.tup [.ref l1,.ref l2,.int aE])->H' l1=some (.lst (bs.map V.int))->H' l2=some (.lst (ls.map V.int))->md q ts us T U (ts.length+1-us.length) (ts.length+1-us.length) bs ls aE->(q=0->aE=us.getD (us.length-1) 0 ^ (ts.length+1-us.length))->Q (.ref p) H'
variable {xs:List Int} {B:Nat}
theorem jo(h:∀x∈xs,x.natAbs<=B)(k:Nat):(ae xs k).natAbs<=B:=by
 by_cases hk:k<xs.length
 ·rw [show ae xs k=xs[k] from getD_at hk]
  exact h _ (gZ _)
 ·rw [cU ⋯]
  exact cn _
theorem zG(f:Nat->Int)(t:Nat):cv (ae []) f t=0:=by unfold cv;rw [dt (g:=λ_=>0) λi _=>by rw [cU (cn _),gh],kJ]
theorem Ce(f:Nat->Int)(t:Nat):cv (ae [1]) f t=f t:=by
 unfold cv;rw [aT,show (λi=>ae [1] (i+1)*f (t-(i+1)))=λ_=>0 from funext λi=>by rw [cU (by simp),gh],kJ]
 show (1:Int)*f (t-0)+0=f t;rw [g8,j6,oT]
variable {W:Nat}
theorem zH{a b c:List Int}(ha:∀x∈a,x.natAbs<=W)(hb:∀x∈b,x.natAbs<=W)(hc:∀x∈c,x.natAbs<=W):∀i,(aO a b c i).natAbs<=W:=MH (λt=>by
 rw [pJ];unfold up1
 split
 ·exact cn _
 ·exact jo ha _) (λt=>by rw [rl];exact jo hb _) (λt=>by rw [rp];exact jo hc _)
variable {r v:List Int}
theorem CI.start{us u r' u' v':List Int}{W:Nat->Nat}(hq:au q)(w1:∀j,1000<=W j)(am:∀i j,i<=j->W j<=W i)(n5:r.length<=41)(le:r'.length<=r.length)(br:∀j,∀x∈r,x.natAbs<=W j)(Cf:∀j,∀x∈r',x.natAbs<=W j)(bx:∀j,(∀x∈u,x.natAbs<=W j)/\(∀x∈v,x.natAbs<=W j)/\(∀x∈u',x.natAbs<=W j)/\∀x∈v',x.natAbs<=W j)(tr:dy q r)(mh:dy q r')
  (sb:q=0->∀j t,j<r'.length->S j (aO r u v) r.length (aO r' u' v') r'.length t<=W j) (ev:q=0->(ae r' (r'.length-1)).natAbs ^ (r.length-r'.length)<=W r'.length)
  (b1:∀t,cv (ae u) (ae ts) t+cv (ae v) (ae us) t=ae r t) (b2:∀t,cv (ae u') (ae ts) t+cv (ae v') (ae us) t=ae r' t) (dv:∀D,bS q D (ae r)->bS q D (ae r')->bS q D (ae ts)/\bS q D (ae us)) :
  CI q ts us (aO r u v) (aO r' u' v') r.length r'.length W r u v r' u' v' 1 1/\CG q (aO r u v) (aO r' u' v') r.length r'.length W:=by
 have bf:=λj=>zH (br j) (bx j).1 (bx j).2.1;have bg:=λj=>zH (Cf j) (bx j).2.2.1 (bx j).2.2.2;have w0:∀j,1<=W j:=λj=>by have:=w1 j;lia
 exact ⟨⟨λt=>Cg.of_eq (b1 t),λt=>Cg.of_eq (b2 t),tr,mh,dv,gD hq,gD hq,le,λ_=>rfl,λ_ _=>UI,λq0 _=>⟨(ae r' (r'.length-1)).natAbs ^ (r.length-r'.length),by simp,ev q0⟩,w0 _,w0 _,bf _,bg _,bg _,aL _,aL _⟩,sb,le,n5,w1,am⟩
structure GC (q:Int) (ts us:List Int) (W:Nat->Nat):Prop where
 w1:∀j,1000<=W j
 am:∀i j,i<=j->W j<=W i
 bt:∀j,∀x∈ts,x.natAbs<=W j
 bu:∀j,∀x∈us,x.natAbs<=W j
 sA:ts.length<us.length->q=0->∀j t,j<ts.length->S j (aO us [] [1]) us.length (aO ts [1] []) ts.length t<=W j
 sB:us.length<=ts.length->q=0->∀j t,j<us.length->S j (aO ts [1] []) ts.length (aO us [] [1]) us.length t<=W j
 eA:ts.length<us.length->q=0->(ae ts (ts.length-1)).natAbs ^ (us.length-ts.length)<=W ts.length
 eB:us.length<=ts.length->q=0->(ae us (us.length-1)).natAbs ^ (ts.length-us.length)<=W us.length
 lim:∀n m,(n<=ts.length\/n<=us.length)->m<=n->1<=m->100*(W n*(2*W (n-1)) ^ (n-m+1))<=10 ^ 580
section
variable {q:Int} {ts us:List Int} {f g:Row} {n0 m0:Nat} {W:Nat->Nat} {r u v r' u' v':List Int} {ld ht:Int}
theorem CI.high(hq:au q)(I:CI q ts us f g n0 m0 W r u v r' u' v' ld ht)(ne:r'≠[]):∃x:Int,Cg q (ae r' (r'.length-1) ^ (r.length-r'.length)) (ht ^ (r.length-r'.length-1)*x)/\(q=0->x.natAbs<=W r'.length):=by
 have nh:=rk hq I.nh (r.length-r'.length-1);by_cases q0:q=0
 ·obtain ⟨X,e,b⟩:=I.ev q0 ne
  have d:ht ^ (r.length-r'.length-1)∣ae r' (r'.length-1) ^ (r.length-r'.length):=by rw [<-ES,iK,iK,<-e];exact ⟨X,kr _ _⟩
  obtain ⟨x,hx⟩:=d;refine ⟨x,Cg.of_eq hx,λ_=>?_⟩;have p:0<(ht ^ (r.length-r'.length-1)).natAbs:=iJ.mpr λz=>nh (by rw [z];exact dA q)
  have e2:(ht ^ (r.length-r'.length-1)).natAbs*x.natAbs=(ht ^ (r.length-r'.length-1)).natAbs*X:=by rw [<-aZ,<-hx,iK,iK,<-e,kr]
  rw [yC p e2];exact b
 ·obtain ⟨c,hc⟩:=MK hq q0 nh
  refine ⟨c*ae r' (r'.length-1) ^ (r.length-r'.length),?_,λz=>absurd z q0⟩;have:=hc.mulR (ae r' (r'.length-1) ^ (r.length-r'.length));exact (Cg.of_eq (g8 _).symm).trans (this.symm.trans (Cg.of_eq (gJ ..)))
end
def VV(C0:Addr):Sp:=λvs H Q _=>∃(z a b:Addr) (q:Int) (ts us:List Int) (W:Nat->Nat),vs=[.ref z,.ref a,.ref b]/\dO C0 H z q/\au q/\H a=some (.lst (ts.map V.int))/\H b=some (.lst (us.map V.int))/\ts.length<=41/\us.length<=41/\GC q ts us W/\dy q ts/\dy q us /\
 ∀(p l0 l1 l2:Addr) (r u v:List Int) (H':Hp),ai H H'->H' p=some (.lst [.ref l0,.ref l1,.ref l2])->H' l0=some (.lst (r.map V.int))->H' l1=some (.lst (u.map V.int))->H' l2=some (.lst (v.map V.int))->dy q r->dy q u->dy q v->(∀t,Cg q (cv (ae u) (ae ts) t+cv (ae v) (ae us) t) (ae r t))->(r=[]->ts=[]/\us=[])->bS q (ae r) (ae ts)->bS q (ae r) (ae us)->r.length<=41->u.length<=42->v.length<=42->(r.length<max ts.length us.length->u.length+r.length<=max ts.length us.length/\v.length+r.length<=max ts.length us.length)->(r≠[]->(∀x∈r,x.natAbs<=W r.length)/\(∀x∈u,x.natAbs<=W r.length)/\∀x∈v,x.natAbs<=W r.length)->Q (.ref p) H'
def kl(H:Hp)(p:Addr)(r u v:List Int):Prop:=∃l0 l1 l2:Addr,H p=some (.lst [.ref l0,.ref l1,.ref l2])/\H l0=some (.lst (r.map V.int))/\H l1=some (.lst (u.map V.int))/\H l2=some (.lst (v.map V.int))
theorem kl.mono{H':Hp}{p:Addr}{u:List Int}(h:kl H p r u v)(s:ai H H'):kl H' p r u v:=let ⟨a,b,c,e0,e1,e2,e3⟩:=h;⟨a,b,c,s _ _ e0,s _ _ e1,s _ _ e2,s _ _ e3⟩
variable {i:Nat} {Hx:Hp} {R:VK}
theorem MO{x:Addr}(hσ:σ[i]?=some (some (.ref x)))(e:Hx x=some (.lst (xs.map V.int)))(kk:∀p H',ai Hx H'->kl H' p xs [1] []->R (.ref p) H'):qE (eJ (lH i) (eJ (qE (eJ (tC (.int 1)) iu)) (eJ (qE iu) iu))) σ Hx R:=by
 refine (ad _ hσ (by show 1<=sizeLine;decide) (λl1 n1=>⟨cn _,λl2 n2=>⟨by show 3<=sizeLine;decide,λp np=>?_⟩⟩))
 have s1:=aJ (o:=.lst [.int 1]) n1;have s2:=aJ (o:=.lst []) n2;have s3:=aJ (o:=.lst [.ref x,.ref l1,.ref l2]) np;exact kk p _ (s1.trans (s2.trans s3)) ⟨x,l1,l2,az,s3 _ _ (s2 _ _ (s1 _ _ e)),s3 _ _ (s2 _ _ az),s3 _ _ az⟩
theorem MP{x:Addr}(hσ:σ[i]?=some (some (.ref x)))(e:Hx x=some (.lst (xs.map V.int)))(kk:∀p H',ai Hx H'->kl H' p xs [] [1]->R (.ref p) H'):qE (eJ (lH i) (eJ (qE iu) (eJ (qE (eJ (tC (.int 1)) iu)) iu))) σ Hx R:=by
 refine (ad _ hσ (cn _) (λl1 n1=>⟨by show 1<=sizeLine;decide,λl2 n2=>⟨by show 3<=sizeLine;decide,λp np=>?_⟩⟩))
 have s1:=aJ (o:=.lst []) n1;have s2:=aJ (o:=.lst [.int 1]) n2;have s3:=aJ (o:=.lst [.ref x,.ref l1,.ref l2]) np;exact kk p _ (s1.trans (s2.trans s3)) ⟨x,l1,l2,az,s3 _ _ (s2 _ _ (s1 _ _ e)),s3 _ _ (s2 _ _ az),s3 _ _ az⟩
theorem Ci(hq:au q)(w:1000<=W)(q0:q≠0)(h:Rm q xs):∀x∈xs,x.natAbs<=W:=λx hx=>by
 have:=h q0 x hx;rcases hq with z | ⟨_,z,_⟩;·exact absurd z q0
 ·lia
theorem GD(h:∀i,(ae xs i).natAbs<=B):∀x∈xs,x.natAbs<=B:=λx hx=>by
 obtain ⟨i,hi,rfl⟩:=ig hx;have:=h i
 rwa [show ae xs i=xs[i] from getD_at hi] at this
section
variable {q:Int} {ts us:List Int} {f g:Row} {n0 m0:Nat} {W:Nat->Nat} {r u v r' u' v':List Int} {ld ht:Int} {B:Nat}
theorem GF(h:∀i,(aO r u v i).natAbs<=B):(∀x∈r,x.natAbs<=B)/\(∀x∈u,x.natAbs<=B)/\∀x∈v,x.natAbs<=B:=
 ⟨GD λi=>by have:=h (3*(i+1));rw [pJ] at this;exact this,GD λi=>by have:=h (3*i+1);rwa [rl] at this,GD λi=>by have:=h (3*i+2);rwa [rp] at this⟩
end
theorem VW{bs ys:List Int}(h:∀x∈bs,∀y∈ys,(x*y).natAbs<=B)(t:Nat):(cv (ae bs) (ae ys) t).natAbs<=bs.length*B:=by
 rw [<-pH (n:=bs.length) (m:=ys.length) (λi hi=>cU hi) (λi hi=>cU hi)];unfold a_;refine Ml _ _ λi hi=>?_;rw [kM]
 split
 ·rename_i h2
  show (ae bs i*ae ys (t-i)).natAbs<=B;rw [show ae bs i=bs[i] from getD_at hi,show ae ys (t-i)=ys[t-i]'(⋯) from getD_at ⋯]
  exact h _ (gZ _) _ (gZ _)
 ·exact cn _
variable {r' u' K:Nat}
theorem MQ{u2 u r bs:Nat}(h:u2<=max u (bs+u'-1))(b:bs=r-r'+1)(le:r'<=r)(h1:u+r'<=K)(h2:u'+r<=K):u2+r'<=K:=by lia
theorem MR{r2 r:Nat}(l:r2<r')(le:r'<=r)(h2:u'+r<=K):u'+r2<=K:=by lia
theorem mj:10 ^ 580<=10 ^ 600:=dD ∅ ∅
structure fb (T U d:Nat):Prop where
 t:1000<=T
 tu:T<=U
 l:100*(T*(2*U) ^ (d+1))<=10 ^ 580
section
variable {T U d:Nat}
theorem fb.a(S:fb T U d):T*(2*U) ^ (d+1)<=10 ^ 580:=af (iL _ ∅) S.l
theorem fb.pw(S:fb T U d)(h:i<=d+1):(2*U) ^ i<=(2*U) ^ (d+1):=dD (by have:=S.t;have:=S.tu;lia) h
theorem fb.p(S:fb T U d):(2*U) ^ (d+1)<=10 ^ 580:=af (iL _ (by have:=S.t;lia)) S.a
theorem fb.u(S:fb T U d):U<=10 ^ 580:=af ⋯ (af (af (jX (uI (2*U)).symm) (S.pw (i:=1) ⋯)) S.p)
theorem fb.to(S:fb T U d):T<=10 ^ 580:=af S.tu S.u
theorem fb.pow(S:fb T U d)(h:x.natAbs<=U)(hi:i<=d+1):(x ^ i).natAbs<=10 ^ 580:=by rw [iK];exact af (Nat.pow_le_pow_left (af h ⋯) i) (af (S.pw hi) S.p)
theorem fb.lead(S:fb T U d){y:Int}(h:x.natAbs<=T)(hy:y.natAbs<=U):(x*y ^ d).natAbs<=10 ^ 580:=by rw [aZ,iK];exact af (bN h (af (Nat.pow_le_pow_left (af hy (show U<=2*U by lia)) d) (S.pw ⋯))) S.a
variable {m:Int}
theorem fb.aE(S:fb T U d)(h:m.natAbs<=1000*(2*U) ^ (d+1)):m.natAbs<=10 ^ 600:=af h (af (dJ 1000 S.p) (by decide +kernel))
theorem fb.mx(S:fb T U d)(h:m.natAbs<=1000*(2*U) ^ (d+1))(hx:x.natAbs<=T):(m*x).natAbs<=10 ^ 599:=by rw [aZ];refine af (bN h hx) ?_;rw [lC,kr _ T];exact af (dJ 1000 S.a) (by decide +kernel)
theorem fb.cv(S:fb T U d){bs ys:List Int}(l:bs.length<=50)(hb:∀x∈bs,x.natAbs*(2*U)<=T*(2*U) ^ (d+1))(hy:∀y∈ys,y.natAbs<=U)(t:Nat):(cv (ae bs) (ae ys) t).natAbs<=10 ^ 599:=by
 refine af (VW (B:=10 ^ 580) (λx hx y h=>?_) t) (af (gK _ l) (by decide +kernel))
 rw [aZ];exact af (dJ _ (af (hy y h) (show U<=2*U by lia))) (af (hb x hx) S.a)
theorem fb.bs(S:fb T U d)(h:x.natAbs*(2*U)<=T*(2*U) ^ (d+1)):x.natAbs<=10 ^ 600:=af (fS _ (by have:=S.t;have:=S.tu;lia)) (af h (af S.a (dD ∅ ∅)))
end
section
variable {q:Int} {ts us:List Int} {f g:Row} {n0 m0:Nat} {W:Nat->Nat} {r u v r' u' v':List Int} {ld ht:Int}
theorem CI.VX(I:CI q ts us f g n0 m0 W r u v r' u' v' ld ht)(G:CG q f g n0 m0 W)(L:∀n m,n<=n0->m<=n->1<=m->100*(W n*(2*W (n-1)) ^ (n-m+1))<=10 ^ 580)(ne:r'≠[]):fb (W r.length) (W (r.length-1)) (r.length-r'.length):=
 ⟨G.w1 _,G.am _ _ ⋯,L _ _ I.rn I.le (fT.mpr ne)⟩
theorem CI.hU(I:CI q ts us f g n0 m0 W r u v r' u' v' ld ht)(G:CG q f g n0 m0 W):ht.natAbs<=W (r.length-1):=af I.bh (G.am _ _ ⋯)
theorem VY{r2 u2 v2:List Int}{C:Row}(hq:au q){least:Int}(nl:¬q∣least)(h0:Cg q 0 (least*C 0))(e0:∀t,Cg q (ae r2 t) (C (3*(t+1))))(e1:∀t,Cg q (ae u2 t) (C (3*t+1)))(e2:∀t,Cg q (ae v2 t) (C (3*t+2))):∀i,Cg q (aO r2 u2 v2 i) (C i):=
 MH (λt=>by
  rw [pJ];unfold up1;by_cases z:t=0
  ·rw [aq z,z]
   exact zE hq nl ((Cg.of_eq (cO _)).trans h0)
  ·rw [ao z]
   have:=e0 (t-1)
   rwa [show t-1+1=t by lia] at this) (λt=>by rw [rl];exact e1 t) (λt=>by rw [rp];exact e2 t)
variable {t:Nat}
theorem VZ{aE:Int}{bs:List Int}:Lf aE (aO r u v) (ae bs) (aO r' u' v') (3*t+1)=aE*ae u t-cv (ae bs) (ae u') t:=by unfold Lf;rw [rl,MI]
theorem V0{aE:Int}{bs:List Int}:Lf aE (aO r u v) (ae bs) (aO r' u' v') (3*t+2)=aE*ae v t-cv (ae bs) (ae v') t:=by unfold Lf;rw [rp,MJ]
theorem V1{aE:Int}{bs:List Int}:Lf aE (aO r u v) (ae bs) (aO r' u' v') 0=0:=Cd (t:=0)
theorem md.fin{T U k:Nat}{bs ls:List Int}{aE:Int}(I:md q r r' T U k k bs ls aE)(t:Nat):Cg q (aE*ae r t) (cv (ae bs) (ae r') t+ae ls t):=by
 have e:=I.eq t;rw [k_,B6] at e;have lb:=I.lb;rw [<-lb] at e
 rwa [show a_ bs.length r'.length (λj=>bs.getD j 0) (λj=>r'.getD j 0) t=cv (ae bs) (ae r') t from pH (n:=bs.length) (m:=r'.length) (λi hi=>cU hi) (λi hi=>cU hi) t] at e
end
def V2:Sp:=λvs H Q _=>∃(a:Addr) (ps:aC) (B:Nat) (D:Int),vs=[.ref a]/\aD B H 0 a ps/\ps.length<=100/\aP 0 D/\(∀p∈ps,p.2∣D)/\B<=10 ^ 300/\D.natAbs<=10 ^ 300/\∀(v:V) (H':Hp) (ts:List Int) (b:Int),ai H H'->LM H H' v ts b->Mg 0 ps ts b D B->Q v H'
def V3(C:Addr):Sp:=λvs H Q _=>∃(z a:Addr) (q:Int) (ps:aC) (B:Nat) (D:Int),vs=[.ref z,.ref a]/\dO C H z q/\au q/\aD B H q a ps/\ps.length<=100/\aP q D/\(∀p∈ps,p.2∣D)/\B<=10 ^ 300/\1000<=B/\D.natAbs<=10 ^ 300/\∀(v:V) (H':Hp) (ts:List Int) (b:Int),ai H H'->LM H H' v ts b->Mg q ps ts b D B->Q v H'
theorem MT(h:x.natAbs<=10 ^ 300):aQ x:=ic h (by decide +kernel)
structure MU (q:Int) (ps rs:aC) (D1 D2:Int) (f g:Nat->Int) (W V:Nat) (Z:Nat->Nat):Prop where
 lp:ps.length<=50
 lr:rs.length<=50
 kP:aP q D1
 gC:aP q D2
 Cj:∀p∈ps,p.2∣D1
 Ck:∀p∈rs,p.2∣D2
 w1:∀i,ar q (ps.getD i o1) (f i,D1)
 w2:∀i,ar q (rs.getD i o1) (g i,D2)
 t1:∀i,(f i).natAbs<=W
 u2:∀i,(g i).natAbs<=W
 u3:q=0->∀i,(g i).natAbs<=V
 hW:1000<=W
 d1:D1.natAbs<=W
 d2:D2.natAbs<=W
 c1:(aF ps).length<=41
 c2:(aF rs).length<=41
 lim:∀ts us:List Int,ts.length=(aF ps).length->us.length=(aF rs).length->(∀x∈ts,x.natAbs<=W)->(∀x∈us,x.natAbs<=W)->(q=0->∀x∈us,x.natAbs<=V)->GC q ts us Z
 big:Z 1*W<=10 ^ 290
 zw:1<=Z 1/\W<=10 ^ 290
theorem V4{t b f D:Int}{p:Int×Int}{T:Nat}(hc:Canon 0 p)(e:t*p.2=p.1*b)(ok:aP 0 b)(cT:aP 0 D)(db:b∣D)(w:ar 0 p (f,D))(bf:f.natAbs<=T):t.natAbs<=T:=by
 have hp:=(hc.bot).1 rfl;have hb:=ok.1 rfl;have hD:=cT.1 rfl;obtain ⟨k,ek⟩:=w;have e2:p.1*D=f*p.2:=by dsimp only at ek;omega
 have e3:t*D=f*b:=by
  have:(t*D)*p.2=(f*b)*p.2:=by rw [uQ,e,uQ,e2,uQ]
  exact EN (show p.2≠0 by lia) this
 have e4:t.natAbs*D.natAbs=f.natAbs*b.natAbs:=by rw [<-aZ,e3,aZ]
 have e5:b.natAbs<=D.natAbs:=ki db ⋯
 have e6:t.natAbs*D.natAbs<=f.natAbs*D.natAbs:=by rw [e4];exact dJ _ e5
 exact af (EL e6 ⋯) bf
structure dg (q:Int) (ps rs gs us vs:aC) (ts ws r u v:List Int) (b1 b2 ld:Int):Prop where
 k1:aP q b1
 k2:aP q b2
 p1:∀k,ar q (ps.getD k o1) (ae ts k,b1)
 p2:∀k,ar q (rs.getD k o1) (ae ws k,b2)
 nl:¬q∣ld
 hg:∀k,k<gs.length->ar q (gs.getD k My.o1) (ae r k*1,ld)
 hu:∀k,k<us.length->ar q (us.getD k My.o1) (ae u k*b1,ld)
 hv:∀k,k<vs.length->ar q (vs.getD k My.o1) (ae v k*b2,ld)
 lg:gs.length=r.length
 lu:us.length=u.length
 lv:vs.length=v.length
 bz:∀t,Cg q (cv (ae u) (ae ts) t+cv (ae v) (ae ws) t) (ae r t)
 d1:bS q (ae r) (ae ts)
 d2:bS q (ae r) (ae ws)
 nil:gs=[]->aF ps=[]/\aF rs=[]/\us=[]/\vs=[]
 lead:r≠[]->ld=ae r (r.length-1)
 tr:dy q r
def V5(C:Addr):Sp:=λvs H Q _=>∃(z a b:Addr) (q:Int) (ps rs:aC) (D1 D2:Int) (f g:Nat->Int) (W V:Nat) (Z:Nat->Nat),vs=[.ref z,.ref a,.ref b]/\dO C H z q/\au q/\aD (10 ^ 290) H q a ps/\aD (10 ^ 290) H q b rs/\MU q ps rs D1 D2 f g W V Z /\
 ∀(p l0 l1 l2:Addr) (gs us vs:aC) (ts ws r u v:List Int) (b1 b2 ld:Int) (H':Hp),ai H H'->H' p=some (.tup [.ref l0,.ref l1,.ref l2])->H l0=none->H l1=none->H l2=none->l0≠l1->l0≠l2->l1≠l2->aD B2 H' q l0 gs->aD B2 H' q l1 us->aD B2 H' q l2 vs->aF gs=gs->aF us=us->aF vs=vs->gs.length<=50->us.length<=50->vs.length<=50->(r.length<max (aF ps).length (aF rs).length->u.length+r.length<=max (aF ps).length (aF rs).length/\v.length+r.length<=max (aF ps).length (aF rs).length)->
  (∀x∈r,x.natAbs<=Z r.length)->(∀x∈u,x.natAbs<=Z 1)->(∀x∈v,x.natAbs<=Z 1)->(∀x∈ts,x.natAbs<=W)->(∀x∈ws,x.natAbs<=W)->b1.natAbs<=W->b2.natAbs<=W->ld.natAbs<=Z 1->dg q ps rs gs us vs ts ws r u v b1 b2 ld->Q (.ref p) H'
theorem GG{a:Addr}(e:H a=some (.lst [])):aD B H q a []:=(ad [] e rfl (λi v p h=>by simp at h))
end My
namespace Srs
def iB(w:Row->Nat):List Row->Nat
 | []=>1
 | r::rs=>w r*iB w rs
theorem Cm(w:Row->Nat):∀a b,iB w (a++b)=iB w a*iB w b
 | [],b=>by simp [iB]
 | x::a,b=>by rw [jw,iB,iB,Cm w a b,lC]
theorem GH{w:Row->Nat}{B:Nat}:∀rs,(∀r∈rs,w r<=B)->iB w rs<=B ^ rs.length
 | [],_=>aL _
 | r::rs,h=>by rw [iB,fC,fR,kr];exact bN (GH rs λs hs=>h s (i6 _ hs)) (h r mQ)
theorem MV{c L B:Nat}{w:Row->Nat}{F:List Row->Int}(hF:∀rows,rows.length=L->(∀r∈rows,∀i,(r i).natAbs<=w r)->(F rows).natAbs<=B*iB w rows):∀(rows pre:List Row),pre.length+rows.length=L+1->(∀r∈pre,∀i,(r i).natAbs<=w r)->(∀r∈rows,∀i,(r i).natAbs<=w r)->(dR c F pre rows).natAbs<=rows.length*(B*iB w (pre++rows))
 | [],pre,_,_,_=>by simp [dR]
 | r::post,pre,hl,hp,hr=>by
  have h1:=hF (pre++post) (by simp at hl ⊢;lia) λs hs=>by
   rcases i7.mp hs with h | h;·exact hp s h
   ·exact hr s (i6 _ h)
  have h2:=MV (c:=c) hF post (pre++[r]) (by simp at hl ⊢;lia) (λs hs=>by
   rcases i7.mp hs with h | h;·exact hp s h
   ·rw [jZ.mp h];exact hr r mQ) λs hs=>hr s (i6 _ hs)
  have h3:=bN (hr r mQ c) h1;have h4:=Int.natAbs_sub_le (r c*F (pre++post)) (dR c F (pre++[r]) post);rw [aZ] at h4;have e1:pre++[r]++post=pre++r::post:=by simp
  have e2:w r*(B*iB w (pre++post))=B*iB w (pre++r::post):=by
   rw [Cm,Cm,iB]
   ac_rfl
  rw [e1] at h2;rw [e2] at h3;rw [dR,fC,Nat.succ_mul];lia
theorem MW{w:Row->Nat}:∀(cs:List Nat) (rows:List Row),cs.length=rows.length->(∀r∈rows,∀i,(r i).natAbs<=w r)->(det cs rows).natAbs<=kR cs.length*iB w rows
 | [],[],_,_=>by simp [det,kR,iB]
 | [],_::_,h,_=>by simp at h
 | c::cs,rows,h,hr=>by
  have:=MV (c:=c) (L:=cs.length) (w:=w) (λrs hl hb=>MW cs rs hl.symm hb) rows [] (by simp at h ⊢;lia) (λ_ z=>nomatch z) hr
  show (dR c (det cs) [] rows).natAbs<=_;refine af this (jX ?_);rw [<-h,fC,kR,gg,lC]
open Classical in
theorem V6{f g:Row}{n m j t W:Nat}(hf:∀i,(f i).natAbs<=1)(hg:∀i,(g i).natAbs<=W)(w1:1<=W)(hj:j<m)(mn:m<=n):S j f n g m t<=kR (n+m-2*j)*W ^ (n-j):=by
 have l:(cols (n+m-j-1) (n+m-2*j-1)++[t]).length=n+m-2*j:=by rw [kq,MC];simp;lia
 let w:Row->Nat:=λr=>if ∃k,r=sh k f then 1 else W
 have hw:∀r,w r<=W:=λr=>by
  show (if _ then 1 else W)<=W
  split
  ·exact w1
  ·exact aL _
 have:=MW (w:=w) (cols (n+m-j-1) (n+m-2*j-1)++[t]) (cK f (m-j)++cK g (n-j)) (by rw [l,kq,zD,zD];lia) λr hr i=>by
  show (r i).natAbs<=if _ then 1 else W
  split
  ·rename_i h
   obtain ⟨k,rfl⟩:=h;exact MD hf i
  ·rename_i h
   rcases i7.mp hr with h' | h'
   ·obtain ⟨k,_,e⟩:=pD.mp h'
    exact absurd ⟨k,e⟩ h
   ·obtain ⟨k,_,rfl⟩:=pD.mp h';exact MD hg i
 rw [l] at this;refine af this (dJ _ ?_);rw [Cm];have a1:=GH (w:=w) (B:=1) (cK f (m-j)) λr hr=>by
  obtain ⟨k,_,e⟩:=pD.mp hr;show (if _ then 1 else W)<=1
  rw [aq ⟨k,e⟩];exact aL _
 have a2:=GH (w:=w) (B:=W) (cK g (n-j)) λr _=>hw r;rw [zD,Nat.one_pow] at a1;rw [zD] at a2;exact af (bN a1 a2) (jX (Nat.one_mul _))
theorem MX{a b:Nat}(h:a<=b):kR a<=kR b:=by
 induction b with
 | zero=>rw [Nat.le_zero.mp h];exact aL _
 | succ b ih=>
  by_cases e:a=b+1;·rw [e];exact aL _
  ·exact af (ih ⋯) (by rw [kR];exact iL _ ⋯)
theorem Cn:∀a,1<=kR a
 | 0=>aL _
 | a+1=>by rw [kR];exact af (Cn a) (iL _ ⋯)
end Srs
namespace My
open PySem L2 Srs
def Zt(q:Int)(n W j:Nat):Nat:=if q=0 then kR (2*n+1-2*j)*W ^ (max 1 (n+1-j)) else 1000
def MY(n W:Nat):Bool:=(List.range (n+2)).all λa=>(List.range (a+1)).all λm=>m == 0 || decide (100*(Zt 0 n W a*(2*Zt 0 n W (a-1)) ^ (a-m+1))<=10 ^ 580)
structure rq (q:Int) (n W:Nat):Prop where
 w:1000<=W
 n1:1<=n
 cI:n<=40
 lim:q=0->MY n W=true
variable {q:Int} {n W:Nat}
theorem kS(s:rq q n W)(j:Nat):1000<=Zt q n W j:=by
 unfold Zt
 split
 ·have h:=s.w
  have h1:W ^ 1<=W ^ (max 1 (n+1-j)):=dD ⋯ ⋯
  have h2:=Cn (2*n+1-2*j);have h3:=bN h2 h1;rw [uI] at h3;lia
 ·exact aL _
theorem Co(s:rq q n W)(i j:Nat)(h:i<=j):Zt q n W j<=Zt q n W i:=by
 unfold Zt
 split
 ·exact bN (MX ⋯) (dD (by have:=s.w;lia) ⋯)
 ·exact aL _
theorem V7(s:rq q n W)(z:q=0)(j:Nat):W<=Zt q n W j:=by
 unfold Zt;rw [aq z];have h:=s.w;have h1:W ^ 1<=W ^ (max 1 (n+1-j)):=dD ⋯ ⋯
 have h3:=bN (Cn (2*n+1-2*j)) h1;rw [uI] at h3;lia
variable {m:Nat}
theorem rq.pw(s:rq q n W){a:Nat}(ha:a<=n+1)(h:m<=a)(m1:1<=m):100*(Zt q n W a*(2*Zt q n W (a-1)) ^ (a-m+1))<=10 ^ 580:=by
 by_cases z:q=0
 ·subst z
  have h1:=yy.mp (s.lim rfl) a (List.mem_range.mpr ⋯)
  have h2:=yy.mp h1 m (List.mem_range.mpr ⋯)
  rcases Bool.or_eq_true_iff.mp h2 with z | z
  ·have:=k7.mp z
   lia
  ·exact dM z
 ·unfold Zt
  rw [ao z,ao z];have:=s.cI;exact af (dJ _ (dJ _ (dD ∅ (show a-m+1<=42 by lia)))) (by decide +kernel)
variable {ts:List Int}
theorem V8(hq:au q)(s:rq q n W){us:List Int}(lt:ts.length<=n)(lu:us.length=n+1)(bt:∀x∈ts,x.natAbs<=W)(V9:q≠0->∀x∈ts,x.natAbs<=1000)(GI:q≠0->∀x∈us,x.natAbs<=1000)(bu:q=0->∀x∈us,x.natAbs<=1):GC q ts us (Zt q n W):=by
 have w1:1<=W:=by have:=s.w;lia
 refine ⟨kS s,Co s,λj x hx=>?_,λj x hx=>?_,λ_ z j t hj=>?_,λh=>by lia,λ_ z=>?_,λh=>by lia,λa m ha h1 h2=>s.pw ⋯ h1 h2⟩
 ·by_cases z:q=0
  ·exact af (bt x hx) (V7 s z j)
  ·exact af (V9 z x hx) (kS s j)
 ·by_cases z:q=0
  ·exact af (bu z x hx) (af ∅ (kS s j))
  ·exact af (GI z x hx) (kS s j)
 ·have b:=V6 (f:=aO us [] [1]) (n:=us.length) (g:=aO ts [1] []) (m:=ts.length) (j:=j) (t:=t) (zH (bu z) (λx h=>nomatch h) λx h=>by rw [jZ.mp h];decide) (zH bt (λx h=>by rw [jZ.mp h];exact w1) λx h=>nomatch h) w1 hj ⋯
  refine af b ?_;unfold Zt;rw [aq z];exact bN (MX ⋯) (dD w1 ⋯)
 ·have b:=Nat.pow_le_pow_left (jo bt (ts.length-1)) (us.length-ts.length)
  refine af b ?_;unfold Zt;rw [aq z];exact af (dD w1 ⋯) (iL _ (Cn _))
section
variable {q:Int}
theorem GJ:∀(n:Nat) (F:Nat->Int),(∀j,j<n->q∣F j)->q∣aT n F
 | 0,_,_=>dA q
 | n+1,F,h=>by rw [iA];exact Int.dvd_add (GJ n F λj hj=>h j ⋯) (h n ⋯)
theorem MZ:∀(k n:Nat) (F:Nat->Int),n<k->(∀j,j<k->j≠n->q∣F j)->Cg q (aT k F) (F n)
 | 0,_,_,h,_=>absurd h (mU _)
 | k+1,n,F,h,z=>by
  rw [iA];by_cases e:n=k
  ·subst e
   have:=GJ (q:=q) n F λj hj=>z j ⋯ ⋯
   obtain ⟨c,hc⟩:=this;exact ⟨c,⋯⟩
  ·have a:=MZ k n F ⋯ λj hj=>z j ⋯
   obtain ⟨c,hc⟩:=z k ⋯ ⋯
   obtain ⟨d,hd⟩:=a;exact ⟨d+c,by rw [jv];lia⟩
theorem rz{r:List Int}{X:Nat->Int}(hq:au q)(ne:r≠[])(tr:dy q r)(hX:bS q (ae r) X)(sh:∀t,r.length-1<=t->q∣X t)(t:Nat):q∣X t:=by
 intros bn13 hX c w N nc hw e;have l1:=fT.mpr ne;have all:∀n,(∀i,n<=i->q∣w i)->∀i,q∣w i:=λn=>by
  induction n with
  | zero=>exact λh i=>h i (cn _)
  | succ n ih=>
   refine λh=>ih λi hi=>?_;by_cases z:i=n
   ·subst z
    have e1:=e (i+(r.length-1));have x0:q∣c*X (i+(r.length-1)):=j4 (sh _ ⋯) (uH _ _)
    have s1:Cg q (cv w (ae r) (i+(r.length-1))) (w i*ae r (r.length-1)):=by
     unfold cv;refine (MZ (q:=q) _ i _ ⋯ λj hj hn=>?_).trans (Cg.of_eq ?_)
     ·by_cases g:i<j
      ·exact j4 (h j g) (yA _ _)
      ·rw [cU ⋯,cO]
       exact dA q
     ·rw [show i+(r.length-1)-i=r.length-1 by lia]
    obtain ⟨d,hd⟩:=e1.trans s1;obtain ⟨k,hk⟩:=x0;refine qk λnw=>dr hq nw (tr ne) ⟨k-d,?_⟩;rw [mY];lia
   ·exact h i ⋯
 have w0:=all N λi hi=>by rw [hw i hi];exact dA q
 have c0:q∣cv w (ae r) t:=GJ _ _ λj _=>j4 (w0 j) (yA _ _);obtain ⟨d,hd⟩:=e t;obtain ⟨k,hk⟩:=c0;refine qk λnx=>dr hq nc nx ⟨d+k,?_⟩;rw [jv];lia
end
def tp(n:Nat):Nat->Int:=λi=>(if i=n then 1 else 0)+if i=0 then -1 else 0
def dl(E:Int):Nat->Int:=λi=>if i=0 then E else 0
theorem vI(c:Int)(st:Nat)(g:Nat->Int)(t:Nat):cv (λi=>if i=st then c else 0) g t=if st<=t then c*g (t-st) else 0:=by
 unfold cv;rw [dt (g:=λi=>if i=st then c*g (t-st) else 0) λi _=>by
  dsimp only;by_cases e:i=st;·rw [aq e,aq e,e]
  ·rw [ao e,ao e,gh]]
 by_cases h:st<=t
 ·rw [aq h]
  exact L3 (t+1) st (λ_=>c*g (t-st)) ⋯
 ·rw [ao h,dt (g:=λ_=>0) λi hi=>ao ⋯,kJ]
theorem zI(n:Nat)(w:Nat->Int)(t:Nat):cv w (tp n) t=(if n<=t then w (t-n) else 0)-w t:=by
 rw [vG];show cv (λi=>(if i=n then 1 else 0)+if i=0 then -1 else 0) w t=_
 rw [Cb,vI,vI,aq (cn t),oT,g8];lia
theorem V_(E:Int)(g:Nat->Int)(t:Nat):cv (dl E) g t=E*g t:=by
 show cv (λi=>if i=0 then E else 0) g t=_
 rw [vI,aq (cn t),oT]
def fM(N:Nat)(f:Nat->Int):Prop:=∀i,N<=i->f i=0
theorem GK(E:Int):fM 1 (dl E):=λi hi=>ao ⋯
variable {f g:Nat->Int}
theorem vJ{N M:Nat}(hf:fM N f)(hg:fM M g):fM (N+M) (cv f g):=λ_ hi=>MB hf hg hi
def Mo(q:Int)(n:Nat)(h h':Nat->Int):Prop:=∃(c:Int) (w:Nat->Int) (N:Nat),¬q∣c/\fM N w/\∀t,Cg q (c*h t) (c*h' t+cv w (tp n) t)
theorem Wa(c d g x y:Int):c*(d*g+y)+d*x=c*d*g+(d*x+c*y):=by grind
section
variable {q:Int} {n:Nat} {h h' g f:Nat->Int}
theorem Mo.pK(hq:au q)(e:∀t,Cg q (h t) (h' t)):Mo q n h h':=⟨1,λ_=>0,0,gD hq,λ_ _=>rfl,λt=>((e t).mulL 1).trans (Cg.of_eq (by
 rw [zI]
 split <;> lia))⟩
theorem Mo.symm(e:Mo q n h h'):Mo q n h' h:=by
 intros bn13 e c w N nc l e;refine ⟨c,λi=>-1*w i,N,nc,λi hi=>by show -1*w i=0;rw [l i hi];rfl,λt=>?_⟩
 rw [eK];have:=(e t).symm.sub (Cg.refl (q:=q) (cv w (tp n) t));rw [Int.add_sub_cancel] at this;exact this.trans (Cg.of_eq ⋯)
theorem Mo.trans(hq:au q)(e:Mo q n h h')(e':Mo q n h' g):Mo q n h g:=by
 intros bn13 e c w N nc l e;intros bn13 e' d w' N' nd l' e';refine ⟨c*d,λi=>d*w i+c*w' i,N+N',dr hq nc nd,λi hi=>by show d*w i+c*w' i=0;rw [l i ⋯,l' i ⋯,cO,cO];rfl,λt=>?_⟩
 rw [Cb,eK,eK];have a:=(e t).mulL d;have b:=((e' t).mulL c).add (Cg.refl (q:=q) (d*cv w (tp n) t));refine Cg.trans (Cg.of_eq ?_) (a.trans (Cg.trans (Cg.of_eq ?_) (b.trans (Cg.of_eq (Wa ..)))));·grind
 ·grind
variable {N:Nat}
theorem Mo.GL(e:Mo q n h h')(lg:fM N g):Mo q n (cv g h) (cv g h'):=by intros bn13 e c w M nc l e;refine ⟨c,cv g w,N+M,nc,vJ lg l,λt=>?_⟩;rw [vH,<-kj,<-kj,<-Mz];exact gR (λ_=>Cg.refl _) e
theorem vK(f g:Nat->Int):cv f g=cv g f:=funext λt=>vG _ _ t
theorem GN(f g h:Nat->Int):cv (cv f g) h=cv f (cv g h):=funext λt=>vH f g h t
theorem Mo.rA(e:Mo q n h h')(lg:fM N g):Mo q n (cv h g) (cv h' g):=by rw [vK h g,vK h' g];exact e.GL lg
theorem vL(c:Int)(h:Nat->Int):cv (dl c) h=λt=>c*h t:=funext λt=>V_ c h t
theorem Mo.mul(c:Int)(e:Mo q n h h'):Mo q n (λt=>c*h t) (λt=>c*h' t):=by
 have:=e.GL (GK c)
 rwa [vL,vL] at this
theorem Mo.cancel(hq:au q){k:Int}(nk:¬q∣k)(e:Mo q n (λt=>k*h t) (λt=>k*h' t)):Mo q n h h':=by intros bn13 e c w N nc l e;refine ⟨c*k,w,N,dr hq nc nk,l,λt=>?_⟩;rw [gJ,gJ];exact e t
theorem Mo.uniq(hq:au q)(n1:1<=n)(e:Mo q n h h')(l1:∀t,n<=t->q∣h t)(l2:∀t,n<=t->q∣h' t)(t:Nat):Cg q (h t) (h' t):=by
 intros bn13 e c w N nc l e;have l1:∀t,n<=t->q∣c*h t:=λt ht=>j4 (l1 t ht) (uH ..);have l2:∀t,n<=t->q∣c*h' t:=λt ht=>j4 (l2 t ht) (uH ..);refine zE hq nc ?_;have all:∀M,(∀i,M<=i->q∣w i)->∀i,q∣w i:=λM=>by
  induction M with
  | zero=>exact λh i=>h i (cn _)
  | succ M ih=>
   refine λhM=>ih λi hi=>?_;by_cases z:i=M
   ·subst z
    have e1:=e (i+n);rw [zI,aq ⋯,oU] at e1
    obtain ⟨a,ha⟩:=hM (i+n) ⋯
    obtain ⟨b,hb⟩:=l1 (i+n) ⋯
    obtain ⟨d,hd⟩:=l2 (i+n) ⋯
    obtain ⟨x,hx⟩:=e1;rw [ha,hb,hd] at hx;refine ⟨b-d+a-x,?_⟩;rw [mY,jv,mY];lia
   ·exact hM i ⋯
 have w0:=all N λi hi=>by rw [l i hi];exact dA q
 have et:=e t;rw [zI] at et;obtain ⟨a,ha⟩:=w0 t;obtain ⟨b,hb⟩:=w0 (t-n);obtain ⟨d,hd⟩:=et
 split at hd
 ·refine ⟨d+b-a,?_⟩
  rw [mY,jv];lia
 ·refine ⟨d-a,?_⟩
  rw [mY];lia
def wr(n:Nat)(h:Nat->Int):Nat->Int:=λt=>if t<n then h t+h (t+n) else 0
theorem zJ(n:Nat)(h:Nat->Int):fM n (wr n h):=λi hi=>ao ⋯
theorem GO(hq:au q)(l:fM (2*n) h):Mo q n (wr n h) h:=by
 refine ⟨1,λt=>-h (t+n),2*n,gD hq,λi hi=>by show -h (i+n)=0;rw [l _ ⋯];rfl,λt=>Cg.of_eq ?_⟩
 rw [zI];unfold wr;by_cases z:t<n
 ·rw [aq z,ao ⋯]
  lia
 ·rw [ao z,aq ⋯,show t-n+n=t by lia,l (t+n) ⋯]
  lia
variable {D X:Nat->Int}
theorem bS.rA{G:Nat->Int}(hX:bS q D X)(lg:fM N G):bS q D (cv X G):=by intros bn13 hX c w M nc lw e;refine ⟨c,cv G w,N+M,nc,vJ lg lw,λt=>?_⟩;rw [vG X G,<-kj,vH];exact gR (λ_=>Cg.refl _) e
theorem bS.mo{Y:Nat->Int}(hq:au q)(hX:bS q D X)(ht:bS q D (tp n))(e:Mo q n Y X):bS q D Y:=by intros bn13 e c w N nc l e;refine bS.made hq ht hX (aE:=c) (least:=c) (b:=w) (n:=N) l nc λt=>?_;rw [Int.add_comm];exact e t
theorem Wb{r:List Int}{E:Int}(hq:au q)(l2:2<=r.length)(tr:dy q r)(d1:bS q (ae r) f)(d2:bS q (ae r) (tp n))(lg:fM N g)(nE:¬q∣E)(e:Mo q n (cv f g) (dl E)):False:=by
 have d3:=bS.mo hq (d1.rA lg) d2 e.symm;have z:=rz hq (λz=>by rw [z] at l2;exact absurd l2 ∅) tr d3 (λt ht=>by
  show q∣(if t=0 then E else 0)
  rw [ao ⋯]
  exact dA q) 0
 exact nE z
end
def Inv(q:Int)(n:Nat)(f:Nat->Int):Prop:=∃(G:Nat->Int) (E:Int) (N:Nat),fM N G/\¬q∣E/\Mo q n (cv f G) (dl E)
section
variable {q:Int} {n:Nat} {f g f1 f2 F G h:Nat->Int}
theorem Inv.cg(hq:au q){a b:Int}(na:¬q∣a)(nb:¬q∣b)(e:∀t,Cg q (a*f t) (b*g t))(h:Inv q n f):Inv q n g:=by
 intros bn13 h G E N lG nE m;refine ⟨λt=>b*G t,a*E,N,λi hi=>by show b*G i=0;rw [lG i hi,cO],dr hq na nE,?_⟩
 have m:=m.mul a;refine Mo.trans hq (Mo.pK hq λt=>?_) (m.trans hq (Mo.pK hq λt=>Cg.of_eq ?_))
 ·show Cg q (cv g (λi=>b*G i) t) (a*cv f G t)
  rw [kj,<-eK,<-eK];exact gR (λi=>(e i).symm) λi=>Cg.refl _
 ·show a*dl E t=dl (a*E) t
  unfold dl
  split
  ·rfl
  ·exact cO _
end
variable {x:Int}
theorem rB(h:x.natAbs<=10 ^ 580):aQ x:=ic h (by decide +kernel)
theorem M0(h:x.natAbs<=10 ^ 290):aQ x:=ic h (by decide +kernel)
def Wc(C:Addr):Sp:=λvs H Q _=>∃(z a b:Addr) (q:Int) (ps rs:aC) (D1 D2:Int) (f g:Nat->Int) (X1 X2 Y1 Y2 L1 L2:Nat),vs=[.ref z,.ref a,.ref b]/\dO C H z q/\au q/\aD B2 H q a ps/\aD B2 H q b rs/\ps.length<=50/\rs.length<=50/\RowW q ps D1 f X1 Y1 L1/\RowW q rs D2 g X2 Y2 L2/\1000<=X1/\1000<=X2/\X1*X2<=10 ^ 270/\1<=Y1/\1<=Y2/\Y1*Y2<=10 ^ 270 /\
 ∀(c:Addr) (H':Hp),ai H H'->H c=none->aD B2 H' q c (aF (de q ps.length rs.length f g (D1*D2) (ps.length+rs.length-1)))->Q (.ref c) H'
structure GP (q:Int) (ps rs:aC) (D1 D2:Int) (f g:Nat->Int) (T U L:Nat):Prop where
 lp:ps.length<=100
 lr:rs.length<=50
 kP:aP q D1
 gC:aP q D2
 Cj:∀p∈ps,p.2∣D1
 Ck:∀p∈rs,p.2∣D2
 w1:∀i,ar q (ps.getD i o1) (f i,D1)
 w2:∀i,ar q (rs.getD i o1) (g i,D2)
 t1:∀i,(f i).natAbs<=T
 u2:∀i,(g i).natAbs<=U
 hT:1000<=T
 hU:1000<=U
 d2:D2.natAbs<=U
 d1:D1.natAbs<=10 ^ 290
 Cp:U<=10 ^ 290
 ne:aF rs≠[]
 len:(aF ps).length+1<=L+(aF rs).length
 big:T*(2*U) ^ L<=10 ^ 570
 GQ:1000*(2*U) ^ L*D1.natAbs<=10 ^ 570
def bK(q:Int)(n:Nat):List (Int×Int):=dQ [bJ q (-1)] n++[bJ q 1]
def Wd(C:Addr):Sp:=λvs H Q _=>∃(z:Addr) (q:Int) (n:Nat),vs=[.ref z,.int (n:Int)]/\dO C H z q/\au q/\1<=n/\n<=100/\∀(c:Addr) (H':Hp),ai H H'->H c=none->aD 1000 H' q c (bK q n)->Q (.ref c) H'
theorem iW(q:Int)(x:Int)(hq:au q):Canon q (bJ q x)/\ar q (bJ q x) (x,1):=by
 unfold bJ;by_cases z:q=0
 ·subst z
  rw [aq rfl];exact ⟨⟨λ_=>⟨by show (1:Int)<=1;decide,by show Int.gcd x 1=1;simp⟩,λz=>absurd rfl z⟩,ar.refl _⟩
 ·rw [ao z]
  have q2:0<q:=by rcases hq with h | h <;> lia
  refine ⟨⟨λy=>absurd y z,λ_=>⟨rfl,d0 _ z,ej _ q2⟩⟩,?_⟩;obtain ⟨w,ew⟩:=y4 x q;exact ⟨-w,by dsimp only;rw [fh];lia⟩
theorem mq(n1:1<=n):(bK q n).length=n+1:=by unfold bK dQ;simp;lia
theorem vM(n1:1<=n)(i:Nat):(bK q n).getD i o1=if i=0 then bJ q (-1) else if i=n then bJ q 1 else o1:=by
 unfold bK dQ;rw [fP];by_cases z:i=0
 ·subst z
  rfl
 ·rw [ao z]
  by_cases y:i=n
  ·rw [aq y,i8 (by simp;lia)]
   rw [show i-([bJ q (-1)]++List.replicate (n - [bJ q (-1)].length) o1).length=0 by simp;lia]
   rfl
  ·rw [ao y]
   by_cases h:i<n
   ·rw [ju (by simp;lia),i8 (by simp;lia),mS]
    split <;> rfl
   ·rw [ku (by simp;lia)]
    rfl
theorem nZ(hq:au q)(n1:1<=n)(i:Nat):ar q ((bK q n).getD i o1) (tp n i,1):=by
 rw [vM n1];unfold tp;by_cases z:i=0
 ·rw [aq z,aq z,ao ⋯]
  exact (iW q (-1) hq).2
 ·rw [ao z,ao z]
  by_cases y:i=n
  ·rw [aq y,aq y]
   exact (iW q 1 hq).2
  ·rw [ao y,ao y]
   exact ⟨0,by simp [o1]⟩
theorem GR{p:Int×Int}(h:p∈bK q n):p.2=1:=by
 have e:∀x,(bJ q x).2=1:=λx=>by unfold bJ;split <;> rfl
 unfold bK dQ at h;rcases i7.mp h with h | h
 ·rcases i7.mp h with h | h
  ·rw [jZ.mp h];exact e _
  ·rw [(yE.mp h).2];rfl
 ·rw [jZ.mp h];exact e _
theorem iX(hq:au q)(n1:1<=n):aF (bK q n)=bK q n:=zu λ_=>by
 rw [mq n1,oU,vM n1,ao ⋯,aq rfl]
 unfold bJ;rcases hq with rfl | ⟨h2,_⟩;·rw [aq rfl];decide
 ·rw [ao ⋯,mV ∅ ⋯];decide
theorem zK(n i:Nat):(tp n i).natAbs<=2:=by
 unfold tp
 split <;> split <;> decide
structure rC (q:Int) (n W:Nat):Prop where
 t:rq q n W
 wq:q≠0->W=1000
 big:Zt q n W 1*W<=10 ^ 220
 loose:1000*(2*Zt q n W 2) ^ n*1000<=10 ^ 570
structure jq (q:Int) (n W:Nat) (ps:aC):Prop where
 sz:rC q n W
 len:ps.length=n
 row:∃(D:Int) (f:Nat->Int),RowW q ps D f W W n
structure jO (q:Int) (n:Nat) (ps:aC) (D:Int) (f:Nat->Int):Prop where
 ok:aP q D
 w:∀i,ar q (ps.getD i o1) (f i,D)
 low:fM n f
structure my (q:Int) (n:Nat) (ps rs:aC) (X:Nat) (F:Nat->Int) (M:Int):Prop where
 len:rs.length=n
 eS:jO q n rs M F
 bF:∀i,(F i).natAbs<=X
 bM:M.natAbs<=X
 dvd:∀p∈rs,p.2∣M
 back:∀D f,jO q n ps D f->Mo q n (cv f F) (dl (D*M))
 inv:∀D f,jO q n ps D f->Inv q n f
def M1(C:Addr):Sp:=λvs H Q _=>∃(z a:Addr) (q:Int) (n W:Nat) (ps:aC),vs=[.ref z,.ref a]/\dO C H z q/\au q/\aD (10 ^ 290) H q a ps/\jq q n W ps/\(∀H',ai H H'->(∀D f,jO q n ps D f->¬Inv q n f)->Q .a9 H') /\
 ∀(c:Addr) (rs:aC) (F:Nat->Int) (M:Int) (H':Hp),ai H H'->H c=none->aD B2 H' q c rs->my q n ps rs (Zt q n W 1*W) F M->Q (.ref c) H'
variable {ps:aC} {D D':Int} {f':Nat->Int}
theorem Cq(hq:au q)(cp:∀p∈ps,Canon q p)(ok:aP q D)(wD:∀i,ar q (ps.getD i o1) (f i,D))(We:aP q D')(GS:∀i,ar q (ps.getD i o1) (f' i,D'))(h:Inv q n f):Inv q n f':=by refine Inv.cg hq (a:=D') (b:=D) (We.nz hq) (ok.nz hq) (λt=>?_) h;obtain ⟨x,e⟩:=(wD t).symm.trans (GS t) (cH hq cp t).bot;exact ⟨x,by dsimp only at e;rw [<-e];grind⟩
variable {M:Int} {F:Nat->Int}
theorem Wf(hq:au q)(cp:∀p∈ps,Canon q p)(ok:aP q D)(wD:∀i,ar q (ps.getD i o1) (f i,D))(GS:∀i,ar q (ps.getD i o1) (f' i,D'))(h:Mo q n (cv f F) (dl (D*M))):Mo q n (cv f' F) (dl (D'*M)):=by
 refine Mo.cancel hq (ok.nz hq) ?_;refine Mo.trans hq (Mo.pK hq λt=>?_) ((h.mul D').trans hq (Mo.pK hq λt=>Cg.of_eq ?_))
 ·show Cg q (D*cv f' F t) (D'*cv f F t)
  rw [<-eK,<-eK];refine gR (λi=>?_) λ_=>Cg.refl _;obtain ⟨x,e⟩:=(GS i).symm.trans (wD i) (cH hq cp i).bot;exact ⟨x,by dsimp only at e;rw [<-e];grind⟩
 ·unfold dl
  split
  ·grind
  ·rw [cO,cO]
variable {X Y:Nat}
theorem RowW.eS(h:RowW q ps D f X Y n):jO q n ps D f:=⟨h.ok,h.w,h.out⟩
theorem jq.GU(hq:au q)(h:jq q n W ps)(r:RowW q ps D f W W n):MU q ps (bK q n) D 1 f (tp n) W 1 (Zt q n W):=by
 have n1:=h.sz.t.n1;have cI:=h.sz.t.cI;have hW:=h.sz.t.w;have big:=h.sz.big;have z1:=kS h.sz.t 1;have zw:W<=Zt q n W 1*W:=iL _ ⋯
 have lt:=mq (q:=q) n1;have lp:=h.len;have cl:=iz ps;have n_:10 ^ 220<=10 ^ 290:=dD ∅ ∅
 refine ⟨⋯,⋯,r.ok,aP.one,r.dvd,λp hp=>by rw [GR hp];exact ja 1,r.w,nZ hq n1,r.bf,λi=>af (zK n i) ⋯,λ_ i=>?_,hW,r.bD,by show 1<=W;lia,⋯,by rw [iX hq n1,lt];lia,λts us lt' GV bt bu Wg=>?_,af big n_,⋯,af zw (af big n_)⟩
 ·unfold tp
  by_cases z:i=0;·rw [aq z,ao ⋯];decide
  ·rw [ao z];split <;> decide
 ·rw [iX hq n1,lt] at GV
  exact V8 hq h.sz.t ⋯ GV bt (λz x hx=>by have:=bt x hx;have:=h.sz.wq z;lia) (λz x hx=>by have:=bu x hx;have:=h.sz.wq z;lia) Wg
section
variable {q ld b1 b2:Int} {n:Nat} {ps gs us vs:aC} {ts ws r u v:List Int}
theorem dg.tw(hq:au q)(n1:1<=n)(C:dg q ps (bK q n) gs us vs ts ws r u v b1 b2 ld)(t:Nat):Cg q (ae ws t) (b2*tp n t):=by
 have c:Canon q ((bK q n).getD t o1):=by
  rw [vM n1]
  split
  ·exact (iW q _ hq).1
  ·split
   ·exact (iW q _ hq).1
   ·exact rf hq
 obtain ⟨x,e⟩:=(C.p2 t).symm.trans (nZ hq n1 t) c.bot;exact ⟨x,by dsimp only at e;rw [<-e];grind⟩
theorem dg.no(hq:au q)(n1:1<=n)(C:dg q ps (bK q n) gs us vs ts ws r u v b1 b2 ld)(l2:2<=r.length):¬Inv q n (ae ts):=by
 intros bn13 _ G E N lG nE m;have d2:bS q (ae r) (tp n):=by obtain ⟨c,w,M,nc,lw,e⟩:=C.d2;refine ⟨c*b2,w,M,dr hq nc (C.k2.nz hq),lw,λt=>Cg.trans ?_ (e t)⟩;rw [gJ];exact ((C.tw hq n1 t).symm).mulL c
 exact Wb hq l2 C.tr C.d1 d2 lG nE m
theorem dg.mo(hq:au q)(n1:1<=n)(C:dg q ps (bK q n) gs us vs ts ws r u v b1 b2 ld)(l1:r.length=1):Mo q n (cv (ae ts) (ae u)) (dl ld):=by
 have lead:=C.lead (by intro e;rw [e] at l1;cases l1)
 rw [l1,k_] at lead;refine ⟨1,λi=>-1*(b2*ae v i),v.length,gD hq,λi hi=>by show -1*(b2*ae v i)=0;rw [cU hi];simp,λt=>?_⟩
 rw [g8,g8,eK,eK,<-kj];have a:=C.bz t;have b:Cg q (cv (ae v) (ae ws) t) (cv (ae v) (λi=>b2*tp n i) t):=gR (λ_=>Cg.refl _) (C.tw hq n1);have e:ae r t=dl ld t:=by
  unfold dl;by_cases z:t=0;·rw [aq z,z,lead]
  ·rw [ao z,cU ⋯]
 rw [e] at a;rw [vG (ae ts)];have c:=a.sub b;rw [Int.add_sub_cancel] at c;exact c.trans (Cg.of_eq ⋯)
theorem dg.inv(hq:au q)(n1:1<=n)(C:dg q ps (bK q n) gs us vs ts ws r u v b1 b2 ld)(l1:r.length=1):Inv q n (ae ts):=⟨ae u,ld,u.length,λi hi=>cU hi,C.nl,C.mo hq n1 l1⟩
theorem dg.nn(hq:au q)(n1:1<=n)(C:dg q ps (bK q n) gs us vs ts ws r u v b1 b2 ld):1<=r.length:=by rw [<-C.lg];refine fT.mpr λe=>?_;have z:=(C.nil e).2.1;rw [iX hq n1] at z;have l:=mq (q:=q) n1;rw [z] at l;exact absurd l (by simp)
variable {xs:aC}
theorem Cr(hq:au q)(q0:q≠0)(cx:∀p∈xs,Canon q p)(lx:xs.length<=n)(hX:1000<=X):RowW q xs 1 (λi=>(xs.getD i o1).1) X X n:=by
 have M4:=λi=>(cH hq cx i).2 q0;refine ⟨aP.one,λp hp=>?_,λi=>?_,λi=>?_,by show 1<=X;lia,λi hi=>by rw [cF ⋯];rfl⟩
 ·rw [((cx p hp).2 q0).1]
  exact ja 1
 ·have e:=(M4 i).1
  exact ⟨0,by dsimp only;rw [e];simp⟩
 ·have e:=(M4 i).2
  have q3:q<=997:=by rcases hq with h | h <;> lia
  lia
theorem dg.row(hq:au q)(n1:1<=n)(C:dg q ps (bK q n) gs us vs ts ws r u v b1 b2 ld)(l1:r.length=1)(cu:∀p∈us,Canon q p)(lu:u.length<=n){Z:Nat}(hZ:1000<=Z)(hW:1000<=W)(bu:∀x∈u,x.natAbs<=Z)(bl:ld.natAbs<=Z)(bb:b1.natAbs<=W):∃(F:Nat->Int) (M:Int),RowW q us M F (Z*W) (Z*W) n/\Mo q n (cv (ae ts) F) (dl (b1*M)):=by
 have m:=C.mo hq n1 l1;have GV:=C.lu;have Wh:1000<=Z*W:=af hZ (fS _ ⋯)
 have key:∀(F:Nat->Int) (M:Int),(∀k,Cg q (ld*F k) (M*b1*ae u k))->Mo q n (cv (ae ts) F) (dl (b1*M)):=λF M h=>by
  refine Mo.cancel hq C.nl ?_;refine Mo.trans hq (Mo.pK hq λt=>?_) ((m.mul (M*b1)).trans hq (Mo.pK hq λt=>Cg.of_eq ?_))
  ·show Cg q (ld*cv (ae ts) F t) (M*b1*cv (ae ts) (ae u) t)
   rw [<-kj,<-kj];exact gR (λ_=>Cg.refl _) h
  ·show M*b1*dl ld t=ld*dl (b1*M) t
   unfold dl
   split
   ·grind
   ·rw [cO,cO]
 by_cases z:q=0
 ·have hu:=C.hu
  have nl:=C.nl;have hb:=C.k1;subst z;have rD:ld≠0:=λe=>nl (e▸ja 0);obtain ⟨s,M,hs,eM,hM⟩:∃s M:Int,(s=1\/s=-1)/\M=s*ld/\1<=M:=by
   by_cases h:0<ld;·exact ⟨1,ld,.inl rfl,⋯,⋯⟩
   ·exact ⟨-1,-ld,.inr rfl,⋯,⋯⟩
  have ab:∀x:Int,(s*x).natAbs=x.natAbs:=λx=>by rw [aZ];rcases hs with rfl | rfl <;> simp
  have iY:aP 0 M:=⟨λ_=>hM,λh=>absurd rfl h⟩;have wM:∀i,ar 0 (us.getD i o1) (s*(ae u i*b1),M):=λi=>by
   by_cases hi:i<us.length
   ·obtain ⟨x,e⟩:=hu i hi
    refine ⟨s*x,?_⟩;dsimp only at e ⊢;rw [gh] at e ⊢;rw [eM];generalize us.getD i o1=p at e ⊢;have:p.1*ld=ae u i*b1*p.2:=mZ.mp e;rw [show p.1*(s*ld)=s*(p.1*ld) by grind,this]
    grind
   ·rw [cF ⋯,cU ⋯]
    exact ⟨0,by simp [o1]⟩
  refine ⟨λk=>s*(ae u k*b1),M,⟨iY,λp hp=>?_,wM,λi=>?_,?_,λi hi=>by rw [cU ⋯];simp⟩,key _ _ λk=>Cg.of_eq (by rw [eM];grind)⟩
  ·obtain ⟨i,hi,rfl⟩:=ig hp
   have w:=wM i;rw [getD_at hi] at w;rw [gB hq (cu _ hp) (fK hq iY) (w.trans (fo iY).symm iY)];exact zi iY
  ·rw [ab,aZ]
   exact bN (jo bu i) bb
  ·rw [eM,ab]
   exact af bl (fS _ ⋯)
 ·refine ⟨_,1,Cr hq z cu ⋯ Wh,key _ _ λk=>?_⟩
  have zM:=λi=>(cH hq cu i).2 z;by_cases hk:k<us.length
  ·obtain ⟨x,e⟩:=C.hu k hk
   have e2:=(zM k).1;dsimp only at e ⊢;rw [e2,dC] at e;exact ⟨x,by rw [<-e];grind⟩
  ·show Cg q (ld*(us.getD k o1).1) _
   rw [cF ⋯,cU ⋯,cO]
   exact Cg.of_eq (by show ld*0=0;exact cO _)
theorem zN{i:Nat}:(dQ xs m).getD i o1=xs.getD i o1:=by
 unfold dQ;by_cases h:i<xs.length;·rw [fP,ju h,fP]
 ·rw [cF (xs:=xs) ⋯,fP,i8 ⋯,mS]
  split <;> rfl
theorem dg.M5(hq:au q)(n1:1<=n)(C:dg q ps (bK q n) gs us vs ts ws r u v b1 b2 ld)(l1:r.length=1)(cp:∀p∈ps,Canon q p)(lu:us.length<=n)(R:RowW q us M F X X n)(m:Mo q n (cv (ae ts) F) (dl (b1*M))):my q n ps (dQ us n) X F M:=
 ⟨by unfold dQ;simp;lia,⟨R.ok,λi=>by rw [zN];exact R.w i,R.out⟩,R.bf,R.bD,λp hp=>by
  unfold dQ at hp;rcases i7.mp hp with h | h;·exact R.dvd p h
  ·rw [(yE.mp h).2];exact uJ M,λD f w=>Wf hq cp C.k1 C.p1 w.w m,λD f w=>Cq hq cp C.k1 C.p1 w.ok w.w (C.inv hq n1 l1)⟩
end
variable {ld b1 b2:Int} {gs us:aC} {ws r v:List Int}
theorem dg.Wi{vs:aC}{u:List Int}(hq:au q)(C:dg q ps (bK q n) gs us vs ts ws r u v b1 b2 ld)(cg:∀p∈gs,Canon q p){U:Nat}(hU:1000<=U)(br:∀x∈r,x.natAbs<=U)(bl:ld.natAbs<=U):∃(M:Int) (G:Nat->Int),RowW q gs M G U U gs.length:=by
 have lg:=C.lg;by_cases z:q=0
 ·have hg:=C.hg
  have nl:=C.nl;subst z;have rD:ld≠0:=λe=>nl (e▸ja 0);obtain ⟨s,M,hs,eM,hM⟩:∃s M:Int,(s=1\/s=-1)/\M=s*ld/\1<=M:=by
   by_cases h:0<ld;·exact ⟨1,ld,.inl rfl,⋯,⋯⟩
   ·exact ⟨-1,-ld,.inr rfl,⋯,⋯⟩
  have ab:∀x:Int,(s*x).natAbs=x.natAbs:=λx=>by rw [aZ];rcases hs with rfl | rfl <;> simp
  have iY:aP 0 M:=⟨λ_=>hM,λh=>absurd rfl h⟩;have wM:∀i,ar 0 (gs.getD i o1) (s*ae r i,M):=λi=>by
   by_cases hi:i<gs.length
   ·obtain ⟨x,e⟩:=hg i hi
    refine ⟨s*x,?_⟩;dsimp only at e ⊢;rw [gh] at e ⊢;rw [eM];generalize gs.getD i o1=p at e ⊢;have:p.1*ld=ae r i*1*p.2:=mZ.mp e;rw [show p.1*(s*ld)=s*(p.1*ld) by grind,this]
    grind
   ·rw [cF ⋯,cU ⋯]
    exact ⟨0,by simp [o1]⟩
  refine ⟨M,λk=>s*ae r k,iY,λp hp=>?_,wM,λi=>by rw [ab];exact jo br i,by rw [eM,ab];exact bl,λi hi=>by rw [cU ⋯];simp⟩
  obtain ⟨i,hi,rfl⟩:=ig hp;have w:=wM i;rw [getD_at hi] at w;rw [gB hq (cg _ hp) (fK hq iY) (w.trans (fo iY).symm iY)];exact zi iY
 ·exact ⟨1,_,Cr hq z cg (aL _) hU⟩
theorem dg.Wj{vs:aC}{u:List Int}(hq:au q)(s:rC q n W)(C:dg q ps (bK q n) gs us vs ts ws r u v b1 b2 ld)(cg:∀p∈gs,Canon q p)(cut:aF gs=gs)(l2:2<=r.length)(Wk:gs.length<=50)(br:∀x∈r,x.natAbs<=Zt q n W r.length):∃(M:Int) (G:Nat->Int),GP q (bK q n) gs 1 M (tp n) G 1000 (Zt q n W 2) n:=by
 have n1:=s.t.n1;have cI:=s.t.cI;have lt:=mq (q:=q) n1;have lg:=C.lg;have M6:∀x∈r,x.natAbs<=Zt q n W 2:=λx hx=>af (br x hx) (Co s.t _ _ l2);have u1:=kS s.t 2;have hW:=s.t.w;have bl:ld.natAbs<=Zt q n W 2:=by
  rw [C.lead (by intro e;rw [e] at l2;exact absurd l2 ∅)]
  exact jo M6 _
 obtain ⟨M,G,R⟩:=C.Wi hq cg u1 M6 bl;have n_:10 ^ 220<=10 ^ 290:=dD ∅ ∅
 have Wl:=Co s.t 1 2 ∅
 have lo:=s.loose;have one:(1:Int).natAbs=1:=rfl;refine ⟨M,G,⋯,Wk,aP.one,R.ok,λp hp=>by rw [GR hp];exact ja 1,R.dvd,nZ hq n1,R.w,λi=>af (zK n i) ∅,R.bf,∅,u1,R.bD,?_,af Wl (af (af (fS _ ⋯) s.big) n_),?_,?_,?_,?_⟩
 ·rw [one];exact lB ∅
 ·rw [cut]
  exact fT.mp ⋯
 ·rw [iX hq n1,lt,cut]
  lia
 ·exact af (fS _ ∅) lo
 ·rw [one,Nat.mul_one]
  exact af (fS _ ∅) lo
variable {ss:aC} {s:Nat->Int}
theorem Wm{S:Int}(hq:au q)(n1:1<=n)(cI:n<=40)(R:RowW q us M F X X n)(R2:RowW q ss S s Y Y n)(lu:us.length<=n)(ls:ss.length<=n)(x1:1<=X)(bX:X<=10 ^ 220)(bY:Y<=10 ^ 25):GP q (aF (de q us.length ss.length F s (M*S) (us.length+ss.length-1))) (bK q n) (M*S) 1 (a_ us.length ss.length F s) (tp n) (10 ^ 280) 1000 (2*n):=by
 have lt:=mq (q:=q) n1;have ok:=R.ok.mul R2.ok;have cP:=rh (n:=us.length) (m:=ss.length) (N:=us.length+ss.length-1) (f:=F) (g:=s) hq ok;have lP:(de q us.length ss.length F s (M*S) (us.length+ss.length-1)).length=us.length+ss.length-1:=by simp [de]
 have c1:=iz (de q us.length ss.length F s (M*S) (us.length+ss.length-1));have c2:=iz (aF (de q us.length ss.length F s (M*S) (us.length+ss.length-1)));have M7:X*Y<=10 ^ 245:=af (bN bX bY) (by decide +kernel)
 have bD:(M*S).natAbs<=10 ^ 245:=by rw [aZ];exact af (bN R.bD R2.bD) M7
 have pw:2000 ^ (2*n)<=2000 ^ 80:=dD ∅ ⋯
 refine ⟨⋯,⋯,ok,aP.one,λp hp=>?_,λp hp=>by rw [GR hp];exact ja 1,λi=>?_,nZ hq n1,λi=>?_,λi=>af (zK n i) ∅,by decide +kernel,∅,∅,af bD (dD ∅ ∅),by decide +kernel,?_,?_,?_,?_⟩
 ·have hp:=me hp
  unfold de at hp;obtain ⟨k,_,rfl⟩:=fQ.mp hp;exact zi ok
 ·rw [pG hq cP]
  exact rj ok i
 ·refine af (Gj (M:=10 ^ 245) λi j _ _=>?_) (af (bN (show us.length<=50 by lia) (gK (10 ^ 245) (show ss.length<=50 by lia))) (by decide +kernel))
  rw [aZ];exact af (bN (R.bf i) (R2.bf j)) M7
 ·rw [iX hq n1]
  exact fT.mp ⋯
 ·rw [iX hq n1,lt]
  lia
 ·exact af (dJ _ pw) (by decide +kernel)
 ·exact af (bN (dJ _ pw) bD) (by decide +kernel)
def fN(q:Int)(n:Nat)(h:Nat->Int)(D:Int):List (Int×Int):=(List.range n).map λt=>da q (wr n h t) D
def gT(n k:Nat)(h:Nat->Int)(x:Nat):Int:=(if x<k then h x else 0)+if x+n<k then h (x+n) else 0
theorem Wn(n:Nat)(h:Nat->Int)(x:Nat):gT n 0 h x=0:=by
 unfold gT;rw [ao ⋯,ao ⋯]
 rfl
variable {k:Nat} {h:Nat->Int}
theorem Wo{x:Nat}(hk:k<2*n)(hx:x<n)(e:k % n=x):gT n (k+1) h x=gT n k h x+h k:=by
 unfold gT;by_cases z:k<n
 ·rw [A8 z] at e
  subst e;rw [aq ⋯,ao ⋯,ao ⋯,ao ⋯]
  lia
 ·rw [Nat.mod_eq_sub_mod ⋯,A8 ⋯] at e
  subst e;rw [aq ⋯,aq ⋯,aq ⋯,ao ⋯,show k-n+n=k by lia]
  lia
theorem Wq{x:Nat}(hk:k<2*n)(hx:x<n)(e:k % n≠x):gT n (k+1) h x=gT n k h x:=by
 unfold gT;by_cases z:k<n
 ·rw [A8 z] at e
  rw [ao (show ¬x+n<k+1 by lia),ao (show ¬x+n<k by lia)]
  by_cases y:x<k;·rw [aq y,aq ⋯]
  ·rw [ao y,ao ⋯]
 ·rw [Nat.mod_eq_sub_mod ⋯,A8 ⋯] at e
  rw [aq (show x<k+1 by lia),aq (show x<k by lia)]
  by_cases y:x+n<k;·rw [aq y,aq ⋯]
  ·rw [ao y,ao ⋯]
variable {B:Nat}
theorem Wr{x:Nat}(b:∀i,(h i).natAbs<=B):(gT n k h x).natAbs<=2*B:=by
 have b1:=b x;have b2:=b (x+n);unfold gT
 split <;> split <;> lia
theorem M8{x:Nat}(b:∀i,(h i).natAbs<=B):(wr n h x).natAbs<=2*B:=by
 have b1:=b x;have b2:=b (x+n);unfold wr
 split <;> lia
theorem Ws{x:Nat}(hx:x<n)(z:∀i,k<=i->q∣h i):Cg q (gT n k h x) (wr n h x):=by
 unfold gT wr;rw [aq hx];have a:Cg q (if x<k then h x else 0) (h x):=by
  split
  ·exact Cg.refl _
  ·obtain ⟨c,e⟩:=z x ⋯
   exact ⟨-c,by rw [e,fh];lia⟩
 have b:Cg q (if x+n<k then h (x+n) else 0) (h (x+n)):=by
  split
  ·exact Cg.refl _
  ·obtain ⟨c,e⟩:=z (x+n) ⋯
   exact ⟨-c,by rw [e,fh];lia⟩
 exact a.add b
def GW:Sp:=λvs H Q _=>∃(td a:Addr) (q D:Int) (n:Nat) (ps:aC) (h:Nat->Int),vs=[.ref td,.int (n:Int),.ref a]/\dP H td q/\au q/\aD B2 H q a ps/\1<=n/\n<=40/\ps.length<=2*n/\aP q D/\D.natAbs<=B2/\(∀i,ar q (ps.getD i o1) (h i,D))/\(∀i,(h i).natAbs<=10 ^ 280) /\
 ∀(c:Addr) (H':Hp),ai H H'->H c=none->aD B2 H' q c (fN q n h D)->Q (.ref c) H'
theorem kT(q:Int)(n:Nat)(h:Nat->Int)(D:Int):(fN q n h D).length=n:=by simp [fN]
theorem Cs{i:Nat}(hi:i<n):(fN q n h D).getD i o1=da q (wr n h i) D:=zA hi
theorem GX(ok:aP q D)(bX:∀i,(h i).natAbs<=X)(bD:D.natAbs<=Y):RowW q (fN q n h D) D (wr n h) (2*X) Y n:=by
 refine ⟨ok,λp hp=>?_,λi=>?_,λi=>M8 bX,bD,zJ n h⟩
 ·unfold fN at hp
  obtain ⟨k,_,rfl⟩:=fQ.mp hp;exact zi ok
 ·by_cases hi:i<n
  ·rw [Cs hi]
   exact fo ok
  ·rw [cF (by rw [kT];lia),zJ n h i ⋯]
   exact rg
theorem M9{S:Int}(hq:au q)(ok:aP q D)(Wt:aP q S)(l:ss.length=n)(cs:∀p∈ss,Canon q p)(w:∀i,ar q (ss.getD i o1) (s i,S))(e:∀t,t<n->Cg q (S*wr n h t) (D*s t)):fN q n h D=ss:=by
 refine uP (by rw [kT,l]) λi h1 h2=>?_
 have hi:i<n:=by lia
 rw [<-getD_at (d:=o1) h1,<-getD_at (d:=o1) h2,Cs hi];refine gB hq (fK hq ok) (cH hq cs i) ((fo ok).trans ?_ ok);refine ar.trans ?_ (w i).symm Wt;obtain ⟨c,x⟩:=e i hi;exact ⟨c,by dsimp only;rw [<-x];grind⟩
def Wu:Sp:=λvs H Q _=>∃(td a b:Addr) (q D1 D2:Int) (n:Nat) (ps rs:aC) (f g:Nat->Int) (X1 X2 Y1 Y2:Nat),vs=[.ref td,.ref a,.ref b]/\dP H td q/\au q/\aD B2 H q a ps/\aD B2 H q b rs/\1<=n/\n<=40/\ps.length=n/\rs.length<=n/\RowW q ps D1 f X1 Y1 n/\RowW q rs D2 g X2 Y2 n/\X1*X2<=10 ^ 260/\Y1*Y2<=10 ^ 260 /\
 ∀(c:Addr) (H':Hp),ai H H'->H c=none->aD B2 H' q c (fN q n (cv f g) (D1*D2))->Q (.ref c) H'
def M_:Sp:=λvs H Q _=>∃(td:Addr) (q:Int) (n:Nat),vs=[.ref td,.int (n:Int)]/\dP H td q/\au q/\1<=n/\n<=40/\∀(c:Addr) (H':Hp),ai H H'->H c=none->aD 1000 H' q c (bK q n)->Q (.ref c) H'
theorem Ct{M:Nat}(hf:fM n f)(h:∀i j,(f i*g j).natAbs<=M)(k:Nat):(cv f g k).natAbs<=n*M:=by
 unfold cv;have e:∀d,aT (n+d) (λi=>f i*g (k-i))=aT n λi=>f i*g (k-i):=λd=>by
  induction d with
  | zero=>rfl
  | succ d ih=>rw [show n+(d+1)=n+d+1 by lia,iA,ih,hf _ ⋯,gh,j6]
 by_cases hk:k+1<=n;·exact af (vC (k+1) _ λi _=>h _ _) (gK _ hk)
 ·rw [show k+1=n+(k+1-n) by lia,e]
  exact vC n _ λi _=>h _ _
theorem vN(w:1000<=W)(n1:1<=n)(cI:n<=40)(l:MY n W=true)(h:(decide (Zt 0 n W 1*W<=10 ^ 220) && decide (1000*(2*Zt 0 n W 2) ^ n*1000<=10 ^ 570))=true):rC 0 n W:=by rw [yw,oP,oP] at h;exact ⟨⟨w,n1,cI,λ_=>l⟩,λz=>absurd rfl z,h.1,h.2⟩
theorem Wv(z:q≠0)(n1:1<=n)(cI:n<=40):rC q n 1000:=by
 have e:∀j,Zt q n 1000 j=1000:=λj=>by unfold Zt;rw [ao z]
 refine ⟨⟨∅,n1,cI,λh=>absurd h z⟩,λ_=>rfl,by rw [e];decide +kernel,?_⟩
 rw [e];exact af (gK _ (dJ _ (dD (show 0<2*1000 by decide) cI))) (by decide +kernel)
theorem Ww(hq:au q)(z:q≠0)(s:rC q n W)(l:ps.length=n)(c:∀p∈ps,Canon q p):jq q n W ps:=⟨s,l,1,_,Cr hq z c ⋯ s.t.w⟩
variable {H:Hp}
theorem aD.cm{a:Addr}(h:aD B H 0 a ps):∀p∈ps,p.1.natAbs<=B/\p.2.natAbs<=B/\aP 0 p.2:=λp hp=>by
 intros bn4 h vs e l k;obtain ⟨i,hi,rfl⟩:=ig hp;have hv:i<vs.length:=by lia
 have z:=k i vs[i] ps[i] (by simp [hv]) (by simp [hi])
 have c:=z.canon.bot;generalize ps[i]=p at z c;generalize vs[i]=v at z;obtain ⟨x,m⟩:=p;cases z with
 | cm e l bx bm=>exact ⟨bx,bm,c⟩
 | rem h0 h1 h2=>lia
theorem GY{F:Nat}{a:Addr}(hq:au q)(h:aD F H q a ps)(l:ps.length=n)(F1:1<=F)(n1:1<=n)(bX:q=0->F ^ n<=X)(x1:1000<=X):∃(D:Int) (f:Nat->Int),RowW q ps D f X X n:=by
 by_cases z:q=0
 ·subst z
  have bX:=bX rfl;have fr:=h.cm;have hc:=h.cX;obtain ⟨D,ok,dv,bD,bd⟩:=Mw (q:=0) F1 ps λp hp=>⟨(fr p hp).2.2,(fr p hp).2.1⟩;have gd:∀i,ps.getD i o1∈ps\/ps.getD i o1=o1:=λi=>by
   by_cases hi:i<ps.length;·rw [getD_at hi];exact .inl (gZ _)
   ·exact .inr (cF ⋯)
  have Na:∀i,(ps.getD i o1).2∣D:=λi=>by
   rcases gd i with h | h;·exact dv _ h
   ·rw [h];exact uJ D
  refine ⟨D,λi=>(ps.getD i o1).1*(D / (ps.getD i o1).2),ok,dv,λi=>⟨0,?_⟩,λi=>?_,by rw [l] at bD;exact af bD bX,λi hi=>by rw [cF ⋯];simp [o1]⟩
  ·obtain ⟨k,e⟩:=Na i
   have nz:(ps.getD i o1).2≠0:=λz=>(cH hq hc i).bot.nz hq (by rw [z];exact dA 0)
   dsimp only;have e2:D / (ps.getD i o1).2=k:=by rw [e,oR _ nz]
   rw [e2,cO,e];grind
  ·rcases gd i with h | h
   ·obtain ⟨k,e⟩:=Na i
    have nz:(ps.getD i o1).2≠0:=λz=>(cH hq hc i).bot.nz hq (by rw [z];exact dA 0)
    have e2:D / (ps.getD i o1).2=k:=by rw [e,oR _ nz]
    have z:=bd _ h;rw [e2,aZ];rw [e,aZ] at z;have z2:=Nat.le_of_mul_le_mul_left z (iJ.mpr nz);refine af (bN (fr _ h).1 z2) ?_;rw [<-Nat.pow_succ',l,Nat.succ_eq_add_one,Nat.sub_add_cancel n1];exact bX
   ·rw [h]
    show ((0:Int)*_).natAbs<=_;rw [gh];exact cn _
 ·exact ⟨1,_,Cr hq z h.cX ⋯ x1⟩
theorem rE(h:ar q o1 (x,D)):q∣x:=by obtain ⟨k,e⟩:=h;have e:(0:Int)*D-x*1=q*k:=e;exact ⟨-k,by rw [fh];lia⟩
theorem GZ(hf:∀i,n<=i->f i=0)(hg:∀i,m<=i->q∣g i)(k:Nat):Cg q (a_ n m f g k) (cv f g k):=by
 have e:a_ n m f g k=a_ n m f (λj=>if j<m then g j else 0) k:=by unfold a_;refine dt λi _=>?_;unfold di;refine dt λj hj=>?_;dsimp only;rw [aq hj]
 rw [e,pH hf (λi hi=>ao ⋯)]
 refine gR (λ_=>Cg.refl _) λi=>?_
 split
 ·exact Cg.refl _
 ·obtain ⟨c,e⟩:=hg i ⋯
  exact ⟨-c,by rw [e,fh];lia⟩
variable {y:Int}
theorem Cu(h:Cg q x y):ar q (x,D) (y,D):=by obtain ⟨c,e⟩:=h;exact ⟨c*D,by dsimp only;rw [<-Int.sub_mul,e,gJ]⟩
theorem G3(hq:au q)(s:rC q n W)(l:ps.length=n)(c:∀p∈ps,Canon q p)(h:q=0->∃(D:Int) (f:Nat->Int),RowW q ps D f W W n):jq q n W ps:=by
 by_cases z:q=0;·exact ⟨s,l,h z⟩
 ·exact Ww hq z s l c
def jP(P:Addr)(H:Hp)(q:Int)(n W:Nat)(a:Addr):Prop:=∃ps,aD B2 (My.er P H) q a ps/\jq q n W ps
variable {P:Addr} {H':Hp}
theorem jP.mono{a:Addr}(h:jP P H q n W a)(s:aR P H H'):jP P H' q n W a:=by obtain ⟨ps,h1,h2⟩:=h;exact ⟨ps,aD.mono h1 s,h2⟩
theorem aD.er{c a:Addr}(h:aD B H q c ps)(p:dw H P a)(n:c≠P):aD B (My.er P H) q c ps:=by intros bn4 h vs e l f;exact (ad vs (nS n e) l (λi v x h1 h2=>(f i v x h1 h2).er (H':=H) p))
theorem Nb{F:Nat}{i:Int}{v:V}(h:aY B H q v (bJ q i).1 (bJ q i).2)(b:i.natAbs<=F)(f1:1<=F):aY F H q v (bJ q i).1 (bJ q i).2:=by
 generalize hp:bJ q i=p at h ⊢;obtain ⟨x,m⟩:=p;cases h with
 | cm e l bx bm=>unfold bJ at hp;rw [aq rfl] at hp;cases hp;exact .cm e l b f1
 | rem h0 h1 h2=>exact .rem h0 h1 h2
theorem Nc(hq:au q)(n1:1<=n)(lh:fM (n+n) h)(lg:∀t,n<=t->q∣g t)(m:Mo q n h g)(t:Nat):Cg q (wr n h t) (g t):=
 ((GO hq (by rw [uO];exact lh)).trans hq m).uniq hq n1 (λt ht=>by rw [zJ n h t ht];exact dA q) lg t
def Cv(H:Hp)(q:Int)(n:Nat)(ps:aC)(X:Nat)(v:V):Prop:=
 (v=.a9/\∀D f,jO q n ps D f->¬Inv q n f)\/∃(c:Addr) (rs:aC) (F:Nat->Int) (M:Int),v=.ref c/\aD B2 H q c rs/\my q n ps rs X F M
theorem Cv.mono{v:V}(h:Cv H q n ps X v)(s:ai H H'):Cv H' q n ps X v:=by
 rcases h with h | ⟨c,rs,F,M,h1,h2,h3⟩;·exact .inl h
 ·exact .inr ⟨c,rs,F,M,h1,h2.mono s,h3⟩
theorem Nd{C:Addr}{vs:List V}{Q:VK}{E:XK}(h:∃(z a:Addr) (q:Int) (n W:Nat) (ps:aC),vs=[.ref z,.ref a]/\dO C H z q/\au q/\aD (10 ^ 290) H q a ps/\jq q n W ps/\∀(v:V) (H':Hp),ai H H'->Cv H' q n ps (Zt q n W 1*W) v->Q v H'):M1 C vs H Q E:=by intros bnE h z bn31 a q n W ps h1 h2 h3 h4 h5 k;exact (ww z a q n (u8 W ps h1 h2 h3 h4 h5 (λH' s neg=>k _ H' s (.inl ⟨rfl,neg⟩)) (λc rs F M H' s nc hC BD=>k _ H' s (.inr ⟨c,rs,F,M,rfl,hC,BD⟩))))
theorem Wx{p:Int×Int}(h:ar q p (x,D)):ar q p (-x,-D):=by obtain ⟨k,e⟩:=h;dsimp only at e;refine ⟨-k,?_⟩;dsimp only;grind
theorem Wy{a c:Int×Int}(h1:ar q a (x,D))(h2:ar q c (y,D)):ar q (a.1*c.2+c.1*a.2,a.2*c.2) (x+y,D):=by obtain ⟨k,e⟩:=h1;obtain ⟨l,f⟩:=h2;dsimp only at e f;refine ⟨k*c.2+l*a.2,?_⟩;dsimp only;grind
theorem zO{L:Int}{p:Int×Int}(hq:au q)(hc:Canon q p)(w:ar q p (L,M))(nM:¬q∣M)(b1:1000<=B)(bl:q=0->L.natAbs<=B)(bm:q=0->M.natAbs<=B):p.1.natAbs<=B/\p.2.natAbs<=B:=by
 by_cases z:q=0
 ·subst z
  have hM:M≠0:=λe=>nM (e▸ja 0);have fin:∀L M:Int,1<=M->ar 0 p (L,M)->L.natAbs<=B->M.natAbs<=B->p.1.natAbs<=B/\p.2.natAbs<=B:=λL M h w bl bm=>by have ok:aP 0 M:=⟨λ_=>h,λz=>absurd rfl z⟩;rw [gB hq hc (fK (T:=L) hq ok) (w.trans (fo ok).symm ok)];exact zh hq ok b1 bl bm
  by_cases h:0<M;·exact fin L M h w (bl rfl) (bm rfl)
  ·exact fin (-L) (-M) ⋯ (Wx w) (by rw [mX];exact bl rfl) (by rw [mX];exact bm rfl)
 ·have e:=hc.2 z
  have q3:q<=997:=by rcases hq with h | h <;> lia
  lia
def gU(q:Int)(ls gs:aC)(nb:Int×Int)(st i k:Nat):Int×Int:=if st<=k/\k<st+i then eQ q (ls.getD k o1) (mulQ q nb (gs.getD (k-st) o1)) else ls.getD k o1
def km(L r:Nat->Int)(ld:Int)(st n:Nat)(k:Nat):Int:=L k*ld+(if st<=k then -(L (n-1))*r (k-st) else 0)
theorem Nf{a b D1 D2:Int}{p r:Int×Int}(hq:au q)(cp:Canon q p)(cr:Canon q r)(h1:ar q p (a,D1))(h2:ar q r (b,D2)):ar q (mulQ q p r) (a*b,D1*D2):=
 ((B0 hq cp cr).2).trans (B_ h1 h2) (cp.bot.mul cr.bot)
theorem Wz{p r:Int×Int}(hq:au q)(cp:Canon q p)(cr:Canon q r)(h1:ar q p (x,D))(h2:ar q r (y,D)):ar q (eQ q p r) (x+y,D):=
 ((Gg hq cp cr).2).trans (Wy h1 h2) (cp.bot.mul cr.bot)
theorem WA(hq:au q):Canon q (bJ q (-1))/\ar q (bJ q (-1)) (-1,1):=by
 unfold bJ;by_cases z:q=0
 ·subst z
  exact ⟨⟨λ_=>⟨∅,∅⟩,λz=>absurd rfl z⟩,ar.refl _⟩
 ·rw [ao z]
  have q2:0<q:=by rcases hq with h | h <;> lia
  refine ⟨⟨λy=>absurd y z,λ_=>⟨rfl,d0 _ z,ej _ q2⟩⟩,?_⟩;obtain ⟨w,ew⟩:=y4 (-1) q;exact ⟨-w,by dsimp only;rw [fh];lia⟩
structure gc (q:Int) (r:Nat->Int) (ls:aC) (L:Nat->Int) (M:Int) (B:Nat):Prop where
 oa:∀p∈ls,Canon q p
 w:∀k,ar q (ls.getD k o1) (L k,M)
 nM:¬q∣M
 d:bS q r L
 bl:q=0->∀k,(L k).natAbs<=B
 bm:q=0->M.natAbs<=B
structure pL (q:Int) (gs:aC) (r:List Int) (ld:Int) (R:Nat):Prop where
 oa:∀p∈gs,Canon q p
 w:∀k,ar q (gs.getD k o1) (ae r k,ld)
 nl:¬q∣ld
 len:gs.length=r.length
 ne:r≠[]
 lead:ld=ae r (r.length-1)
 tr:dy q r
 br:q=0->∀k,(ae r k).natAbs<=R
 bd:q=0->ld.natAbs<=R
section
variable {q ld M:Int} {r:List Int} {ls gs:aC} {L:Nat->Int} {B R n:Nat}
theorem gc.minus(hq:au q)(I:gc q (ae r) ls L M B)(k:Nat):Canon q (mulQ q (ls.getD k o1) (bJ q (-1)))/\ar q (mulQ q (ls.getD k o1) (bJ q (-1))) (-(L k),M):=by have c:=cH hq I.oa k;have m:=WA hq;refine ⟨(B0 hq c m.1).1,?_⟩;have:=Nf hq c m.1 (I.w k) m.2;rw [dC,fh,dC] at this;exact this
theorem gc.part(hq:au q)(I:gc q (ae r) ls L M B)(G:pL q gs r ld R)(k j:Nat):Canon q (mulQ q (mulQ q (ls.getD k o1) (bJ q (-1))) (gs.getD j o1))/\ar q (mulQ q (mulQ q (ls.getD k o1) (bJ q (-1))) (gs.getD j o1)) (-(L k)*ae r j,M*ld):=by have c:=I.minus hq k;have g:=cH hq G.oa j;exact ⟨(B0 hq c.1 g).1,Nf hq c.1 g c.2 (G.w j)⟩
theorem Ng{c:Int}{p:Int×Int}(h:ar q p (x,D)):ar q p (x*c,D*c):=by obtain ⟨k,e⟩:=h;dsimp only at e;refine ⟨k*c,?_⟩;dsimp only;grind
theorem gc.val(hq:au q)(I:gc q (ae r) ls L M B)(G:pL q gs r ld R)(st i n k:Nat):Canon q (gU q ls gs (mulQ q (ls.getD (n-1) o1) (bJ q (-1))) st i k)/\ar q (gU q ls gs (mulQ q (ls.getD (n-1) o1) (bJ q (-1))) st i k) (if st<=k/\k<st+i then km L (ae r) ld st n k else L k*ld,M*ld):=by
 have c:=cH hq I.oa k;have u:=Ng (c:=ld) (I.w k);unfold gU;by_cases h:st<=k/\k<st+i
 ·rw [aq h,aq h]
  have p:=I.part hq G (n-1) (k-st);refine ⟨(Gg hq c p.1).1,?_⟩;unfold km;rw [aq h.1];exact Wz hq c p.1 u p.2
 ·rw [ao h,ao h]
  exact ⟨c,u⟩
theorem gc.bound(I:gc q (ae r) ls L M B)(G:pL q gs r ld R)(z:q=0)(st n k:Nat):(km L (ae r) ld st n k).natAbs<=B*(2*R):=by
 unfold km;have e1:(L k*ld).natAbs<=B*R:=by rw [aZ];exact bN (I.bl z k) (G.bd z)
 refine af (uN ..) ?_;have e2:(if st<=k then -(L (n-1))*ae r (k-st) else 0).natAbs<=B*R:=by
  split
  ·rw [aZ,mX]
   exact bN (I.bl z _) (G.br z _)
  ·exact cn _
 rw [show B*(2*R)=B*R+B*R by rw [uO,Nat.mul_add]]
 exact oV e1 e2
theorem gc.Nh(I:gc q (ae r) ls L M B)(G:pL q gs r ld R)(z:q=0):(M*ld).natAbs<=B*(2*R):=by rw [aZ];exact af (bN (I.bm z) (G.bd z)) (dJ _ ⋯)
def iC(q:Int)(ls gs:aC)(st:Nat):List (Int×Int):=(List.range ls.length).map λk=>gU q ls gs (mulQ q (ls.getD (ls.length-1) o1) (bJ q (-1))) st gs.length k
theorem gc.next(hq:au q)(I:gc q (ae r) ls L M B)(G:pL q gs r ld R)(st:Nat)(uY:st+gs.length=ls.length):gc q (ae r) (aF (iC q ls gs st)) (km L (ae r) ld st ls.length) (M*ld) (B*(2*R))/\(aF (iC q ls gs st)).length+1<=ls.length:=by
 have lr:1<=r.length:=fT.mpr G.ne;have ll:=G.len;have oa:∀p∈iC q ls gs st,Canon q p:=λp hp=>by unfold iC at hp;obtain ⟨k,_,rfl⟩:=fQ.mp hp;exact (I.val hq G st gs.length ls.length k).1
 have lN:(iC q ls gs st).length=ls.length:=by simp [iC]
 have w:∀k,ar q ((iC q ls gs st).getD k o1) (km L (ae r) ld st ls.length k,M*ld):=λk=>by
  by_cases hk:k<ls.length
  ·have e:(iC q ls gs st).getD k o1=gU q ls gs (mulQ q (ls.getD (ls.length-1) o1) (bJ q (-1))) st gs.length k:=by unfold iC;rw [getD_at (by simpa using hk),j7,List.getElem_range]
   rw [e];have v:=(I.val hq G st gs.length ls.length k).2;by_cases h:st<=k/\k<st+gs.length
   ·rw [aq h] at v
    exact v
   ·rw [ao h] at v
    unfold km;rw [ao ⋯,j6]
    exact v
  ·rw [cF ⋯]
   have v:=I.w k;rw [cF ⋯] at v
   unfold km;rw [aq ⋯,cU (show r.length<=k-st by lia),cO,j6]
   exact Ng v
 have nM:¬q∣M*ld:=dr hq I.nM G.nl;refine ⟨⟨λp hp=>oa p (me hp),λk=>by rw [pG hq oa];exact w k,nM,?_,λz k=>I.bound G z _ _ _,λz=>I.Nh G z⟩,?_⟩
 ·refine bS.made (n:=st+1) (b:=λi=>if i=st then -(L (ls.length-1)) else 0) (aE:=1) (least:=ld) hq (bS.self hq _) I.d (λi hi=>ao ⋯) (gD hq) λt=>Cg.of_eq ?_
  rw [vI];unfold km
  split <;> grind
 ·have top:((iC q ls gs st).getD (ls.length-1) o1).1=0:=qk λnz=>by
   have v:=w (ls.length-1);have e0:km L (ae r) ld st ls.length (ls.length-1)=0:=by
    unfold km;rw [aq ⋯,show ls.length-1-st=r.length-1 by lia,<-G.lead]
    grind
   rw [e0] at v;obtain ⟨x,e⟩:=v;dsimp only at e;rw [gh,Int.sub_zero] at e;exact dr hq (Gy (cH hq oa _) nz) nM ⟨x,e⟩
  have:=Vz (ps:=iC q ls gs st) (L:=ls.length-1) λi hi=>by
   by_cases e:i=ls.length-1;·rw [e];exact top
   ·rw [cF ⋯];rfl
  lia
theorem gc.last(hq:au q)(I:gc q (ae r) ls L M B)(G:pL q gs r ld R)(sh:ls.length<gs.length)(c:aF ls=ls):ls=[]:=by
 have ll:=G.len;have out:∀t,r.length-1<=t->q∣L t:=λt ht=>by
  have v:=I.w t;rw [cF ⋯] at v
  obtain ⟨x,e⟩:=v;have e:(0:Int)*M-L t*1=q*x:=e;exact ⟨-x,by rw [fh];lia⟩
 have all:=rz hq G.ne G.tr I.d out;refine qk λne=>?_;have l1:=fT.mpr ne;have z:=q_ (ps:=ls) (by rw [c];exact l1)
 rw [c] at z;refine z (qk λnz=>?_);obtain ⟨x,e⟩:=I.w (ls.length-1);dsimp only at e;obtain ⟨y,ey⟩:=all (ls.length-1);refine dr hq (Gy (cH hq I.oa _) nz) I.nM ⟨x+y*(ls.getD (ls.length-1) o1).2,?_⟩;rw [ey] at e;grind
end
def WB:Sp:=λvs H Q _=>∃(td a c:Addr) (q:Int) (ps gs:aC) (r:List Int) (L:Nat->Int) (M ld:Int) (W R N J:Nat),vs=[.ref td,.ref a,.ref c]/\dP H td q/\au q/\aD (10 ^ 150) H q a ps/\aD B2 H q c gs/\ps.length<=200/\gs.length<=60/\gc q (ae r) ps L M W/\pL q gs r ld R/\1000<=W/\(aF ps).length<=N/\N<=60/\N<=J+gs.length/\W*(2*R) ^ (J+1)<=10 ^ 300/\1<=R /\
 ∀(d:Addr) (H':Hp),ai H H'->H d=none->H' d=some (.lst [])->Q (.ref d) H'
end My
namespace L2
open PySem PySem.Spec PyProof.Rows
def WC(K:aI):R2:=λx y H Q=>∃a b xs,x=.ref a/\y=.ref b/\bG K H a xs/\H b=some (.lst [])/\Q (.bl (!xs.isEmpty)) H
theorem G5{X:Cx}(hu:X.A.units+64<cLine):c_ X (compareOp .NotEq) (WC X.K):=by
 intro pins s σ H x y v u Q I rx ry h;intros bn2 h a b bn15 xs rfl rfl h1 h2 q;cases rx;cases ry;obtain ⟨us,r1,t1,_⟩:=I.list h1;obtain ⟨vs,r2,t2,_⟩:=I.list (bG.of h2);have l1:=r1.length;have l2:=r2.length;cases xs with
 | nil=>
  refine SeqAt.RcNeAt.lists (e:=λ_=>true) t1.isList t2.isList (by simp at l1 l2 ⊢;lia) ⋯ (λj z1 z2=>?_) _ _ _ _ ?_
  ·simp at l1
   have:us=[]:=kv.mp l1.symm;subst this;simp at z1
  ·rw [all_range]
   exact ⟨.bl false,H,I,rfl,q⟩
 | cons w ws=>
  refine SeqAt.RcNeAt.lists_lengths t1.isList t2.isList ?_ ⋯ _ _ _ _ ⟨.bl true,H,I,rfl,q⟩
  simp at l1 l2 ⊢;lia
end L2
namespace My
open PySem L2 Srs
structure G6 (q:Int) (xs ys:aC) (D ld:Int) (F G c:Nat->Int):Prop where
 bd:∀i j,(F i*G j).natAbs<=10 ^ 270
 w:∀i j,i<xs.length->j<ys.length->ar q ((xs.getD i o1).1*(ys.getD j o1).1,(xs.getD i o1).2*(ys.getD j o1).2) (F i*G j,D)
 sum:∀k,Cg q (ld*a_ xs.length ys.length F G k) (D*c k)
variable {q D:Int}
theorem WD{x:Int}(h:ar q o1 (x,D)):q∣x:=by obtain ⟨k,e⟩:=h;have e:(0:Int)*D-x*1=q*k:=e;exact ⟨-k,by rw [fh];lia⟩
variable {b ld:Int} {us ps:aC} {ts:List Int}
theorem Ni{s:Int}(hq:au q){u:List Int}(cu:∀p∈us,Canon q p)(cp:∀p∈ps,Canon q p)(k1:aP q b)(p1:∀k,ar q (ps.getD k o1) (ae ts k,b))(hu:∀k,k<us.length->ar q (us.getD k o1) (ae u k*b,ld))(lu:us.length=u.length)(hs:q=0->(s=1\/s=-1)/\D=s*ld)(hD:q≠0->D=1)(bu:q=0->∀i j,(ae u i*ae ts j).natAbs<=10 ^ 270):∃F G:Nat->Int,G6 q us ps D ld F G (cv (ae u) (ae ts)):=by
 by_cases z:q=0
 ·subst z
  obtain ⟨h1,h2⟩:=hs rfl
  refine ⟨λi=>s*ae u i,ae ts,λi j=>?_,λi j hi hj=>?_,λk=>Cg.of_eq ?_⟩
  ·rw [gJ,aZ,show s.natAbs=1 by rcases h1 with rfl | rfl <;> rfl,Nat.one_mul]
   exact bu rfl i j
  ·obtain ⟨x,e1⟩:=hu i hi
   obtain ⟨y,e2⟩:=p1 j
   dsimp only at e1 e2 ⊢
   refine ⟨0,?_⟩
   dsimp only
   rw [h2]
   rw [gh] at e1 e2
   generalize us.getD i o1=A at e1 ⊢
   generalize ps.getD j o1=C at e2 ⊢
   generalize ae u i=U at e1 ⊢
   generalize ae ts j=T at e2 ⊢
   have e1:A.1*ld=U*b*A.2:=mZ.mp e1
   have e2:C.1*b=T*C.2:=mZ.mp e2
   have e3:A.1*C.1*(s*ld)=s*U*T*(A.2*C.2):=by
    calc A.1*C.1*(s*ld)=s*C.1*(A.1*ld):=by grind
     _=s*U*A.2*(C.1*b):=by rw [e1];grind
     _=s*U*T*(A.2*C.2):=by rw [e2];grind
   rw [e3,gh,Int.sub_self]
  ·rw [pH (λi hi=>by rw [cU ⋯,cO]) (λj hj=>?_),eK,h2]
   ·grind
   ·have:=p1 j
    rw [cF hj] at this
    exact ie.mp (WD this)
 ·have b1:=k1.2 z
  have q3:q<=997:=by rcases hq with h | h <;> lia
  have zM:=λi=>(cH hq cu i).2 z
  have G7:=λi=>(cH hq cp i).2 z
  refine ⟨λi=>(us.getD i o1).1,λj=>(ps.getD j o1).1,λi j=>?_,λi j _ _=>?_,λk=>?_⟩
  ·have h1:=zM i
   have h2:=G7 j
   rw [aZ]
   exact af (bN (show _<=997 by lia) (show _<=997 by lia)) (by decide +kernel)
  ·rw [(zM i).1,(G7 j).1,hD z]
   exact ⟨0,by dsimp only;lia⟩
  ·have o0:(o1:Int×Int).1=0:=rfl
   rw [pH (λi hi=>by rw [cF hi];rfl) (λi hi=>by rw [cF hi];rfl),<-eK,hD z,g8]
   refine gR (λi=>?_) λj=>?_
   ·by_cases hi:i<us.length
    ·obtain ⟨x,e⟩:=hu i hi
     dsimp only at e
     rw [b1,(zM i).1,dC,dC] at e
     exact ⟨x,by rw [<-e,jb]⟩
    ·rw [cF ⋯,cU ⋯,o0]
     exact Cg.of_eq (by simp)
   ·obtain ⟨x,e⟩:=p1 j
    dsimp only at e
    rw [b1,(G7 j).1,dC,dC] at e
    exact ⟨x,e⟩
variable {rs gs:aC} {F2:Nat->Int} {r:List Int}
theorem WE(hq:au q){vs:aC}{F1 G1 c1 G2 c2:Nat->Int}(A:G6 q us ps D ld F1 G1 c1)(C:G6 q vs rs D ld F2 G2 c2)(ok:aP q D)(bz:∀t,Cg q (c1 t+c2 t) (ae r t))(cg:∀p∈gs,Canon q p)(hg:∀k,ar q (gs.getD k o1) (ae r k,ld))(nl:¬q∣ld) :
  aF (jj q (aF (de q us.length ps.length F1 G1 D (us.length+ps.length-1))) (aF (de q vs.length rs.length F2 G2 D (vs.length+rs.length-1))))=aF gs:=by
 refine Gw λk=>?_;have cP:=rh (n:=us.length) (m:=ps.length) (N:=us.length+ps.length-1) (f:=F1) (g:=G1) hq ok;have cR:=rh (n:=vs.length) (m:=rs.length) (N:=vs.length+rs.length-1) (f:=F2) (g:=G2) hq ok;rw [Vx hq ok (λp hp=>cP p (me hp)) (λp hp=>cR p (me hp)) (λk=>by rw [pG hq cP];exact rj ok k) (λk=>by rw [pG hq cR];exact rj ok k) k]
 refine gB hq (fK hq ok) (cH hq cg k) ((fo ok).trans (ar.symm ?_) ok);refine nV hq nl ?_;obtain ⟨m,e⟩:=hg k;obtain ⟨t,et⟩:=((A.sum k).add (C.sum k)).trans ((Cg.of_eq (jv D (c1 k) (c2 k)).symm).trans ((bz k).mulL D));dsimp only at e ⊢;refine ⟨D*m-t*(gs.getD k o1).2,?_⟩;grind
theorem Cw{a:Int}{D X Y:Nat->Int}(hq:au q)(h:bS q D X)(na:¬q∣a)(e:∀t,Cg q (a*Y t) (b*X t)):bS q D Y:=by
 intros bn13 h c w N nc l x;refine ⟨c*a,λi=>b*w i,N,dr hq nc na,λi hi=>by show b*w i=0;rw [l i hi,cO],λt=>?_⟩
 rw [eK];refine Cg.trans (Cg.of_eq (by rw [gJ])) (((e t).mulL c).trans (Cg.trans (Cg.of_eq ?_) ((x t).mulL b)))
 grind
theorem WG{r':List Int}(hq:au q)(ne:r≠[])(ne':r'≠[])(tr:dy q r)(mh:dy q r')(d:bS q (ae r) (ae r'))(d':bS q (ae r') (ae r)):r.length=r'.length/\∀t,Cg q (ae r' (r'.length-1)*ae r t) (ae r (r.length-1)*ae r' t):=by
 have l1:=fT.mpr ne;have l2:=fT.mpr ne';have e:r.length=r'.length:=by
  refine Nat.le_antisymm (yv λh=>?_) (yv λh=>?_);·exact mh ne' (rz hq ne tr d (λt ht=>by rw [cU ⋯];exact dA q) _)
  ·exact tr ne (rz hq ne' mh d' (λt ht=>by rw [cU ⋯];exact dA q) _)
 refine ⟨e,?_⟩;generalize ha:ae r' (r'.length-1)=a;generalize hb:ae r (r.length-1)=b;have dz:bS q (ae r) (λt=>a*ae r t-b*ae r' t):=bS.made (n:=1) (b:=λi=>if i=0 then a else 0) (aE:=1) (least:=-b) hq (bS.self hq _) d (λi hi=>ao ⋯) (gD hq) λt=>Cg.of_eq (by rw [vI,aq (cn t),oT];grind)
 intro t;have z:=rz hq ne tr dz (λt ht=>by
  by_cases h:t=r.length-1
  ·rw [h,hb,show r.length-1=r'.length-1 by lia,ha]
   exact ⟨0,by grind⟩
  ·show q∣a*ae r t-b*ae r' t
   rw [cU (show r.length<=t by lia),cU (show r'.length<=t by lia)]
   exact ⟨0,by simp⟩) t
 exact z
section
variable {q ld b1 b2 mz Cy G8:Int} {ps rs gs us vs vO Cz rF:aC} {ts ws r u v G9 CA r' u' v':List Int}
theorem rH{b':Int}{p:Int×Int}{x y:Int}(hc:Canon q p)(h:ar q p (x,b))(h':ar q p (y,b')):Cg q (b'*x) (b*y):=by obtain ⟨k,e⟩:=h.symm.trans h' hc.bot;exact ⟨k,by dsimp only at e;rw [<-e];grind⟩
theorem dg.e7(hq:au q)(cp:∀p∈ps,Canon q p)(cr:∀p∈rs,Canon q p)(C:dg q ps rs gs us vs ts ws r u v b1 b2 ld)(C':dg q ps rs vO Cz rF G9 CA r' u' v' Cy G8 mz):bS q (ae r) (ae r'):=by
 have d1:bS q (ae r) (ae G9):=Cw hq C.d1 (C.k1.nz hq) λt=>(rH (cH hq cp t) (C'.p1 t) (C.p1 t)).trans (Cg.refl _);have d2:bS q (ae r) (ae CA):=Cw hq C.d2 (C.k2.nz hq) λt=>(rH (cH hq cr t) (C'.p2 t) (C.p2 t)).trans (Cg.refl _);have d3:bS q (ae r) (cv (ae v') (ae CA)):=by rw [vK];exact d2.rA (N:=v'.length) λi hi=>cU hi
 refine bS.made (aE:=1) (least:=1) (b:=ae u') (n:=u'.length) hq d1 d3 (λi hi=>cU hi) (gD hq) λt=>?_;rw [g8,g8];exact (C'.bz t).symm
theorem dg.vP(C:dg q ps rs gs us vs ts ws r u v b1 b2 ld)(k:Nat):ar q (gs.getD k o1) (ae r k,ld):=by
 by_cases h:k<gs.length
 ·have:=C.hg k h
  rwa [dC] at this
 ·have:=C.lg
  rw [cF ⋯,cU ⋯]
  exact rg
theorem dg.uniq(hq:au q)(cp:∀p∈ps,Canon q p)(cr:∀p∈rs,Canon q p)(C:dg q ps rs gs us vs ts ws r u v b1 b2 ld)(C':dg q ps rs vO Cz rF G9 CA r' u' v' Cy G8 mz)(ne:r≠[])(ne':r'≠[])(cg:∀p∈gs,Canon q p)(WH:∀p∈vO,Canon q p):vO=gs:=by
 obtain ⟨l,e⟩:=WG hq ne ne' C.tr C'.tr (C.e7 hq cp cr C') (C'.e7 hq cp cr C);have l1:=C.lg;have l2:=C'.lg;refine uP ⋯ λi h1 h2=>?_
 rw [<-getD_at (d:=o1) h1,<-getD_at (d:=o1) h2];refine gB hq (cH hq WH i) (cH hq cg i) ?_;have w:=C.vP i;have w':=C'.vP i;have x:=e i;rw [<-C.lead ne,<-C'.lead ne'] at x;refine nV hq (dr hq C.nl C'.nl) ?_;obtain ⟨a,ea⟩:=w;obtain ⟨b,eb⟩:=w';obtain ⟨c,ec⟩:=x;dsimp only at ea eb ⊢;generalize gs.getD i o1=A at ea ⊢;generalize vO.getD i o1=B at eb ⊢;refine ⟨b*A.2*ld-a*B.2*mz-c*(A.2*B.2),?_⟩;grind
end
variable {M b2:Int} {aV cW:aC}
theorem WI(hq:au q)(nM:¬q∣M)(gC:aP q b2){bs ls:List Int}(cb:∀p∈aV,Canon q p)(cl:∀p∈cW,Canon q p)
  (hb:∀i,i<aV.length->ar q (aV.getD i o1) (bs.getD i 0*b2,M)) (hl:∀k,ar q (cW.getD k o1) (ls.getD k 0,M)) :
  ∃(D:Int) (F G:Nat->Int),aP q D/\(∀i,i<aV.length->ar q (F i,D) (bs.getD i 0,M))/\(∀k,ar q (G k,D) (ls.getD k 0,M))/\(q=0->D.natAbs<=M.natAbs/\∀i,(F i).natAbs<=(bs.getD i 0).natAbs)/\(q≠0->D=1/\∀i,(F i).natAbs<=1000):=by
 by_cases z:q=0
 ·subst z
  have hM:M≠0:=λe=>nM (e▸ja 0);obtain ⟨s,D,hs,eD,hD⟩:∃s D:Int,(s=1\/s=-1)/\D=s*M/\1<=D:=by
   by_cases h:0<M;·exact ⟨1,M,.inl rfl,⋯,⋯⟩
   ·exact ⟨-1,-M,.inr rfl,⋯,⋯⟩
  have ab:∀x:Int,(s*x).natAbs=x.natAbs:=λx=>by rw [aZ];rcases hs with rfl | rfl <;> simp
  refine ⟨D,λi=>s*bs.getD i 0,λi=>s*ls.getD i 0,⟨λ_=>hD,λh=>absurd rfl h⟩,λi _=>⟨0,?_⟩,λi=>⟨0,?_⟩,λ_=>⟨by rw [eD,ab];exact aL _,λi=>by rw [ab];exact aL _⟩,λh=>absurd rfl h⟩
  ·dsimp only
   rw [eD];grind
  ·dsimp only
   rw [eD];grind
 ·have b1:=gC.2 z
  have q3:q<=997:=by rcases hq with h | h <;> lia
  have zP:=λi=>cH hq cb i;have WJ:=λi=>cH hq cl i;refine ⟨1,λi=>(aV.getD i o1).1,λi=>(cW.getD i o1).1,aP.one,λi hi=>?_,λi=>?_,λh=>absurd h z,λ_=>⟨rfl,λi=>?_⟩⟩
  ·have h:=hb i hi
   rw [b1,dC] at h;have e:=((zP i).2 z).1;have h':ar q ((aV.getD i o1).1,(aV.getD i o1).2) (bs.getD i 0,M):=h;rw [e] at h';exact h'
  ·have h:=hl i
   have e:=((WJ i).2 z).1;have h':ar q ((cW.getD i o1).1,(cW.getD i o1).2) (ls.getD i 0,M):=h;rw [e] at h';exact h'
  ·have e:=(zP i).2 z
   dsimp only;lia
theorem WK{bs F:Int}{p:Int×Int}(hq:au q)(nM:¬q∣M)(h:ar q p (bs*b2,M))(hF:ar q (F,D) (bs,M)):ar q p (F*b2,D):=by refine nV hq nM ?_;obtain ⟨a,e1⟩:=h;obtain ⟨b,e2⟩:=hF;dsimp only at e1 e2 ⊢;refine ⟨a*D-b*b2*p.2,?_⟩;grind
structure jQ (q:Int) (n m:Nat) (ps rs aV cW:aC) (D b2:Int) (F G u:Nat->Int) (BB:Nat):Prop where
 ok:aP q D
 Nj:aP q b2
 wu:∀j,ar q (rs.getD j o1) (u j,b2)
 fJ:fM m u
 wb:∀i,ar q (aV.getD i o1) (F i*b2,D)
 zQ:fM n F
 wl:∀k,ar q (cW.getD k o1) (G k,D)
 whole:∀k,ar q (ps.getD k o1) (cv F u k+G k,D)
 bD:D.natAbs<=BB
 WL:∀i j,(F i*u j).natAbs<=BB
 Nk:∀i,(F i*b2).natAbs<=BB
 WM:∀p∈aV,p.2∣D
def WN(C:Addr):Sp:=λvs H Q _=>∃(z a b:Addr) (q:Int) (ps rs:aC) (D1 D2:Int) (f g:Nat->Int) (T U L BB:Nat),vs=[.ref z,.ref a,.ref b]/\dO C H z q/\au q/\aD (10 ^ 290) H q a ps/\aD (10 ^ 290) H q b rs/\GP q ps rs D1 D2 f g T U L/\T*(2*U) ^ L<=BB/\1000*(2*U) ^ L*D1.natAbs<=BB/\10 ^ 9<=BB /\
 ∀(p l1 l2:Addr) (aV cW:aC) (D b2:Int) (F G u:Nat->Int) (H':Hp),ai H H'->H' p=some (.tup [.ref l1,.ref l2])->H l1=none->H l2=none->aD (10 ^ 580) H' q l1 aV->aD (10 ^ 580) H' q l2 cW->cW.length<(aF rs).length->aV.length=(aF ps).length+1-(aF rs).length->aF cW=cW->jQ q aV.length (aF rs).length ps rs aV cW D b2 F G u BB->Q (.ref p) H'
variable {n m:Nat} {h:Nat->Int}
theorem WO{MS:Int}{nb BB:Nat}{P:aC}{Fq G uq:Nat->Int}(hq:au q)(n1:1<=n)(cP:∀p∈P,Canon q p)(cl:∀p∈cW,Canon q p)(R:jQ q nb m P (bK q n) aV cW D b2 Fq G uq BB)(iY:aP q MS)(w:∀k,ar q (P.getD k o1) (h k,MS))(lh:fM (n+n) h)(ll:cW.length<=n):dQ cW n=fN q n h MS:=by
 have ct:∀j,Canon q ((bK q n).getD j o1):=λj=>by
  rw [vM n1]
  split
  ·exact (iW q _ hq).1
  ·split
   ·exact (iW q _ hq).1
   ·exact rf hq
 have eu:∀j,Cg q (uq j) (b2*tp n j):=λj=>by
  have:=rH (ct j) (R.wu j) (nZ hq n1 j)
  rwa [g8] at this
 have e1:∀k,Cg q (MS*(cv Fq uq k+G k)) (D*h k):=λk=>rH (cH hq cP k) (R.whole k) (w k);have mo:Mo q n (λk=>MS*G k) (λk=>D*h k):=by
  refine ⟨1,λi=>-(MS*b2)*Fq i,nb,gD hq,λi hi=>by show -(MS*b2)*Fq i=0;rw [R.zQ i hi,cO],λt=>?_⟩
  rw [g8,g8,eK];have e2:Cg q (cv Fq uq t) (b2*cv Fq (tp n) t):=by rw [<-kj];exact gR (λ_=>Cg.refl _) eu
  have e3:=(e1 t).sub (e2.mulL MS);refine Cg.trans (Cg.of_eq ?_) (e3.trans (Cg.of_eq ?_))
  ·show MS*G t=_
   grind
  ·grind
 have CB:=mo.trans hq ((GO hq (n:=n) (h:=h) (by rw [uO];exact lh)).mul D).symm
 have e4:=CB.uniq hq n1 (λt ht=>by
  have z:=R.wl t;rw [cF ⋯] at z
  exact j4 (rE z) (uH ..)) (λt ht=>by rw [zJ n _ t ht,cO];exact dA q)
 refine uP (by rw [kT];unfold dQ;simp;lia) λi h1 h2=>?_
 have hi:i<n:=by rw [kT] at h2;exact h2
 rw [<-getD_at (d:=o1) h1,<-getD_at (d:=o1) h2,zN,Cs hi];refine gB hq (cH hq cl i) (fK hq iY) ((R.wl i).trans (ar.trans ?_ (fo iY).symm iY) R.ok);obtain ⟨c,x⟩:=e4 i;exact ⟨c,by dsimp only at x ⊢;rw [<-x];grind⟩
def iZ(q:Int)(n W:Nat):Nat:=1000*(2*Zt q n W 2) ^ n+10 ^ 9
structure zR (q:Int) (n W:Nat):Prop where
 bw:W*iZ q n W<=10 ^ 255
 lw:W*(2*Zt q n W 2) ^ n<=10 ^ 300
def Nl(q:Int)(n W:Nat)(ps gs ms:aC):Prop:=∃(us vs aV cW:aC) (ts ws r u v:List Int) (b1 b2 ld D b:Int) (F G uu:Nat->Int),dg q ps (bK q n) gs us vs ts ws r u v b1 b2 ld/\2<=r.length/\(∀x∈r,x.natAbs<=Zt q n W 2)/\ld.natAbs<=Zt q n W 2/\(∀x∈ts,x.natAbs<=W)/\b1.natAbs<=W/\aF gs=gs/\gs.length<=n+1/\ms=dQ aV n/\aV.length<=n/\cW.length<gs.length/\jQ q aV.length gs.length (bK q n) gs aV cW D b F G uu (iZ q n W)
def WQ(C:Addr):Sp:=λvs H Q _=>∃(z a b:Addr) (q S:Int) (n W X:Nat) (ps ss:aC) (s:Nat->Int),vs=[.ref z,.ref a,.ref b]/\dO C H z q/\au q/\aD (10 ^ 290) H q a ps/\aD (10 ^ 290) H q b ss/\jq q n W ps/\zR q n W/\ss.length=n/\RowW q ss S s X X n/\1000<=X/\X<=10 ^ 25 /\
 (∀(p l0 m:Addr) (gs ms:aC) (H':Hp),ai H H'->H' p=some (.tup [.str (Str.ofString "loose"),.ref l0,.ref m])->H l0=none->H m=none->l0≠m->aD B2 H' q l0 gs->aD B2 H' q m ms->Nl q n W ps gs ms->(∀D f,jO q n ps D f->¬Inv q n f)->Q (.ref p) H') /\
 ∀(p c:Addr) (rs:aC) (F:Nat->Int) (M:Int) (H':Hp),ai H H'->H' p=some (.tup [.str (Str.ofString "one"),.ref c])->H c=none->aD B2 H' q c (fN q n (cv F s) (M*S))->my q n ps rs (Zt q n W 1*W) F M->Q (.ref p) H'
section
variable {q ld b1 b2 D b:Int} {n m BB:Nat} {ps gs us vs aV cW:aC} {ts ws r u v:List Int} {F G uu:Nat->Int}
theorem dg.G_(hq:au q)(n1:1<=n)(C:dg q ps (bK q n) gs us vs ts ws r u v b1 b2 ld):bS q (ae r) (tp n):=
 Cw hq C.d2 (C.k2.nz hq) (b:=1) λt=>by rw [g8];exact (C.tw hq n1 t).symm
theorem jQ.Nm(hq:au q)(cg:∀p∈gs,Canon q p)(C:dg q ps (bK q n) gs us vs ts ws r u v b1 b2 ld)(R:jQ q aV.length m (bK q n) gs aV cW D b F G uu BB)(j:Nat):Cg q (ld*uu j) (b*ae r j):=rH (cH hq cg j) (R.wu j) (C.vP j)
theorem jQ.Nn(hq:au q)(n1:1<=n)(cg:∀p∈gs,Canon q p)(C:dg q ps (bK q n) gs us vs ts ws r u v b1 b2 ld)(R:jQ q aV.length m (bK q n) gs aV cW D b F G uu BB)(ll:cW.length<gs.length)(t:Nat):Cg q (cv F uu t) (D*tp n t):=by
 have lg:=C.lg;have ne:r≠[]:=λe=>by rw [e] at lg;exact absurd ll (by rw [lg];exact mU _)
 have e1:∀t,Cg q (cv F uu t+G t) (D*tp n t):=λt=>by
  have c:Canon q ((bK q n).getD t o1):=by
   rw [vM n1]
   split
   ·exact (iW q _ hq).1
   ·split
    ·exact (iW q _ hq).1
    ·exact rf hq
  have:=rH c (R.whole t) (nZ hq n1 t)
  rwa [g8] at this
 have du:bS q (ae r) (cv F uu):=by rw [vK];exact (Cw hq (bS.self hq _) C.nl (R.Nm hq cg C)).rA (N:=aV.length) R.zQ
 have dG:bS q (ae r) G:=bS.made (aE:=1) (least:=-1) (n:=1) (b:=λi=>if i=0 then D else 0) hq (C.G_ hq n1) du (λi hi=>ao ⋯) (gD hq) λt=>by
  rw [vI,aq (cn t),oT];have:=(e1 t).sub (Cg.refl (q:=q) (cv F uu t));refine Cg.trans (Cg.of_eq ?_) (this.trans (Cg.of_eq ?_));·grind
  ·grind
 have z:=rz hq ne C.tr dG (λt ht=>by
  have w:=R.wl t;rw [cF ⋯] at w
  exact rE w) t
 have y:=e1 t;obtain ⟨c,hc⟩:=z;obtain ⟨d,hd⟩:=y;exact ⟨d-c,by rw [mY,<-hd,<-hc];lia⟩
theorem jQ.pair(hq:au q)(cg:∀p∈gs,Canon q p)(R:jQ q aV.length m (bK q n) gs aV cW D b F G uu BB)(i j:Nat):ar q ((gs.getD i o1).1*((dQ aV n).getD j o1).1,(gs.getD i o1).2*((dQ aV n).getD j o1).2) (uu i*F j,D):=by rw [zN];have w:=B_ (R.wu i) (R.wb j);refine nV hq (R.Nj.nz hq) ?_;obtain ⟨k,e⟩:=w;dsimp only at e ⊢;exact ⟨k,by rw [<-e];grind⟩
theorem jQ.turn(hq:au q)(n1:1<=n)(cg:∀p∈gs,Canon q p)(C:dg q ps (bK q n) gs us vs ts ws r u v b1 b2 ld)(R:jQ q aV.length gs.length (bK q n) gs aV cW D b F G uu BB)(ll:cW.length<gs.length)(lb:aV.length<=n):aF (de q gs.length (dQ aV n).length uu F D (gs.length+(dQ aV n).length-1))=bK q n:=by
 rw [<-iX hq n1];refine Gw λk=>?_;have lP:(dQ aV n).length=n:=by unfold dQ;simp;lia
 have c:Canon q ((bK q n).getD k o1):=by
  rw [vM n1]
  split
  ·exact (iW q _ hq).1
  ·split
   ·exact (iW q _ hq).1
   ·exact rf hq
 refine gB hq (cH hq (rh hq R.ok) k) c ((rj R.ok k).trans (ar.trans ?_ (nZ hq n1 k).symm aP.one) R.ok);rw [pH R.fJ (λi hi=>R.zQ i ⋯),vG]
 obtain ⟨x,e⟩:=R.Nn hq n1 cg C ll k;exact ⟨x,by dsimp only;rw [<-e];grind⟩
theorem jQ.none(hq:au q)(n1:1<=n)(cp:∀p∈ps,Canon q p)(cg:∀p∈gs,Canon q p)(C:dg q ps (bK q n) gs us vs ts ws r u v b1 b2 ld)(R:jQ q aV.length m (bK q n) gs aV cW D b F G uu BB)(ll:cW.length<gs.length)(lb:aV.length<=n){D1:Int}{f:Nat->Int}(w:jO q n ps D1 f)(t:Nat):Cg q (wr n (cv f (λi=>F i*b)) t) 0:=by
 obtain ⟨c,x,N,nc,lx,e⟩:=C.d1;have mo:Mo q n (cv f F) (λ_=>0):=by
  refine ⟨b*c*b1,λi=>D1*ld*D*x i,N,dr hq (dr hq (R.Nj.nz hq) nc) (C.k1.nz hq),λi hi=>by show D1*ld*D*x i=0;rw [lx i hi,cO],λt=>?_⟩
  rw [eK,cO,Int.zero_add];have e1:Cg q (b1*cv f F t) (D1*cv (ae ts) F t):=by rw [<-eK,<-eK];exact gR (λi=>(rH (cH hq cp i) (w.w i) (C.p1 i))) λ_=>Cg.refl _
  have e2:Cg q (c*cv (ae ts) F t) (cv x (cv (ae r) F) t):=by rw [<-eK,<-vH];exact gR e λ_=>Cg.refl _
  have e3:Cg q (b*cv x (cv (ae r) F) t) (ld*D*cv x (tp n) t):=by
   rw [<-kj,<-kj];refine gR (λ_=>Cg.refl _) λi=>?_;have a1:Cg q (b*cv (ae r) F i) (ld*cv uu F i):=by rw [<-eK,<-eK];exact gR (λj=>(R.Nm hq cg C j).symm) λ_=>Cg.refl _
   refine a1.trans ?_;rw [vG,gJ];exact (R.Nn hq n1 cg C ll i).mulL ld
  refine Cg.trans (Cg.of_eq ?_) ((e1.mulL (b*c)).trans (Cg.trans (Cg.of_eq ?_) ((e2.mulL (b*D1)).trans (Cg.trans (Cg.of_eq ?_) ((e3.mulL D1).trans (Cg.of_eq ?_))))))
  all_goals grind
 have e0:cv f (λi=>F i*b)=λt=>b*cv f F t:=funext λt=>by
  rw [<-kj]
  congr 1
  exact funext λi=>jb ..
 have CB:=mo.mul b;rw [<-e0] at CB;have l:fM (n+n) (cv f (λi=>F i*b)):=vJ w.low λi hi=>by show F i*b=0;rw [R.zQ i ⋯,gh]
 exact (Nc hq n1 l (λt _=>by rw [cO];exact dA q) CB t).trans (Cg.of_eq (cO _))
end
theorem WR(hq:au q)(ok:aP q D)(e:∀t,Cg q (wr n h t) 0):aF (fN q n h D)=[]:=by
 rw [show ([]:aC)=aF [] from rfl];refine Gw λk=>?_;show (fN q n h D).getD k o1=o1;by_cases hk:k<n
 ·rw [Cs hk]
  refine gB hq (fK hq ok) (rf hq) ((fo ok).trans (ar.trans (Cu (e k)) (rg (D:=D)).symm ok) ok)
 ·exact cF (by rw [kT];lia)
variable {f:Nat->Int}
theorem WS{g:Nat->Int}(hf:∀i,n<=i->q∣f i)(hg:∀i,m<=i->q∣g i)(k:Nat):Cg q (a_ n m f g k) (cv f g k):=by
 have e:a_ n m f g k=a_ n m (λj=>if j<n then f j else 0) g k:=by unfold a_;refine dt λi hi=>?_;dsimp only;rw [aq hi]
 rw [e];refine (GZ (λi hi=>ao ⋯) hg k).trans (gR (λi=>?_) λ_=>Cg.refl _)
 split
 ·exact Cg.refl _
 ·obtain ⟨c,e⟩:=hf i ⋯
  exact ⟨-c,by rw [e,fh];lia⟩
structure zS (q:Int) (n F W1:Nat):Prop where
 n1:1<=n
 cI:n<=40
 s1:rC q n W1
 sq:zR q n W1
 Hn:dF ([.int (10 ^ 12),.int (10 ^ 12),.int 100,.int 9,.int 9,.int 9]:List V) ((if (6:Int)<(n:Int) then 6 else (n:Int))-1)=some (.int (F:Int))
 f4:9<=F
 rJ:F<=10 ^ 20
 b1:q=0->4*(F ^ n+1000)<=W1/\2*(n*(F ^ n+1000))<=W1
 x40:F ^ n+1000<=10 ^ 40
 n6:q=0->n<=6
 z1:W1*(Zt q n W1 1*W1)<=10 ^ 220
 WT:W1<=10 ^ 25
variable {W:Nat}
theorem vQ(h:(decide (W*iZ 0 n W<=10 ^ 255) && decide (W*(2*Zt 0 n W 2) ^ n<=10 ^ 300))=true):zR 0 n W:=by rw [yw,oP,oP] at h;exact ⟨h.1,h.2⟩
theorem WU(n1:1<=n)(n6:n<=6):∃F W1,zS 0 n F W1:=by
 rcases (show n=1\/n=2\/n=3\/n=4\/n=5\/n=6 by lia) with rfl | rfl | rfl | rfl | rfl | rfl
 ·exact ⟨10 ^ 12,10 ^ 25,∅,∅,vN ∅ ∅ ∅ (by decide +kernel) (by decide +kernel),vQ (by decide +kernel),rfl,∅,∅,λ_=>by decide +kernel,by decide +kernel,λ_=>by decide,by decide +kernel,∅⟩
 ·exact ⟨10 ^ 12,10 ^ 25,∅,∅,vN ∅ ∅ ∅ (by decide +kernel) (by decide +kernel),vQ (by decide +kernel),rfl,∅,∅,λ_=>by decide +kernel,by decide +kernel,λ_=>by decide,by decide +kernel,∅⟩
 ·exact ⟨100,10 ^ 7,∅,∅,vN ∅ ∅ ∅ (by decide +kernel) (by decide +kernel),vQ (by decide +kernel),rfl,∅,∅,λ_=>by decide +kernel,by decide +kernel,λ_=>by decide,by decide +kernel,∅⟩
 ·exact ⟨9,10 ^ 7,∅,∅,vN ∅ ∅ ∅ (by decide +kernel) (by decide +kernel),vQ (by decide +kernel),rfl,∅,∅,λ_=>by decide +kernel,by decide +kernel,λ_=>by decide,by decide +kernel,∅⟩
 ·exact ⟨9,10 ^ 7,∅,∅,vN ∅ ∅ ∅ (by decide +kernel) (by decide +kernel),vQ (by decide +kernel),rfl,∅,∅,λ_=>by decide +kernel,by decide +kernel,λ_=>by decide,by decide +kernel,∅⟩
 ·exact ⟨9,7*10 ^ 6,∅,∅,vN ∅ ∅ ∅ (by decide +kernel) (by decide +kernel),vQ (by decide +kernel),rfl,∅,∅,λ_=>by decide +kernel,by decide +kernel,λ_=>by decide,by decide +kernel,∅⟩
theorem WV(z:q≠0)(n1:1<=n)(cI:n<=40):∃F W1,zS q n F W1:=by
 have s:=Wv z n1 cI;have e:∀j,Zt q n 1000 j=1000:=λj=>by unfold Zt;rw [ao z]
 have pw:∀x,1<=x->x ^ n<=x ^ 40:=λx hx=>dD hx cI;have sq:zR q n 1000:=by
  refine ⟨?_,?_⟩
  ·unfold iZ
   rw [e];exact af (dJ _ (Nat.add_le_add_right (dJ _ (pw _ ∅)) _)) (by decide +kernel)
  ·rw [e]
   exact af (dJ _ (pw _ ∅)) (by decide +kernel)
 have z1:1000*(Zt q n 1000 1*1000)<=10 ^ 220:=by rw [e];decide +kernel
 have x9:9 ^ n+1000<=10 ^ 40:=af (Nat.add_le_add_right (pw 9 ∅) _) (by decide +kernel)
 rcases (show n=1\/n=2\/n=3\/n=4\/n=5\/n=6\/7<=n by lia) with rfl | rfl | rfl | rfl | rfl | rfl | h
 ·exact ⟨10 ^ 12,1000,n1,cI,s,sq,rfl,∅,∅,λh=>absurd h z,by decide +kernel,λh=>absurd h z,z1,∅⟩
 ·exact ⟨10 ^ 12,1000,n1,cI,s,sq,rfl,∅,∅,λh=>absurd h z,by decide +kernel,λh=>absurd h z,z1,∅⟩
 ·exact ⟨100,1000,n1,cI,s,sq,rfl,∅,∅,λh=>absurd h z,by decide +kernel,λh=>absurd h z,z1,∅⟩
 ·exact ⟨9,1000,n1,cI,s,sq,rfl,∅,∅,λh=>absurd h z,x9,λh=>absurd h z,z1,∅⟩
 ·exact ⟨9,1000,n1,cI,s,sq,rfl,∅,∅,λh=>absurd h z,x9,λh=>absurd h z,z1,∅⟩
 ·exact ⟨9,1000,n1,cI,s,sq,rfl,∅,∅,λh=>absurd h z,x9,λh=>absurd h z,z1,∅⟩
 ·exact ⟨9,1000,n1,cI,s,sq,by rw [aq ⋯];rfl,∅,∅,λh=>absurd h z,x9,λh=>absurd h z,z1,∅⟩
variable {H:Hp}
theorem jP.Np{P:Addr}{F W1:Nat}{D:Addr}{ys:List V}(hq:au q)(sz:zS q n F W1)(nD:D≠P)(e:H D=some (.lst ys))(l:ys.length=n)(hP:∀(i:Nat) (y:V),ys[i]?=some y->∃xm:Int×Int,aY F (My.er P H) q y xm.1 xm.2):jP P H q n W1 D:=by
 obtain ⟨xs,hR,lx⟩:=Gf (nS nD e) hP;have rJ:=sz.rJ;have f4:=sz.f4;have bF:F<=B2:=af rJ (by decide +kernel)
 refine ⟨xs,hR.weak bF,G3 hq sz.s1 ⋯ hR.cX λz=>?_⟩
 have X8:F ^ n+1000<=W1:=af (iL _ ∅) (sz.b1 z).1
 obtain ⟨D',f',R'⟩:=GY (X:=F ^ n+1000) hq hR ⋯ ⋯ sz.n1 (λ_=>oS ..) (Nat.le_add_left ..)
 exact ⟨D',f',R'.weak X8 X8 (aL _)⟩
def WX(K:aI):Sp:=λvs H Q _=>∃(P a td:Addr) (ns:List Int) (q:Int) (n F W1:Nat),vs=[.ref P,.ref td,.int (n:Int)]/\dw H P a/\bG K (er P H) a (ns.map V.int)/\dP (er P H) td q/\au q/\zS q n F W1 /\
 ∀(r:Addr) (ps:aC) (H':Hp),aR P H H'->dw H' P a->aD B2 (er P H') q r ps->jq q n W1 ps->Q (.ref r) H'
theorem jq.jN{B:Nat}{a:Addr}(hq:au q)(h:aD B H q a ps)(T:jq q n W ps)(w:W<=10 ^ 25):aD (10 ^ 150) H q a ps:=by
 obtain ⟨D,f,R⟩:=T.row;have cp:=h.cX;have b:10 ^ 25<=10 ^ 150:=dD ∅ ∅
 refine h.jN λp hp=>?_;obtain ⟨i,hi,rfl⟩:=ig hp;have x:=R.w i;rw [getD_at hi] at x;exact zO hq (cp _ hp) x (R.ok.nz hq) (by decide +kernel) (λ_=>af (R.bf i) (af w b)) λ_=>af R.bD (af w b)
variable {X:Nat} {F:Nat->Int}
theorem my.WY{S:Int}{ss:aC}{s:Nat->Int}(hq:au q)(n1:1<=n)(B:my q n ps rs X F M)(w:jO q n ps D f)(ws:jO q n ss S s)(l:ss.length=n)(cs:∀p∈ss,Canon q p):fN q n (cv f (wr n (cv F s))) (D*(M*S))=ss:=by
 refine M9 hq (w.ok.mul (B.eS.ok.mul ws.ok)) ws.ok l cs ws.w λt ht=>?_;have m1:Mo q n (cv f (wr n (cv F s))) (λt=>D*M*s t):=by
  refine ((GO hq (h:=cv F s) (by rw [uO];exact vJ B.eS.low ws.low)).GL w.low).trans hq ?_
  rw [<-GN,<-vL];exact (B.back D f w).rA ws.low
 have e:=(Nc hq n1 (vJ w.low (zJ n _)) (λt ht=>by rw [ws.low t ht,cO];exact dA q) m1 t).mulL S
 exact e.trans (Cg.of_eq (by grind))
def WZ:Sp:=λvs H Q _=>∃(td a b p c:Addr) (q S M:Int) (n W X:Nat) (ps ss rs:aC) (s F:Nat->Int),vs=[.ref td,.ref a,.ref b,.ref p]/\dP H td q/\au q/\aD B2 H q a ps/\aD B2 H q b ss/\H p=some (.tup [.str (Str.ofString "one"),.ref c])/\aD B2 H q c (fN q n (cv F s) (M*S))/\my q n ps rs (Zt q n W 1*W) F M/\jq q n W ps/\W*(Zt q n W 1*W)<=10 ^ 220/\ss.length=n/\RowW q ss S s X X n/\X<=10 ^ 25/\∀H',ai H H'->Q (.bl true) H'
def W0(C:Addr):Sp:=λvs H Q _=>∃(td z a fa:Addr) (q b1 b2 ld:Int) (n W:Nat) (ps gs us rF:aC) (ts ws r u v:List Int),vs=[.ref td,.ref z,.ref a,.ref fa]/\dP H td q/\dO C H z q/\au q/\aD (10 ^ 150) H q a ps/\aD B2 H q fa gs/\aF gs=gs/\jq q n W ps/\dg q ps (bK q n) gs us rF ts ws r u v b1 b2 ld/\∀H',ai H H'->Q (.bl true) H'
def W3(C:Addr):Sp:=λvs H Q _=>∃(td z a p l0 m:Addr) (q:Int) (n W:Nat) (ps gs ms:aC),vs=[.ref td,.ref z,.ref a,.ref p]/\dP H td q/\dO C H z q/\au q/\aD (10 ^ 150) H q a ps/\H p=some (.tup [.str (Str.ofString "loose"),.ref l0,.ref m])/\aD B2 H q l0 gs/\aD B2 H q m ms/\jq q n W ps/\zR q n W/\Nl q n W ps gs ms/\∀H',ai H H'->Q (.bl true) H'
theorem dg.short{b1:Int}{vs:aC}{ws u v:List Int}(hq:au q)(n1:1<=n)(C:dg q ps (bK q n) gs us vs ts ws r u v b1 b2 ld):r.length<=n+1:=yv λh=>by
 have z:=rz hq (λe=>by rw [e] at h;exact absurd h (mU _)) C.tr (C.G_ hq n1) (λt ht=>by
  unfold tp;rw [ao ⋯,ao ⋯]
  exact dA q) 0
 unfold tp at z;rw [ao ⋯,aq rfl] at z
 exact gD hq ((Int.dvd_neg).mp z)
theorem my.same{M2:Int}{X2:Nat}{Ho:aC}(hq:au q)(n1:1<=n)(B:my q n ps rs X F M)(zT:my q n ps Ho X2 F2 M2)(w:jO q n ps D f)(cr:∀p∈rs,Canon q p):fN q n (cv F2 (wr n (dl 1))) (M2*1)=rs:=by
 refine M9 hq (zT.eS.ok.mul aP.one) B.eS.ok B.len cr B.eS.w λt ht=>?_;have e0:wr n (dl 1)=dl 1:=funext λt=>by
  unfold wr;by_cases h:t<n;·rw [aq h,GK 1 (t+n) ⋯,j6]
  ·rw [ao h,GK 1 t ⋯]
 have e1:cv F2 (dl 1)=F2:=by rw [vK,vL];exact funext λt=>g8 _
 rw [e0,e1,dC];have a:=(zT.back D f w).rA B.eS.low;have c:=(B.back D f w).rA zT.eS.low;rw [show cv (cv f F) F2=cv (cv f F2) F by rw [GN,GN,vK F]] at c
 have r:=c.symm.trans hq a;rw [vL,vL] at r;have r2:Mo q n (λt=>M*F2 t) (λt=>M2*F t):=Mo.cancel hq (w.ok.nz hq) (Mo.trans hq (Mo.pK hq λt=>Cg.of_eq (by show D*(M*F2 t)=D*M*F2 t;rw [gJ])) (r.trans hq (Mo.pK hq λt=>Cg.of_eq (by show D*M2*F t=D*(M2*F t);rw [gJ]))))
 have e2:=r2.uniq hq n1 (λt ht=>by rw [zT.eS.low t ht,cO];exact dA q) (λt ht=>by rw [B.eS.low t ht,cO];exact dA q) t
 have e3:wr n F2 t=F2 t:=by unfold wr;rw [aq ht,zT.eS.low (t+n) ⋯,j6]
 rw [e3];exact e2
end My
namespace L2
open PySem PySem.Spec PyProof.Rows
section
variable {X:Cx} {N:List Str} {scope:Scope} {cl:List (Str×Addr)} {x y:Str} {px py pos tp:Pos} {kI:Nat} {iter elt:Expr} {ifs:List Expr} {wi:TI} {ρ:St->St} {tt:TT} {te:TE}
theorem W4{y9:Str}{vR y6:Pos}{i0:Nat}(B:FZ X N scope cl x y ρ)(hc:X.calm=true)(hN:X.N.Nodup)(nQ:X.N[i0]?=some y9)(hy:Loc X.env.scope y9)(hi:PI X (.Tuple [.Name x px,.Name y py] kI tp) iter wi)(ht:∀s₃ H₃ fp,lR (X.bq N scope cl s₃ H₃ fp) ifs tt)(he:∀s₃ H₃ fp,PE (X.bq N scope cl s₃ H₃ fp) elt te)
  (FW:swapsWith (.ListComp elt [⟨.Tuple [.Name x px,.Name y py] kI tp,iter,ifs,0⟩] scope pos) (some (.Name y9 vR)) y6.line X.env=pure true:=by rfl) (hf:X.fn y9=true\/X.env.scope.names.lookup y9=some .local:=by first | exact .inl rfl | exact .inr rfl | assumption)
  (hs:∀x,foldedSetIterable iter X.env x=pure x:=by intro _;rfl):PS X (.Assign [.Name y9 vR] (.ListComp elt [⟨.Tuple [.Name x px,.Name y py] kI tp,iter,ifs,0⟩] scope pos) y6) (m_ (vy X.K wi ρ tt te) (bo i0)):=by
 intro pins s σ H D0 I h
 have h:vy X.K wi ρ tt te σ H (λv H1=>D0.nx (σ.set i0 (some v)) H1):=h
 rw [exec_Assign_Name_used _ _ _ _ FW]
 refine dh (yo (dh ?_))
 show wpAny _ X.A (do let _ <-comprehension (.ListComp elt [⟨.Tuple [.Name x px,.Name y py] kI tp,iter,ifs,0⟩] scope pos) scope X.env _ (newList []) false (eval iter X.env) (some (assign (.Name y9 vR) X.env))) _ _ s
 refine dh (cY (Q:=λ_ s'=>SP X pins D0 .next s') ?_ (λ_ s' hq=>fB (fB hq)) λ_ _ e=>e)
 refine AW (use:=some (assign (.Name y9 vR) X.env)) rfl hs B.yV B.kind B.names (aK (hi pins s σ H _ I h) λv s1 h1=>aK h1 λu6 s2 h2=>?_)
 intros bn31 h2 it fp tn J H2 rfl I2 T hE f2 q2
 have nD:H2 s2.heap.objs.size=none:=I2.aG.fresh (aL _)
 obtain ⟨W,⟨m0,w0⟩,turn⟩:=q2 _ nD
 refine yp (AX B.yW (by intro y hy;simp at hy) (λh₁ gu gx=>?_) B.kind)
 dsimp only at gu gx ⊢
 generalize hD:s2.heap.objs.size=D at nD w0 turn gu gx ⊢
 generalize eO:({s2 with heap:=s2.heap.push {cls:=.type "list",dict:=none,data:=.seq ([]:List Value).toArray}}:Shared)=s3
 have I3:Inv X pins σ (upd H2 D (.lst [])) s3:=by
  subst hD eO
  exact I2.laid (t':=s2.toks) (λb u e=>dU _ e) (aL _) ⟨cn _,[],_,.nil,iI _ rfl⟩
 have e3:s3.heap=s2.heap.push {cls:=.type "list",dict:=none,data:=.seq ([]:List Value).toArray}:=by rw [<-eO]
 have gy:∀b o,s2.heap.get? b=some o->s3.heap.get? b=some o:=λb o e=>by rw [e3];exact dU _ e
 rw [<-e3] at gu gx ⊢
 have below:∀b o,s3.heap.get? b=some o->b≠s3.heap.objs.size:=λb o e=>fA (cJ e)
 have d7:∀b o,s3.heap.get? b=some o->h₁.get? b=some o:=λb o e=>gx.extBut b o (below b o e) (dU _ e)
 have iQ:∀b∈fp,∃o,s2.heap.get? b=some o/\∀v,o.data≠.cell v:=T.obj _ _ hE
 have qL:∀b∈fp,b≠D:=λb hb z=>by
  obtain ⟨o,e,_⟩:=iQ b hb
  rw [z,<-hD] at e
  exact absurd (cJ e) (ib _)
 have dH:∀y c,cl.lookup y=some c->X.env.cells.lookup y=some c:=λy c e=>B.sub (y,c) (k8 e)
 have qM:=I3.uU
 have fI:(X.bq N scope cl s3 (upd H2 D (.lst [])) fp).Ok:=by
  refine ⟨I.ok.mod,B.kind,I.ok.glob,I.ok.blt,aL _,λa b c e1 e2=>I.ok.inj a b c (dH a c e1) (dH b c e2),λy hy=>B.has y hy,(λ_ _ z _=>absurd z dW),(λ_=>I.ok.hd hc),I.ok.frames,.inl rfl,λb hb=>⟨?_,λy c e z=>?_⟩,λb o e=>?_,af I.ok.iO I3.sz,λb o e hb=>?_,λb hb z=>?_,I3.stack,qM⟩
  ·obtain ⟨o,e,_⟩:=iQ b hb
   exact below b o (gy b o e)
  ·exact (f2 b hb).2.2.2.2.1 y c (dH y c e) z
  ·exact I3.bs b o e
  ·rcases (f2 b hb).2.2.2.1 with z | z
   ·exact I.ok.oX b o e z
   ·exact absurd (eU (cJ e) (af I.ok.iO z)) (ib _)
  ·rcases eV.mp (I3.uT b z) with z | z
   ·exact (f2 b hb).2.1 z
   ·exact (f2 b hb).2.2.1 z
 have IB:∀tk:Nat,Inv (X.bq N scope cl s3 (upd H2 D (.lst [])) fp) [] (none::none::ρ σ) (upd H2 D (.lst [])) {s3 with heap:=h₁,toks:=tk}:=λtk=>by
  refine ⟨fI,rfl,I3.bare,Un.kept d7,(ac _ gu (λj y v e1 e2 e3=>?_)),λy c e=>?_,?_,λy c e=>I3.jz y c (dH y c e),(λp hp=>nomatch hp),I3.aG.kept d7,?_⟩
  ·cases j with
   | zero=>cases e2
   | succ j=>
   cases j with
   | zero=>cases e2
   | succ j=>
    obtain ⟨i,y',a1,a2,a3,a4,a5,a6⟩:=B.yX σ j v e2
    have h_:N[j+1+1]?=some y:=e1
    rw [h_] at a1
    cases a1
    obtain ⟨m,hn,hl⟩:=I3.loc
    obtain ⟨u,r,l⟩:=hl i y v a2 a3 a4
    refine (ac u r (.inr ⟨a6,?_⟩))
    obtain ⟨c,ec⟩:=B.has y a6
    rcases l with ⟨k,_⟩ | ⟨_,c',kD,z⟩
    ·rcases a5 with q | q <;> (rw [k] at q;cases q)
    ·have:=dH y c ec
     rw [this] at kD
     cases kD
     intros bn0 z o ho hd
     exact (ul c ec o (d7 _ _ ho) hd)
  ·obtain ⟨v,o,ho,hd⟩:=I3.cell y c (dH y c e)
   exact ⟨v,o,d7 _ _ ho,hd⟩
  ·exact I3.aG.fresh (aL _)
  ·show (none::none::ρ σ).length=N.length
   rw [fC,fC]
   exact B.len σ I.len
 have qU:∀b o,s3.heap.get? b=some o->b≠s3.heap.objs.size:=below
 have fin:∀{σ':St} {H':Hp} {s':Shared},Inv (X.bq N scope cl s3 (upd H2 D (.lst [])) fp) [] σ' H' s'->D0.nx (σ.set i0 (some (.ref D))) H'->compPost (model X.prog X.w) X.A X.xe (some (assign (.Name y9 vR) X.env)) (λ_ s'=>SP X pins D0 .next s') (.ref D) s3.heap.objs.size (.ok .next) s':=fun{σ' H' s'} J q=>by
  obtain ⟨m,hn,_⟩:=J.loc
  have hn:s'.heap.Ns s3.heap.objs.size m:=hn
  have JC:H' s3.heap.objs.size=none:=J.free
  have u1:Un (dk X.stack) fp (upd H2 D (.lst [])) H' s3.heap s'.heap:=by
   refine ⟨λb o e n hb hx=>J.base.keep b o e n hb hx,λb o e n hb hx=>J.base.slot b o e n hb hx,J.base.free,λb o e hx=>J.base.there b o e hx,J.base.il,J.base.g9,J.base.ip⟩
  have IX:Inv X pins σ H' s':=I3.lF (ch:=fp) (J.os) u1 J.aG J.bare λb hb=>by
   obtain ⟨g0,g1,g2,g3,g4,g5⟩:=f2 b hb
   exact ⟨g3,g1,g4,g5⟩
  have nl:X.env.locals≠s3.heap.objs.size:=by
   obtain ⟨m3,⟨o3,_,_,e3,_⟩,_⟩:=I3.loc
   exact qU _ _ e3
  have nc:∀z c,X.env.cells.lookup z=some c->c≠s3.heap.objs.size:=λz c e=>by
   obtain ⟨v3,o3,e3,_⟩:=I3.cell z c e
   exact qU _ _ e3
  refine wpAny_assign_Name (EY (v:=.ref D) IX hN nQ hy rfl (λfG qV qW=>?_) hf)
  intros bn0 qW a qW ha
  have na:s3.heap.objs.size≠a:=by
   rcases ha with rfl | e
   ·exact λz=>nl z.symm
   ·exact λz=>nc _ _ e z.symm
  refine ⟨m,hn.sameBut qW na,λh' gz=>⟨σ.set i0 (some (.ref D)),H',?_,q⟩⟩
  have u2:Un (dk X.stack) [s3.heap.objs.size] H' H' fG.heap h':=by
   refine ⟨λb o e n hb hx=>(gz.2 b (by simpa using hx)).trans e,λb o e n hb hx=>⟨o.slots,(gz.2 b (by simpa using hx)).trans e⟩,λb o e n hx=>n,λb o e hx=>⟨o,(gz.2 b (by simpa using hx)).trans e⟩,λb xs z=>z,λb o u z=>z,λb ps z=>⟨#[],by simpa using z⟩⟩
  have qN:dq X.prog X.w H' h':=λb u e=>by
   refine (qV.aG b u e).jc (λc v hc z=>(gz.2 c λy=>?_).trans z) (λ_ z=>z) λ_ _ z=>z
   have y':c=s3.heap.objs.size:=y
   rcases hc with hc | hc
   ·rw [<-hc,y',JC] at e
    cases e
   ·rw [y',JC] at hc
    cases hc
  refine qV.lF (s':={fG with heap:=h'}) (ch:=[s3.heap.objs.size]) rfl u2 qN qV.bare λb hb=>?_
  have eb:b=s3.heap.objs.size:=by simpa using hb
  subst eb
  refine ⟨.inr I3.sz,λz=>nl z.symm,λz c e=>nc z c e,λp hp=>?_⟩
  exact qU _ _ (I3.pin p hp).1
 have gk:∀{H':Hp},(∀b∈fp,H' b=none)->∀b∈fp,lJ (X.bq N scope cl s3 (upd H2 D (.lst [])) fp) [] H' b:=λhn b hb=>by
  refine ⟨hn b hb,?_,?_,.inl hb,λy c e z=>(f2 b hb).2.2.2.2.1 y c (dH y c e) z,λp hp=>nomatch hp⟩
  ·obtain ⟨o,e,_⟩:=iQ b hb
   exact below b o (gy b o e)
  ·exact fI.oY b hb
 have loop:∀tk:Nat,codeAny (model X.prog X.w) X.A (.compLoop (.ListComp elt [⟨.Tuple [.Name x px,.Name y py] kI tp,iter,ifs,0⟩] scope pos) 0 (.ref it) (.ref D) (compEnvC scope cl s3.heap.objs.size X.env))
   (compPost (model X.prog X.w) X.A X.xe (some (assign (.Name y9 vR) X.env)) (λ_ s'=>SP X pins D0 .next s') (.ref D) s3.heap.objs.size) {s3 with heap:=h₁,toks:=tk}:=λtk=>by
  refine LF (λn s'=>∃i ys o o2 H',Inv (X.bq N scope cl s3 (upd H2 D (.lst [])) fp) [] (o::o2::ρ σ) H' s'/\tn i s'.heap/\(∀b∈fp,H' b=none)/\W i n ys H') ?_ m0
   ⟨0,[],none,none,_,IB tk,T.keep _ _ _ hE λb hb o e=>d7 _ _ (gy _ _ e),λb hb=>by rw [cq (qL b hb)];exact (f2 b hb).1,w0⟩
  intro n s4;intros bnE _ i bn22 ys o o2 H4 I4 kF kG w4
  obtain ⟨FJ,qO⟩:=turn i n ys H4 w4
  rcases qO with ⟨stop,qn⟩ | ⟨go,step⟩
  ·refine cY (T.done (X.bq N scope cl s3 (upd H2 D (.lst [])) fp) rfl rfl rfl hc i [] s4 _ H4 (λ_ _=>False) I4 (gk kG) kF stop) (λr s5 ⟨hr,I5⟩=>?_) λ_ _ z=>z.elim
   subst hr
   exact fin I5 qn
  ·refine cY (T.item (X.bq N scope cl s3 (upd H2 D (.lst [])) fp) rfl rfl rfl hc i [] s4 _ H4 (λ_ _=>False) I4 (gk kG) kF go) (λr s5 ⟨u,hr,h5⟩=>?_) λ_ _ z=>z.elim
   subst hr
   refine cY h5 (λ_ s5 ⟨y0,H5,I5,r5,y5,gq,nq⟩=>?_) λ_ _ z=>z.elim
   have q'63:=step y0 _ y5;intros bn13 q'63 Tt x1 x2 e0 F5 qP
   subst e0
   have ny:=I5.pinned (gk nq) (T.obj _ _ gq)
   have pg:PG (X.bq N scope cl s3 (upd H2 D (.lst [])) fp) (.Tuple [.Name x px,.Name y py] kI tp) (E6 X.K 2 (yN (bo 0) (yN (bo 1) E5))):=
    Bi (X:=X.bq N scope cl s3 (upd H2 D (.lst [])) fp) hc (o5 (fF (i:=0) B.nd B.n0 (.inl (jY B.hx)) (.inr (jY B.hx))) (o5 (fF (i:=1) B.nd B.n1 (.inl (jY B.hy)) (.inr (jY B.hy))) Bh))
   have again:∀{σ7:St} {H7:Hp} {s7:Shared},Inv (X.bq N scope cl s3 (upd H2 D (.lst [])) fp) ([]++j_ fp s5.heap) σ7 H7 s7->Inv (X.bq N scope cl s3 (upd H2 D (.lst [])) fp) [] σ7 H7 s7/\tn (i+1) s7.heap/\∀b∈fp,H7 b=none:=fun{σ7 H7 s7} I7=>by
    refine ⟨I7.qw,T.keep _ _ _ gq λb hb o e=>(I7.pin (b,o) (eW _ (eW _ (lK hb e)))).1,λb hb=>?_⟩
    obtain ⟨o,e,d⟩:=T.obj _ _ gq b hb
    exact (I7.pin (b,o) (eW _ (eW _ (lK hb e)))).2.1
   refine cY (pg _ s5 _ H5 (.ref Tt) u (λσ2 H6=>σ2=some x1::some x2::ρ σ/\H6=H5) ny r5 (ap Tt _ rfl F5 (lf rfl _ (j' _ rfl _ _ rfl rfl rfl rfl)))) (λ_ s6 ⟨σ6,H6,I6,q6⟩=>?_) λ_ _ z=>z.elim
   obtain ⟨rfl,rfl⟩:=q6
   have tests:∀{iR:TT},lR (X.bq N scope cl s3 (upd H2 D (.lst [])) fp) ifs iR->∀{R:Bool->Hp->Prop},iR (some x1::some x2::ρ σ) H6 R->wpAny (model X.prog X.w) X.A
     (forIn ifs true λc r=>if r=true then do let ok <-isTrue c (compEnvC scope cl s3.heap.objs.size X.env) (eval c (compEnvC scope cl s3.heap.objs.size X.env));pure (ForInStep.yield ok) else pure (ForInStep.yield r))
     (λok s7=>∃H7,Inv (X.bq N scope cl s3 (upd H2 D (.lst [])) fp) ([]++j_ fp s5.heap) (some x1::some x2::ρ σ) H7 s7/\R ok H7) (λ_ _=>False) s6:=fun{iR} p {R} hR=>by
    cases p with
    | nil=>exact AY (ac _ I6 hR)
    | one p=>exact AZ (p _ s6 _ _ _ I6 hR)
   refine cY (tests (ht s3 _ fp) qP) (λok s7 ⟨H7,I7,q7⟩=>?_) λ_ _ z=>z.elim
   cases ok with
   | false=>
    intros bn0 q7 m' iS w7
    obtain ⟨a1,a2,a3⟩:=again I7
    exact ⟨m',iS,i+1,ys,_,_,H7,a1,a2,a3,w7⟩
   | true=>
    refine cY (he s3 _ fp _ s7 _ H7 _ I7 q7) (λev s8 ⟨z,H8,I8,r8,qQ,hz,m',iS,w8⟩=>?_) λ_ _ z=>z.elim
    refine cY (vk (X:=X.bq N scope cl s3 (upd H2 D (.lst [])) fp) _ s8 _ H8 (.ref D) [z] (.ref D) [ev] (λ_ H9=>H9=upd H8 D (.lst (ys++[z]))) I8 rfl (.cons r8 .nil) ⟨D,ys,z,rfl,rfl,qQ,hz,rfl⟩) (λ_ s9 ⟨_,H9,I9,_,q9⟩=>?_) λ_ _ z=>z.elim
    subst q9
    obtain ⟨a1,a2,a3⟩:=again I9
    exact ⟨m',iS,i+1,ys++[z],_,_,_,a1,a2,a3,w8⟩
 have start:=loop (s3.toks+([]:List (Str×Value)).length)
 have es:({s3 with heap:=h₁,toks:=s3.toks+([]:List (Str×Value)).length}:Shared)={s2 with heap:=h₁,toks:=s2.toks+([]:List (Str×Value)).length}:=by rw [<-eO]
 rw [es] at start
 exact A0 start (T.self _ 0 _ _ _ (T.keep _ _ _ hE λb hb o e=>d7 _ _ (gy _ _ e)) start)
end
end L2
set_option maxRecDepth 100000
set_option maxHeartbeats 4000000
namespace My
open PySem L2
def top(i:Nat):Stmt:=PySem.Challenge.pw_bandwright_k62_whole_turned_rows_undone.main.body.getD i (.Pass ⟨0,0,0,0⟩)
abbrev CD:Stmt:=top 7
abbrev CF:Stmt:=top 8
abbrev CH:Stmt:=top 9
abbrev CJ:Stmt:=top 10
abbrev CK:Stmt:=top 11
abbrev CL:Stmt:=top 12
abbrev CM:Stmt:=top 13
abbrev CN:Stmt:=top 15
abbrev CO:Stmt:=top 16
abbrev CP:Stmt:=top 17
abbrev CQ:Stmt:=top 18
abbrev CS:Stmt:=top 19
abbrev CT:Stmt:=top 20
abbrev CU:Stmt:=top 23
abbrev CV:Stmt:=top 25
abbrev CW:Stmt:=top 26
abbrev CY:Stmt:=top 27
abbrev CZ:Stmt:=top 28
abbrev C1:Stmt:=top 32
abbrev C2:Stmt:=top 34
abbrev C3:Stmt:=top 35
abbrev C4:Stmt:=top 37
abbrev C5:Stmt:=top 40
abbrev C6:Stmt:=top 42
abbrev C7:Stmt:=top 43
abbrev C8:Stmt:=top 46
abbrev C9:Stmt:=top 47
abbrev C_:Stmt:=top 50
abbrev Dc:Stmt:=top 51
abbrev Dd:Stmt:=top 52
abbrev De:Stmt:=top 53
abbrev Df:Stmt:=top 54
abbrev Dg:Stmt:=top 55
abbrev Dh:Stmt:=top 56
abbrev Di:Stmt:=top 57
abbrev Dj:Stmt:=top 58
abbrev Dk:Stmt:=top 59
abbrev Dl:Stmt:=top 60
abbrev Dm:Stmt:=top 61
abbrev Dn:Stmt:=top 62
abbrev Dp:Stmt:=top 63
abbrev Dq:Stmt:=top 64
abbrev Dr:Stmt:=top 65
abbrev Ds:Stmt:=top 66
abbrev Dt:Stmt:=top 67
abbrev Du:Stmt:=top 68
abbrev Dv:Stmt:=top 69
abbrev Dw:Stmt:=top 70
abbrev Dy:Stmt:=top 71
abbrev Dz:Stmt:=inClass (top 48) 0
abbrev kn:Stmt:=inClass (top 48) 3
abbrev DA:Stmt:=inClass (top 48) 8
abbrev DB:Stmt:=inClass (top 48) 9
set_option genInjectivity false in
set_option genSizeOf false in
structure Hq where
 rK:Addr
 vS:FuncData
 rN:Addr
 vT:FuncData
 rO:Addr
 vU:FuncData
 rP:Addr
 vV:FuncData
 rQ:Addr
 vW:FuncData
 rR:Addr
 vX:FuncData
 rS:Addr
 vY:FuncData
 rT:Addr
 vZ:FuncData
 rV:Addr
 v_:FuncData
 rX:Addr
 wa:FuncData
 rY:Addr
 wc:FuncData
 rZ:Addr
 wd:FuncData
 r6:Addr
 we:FuncData
 r9:Addr
 wj:FuncData
 r_:Addr
 wk:FuncData
 si:Addr
 wm:FuncData
 so:Addr
 wo:FuncData
 su:Addr
 wt:FuncData
 sv:Addr
 wC:FuncData
 sC:Addr
 wF:FuncData
 sD:Addr
 wH:FuncData
 sE:Addr
 wI:FuncData
 sF:Addr
 wJ:FuncData
 sG:Addr
 wK:FuncData
 sI:Addr
 wL:FuncData
 sJ:Addr
 wN:FuncData
 sL:Addr
 wO:FuncData
 sM:Addr
 wQ:FuncData
 sN:Addr
 wR:FuncData
 sO:Addr
 wU:FuncData
 sP:Addr
 wV:FuncData
 sQ:Addr
 wW:FuncData
 sR:Addr
 wX:FuncData
 sS:Addr
 wY:FuncData
 sU:Addr
 wZ:FuncData
 sV:Addr
 w5:FuncData
 sW:Addr
 w6:FuncData
 sX:Addr
 w9:FuncData
 sY:Addr
 w_:FuncData
 sZ:Addr
 xa:FuncData
 s_:Addr
 xb:FuncData
 tf:Addr
 xc:FuncData
 tj:Addr
 xf:FuncData
 tq:Addr
 xg:FuncData
 tx:Addr
 xh:FuncData
 tD:Addr
 xi:FuncData
 tE:Addr
 xj:FuncData
 tF:Addr
 xk:FuncData
 pM:Addr
 tG:FuncData
 tH:Addr
 xl:FuncData
 og:Addr
 zU:FuncData
 tI:Addr
 xn:FuncData
 tJ:Addr
 xo:FuncData
 bL:Addr
 tK:Addr
 mB:Addr
 pN:Addr
abbrev b9 (mg:dX) (x:Str) (f:Addr):Prop:=mg x=some (.ref f)
abbrev Hr (K:aI) (a:Addr):Prop:=PySem.W.excIn K a [.type "ValueError",.type "Exception",.type "BaseException",.type "object"] "ValueError.__new__"=true
structure Txt (K:aI) (mg:dX) (t:Hq):Prop where
 tL:aH K "whole_trimmed" CD t.rK t.vS
 Hs:Binds K t.vS ["row"] []
 Ht:b9 mg "whole_trimmed" t.rK
 tM:aH K "whole_times" CF t.rN t.vT
 Hu:Binds K t.vT ["one","other"] []
 Hv:b9 mg "whole_times" t.rN
 xp:aH K "whole_less" CH t.rO t.vU
 Nq:Binds K t.vU ["one","other"] []
 Nr:b9 mg "whole_less" t.rO
 tO:aH K "whole_parted" CJ t.rP t.vV
 Hz:Binds K t.vV ["world","one","other"] []
 HA:b9 mg "whole_parted" t.rP
 pO:aH K "power" CK t.rQ t.vW
 DC:Binds K t.vW ["number","times"] []
 DD:b9 mg "power" t.rQ
 xq:aH K "next_part" CL t.rR t.vX
 Nt:Binds K t.vX ["world","last","now","by","much","least"] []
 Nu:b9 mg "next_part" t.rR
 xr:aH K "whole_common" CM t.rS t.vY
 Nv:Binds K t.vY ["world","one","other"] []
 Nw:b9 mg "whole_common" t.rS
 kU:aH K "trimmed" CN t.rT t.vZ
 tP:Binds K t.vZ ["world","row"] []
 tQ:b9 mg "trimmed" t.rT
 oh:aH K "padded" CO t.rV t.v_
 zV:Binds K t.v_ ["world","row","many"] []
 zW:b9 mg "padded" t.rV
 kW:aH K "numbers_of" CP t.rX t.wa
 tR:Binds K t.wa ["world","wholes","times","bottom"] []
 tS:b9 mg "numbers_of" t.rX
 xt:aH K "poly_times" CQ t.rY t.wc
 Nx:Binds K t.wc ["world","one","other"] []
 Ny:b9 mg "poly_times" t.rY
 tV:aH K "parted" CS t.rZ t.wd
 HB:Binds K t.wd ["world","one","other"] []
 HC:b9 mg "parted" t.rZ
 pP:aH K "common" CT t.r6 t.we
 DE:Binds K t.we ["world","one","other"] []
 DF:b9 mg "common" t.r6
 xu:aH K "check_aim" CU t.r9 t.wj
 Nz:Binds K t.wj ["n","aim"] []
 NA:b9 mg "check_aim" t.r9
 tW:aH K "turned_size" CV t.r_ t.wk
 HD:Binds K t.wk ["row"] []
 HE:b9 mg "turned_size" t.r_
 tX:aH K "whole_turn" CW t.si t.wm
 HF:Binds K t.wm ["world","n"] []
 HG:b9 mg "whole_turn" t.si
 tY:aH K "turned_undone" CY t.so t.wo
 HH:Binds K t.wo ["world","row","aim"] []
 HI:b9 mg "turned_undone" t.so
 xv:aH K "turned_back" CZ t.su t.wt
 NB:Binds K t.wt ["world","row"] []
 NC:b9 mg "turned_back" t.su
 xw:aH K "is_whole" C1 t.sv t.wC
 ND:Binds K t.wC ["thing"] []
 NF:b9 mg "is_whole" t.sv
 tZ:aH K "common_divisor" C2 t.sC t.wF
 HJ:Binds K t.wF ["one","other"] []
 HK:b9 mg "common_divisor" t.sC
 xx:aH K "is_prime" C3 t.sD t.wH
 NG:Binds K t.wH ["number"] []
 NH:b9 mg "is_prime" t.sD
 xy:aH K "ratio" C4 t.sE t.wI
 NI:Binds K t.wI ["top","bottom"] []
 NK:b9 mg "ratio" t.sE
 xA:aH K "one_bottom" C5 t.sF t.wJ
 NL:Binds K t.wJ ["row"] []
 NM:b9 mg "one_bottom" t.sF
 xB:aH K "remainder_back" C6 t.sG t.wK
 NN:Binds K t.wK ["prime","number"] []
 NO:b9 mg "remainder_back" t.sG
 xC:aH K "remainder_over" C7 t.sI t.wL
 NP:Binds K t.wL ["prime","a","b"] []
 NQ:b9 mg "remainder_over" t.sI
 xD:aH K "is_fractions" C8 t.sJ t.wN
 NR:Binds K t.wN ["told"] []
 NS:b9 mg "is_fractions" t.sJ
 xE:aH K "is_wheel" C9 t.sL t.wO
 NT:Binds K t.wO ["told"] []
 NU:b9 mg "is_wheel" t.sL
 xF:aH K "_law_e_fill" C_ t.sM t.wQ
 NV:Binds K t.wQ ["cell","at"] []
 NW:b9 mg "_law_e_fill" t.sM
 fc:aH K "_law_e_next" Dc t.sN t.wR
 gE:Binds K t.wR ["pen","many"] []
 gF:b9 mg "_law_e_next" t.sN
 mC:aH K "_law_e_low" Dd t.sO t.wU
 xG:Binds K t.wU ["top","bottom"] []
 xH:b9 mg "_law_e_low" t.sO
 ia:aH K "_law_e_of" De t.sP t.wV
 jR:Binds K t.wV ["told","number"] []
 jS:b9 mg "_law_e_of" t.sP
 oi:aH K "_law_e_plus" Df t.sQ t.wW
 zX:Binds K t.wW ["told","a","b"] []
 zY:b9 mg "_law_e_plus" t.sQ
 pQ:aH K "_law_e_times" Dg t.sR t.wX
 DG:Binds K t.wX ["told","a","b"] []
 DH:b9 mg "_law_e_times" t.sR
 xI:aH K "_law_e_is_number" Dh t.sS t.wY
 NX:Binds K t.wY ["told","a"] []
 NY:b9 mg "_law_e_is_number" t.sS
 kX:aH K "_law_e_is_row" Di t.sU t.wZ
 t5:Binds K t.wZ ["told","found"] []
 t6:b9 mg "_law_e_is_row" t.sU
 xJ:aH K "_law_e_world" Dj t.sV t.w5
 NZ:Binds K t.w5 ["pen"] []
 N0:b9 mg "_law_e_world" t.sV
 t7:aH K "_law_e_number" Dk t.sW t.w6
 HL:Binds K t.w6 ["pen","told","far"] []
 HM:b9 mg "_law_e_number" t.sW
 mD:aH K "_law_e_cut" Dl t.sX t.w9
 xK:Binds K t.w9 ["told","row"] []
 xM:b9 mg "_law_e_cut" t.sX
 xN:aH K "_law_e_sum" Dm t.sY t.w_
 N3:Binds K t.w_ ["told","one","other"] []
 N4:b9 mg "_law_e_sum" t.sY
 kY:aH K "_law_e_product" Dn t.sZ t.xa
 t8:Binds K t.xa ["told","one","other"] []
 t9:b9 mg "_law_e_product" t.sZ
 t_:aH K "_law_e_left" Dp t.s_ t.xb
 HN:Binds K t.xb ["told","one","under"] []
 HP:b9 mg "_law_e_left" t.s_
 oj:aH K "_law_e_turn" Dq t.tf t.xc
 zZ:Binds K t.xc ["told","many"] []
 z8:b9 mg "_law_e_turn" t.tf
 om:aH K "_law_e_wrapped" Dr t.tj t.xf
 z9:Binds K t.xf ["told","many","row"] []
 z_:b9 mg "_law_e_wrapped" t.tj
 xO:aH K "_law_e_turned_row" Ds t.tq t.xg
 N5:Binds K t.xg ["pen","told","many"] []
 N6:b9 mg "_law_e_turned_row" t.tq
 uc:aH K "_law_e_turned_to" Dt t.tx t.xh
 HQ:Binds K t.xh ["told","row","numbers"] []
 HR:b9 mg "_law_e_turned_to" t.tx
 ud:aH K "_law_e_one_right" Du t.tD t.xi
 HS:Binds K t.xi ["told","row","aim","found"] []
 HU:b9 mg "_law_e_one_right" t.tD
 xP:aH K "_law_e_widest" Dv t.tE t.xj
 N7:Binds K t.xj ["told","world","row","factor"] []
 N8:b9 mg "_law_e_widest" t.tE
 xQ:aH K "_law_e_loose_right" Dw t.tF t.xk
 N9:Binds K t.xk ["told","world","row","found"] []
 N_:b9 mg "_law_e_loose_right" t.tF
 xR:aH K "law" Dy t.pM t.tG
 W5:Binds K t.tG ["script"] []
 Oa:b9 mg "law" t.pM
 Aa:fZ K "__init__" "World.__init__" Dz t.tH t.xl
 Ob:Binds K t.xl ["self","told"] []
 DI:Mk K t.bL t.tH
 Oc:jK K "of" "World.of" kn 1 t.og t.zU
 HV:Binds K t.zU ["self","top","bottom"] []
 DJ:∃v,Vals [V.int 1] [v]/\Binds K t.zU ["self","top","bottom"] [v]
 W6:∀(s:Shared) (us ws:List Value),K.In s.heap->ws.length=1->us.length+1=(["self","top","bottom"]:List Str).length->BindsTo s t.zU ⟨us,[("bottom":Str)].zip ws⟩ ((["self","top","bottom"]:List Str).zip (us++ws))
 ue:Meth K t.bL "of" t.og
 Ab:fZ K "as_wholes" "World.as_wholes" DA t.tI t.xn
 uf:Binds K t.xn ["self","row"] []
 oo:Meth K t.bL "as_wholes" t.tI
 Ac:fZ K "evenly" "World.evenly" DB t.tJ t.xo
 ug:Binds K t.xo ["self","row","by"] []
 oq:Meth K t.bL "evenly" t.tJ
 dY:kA K t.bL
 Od:b9 mg "World" t.bL
 mE:qB K t.bL "prime"
 Oe:b9 mg "NoWorld" t.tK
 DK:b9 mg "NoOver" t.mB
 HW:b9 mg "NoFit" t.pN
 W7:mg "ValueError"=none
 Ad:mg "abs"=none
 Of:mg "all"=none
 DL:mg "bool"=none
 HX:mg "enumerate"=none
 xS:mg "int"=none
 i4:mg "isinstance"=none
 bO:mg "len"=none
 ot:mg "list"=none
 HY:mg "max"=none
 Og:mg "min"=none
 gW:mg "range"=none
 W8:mg "sum"=none
 pR:mg "tuple"=none
 DM:mg "zip"=none
 Oh:∃u,mg "GREATEST_PRIME"=some u/\RelV (.int 997) u
 Oi:∃u,mg "LONG"=some u/\RelV (.int 2048) u
 Oj:∃u,mg "MOST"=some u/\RelV (.int 40) u
 Ol:Hr K t.tK
 DN:Hr K t.mB
 HZ:Hr K t.pN
section
variable {P:Program} {w:World} {K:aI} {mg:dX} {base:Heap} {t:Hq}
theorem W9:bH ["thing"] ["thing"] (aN C1):=b6
theorem W_(T:Txt K mg t):a8 P w K mg base ck 1 t.sv t.wC ["thing"] TU:=by
 have S:=W9;refine T.xw.cS S (λ_ _ _ _ H _ Q _ hr h=>?_);intros bn4 h v rfl ha k;refine (ac _ (aw (aM (m9 (aS (ji (K:=K)) rfl T.i4 boot_isinstance (aa (pv 0) (aa (jd (v:=.ty "int") rfl T.xS boot_int rfl) ag))) (uV (Ka (aS (ji (K:=K)) rfl T.i4 boot_isinstance (aa (pv 0) (aa (jd (v:=.ty "bool") rfl T.DL boot_bool rfl) ag)))))))) ?_);obtain ⟨Ty,ty,k1,k2,_⟩:=ha.FF (K:=K);refine (gt _ rfl _ _ _ _ rfl rfl ty k1 (ac _ rfl (cD (λh1=>?_) (λh1=>?_))))
 ·refine (gt _ rfl _ _ _ _ rfl rfl ty k2 (ac _ rfl ?_))
  have e:(!vt v)=vq v:=by
   cases h2:vt v with
   | true=>rw [TQ h2];rfl
   | false=>rw [h2,Bool.or_false] at h1;rw [h1];rfl
  show Q (.bl (!vt v)) H;rw [e];exact k
 ·have e:vq v=false:=by
   cases h2:vq v with
   | true=>rw [h2] at h1;exact absurd rfl h1
   | false=>rfl
  rw [e] at k;exact k
theorem Xa:bH ["one","other","left","shorter"] ["one","other"] (aN C2):=b6
theorem Om(T:Txt K mg t):a8 P w K mg base ck 1 t.sC t.wF ["one","other"] TV:=by
 have S:=Xa;obtain ⟨uL,hL,rL⟩:=T.Oi;refine T.tZ.cS S (λ_ _ _ _ H _ _ _ hr h=>?_);intros bn9 h a b rfl mb k
 refine (ac _ (ak (putL 0 S.nd (aS Br rfl T.Ad boot_abs (aa (pv 0) ag)))
  (ak (putL 1 S.nd (aS Br rfl T.Ad boot_abs (aa (pv 1) ag)))
  (ak (ni fi (aX ka (pv 1) ah) (ak (putL 2 S.nd (aA fX (pv 0) (pv 1)))
  (ak (putL 0 S.nd (pv 1))
  (ak (putL 1 S.nd (pv 2))
  (aw (bI (aX ka (SK PySem.F.plainAttrs_int PySem.F.slot_int_bit_length PySem.F.type_int_bit_length TL (pv 0)) (E1 (v:=.int 2048) rfl hL rL)) Rn bV))))))
  (aw (aM (pv 0)))))) ?_)
 refine (ul _ rfl a rfl (li _ rfl b rfl (λm σ H'=>H'=H/\∃(x y:Nat) (v u:Option V),σ=[some (.int (x:Int)),some (.int (y:Int)),v,u]/\m=y/\y<=b.natAbs/\Nat.gcd x y=Int.gcd a b) (ac b.natAbs rfl (ut a.natAbs b.natAbs none (gl none ?_ rfl (aL _) rfl))) ?_))
 ·show [some (V.int (if a<0 then -a else a)),some (V.int (if b<0 then -b else b)),none,none]=_
  rw [BH,BH]
 ·intro m σ H';intros bnA _ rfl bn22 x y v u rfl em hb hg
  refine (be _ rfl _ _ rfl rfl _ rfl (cD (λhy=>?_) (λhy=>?_)))
  ·have hy:(0:Int)<y:=dM hy
   refine (ac (λσ' H2=>H2=H'/\σ'=[some (.int (y:Int)),some (.int (((x % y:Nat)):Int)),some (.int (((x % y:Nat)):Int)),u]) ?_ ?_)
   ·rintro σ' H2 ⟨rfl,rfl⟩
    exact ⟨x % y,by rw [em];exact Nat.mod_lt _ ⋯,rfl,y,x % y,_,_,rfl,rfl,af (Nat.le_of_lt (Nat.mod_lt _ ⋯)) hb,by rw [Lm];exact hg⟩
   ·have hm:aQ (y:Int):=ic (by rw [Int.natAbs_natCast];exact hb) mb
    have hbt:=TN hm;refine (io _ rfl _ rfl _ _ rfl rfl hy (ul _ rfl _ rfl (ad _ rfl rfl (ad _ rfl rfl (on _ _ rfl rfl _ rfl (cD (λhz=>?_) (λ_=>⟨rfl,rfl⟩)))))));have hz:=dM hz;exact absurd hz ⋯
  ·have hy:¬(0:Int)<y:=λz=>hy (dZ z)
   have y0:y=0:=by lia
   subst y0;rw [Nat.gcd_zero_right] at hg;rw [<-hg] at k;exact (ac _ rfl k)
theorem Xb:bH ["number","divisor"] ["number"] (aN C3):=b6
theorem Xc(T:Txt K mg t):a8 P w K mg base ck 1 t.sD t.wH ["number"] TY:=by
 have S:=Xb;refine T.xx.cS S (λ_ _ _ _ H _ Q _ hr h=>?_);intros bn8 h n rfl Xd va k
 refine (ac _ (ak (putL 1 S.nd ah)
  (ak (ni fi (aX u9 (aA hJ (pv 1) (pv 1)) (pv 0)) (ak (bI (aX eI (aA fX (pv 0) (pv 1)) ah) (aw (aM fV)) bV)
  (aw (Bj (i:=1) S.nd rfl (Or.inl rfl) ah Kf))))
  (aw (aM (nF Bp (pv 0) ah))))) ?_)
 refine (ac (λm σ H'=>H'=H/\∃d:Int,σ=[some (.int n),some (.int d)]/\2<=d/\d<=32/\m=(33-d).toNat/\∀e:Int,2<=e->e<d->n % e≠0) ⟨_,rfl,2,rfl,⋯,⋯,rfl,λe a b=>by lia⟩ ?_)
 intro m σ H';intros bnA _ rfl bn15 d rfl h1 h2 rfl h3;refine (io _ rfl _ rfl _ _ rfl rfl (.inl ⟨⋯,⋯⟩) (be _ rfl _ _ rfl rfl _ rfl (cD (λhq=>?_) (λhq=>?_))))
 ·have hq:=dM hq
  have hd:d<32:=by
   by_cases z:d<32;·exact z
   ·have:d=32:=by lia
    subst this;lia
  refine (ac (λσ' H2=>H2=H'/\σ'=[some (.int n),some (.int (d+1))]/\n % d≠0) ?_ ?_)
  ·rintro σ' H2 ⟨rfl,rfl,hm⟩
   refine ⟨(33-(d+1)).toNat,⋯,rfl,d+1,rfl,⋯,⋯,rfl,λe a b=>?_⟩
   by_cases z:e=d;·subst z;exact hm
   ·exact h3 e a ⋯
  ·refine (io _ rfl _ rfl _ _ rfl rfl (show (0:Int)<d by lia) (im rfl _ rfl (cD (λhm=>?_) (λhm=>?_))))
   ·have hm:=V.int.inj (dM hm)
    rw [Lj va h1 hq hm] at k;exact k
   ·exact (ac _ rfl (jp _ _ rfl rfl rfl rfl (λz=>hm (dZ (gI V.int z)))))
 ·have hq:¬d*d<=n:=λz=>hq (dZ z)
  refine (al _ rfl _ _ rfl rfl ?_);rw [TC (n:=n) (d:=d) ⋯ h1 h3] at k
  have e:decide ((2:Int)<=n)=true:=dZ Xd;show Q (.bl (decide ((2:Int)<=n))) H';rw [e];exact k
theorem Xe:bH ["told"] ["told"] (aN C8):=b6
theorem Xf(T:Txt K mg t):a8 P w K mg base ck 1 t.sJ t.wN ["told"] TZ:=by
 have S:=Xe;refine T.xD.cS S (λ_ _ _ _ H _ _ _ hr h=>?_);intros bn9 h p d rfl hp k;refine (ac _ (aw (aM (m9 (aS (ji (K:=K)) rfl T.i4 boot_isinstance (aa (pv 0) (aa (jd (v:=.ty "tuple") rfl T.pR boot_tuple rfl) ag))) (m9 (nF eI (aS bR rfl T.bO bQ (aa (pv 0) ag)) ah) (uV (nF eI (aB aU (pv 0) ah) fk)))))) ?_);refine (gt _ rfl _ _ _ true rfl rfl (.of (.tup hp)) nN (ac true rfl (fm ?_)));cases d with
 | a x=>refine (al _ rfl p _ rfl (.inr (.of hp)) (im rfl true rfl (fm ?_)));refine (ac _ rfl (f8 p _ 0 (.str x) rfl rfl (.of hp) rfl rfl ?_));rw [FO];exact k
 | b x n=>exact (al _ rfl p _ rfl (.inr (.of hp)) (im rfl false rfl (b5 k)))
theorem Xg:bH ["told"] ["told"] (aN C9):=b6
theorem Xh(T:Txt K mg t):a8 P w K mg base ck 2 t.sL t.wO ["told"] T3:=by
 have S:=Xg;obtain ⟨uG,hG,rG⟩:=T.Oh;refine T.xE.cS S (λ_ _ _ _ H _ _ _ hr h=>?_);intros bn9 h p d rfl hp k
 refine (ac _ (ak (bI (PW.pt (pw_or (g_ (gj (aS (ji (K:=K)) rfl T.i4 boot_isinstance (aa (pv 0) (aa (jd (v:=.ty "tuple") rfl T.pR boot_tuple rfl) ag))))) (pw_or (aX jB (aS bR rfl T.bO bQ (aa (pv 0) ag)) ah) (pw_or1 (aX jB (aB aU (pv 0) ah) fk))))) (aw (aM fV)) bV)
  (aw (aM (m9 (ay (W_ T) hr T.NF T.xw.kp T.ND ax (aa (aB aU (pv 0) ah) ag)) (m9 (Kr u9 u9 ah (aB aU (pv 0) ah) (E1 (v:=.int 997) rfl hG rG)) (uV (ay (Xc T) hr T.NH T.xx.kp T.NG ax (aa (aB aU (pv 0) ah) ag)))))))) ?_)
 refine (gt _ rfl _ _ _ true rfl rfl (.of (.tup hp)) nN (ac true rfl (b5 ?_)));cases d with
 | a x=>exact (al _ rfl p _ rfl (.inr (.of hp)) (im rfl true rfl (fm (fm k))))
 | b x n=>
  refine (al _ rfl p _ rfl (.inr (.of hp)) (im rfl false rfl (b5 ?_)));refine (gt _ rfl p _ 0 (.str x) rfl rfl (.of hp) rfl (im rfl _ rfl (cD (λhw=>?_) (λhw=>?_))))
  ·have hw:¬x="wheel":=by rw [FO] at hw;simpa using hw
   have e:(Td.b x n).kf=false:=by simp [Td.kf,hw]
   rw [e] at k;exact k
  ·have hw:x="wheel":=by rw [FO] at hw;simpa using hw
   refine (gt _ rfl p _ 1 (.int n) rfl rfl (.of hp) rfl (bn (.int n) rfl (.int n) true rfl (fm ?_)));refine (gt _ rfl p _ 1 (.int n) rfl rfl (.of hp) rfl (on _ _ rfl rfl _ rfl ?_));refine cD (λh2=>?_) (λh2=>?_)
   ·have h2:=dM h2
    refine (on _ _ rfl rfl _ rfl (cD (λh3=>?_) (λh3=>?_)))
    ·have h3:=dM h3
     refine (gt _ rfl p _ 1 (.int n) rfl rfl (.of hp) rfl (gl n rfl h2 h3 ?_));have e:(Td.b x n).kf=kC n:=by simp [Td.kf,hw,h2,h3]
     rw [e] at k;exact k
    ·have h3:¬n<=997:=λz=>h3 (dZ z)
     have e:(Td.b x n).kf=false:=by simp [Td.kf,h3]
     rw [e] at k;exact k
   ·have h2:¬2<=n:=λz=>h2 (dZ z)
    have e:(Td.b x n).kf=false:=by simp [Td.kf,h2]
    rw [e] at k;exact (ac false rfl (b5 k))
theorem Xi:bH ["self","told"] ["self","told"] (aN Dz):=b6
theorem Xj(T:Txt K mg t):a8 P w K mg base (e_ P w) 3 t.tH t.xl ["self","told"] (T4 t.bL t.tK):=by
 have S:=Xi;refine T.Aa.fI S (λ_ _ _ _ H _ _ _ hr h L=>?_);intros bn26 h x dx p d rfl hx hp k1 k2;refine (ac _ (aw (bI (gj (ay (Xf T) hr T.NS T.xD.kp T.NR ax (aa (pv 1) ag))) (aw (Kz (pv 0) oZ rfl)) (aw (bI (gj (ay (Xh T) hr T.NU T.xE.kp T.NT ax (aa (pv 1) ag))) (aw (Kz (pv 0) (aB aU (pv 1) ah) rfl)) (aw (vp L rfl uR T.Ol rfl T.Oe (aa fk ag))))))) ?_);refine (be _ rfl p d rfl hp _ rfl (cD (λhF=>?_) (λhF=>?_)))
 ·refine (ac _ rfl (f8 x t.bL dx [] rfl hx T.dY T.mE (by show 0<1000;decide) ?_))
  have e:d.prime=.a9:=by
   cases d with
   | a x=>rfl
   | b x n=>cases hF
  have k:=k1 (by unfold Td.good;rw [hF];rfl)
  rw [e] at k;exact k
 ·have hF:d.yU=false:=by simpa using hF
  refine (be _ rfl p d rfl hp _ rfl (cD (λhW=>?_) (λhW=>?_)))
  ·have k:=k1 (by unfold Td.good;rw [hW,Bool.or_true])
   cases d with
   | a x=>cases hW
   | b y n=>exact (gt _ rfl p _ 1 (.int n) rfl rfl (.of hp) rfl (ac _ rfl (f8 x t.bL dx [] rfl hx T.dY T.mE (by show 0<1000;decide) k)))
  ·have hW:d.kf=false:=by simpa using hW
   exact ⟨by show 1<=sizeLine;decide,k2 (by unfold Td.good;rw [hF,hW];rfl)⟩
theorem Xk:bH ["top","bottom","shared"] ["top","bottom"] (aN C4):=b6
theorem Xl(T:Txt K mg t):a8 P w K mg base (e_ P w) 2 t.sE t.wI ["top","bottom"] (Ue t.mB):=by
 have S:=Xk;refine T.xy.fI S (λ_ _ _ _ H _ _ _ hr h L=>?_);intros bn10 h a b rfl mb kE k
 refine (ac _ (ak (bI (aX eI (pv 1) ah) (aw (vp L rfl uR T.DN rfl T.DK (aa fk ag))) bV)
  (fU.qr (ak (putL 2 S.nd (ay (Om T) hr T.HK T.tZ.kp T.HJ ax (aa (pv 0) (aa (pv 1) ag))))
  (ak (bI (aX jC (pv 1) ah) (aw (putL 2 S.nd (je jf (pv 2)))) bV)
  (aw (aM (iP (aa (aA yY (pv 0) (pv 2)) (aa (aA yY (pv 1) (pv 2)) ag))))))))) ?_)
 have n2:2<=sizeLine:=by decide
 refine (bn _ rfl rfl _ rfl (cD (λhz=>?_) (λhz=>?_)))
 ·have hz:b=0:=V.int.inj (dM hz)
  exact ⟨by show 1<=sizeLine;decide,kE hz⟩
 have hz:b≠0:=λz=>hz (dZ (by rw [z]))
 have ok:=Ln (a:=a) hz mb;have kk:=k hz;unfold fJ gA at kk;refine (dL _ rfl _ rfl a b rfl mb (be _ rfl _ _ rfl rfl _ rfl (cD (λhn=>?_) (λhn=>?_))))
 ·have hn:b<0:=dM hn
  have e:lowG a b=-(Int.gcd a b:Int):=by unfold lowG;rw [aq hn,qj]
  rw [e] at ok kk;refine (ul _ rfl _ rfl (io _ rfl _ rfl _ _ rfl rfl ok (ul _ rfl _ rfl (jp _ _ rfl rfl ok n2 (λr hr=>kk r _ (aJ hr) az)))))
 ·have hn:¬b<0:=λz=>hn (dZ z)
  have e:lowG a b=(Int.gcd a b:Int):=by unfold lowG;rw [ao hn]
  rw [e] at ok kk;refine (io _ rfl _ rfl _ _ rfl rfl ok (ul _ rfl _ rfl (jp _ _ rfl rfl ok n2 (λr hr=>kk r _ (aJ hr) az))))
theorem Xm:bH ["prime","number","last","last_times","now","now_times","fits","left","left_times"] ["prime","number"] (aN C6):=b6
theorem Xn(T:Txt K mg t):a8 P w K mg base (e_ P w) 1 t.sG t.wK ["prime","number"] (T9 t.mB):=by
 have S:=Xm;refine T.xB.fI S (λ_ _ _ _ H _ _ _ hr h L=>?_);intros bn5 h q b rfl bn20 q1 q2 q3 b0 b1 kE k
 refine (ac _ (ak (bI (aX eI (pv 1) ah) (aw (vp L rfl uR T.DN rfl T.DK (aa fk ag))) bV)
  (fU.qr (ak (putL 2 S.nd (pv 0))
  (ak (putL 3 S.nd ah)
  (ak (putL 4 S.nd (pv 1))
  (ak (putL 5 S.nd ah)
  (ak (ni fi (aX ka (pv 4) ah) (ak (putL 6 S.nd (aA RR (pv 2) (pv 4)))
  (ak (putL 7 S.nd (aA eZ (pv 2) (aA hJ (pv 6) (pv 4))))
  (ak (putL 8 S.nd (aA eZ (pv 3) (aA hJ (pv 6) (pv 5))))
  (ak (putL 2 S.nd (pv 4))
  (ak (putL 3 S.nd (pv 5))
  (ak (putL 4 S.nd (pv 7))
  (aw (putL 5 S.nd (pv 8))))))))))
  (aw (aM (aA fX (pv 5) (pv 0))))))))))) ?_)
 refine (bn _ rfl rfl _ rfl (cD (λhz=>?_) (λhz=>?_)))
 ·have hz:b=0:=V.int.inj (dM hz)
  exact ⟨by show 1<=sizeLine;decide,kE hz⟩
 have hz:b≠0:=λz=>hz (dZ (by rw [z]))
 refine (li _ rfl _ rfl (λm σ H'=>H'=H/\∃(l lt n nt:Int) (v1 v2 v3:Option V),σ=[some (.int q),some (.int b),some (.int l),some (.int lt),some (.int n),some (.int nt),v1,v2,v3]/\m=n.toNat/\nO q b l lt n nt/\l<=997) (wT b.toNat rfl q 0 b 1 none (i' none none rfl rfl (nO.start q1 q2 q3 ⋯ b1) q2)) ?_)
 intro m σ H';intros bn14 _ rfl l lt n nt bn18 v1 v2 v3 rfl em hb hl;have p1:=hb.pos;have p2:=hb.less;refine (be _ rfl _ _ rfl rfl _ rfl (cD (λhy=>?_) (λhy=>?_)))
 ·have hy:1<n:=dM hy
  have hs:=hb.step hy;have f0:0<=l / n:=yH ⋯ ⋯
  have f1:l / n<=l:=Int.ediv_le_self _ ⋯
  refine (ac (λσ' H2=>H2=H'/\σ'=[some (.int q),some (.int b),some (.int n),some (.int nt),some (.int (l-l / n*n)),some (.int (lt-l / n*nt)),some (.int (l / n)),some (.int (l-l / n*n)),some (.int (lt-l / n*nt))]) ?_ ?_)
  ·rintro σ' H2 ⟨rfl,rfl⟩
   exact (ad ((l-l / n*n).toNat) (by rw [em];lia) rfl (xL _ _ _ _ _ (i' _ _ rfl rfl hs.1 ⋯)))
  ·exact (dL _ rfl _ rfl _ _ rfl rfl (im ⟨⋯,⋯⟩ _ rfl (io _ rfl _ rfl _ _ rfl rfl (.inr ⟨⋯,⋯⟩) (on _ _ rfl rfl _ rfl (io _ rfl _ rfl _ _ rfl rfl (.inl ⟨⋯,⋯⟩) (ap _ _ rfl rfl (li _ rfl _ rfl _ rfl (ad _ rfl rfl rfl))))))))
 ·have hy:¬1<n:=λz=>hy (dZ z)
  have n1:n=1:=by lia
  subst n1;exact (io _ rfl _ rfl _ _ rfl rfl (show (0:Int)<q by lia) (k hz _ (d0 _ ⋯) (ej _ ⋯) (hb.done q1)))
theorem Xo:bH ["prime","a","b"] ["prime","a","b"] (aN C7):=b6
theorem Xp(T:Txt K mg t):a8 P w K mg base (e_ P w) 2 t.sI t.wL ["prime","a","b"] (T_ t.mB):=by
 have S:=Xo;refine T.xC.fI S (λ_ _ _ _ H _ _ _ hr h L=>?_);intros bn6 h q i j bn30 rfl q1 q2 q3 i0 i1 j0 j1 kE k;refine (ac _ (aw (aM (aA fX (aA hJ (pv 1) (ay (Xn T) hr T.NO T.xB.kp T.NN (o_ L) (aa (pv 0) (aa (pv 2) ag)))) (pv 0)))) ?_)
 exact (li _ rfl _ rfl _ rfl (wP q j rfl q1 q2 q3 j0 j1 kE (λhj r r0 r1 i5=>(i' _ _ rfl rfl (.inl ⟨⋯,⋯⟩) (j' _ rfl _ _ rfl rfl (show (0:Int)<q by lia) (k hj _ (d0 _ ⋯) (ej _ ⋯) (Ua q1 i0 i1 i5)))))))
theorem Xq:bH ["self","top","bottom"] ["self","top","bottom"] (aN kn):=b6
theorem Ae(T:Txt K mg t):a8 P w K mg base (e_ P w) 3 t.og t.zU ["self","top","bottom"] (Ug t.bL t.mB):=by
 have S:=Xq;refine T.Oc.FE S (λvs H Q E h=>?_) (λa7 A outer s H vs Q E hr h L=>?_)
 ·intros bn11 h z q a b rfl _
  rfl
 ·obtain ⟨z,q,a,b,rfl,⟨dx,hx⟩,hq,mb,kE,k⟩:=h
  refine (ac _ (ak (bI (aX Fg (qC (pv 0) rfl) oZ) (aw (aM (ay (Xl T) hr T.NK T.xy.kp T.NI (o_ L) (aa (pv 1) (aa (pv 2) ag))))) bV)
   (aw (aM (ay (Xp T) hr T.NQ T.xC.kp T.NP (o_ L) (aa (qC (pv 0) rfl) (aa (aA fX (pv 1) (qC (pv 0) rfl)) (aa (aA fX (pv 2) (qC (pv 0) rfl)) ag))))))) ?_)
  refine (wE _ rfl z (f8 t.bL dx _ _ rfl hx T.dY T.mE (qR _) (im rfl _ rfl ?_)));rcases hq with rfl | ⟨q2,q3,q4⟩
  ·rw [aq rfl]
   refine fm (io _ rfl _ rfl a b rfl mb (λhb=>kE (by unfold lX;rw [aq rfl];exact hb)) (λhb r H' s' er=>k (λhn=>hb (by unfold lX at hn;rw [aq rfl] at hn;exact hn)) _ H' s' (.inl (im rfl r rfl er))))
  ·have hq:q≠0:=by lia
   rw [ao hq] at hx ⊢;have p0:(0:Int)<q:=by lia
   refine b5 (wE _ rfl z (f8 t.bL dx _ _ rfl hx T.dY T.mE (qR _) (wf _ rfl _ rfl z t.bL dx (pi _ _ rfl hx T.dY T.mE (qR _) (i' _ _ rfl rfl p0 (wf _ rfl _ rfl z t.bL dx (pi _ _ rfl hx T.dY T.mE (qR _) (i' _ _ rfl rfl p0 ?_))))))));have nv:lX q b↔b % q=0:=by unfold lX;rw [ao hq]
   exact ⟨q,a % q,b % q,rfl,q2,q3,q4,d0 _ hq,ej _ p0,d0 _ hq,ej _ p0,λhj=>kE (nv.mpr hj),λhj r r0 r1 i5=>k (λz=>hj (nv.mp z)) _ H (ai.refl H) (.inr ⟨q2,r,rfl,r0,r1,i5⟩)⟩
theorem Xr:bH ["row","bottom","number"] ["row"] (aN C5):=b6
theorem Xs(T:Txt K mg t):a8 P w K mg base ck 2 t.sF t.wJ ["row"] V2:=by
 have S:=Xr;refine T.xA.cS S (λ_ _ _ _ H vs _ _ hr h=>?_);intros bn11 h a ps B D rfl bn20 q'68 Oo cT hD hB bD k;intros bn4 q'68 vs ea hl hn
 refine (ac _ (ak (lV 1 S.nd ah)
  (ak (jA fi rfl (nj (pv 0)) (fF (i:=2) S.nd rfl (Or.inl rfl))
   (aw (lV 1 S.nd (aA gO (aA FK (pv 1) (ay (Om T) hr T.HK T.tZ.kp T.HJ ax (aa (pv 1) (aa (aB aU (pv 2) ah) ag)))) (aB aU (pv 2) ah)))))
  (aw (aM (iP (aa (lT (N:=["number","bottom"]) (ρ:=(λσ=>[σ[1]?.join])) (iy [1] rfl) rfl (nj (pv 0)) (λ_ _ _=>.nil) (λ_ _ _=>(aA gO (aB (BS (K:=K)) (pv 0) ah) (aA FK (pv 1) (aB (BS (K:=K)) (pv 0) ah))))) (aa (pv 1) ag))))))) ?_)
 have D1:=cT.1 rfl;have parts:∀(i:Nat) (v:V),vs[i]?=some v->∃(r:Addr) (x m:Int),v=.ref r/\H r=some (.tup [.int x,.int m])/\ps[i]?=some (x,m)/\jI x m/\x.natAbs<=B/\m∣D:=λi v e=>by
  have hi:i<ps.length:=by rw [<-hl];exact (dj.mp e).1
  have ep:ps[i]?=some ps[i]:=by simp [hi]
  have h1:=hn i v ps[i] e ep;have h2:=hD _ (gZ hi);generalize ps[i]=p at h1 ep h2;obtain ⟨x,m⟩:=p;cases h1 with
  | cm er l bx bm=>exact (re _ x m rfl er ep l bx h2)
  | rem h0 h1 h2=>lia
 have xT:∀{y:Int},y∣D->aQ y:=λh=>MT (af (ki h ⋯) bD)
 refine (ac _ rfl (ad a rfl ⟨_,.of ea⟩ ?_))
 refine RL (K:=K) (a:=a) (xs:=vs) (λi σ Hc=>Hc=H/\∃(b:Int) (v2:Option V),σ=[some (.ref a),some (.int b),v2]/\1<=b/\b∣D/\∀(j:Nat) (p:Int×Int),j<i->ps[j]?=some p->p.2∣b)
  ⟨rfl,1,none,rfl,∅,uJ D,λj p hj=>by lia⟩ (λi σ Hc _ ⟨z,_⟩=>by rw [z];exact .of ea) ?_ ?_
 ·intro i v σ Hc hi;intros bn19 _ rfl b v2 rfl b1 bb hd
  have q'69:=parts i v hi;intros bn25 q'69 r x m rfl er ep l bx bm;have m1:=l.pos;obtain ⟨s1,s2,s3,s4⟩:=Uw b1 m1;have gp:=qS (a:=b) (b:=m) ⋯
  have gm:aQ (Int.gcd b m:Int):=xT (j4 (qi ..) bm);refine (ul _ rfl _ rfl (gt _ rfl r _ _ _ rfl rfl (.of er) rfl (ap b m rfl (xT bm) (i' _ _ rfl rfl ⟨⋯,gm⟩ (gt _ rfl r _ _ _ rfl rfl (.of er) rfl (i' _ _ rfl rfl ⟨?_,xT bm⟩ ?_))))))
  ·exact ic (oQ ..) (xT bb)
  ·refine ⟨rfl,_,_,rfl,s1,lcm_dvd b1 m1 bb bm,λj p hj hp=>?_⟩
   by_cases z:j=i
   ·subst z
    rw [ep] at hp;cases hp;exact s2
   ·exact j4 (hd j p ⋯ hp) s3
 ·intro σ Hc;intros bn19 _ rfl b v2 rfl b1 bb hd
  rw [hl] at hd;have mb:aQ b:=xT bb;dsimp only;refine za (Uv (qY (xs:=vs) (λR h=>⟨_,rfl,a,rfl,⟨_,.of ea⟩,h _ _ (ai.refl _) (pB (.of ea))⟩) (by rw [hl];exact jH ⋯) (λ_ i y _=>∃(p:Int×Int),ps[i]?=some p/\y=.int (p.1*(b / p.2))) (λ_ _ _ _ _ _ h _ _=>h) ?_ ?_))
  ·intro D' i v hi Hd R sd _ kd
   have q'70:=parts i v hi;intros bn25 q'70 r x m rfl er ep l bx bm;have m1:=l.pos;have Xt:aQ (b / m):=ic (oQ ..) mb;exact (gt _ rfl r _ _ _ rfl rfl (.of (sd _ _ er)) rfl (ac _ rfl (gt _ rfl r _ _ _ rfl rfl (.of (sd _ _ er)) rfl (i' _ _ rfl rfl ⟨⋯,xT bm⟩ (i' _ _ rfl rfl ⟨MT (af bx hB),Xt⟩ (kd _ Hd (ai.refl _) (ac (x,m) ep rfl)))))))
  ·intro D' ys Hd nD sd DO hP eD
   have ey:ys=(ps.map λp=>p.1*(b / p.2)).map V.int:=BU (by rw [DO,hl,aW]) λi v e=>by obtain ⟨p,e1,e2⟩:=hP i v e;exact ⟨p.1*(b / p.2),by rw [gf,e1];rfl,e2⟩
   refine (ad _ rfl (by show 2<=sizeLine;decide) (λr i5=>?_))
   refine k _ _ (ps.map λp=>p.1*(b / p.2)) b (sd.trans (aJ i5)) (i' r D' rfl az (aJ i5 _ _ (by rw [eD,ey])) nD) ⟨by rw [aW],⟨λ_=>b1,λz=>absurd rfl z⟩,bb,λi hi=>?_⟩
   have H_:i<vs.length:=by lia
   have e1:(ps.map λp=>p.1*(b / p.2)).getD i 0=ps[i].1*(b / ps[i].2):=by rw [getD_at (by rw [aW];exact hi),j7]
   rw [e1,getD_at hi];have q'72:=(parts i vs[i] (by simp [H_]));intros bn25 q'72 r' x m _ _ ep l bx bm
   have jT:ps[i]=(x,m):=by
    rw [show ps[i]?=some ps[i] by simp [hi]] at ep
    exact Option.some.inj ep
   rw [jT];dsimp only;have m1:=l.pos;obtain ⟨c,ec⟩:=hd i (x,m) hi (by rw [<-jT];simp [hi])
   dsimp only at ec;have eq:b / m=c:=by rw [ec];exact oR _ ⋯
   refine ⟨by rw [eq,ec];grind,?_⟩
   rw [aZ];exact bN bx (af (oQ ..) (ki bb ⋯))
theorem Xu:bH ["self","row"] ["self","row"] (aN DA):=b6
theorem Ia(T:Txt K mg t):a8 P w K mg base ck 3 t.tI t.xn ["self","row"] (V3 t.bL):=by
 have S:=Xu;refine T.Ab.cS S (λ_ _ _ _ H vs _ _ hr h=>?_);intros bn2 h z a bn11 q ps B D rfl bn30 q'73 hq Oq Oo cT hD hB b1 bD k;obtain ⟨dx,hx⟩:=q'73
 refine (ac _ (ak (bI (aX Fg (qC (pv 0) rfl) oZ) (aw (aM (ay (Xs T) hr T.NM T.xA.kp T.NL ax (aa (pv 1) ag)))) bV)
  (aw (aM (iP (aa (nI qH rfl T.ot boot_list (aa (pv 1) ag)) (aa ah ag)))))) ?_)
 refine (wE _ rfl z (f8 t.bL dx _ _ rfl hx T.dY T.mE (qR _) (im rfl _ rfl ?_)));rcases hq with rfl | ⟨q2,q3,q4⟩
 ·rw [aq rfl]
  exact fm (ac _ rfl (ol a ps B D rfl Oq Oo cT hD hB ⟨bD,k⟩))
 ·have hq:q≠0:=by lia
  rw [ao hq] at hx ⊢;intros bn4 Oq vs ea hl hn;have parts:∀(i:Nat) (v:V),vs[i]?=some v->∃x:Int,v=.int x/\ps[i]?=some (x,1)/\0<=x/\x<q:=λi v e=>by
   have hi:i<ps.length:=by rw [<-hl];exact (dj.mp e).1
   have ep:ps[i]?=some ps[i]:=by simp [hi]
   have h1:=hn i v ps[i] e ep;generalize ps[i]=p at h1 ep;obtain ⟨x,m⟩:=p;cases h1 with
   | cm er l bx bm=>exact absurd rfl hq
   | rem h0 h1 h2=>exact (gl x rfl ep h0 h1)
  have ey:vs=(ps.map λp=>p.1).map V.int:=BU (by rw [hl,aW]) λi v e=>by obtain ⟨x,e1,e2,_⟩:=parts i v e;exact ⟨x,by rw [gf,e2];rfl,e1⟩
  have eD:=cT.2 hq;refine b5 (al _ rfl a vs rfl (.inl (.of ea)) (λl nl=>⟨by show 2<=sizeLine;decide,λr i5=>?_⟩))
  refine k _ _ (ps.map λp=>p.1) 1 ((aJ nl).trans (aJ i5)) (i' r l rfl az (aJ i5 _ _ (by rw [az,ey])) nl) ⟨by rw [aW],aP.one,uJ D,λi hi=>?_⟩
  have H_:i<vs.length:=by lia
  rw [getD_at (by rw [aW];exact hi),j7,getD_at hi]
  obtain ⟨x,_,ep,x0,x1⟩:=parts i vs[i] (by simp [H_])
  have jT:ps[i]=(x,1):=by
   rw [show ps[i]?=some ps[i] by simp [hi]] at ep
   exact Option.some.inj ep
  rw [jT];refine ⟨rfl,?_⟩;rw [eD];show x.natAbs<=B*1;lia
theorem Xv:bH ["world","row","many"] ["world","row"] (aN CN):=b6
theorem xU(T:Txt K mg t):a8 P w K mg base ck 4 t.rT t.vZ ["world","row"] (UW t.bL):=by
 have S:=Xv;have mF:=Ae (P:=P) (w:=w) (base:=base) T;obtain ⟨dv,ou,ox⟩:=T.DJ;refine T.kU.cS S (λ_ _ _ _ H vs _ _ hr h=>?_);intros bn31 h z a q ps B rfl hz hq hR Ib k;have hu:=hr.qD
 refine (ac _ (ak (putL 2 S.nd (aS bR rfl T.bO bQ (aa (pv 1) ag)))
  (ak (ni fi (PW.pt (pw_and (aX ka (pv 2) ah) (pw_and1 (aX (Ls hu) (aB cz (pv 1) (aA eZ (pv 2) ah)) (gM (pv 0) T.dY T.ue mF (hr.mono ∅) ox ou lQ (aa ah ag)))))) (aw (Bj (i:=2) S.nd rfl (Or.inl rfl) ah Kg)))
  (aw (aM (vf vh (pv 1) vc (vd (pv 2))))))) ?_)
 have q'77:=id hR;intros bn4 q'77 vs ea hl hn;refine (al _ rfl a vs rfl (.inl (.of ea)) ?_);refine (ac (λc σ Hc=>ai H Hc/\c<=ps.length/\dS ps c=dS ps ps.length/\σ=[some (.ref z),some (.ref a),some (.int (c:Int))]) (gl ps.length (ai.refl H) (aL _) rfl (by rw [<-hl];rfl)) ?_)
 rintro c σ Hc ⟨sc,hc,uh,rfl⟩;refine (be _ rfl _ _ rfl rfl _ rfl (cD (λh0=>?_) (λh0=>?_)))
 ·have h0:(0:Int)<(c:Int):=dM h0
  obtain ⟨d,rfl⟩:∃d,c=d+1:=⟨c-1,⋯⟩
  have hd:d<vs.length:=by lia
  have m8:d<ps.length:=by lia
  refine (dL _ rfl _ rfl _ _ rfl rfl (ii a vs _ (vs[d]) rfl rfl (.of (sc _ _ ea)) (by show dF vs (((d+1:Nat):Int)-1)=_;rw [show ((d+1:Nat):Int)-1=(d:Int) by lia];exact iw (by simp [hd])) ?_))
  have hv:=hn d vs[d] ps[d] (by simp [hd]) (by simp [m8])
  obtain ⟨dz,Ot⟩:=hz.mono sc;have nv:=Gd hq;refine (ce _ rfl z dz _ rfl Ot (gP (by decide +kernel)) (f8 z q 0 1 rfl ⟨dz,Ot⟩ hq (aQ.of_lt ∅ ∅) (λh=>absurd h nv) (λ_ v0 H1 s1 ho=>?_)))
  have pA:=L4 (B:=1000) ∅ ho hq (.inl rfl)
  have gd:ps.getD d o1=ps[d]:=getD_at m8;refine L7 (hv.mono (sc.trans s1)) pA (ac _ rfl (cD (λgX=>?_) (λgX=>?_)))
  ·have gX:ps[d].1=0:=dM gX
   refine (ac (λσ' H2=>ai H H2/\σ'=[some (.ref z),some (.ref a),some (.int (d:Int))]) ?_ ?_)
   ·rintro σ' H2 ⟨s2,rfl⟩
    refine ⟨d,⋯,s2,⋯,?_,rfl⟩
    rw [<-uh];show _=if (ps.getD d o1).1=0 then dS ps d else d+1
    rw [gd,aq gX]
   ·exact (j' _ rfl _ _ rfl rfl (sc.trans s1) (by show List.set _ 2 (some (V.int (((d+1:Nat):Int)-1)))=_;rw [show ((d+1:Nat):Int)-1=(d:Int) by lia];rfl))
  ·have gX:¬ps[d].1=0:=λe=>gX (dZ e)
   have e:dS ps ps.length=d+1:=by
    rw [<-uh];show (if (ps.getD d o1).1=0 then dS ps d else d+1)=_
    rw [gd,ao gX]
   refine (ac _ rfl (dL _ rfl _ rfl a vs rfl (.of ((sc.trans s1) _ _ ea)) (λr nr=>?_)));rw [vB vs (d+1) ⋯]
   have sr:=(sc.trans s1).trans (aJ (o:=.lst (vs.take (d+1))) nr);refine k r _ sr (none_of (sc.trans s1) nr) ?_;unfold aF;rw [e];exact aD.take az hl λi v p h1 h2=>(hn i v p h1 h2).mono sr
 ·have h0:¬(0:Int)<(c:Int):=λz=>h0 (dZ z)
  have c0:c=0:=by lia
  subst c0;refine (ac _ rfl (dL _ rfl _ rfl a vs rfl (.of (sc _ _ ea)) (λr nr=>?_)));rw [vB vs 0 ⋯]
  have sr:=sc.trans (aJ (o:=.lst (vs.take 0)) nr);refine k r _ sr (none_of sc nr) ?_;unfold aF;rw [<-uh];exact aD.take az hl λi v p h1 h2=>(hn i v p h1 h2).mono sr
theorem Xw:bH ["self","row","by","back"] ["self","row","by"] (aN DB):=b6
theorem Ic(T:Txt K mg t):a8 P w K mg base ck 4 t.tJ t.xo ["self","row","by"] (Mx t.bL):=by
 have S:=Xw;have mF:=Ae (P:=P) (w:=w) (base:=base) T;refine T.Ac.cS S (λ_ _ _ _ H _ _ _ hr h=>?_);intros bn17 h z a q ts b u bn30 rfl q'78 hq ea DP hm mb nb lZ k;obtain ⟨dx,hx⟩:=q'78
 refine (ac _ (ak (bI (aX Fg (qC (pv 0) rfl) oZ) (aw (aM (lT (N:=["number","by"]) (ρ:=(λσ=>[σ[2]?.join])) (iy [2] rfl) rfl (nj (pv 1)) (λ_ _ _=>.nil) (λ_ _ _=>(aA yY (pv 0) (pv 1)))))) bV)
  (ak (lV 3 S.nd (gM (pv 0) T.dY T.ue mF (hr.mono ∅) T.HV .nil lQ (aa ah (aa (pv 2) ag))))
  (aw (aM (lT (N:=["number","back","self"]) (ρ:=(λσ=>[σ[3]?.join,σ[0]?.join])) (iy [3,0] rfl) rfl (nj (pv 1)) (λ_ _ _=>.nil) (λ_ _ _=>(aA fX (aA gO (pv 0) (pv 1)) (Vi (K:=K) (pv 2) rfl)))))))) ?_)
 refine (wE _ rfl z (f8 t.bL dx _ _ rfl hx T.dY T.mE (qR _) (im rfl _ rfl ?_)));rcases id hq with rfl | ⟨q2,q3,q4⟩
 ·rw [aq rfl]
  have b0:b≠0:=VE nb;refine fm (za (zt (ts:=ts) (λx=>x.fdiv b) DP (λR h=>⟨_,rfl,a,rfl,⟨_,.of ea⟩,h _ _ (ai.refl _) (pB (.of ea))⟩) ?_ ?_))
  ·intro x DQ Hc R sc kc
   exact (io _ rfl _ rfl _ _ rfl rfl ⟨b0,mb⟩ (kc Hc (ai.refl _)))
  ·refine λD Hc nD sc eD=>k D Hc _ sc nD eD (by rw [aW]) (λi hi=>?_) λz=>absurd rfl z
   have e:=VD (lZ i hi);rw [getD_at hi] at e;rw [getD_at (by rw [aW];exact hi),j7,e,Int.mul_fdiv_cancel_left _ b0]
   exact Cg.refl _
 ·have pS:q≠0:=by lia
  rw [ao pS] at hx ⊢;have hz:dO t.bL H z q:=⟨dx,by rw [ao pS];exact hx⟩
  refine b5 (ce _ rfl z dx _ rfl hx (gP (by decide +kernel)) (ac _ rfl (f8 z q 1 b rfl hz hq mb (λh=>absurd h (Ly nb)) (λ_ v H1 s1 ho=>?_))))
  rcases ho with ⟨e,_⟩ | ⟨_,r,rfl,r0,r1,er⟩;·exact absurd e pS
  have mr:aQ r:=aQ.of_lt ⋯ ⋯
  dsimp only [bo];refine za (zt (ts:=ts) (λx=>x*r % q) DP (λR h=>⟨_,rfl,a,rfl,⟨_,.of (s1 _ _ ea)⟩,h _ _ (ai.refl _) (pB (.of (s1 _ _ ea)))⟩) ?_ ?_)
  ·intro x DQ Hc R sc kc
   exact (io _ rfl _ rfl _ _ rfl rfl ⟨hm x DQ,mr⟩ (wE _ rfl z (f8 t.bL dx _ _ rfl (sc _ _ (s1 _ _ hx)) T.dY T.mE (qR _) (i' _ _ rfl rfl (show (0:Int)<q by lia) (kc Hc (ai.refl _))))))
  ·refine λD Hc nD sc eD=>k D Hc _ (s1.trans sc) (none_of s1 nD) eD (by rw [aW]) (λi hi=>?_) λ_ x DQ=>?_
   ·have e:=lZ i hi
    rw [getD_at hi] at e;rw [getD_at (by rw [aW];exact hi),j7]
    have e1:Cg q (r*b) 1:=by refine Cg.trans (((jk q b).symm.mulL r).trans (jk q _).symm) ?_;rw [er];exact jk q 1
    refine (jk q _).trans ((e.mulR r).trans ?_);rw [show b*u i*r=r*b*u i by grind]
    refine (e1.mulR (u i)).trans ?_;rw [g8];exact Cg.refl _
   ·obtain ⟨y,_,rfl⟩:=fQ.mp DQ
    exact ⟨d0 _ pS,ej _ ⋯⟩
def Xx(C:Addr):Sp:=λvs H Q _=>∃(z a:Addr) (q c b:Int) (ts:List Int) (B:Nat),vs=[.ref z,.ref a,.int c,.int b]/\dO C H z q/\au q/\H a=some (.lst (ts.map V.int))/\ts.length<=500/\¬q∣b/\aQ b/\aQ c/\(∀t∈ts,aQ t)/\b.natAbs<=B/\(∀t∈ts,(t*c).natAbs<=B) /\
 ∀(r:Addr) (ps:aC) (H':Hp),ai H H'->H r=none->aD B H' q r ps->ps.length=ts.length->(∀i,i<ts.length->ar q (ps.getD i o1) (ts.getD i 0*c,b))->Q (.ref r) H'
theorem Xy:bH ["world","wholes","times","bottom"] ["world","wholes","times","bottom"] (aN CP):=b6
theorem xV(T:Txt K mg t):a8 P w K mg base ck 4 t.rX t.wa ["world","wholes","times","bottom"] (Xx t.bL):=by
 have S:=Xy;have mF:=Ae (P:=P) (w:=w) (base:=base) T;refine T.kW.cS S (λ_ _ _ _ H _ _ _ hr h=>?_);intros bnE h z bn24 a q c b ts B rfl q'80 bn30 hq ea DP nb mb mc mt bb bt k;obtain ⟨dz,hd⟩:=q'80;refine (ac _ (aw (aM (lT (N:=["whole","world","times","bottom"]) (ρ:=(λσ=>[σ[0]?.join,σ[2]?.join,σ[3]?.join])) (iy [0,2,3] rfl) rfl (nj (pv 1)) (λ_ _ _=>.nil) (λ_ _ _=>(gM (pv 1) T.dY T.ue mF (hr.mono ∅) T.HV .nil lQ (aa (aA gO (pv 0) (pv 2)) (aa (pv 3) ag))))))) ?_)
 refine za (qY (xs:=ts.map V.int) (λR h=>⟨_,rfl,a,rfl,⟨_,.of ea⟩,h _ _ (ai.refl _) (pB (.of ea))⟩) (by rw [aW];exact jH ⋯) (λ_ i y Hx=>∃p:Int×Int,aY B Hx q y p.1 p.2/\ar q p (ts.getD i 0*c,b)) (λ_ _ _ _ _ _ ⟨p,h0,h1⟩ e f=>⟨p,h0.b7 e f,h1⟩) ?_ ?_)
 ·intro D i v hi Hc R sc _ kc
  have df:i<ts.length:=by have:=(dj.mp hi).1;simpa using this
  have ev:v=.int ts[i]:=by rw [gf] at hi;simp [df] at hi;exact hi.symm
  subst ev;have tm:=gZ df;refine (ce _ rfl z dz _ rfl (sc _ _ hd) (gP (by decide +kernel)) (dL _ rfl _ rfl _ _ rfl rfl (im ⟨mt _ tm,mc⟩ _ rfl (f8 z q (ts[i]*c) b rfl ⟨dz,sc _ _ hd⟩ hq mb (λh=>absurd h (Ly nb)) (λ_ v' H' s' ho=>kc v' H' s' ?_)))))
  rw [getD_at df];exact Ms ho hq nb (bt _ tm) bb
 ·intro D ys Hc nD sc DO hP eD
  obtain ⟨ps,lp,hp⟩:=pick (R:=λi y p=>aY B Hc q y (Prod.fst p) (Prod.snd p)/\ar q p (ts.getD i 0*c,b)) hP;rw [aW] at DO;refine k D ps Hc sc nD (ad ys eD lp.symm (λi v p h1 h2=>(hp i v p h1 h2).1)) ⋯ λi hi=>?_
  have i1:i<ys.length:=by lia
  have i2:i<ps.length:=by lia
  rw [getD_at i2];exact (hp i ys[i] ps[i] (by simp [i1]) (by simp [i2])).2
theorem Xz:bH ["world","row","many"] ["world","row","many"] (aN CO):=b6
theorem DR(T:Txt K mg t):a8 P w K mg base ck 4 t.rV t.v_ ["world","row","many"] (U1 t.bL):=by
 have S:=Xz;have mF:=Ae (P:=P) (w:=w) (base:=base) T;obtain ⟨dv,ou,ox⟩:=T.DJ;refine T.oh.cS S (λ_ _ _ _ H vs _ _ hr h=>?_);intros bnE h z bn31 a q ps B n rfl q'83 hq hR hB bn1 hn Ib k;obtain ⟨dz,hd⟩:=q'83;refine (ac _ (aw (aM (aA nJ (pv 1) (aA yR (cV (aa (gM (pv 0) T.dY T.ue mF (hr.mono ∅) ox ou lQ (aa ah ag)) ag)) (aA eZ (pv 2) (aS bR rfl T.bO bQ (aa (pv 1) ag))))))) ?_)
 have nv:=Gd hq;obtain ⟨vs,ea,lv,fv⟩:=id hR;refine (ac _ rfl (ce _ rfl z dz _ rfl hd (gP (by decide +kernel)) (f8 z q 0 1 rfl ⟨dz,hd⟩ hq (aQ.of_lt ∅ ∅) (λh=>absurd h nv) (λ_ v0 H1 s1 ho=>?_))))
 refine ⟨by show 1<=sizeLine;decide,λl nl=>?_⟩
 have sl:ai H1 (upd H1 l (.lst [v0])):=aJ nl;have el:upd H1 l (.lst [v0]) l=some (.lst [v0]):=az;have h0:=L4 (B:=B) hB (ho.mono sl) hq (.inl rfl);generalize upd H1 l (.lst [v0])=H2 at sl el h0 ⊢;have s2:=s1.trans sl;have ek:(n:Int)-(vs.length:Int)=((n-ps.length:Nat):Int):=by lia
 refine (ul _ rfl _ rfl (wn a vs rfl (.inl (.of (s2 _ _ ea))) _ _ rfl rfl (Exists.intro l (u8 ((n-ps.length:Nat):Int) [v0] rfl (by show V.int ((n:Int)-(vs.length:Int))=_;rw [ek]) el ⋯ ⋯ ?_ (λr nr=>?_)))))
 ·rw [dI]
  exact af (show [v0].length*(n-ps.length)<=1000 by simp;lia) ∅
 rw [dI,show (List.replicate (n-ps.length) [v0]).flatten=List.replicate (n-ps.length) v0 by induction (n-ps.length) with
  | zero=>rfl
  | succ n ih=>simp [mT]]
 have sr:ai H2 (upd H2 r (.lst (List.replicate (n-ps.length) v0))):=aJ nr;have er:upd H2 r (.lst (List.replicate (n-ps.length) v0)) r=some (.lst (List.replicate (n-ps.length) v0)):=az;have h0:=h0.mono sr;generalize upd H2 r (.lst (List.replicate (n-ps.length) v0))=H3 at sr er h0 ⊢;have s3:=s2.trans sr;refine (f8 a r vs _ rfl rfl (s3 _ _ ea) er (af (show _<=1000 by rw [i9];lia) ∅) (λc nc=>?_))
 have sc:ai H3 (upd H3 c (.lst (vs++List.replicate (n-ps.length) v0))):=aJ nc;refine k c _ (s3.trans sc) (none_of s3 nc) (aD.cat az lv (by rw [i9,i9]) (λi v p h1 h2=>(fv i v p h1 h2).mono (s3.trans sc)) (λi v p h1 h2=>?_))
 rw [mS] at h1 h2
 split at h1
 ·rename_i hi
  rw [aq hi] at h2;cases h1;cases h2;exact h0.mono sc
 ·cases h1
theorem XA:bH ["one","other","told","i","a","j","b"] ["one","other"] (aN CF):=b6
theorem Ou(T:Txt K mg t):a8 P w K mg base ck 1 t.rN t.vT ["one","other"] U6:=by
 have S:=XA;refine T.tM.cS S (λ_ _ _ _ H _ _ _ hr h=>?_);intros bn11 h a b ts us rfl bn20 ea eb mt mu XB XC k
 refine (ac _ (ak (putL 2 S.nd (aA yR (cV (aa ah ag)) (aS (Ks rfl) rfl T.HY boot_max (aa ah (aa (aA eZ (aA eF (aS bR rfl T.bO bQ (aa (pv 0) ag)) (aS bR rfl T.bO bQ (aa (pv 1) ag))) ah) ag)))))
  (ak (jA fi rfl (Md rfl T.HX (aa (pv 0) ag)) (Bi rfl (o5 (fF (i:=3) S.nd rfl (Or.inl rfl)) (o5 (fF (i:=4) S.nd rfl (Or.inl rfl)) Bh)))
   (aw (jA fi rfl (Md rfl T.HX (aa (pv 1) ag)) (Bi rfl (o5 (fF (i:=5) S.nd rfl (Or.inl rfl)) (o5 (fF (i:=6) S.nd rfl (Or.inl rfl)) Bh)))
   (aw (@Rx _ _ _ _ _ _ _ _ _ _ _ _ _ (pv 2) (aA eF (pv 3) (pv 5)) U5 (aA gO (pv 4) (pv 6)) Kf set_list (by intros;rfl))))))
  (aw (aM (pv 2))))) ?_)
 obtain ⟨N,eN⟩:∃N:Nat,N=ts.length+us.length-1:=⟨_,rfl⟩;have emax:(if ((ts.map V.int).length:Int)+((us.map V.int).length:Int)-1>0 then ((ts.map V.int).length:Int)+((us.map V.int).length:Int)-1 else 0)=(N:Int):=by
  rw [aW,aW,eN]
  split <;> lia
 refine ⟨by show 1<=sizeLine;decide,λl nl=>?_⟩
 have sl:ai H (upd H l (.lst [.int 0])):=aJ nl;refine (al _ rfl a (ts.map V.int) rfl (.inl (.of (sl _ _ ea))) (al _ rfl b (us.map V.int) rfl (.inl (.of (sl _ _ eb))) (wn _ _ rfl rfl _ _ rfl rfl (Exists.intro _ (wE _ rfl l (u8 (N:Int) [.int 0] rfl (gI V.int emax) az ⋯ ⋯ ?_ (λc nc=>?_)))))))
 ·rw [dI]
  exact af (show [V.int 0].length*N<=200 by simp;lia) ∅
 have e0:(List.replicate ((N:Int).toNat) [V.int 0]).flatten=((List.range N).map λk=>a_ 0 us.length (λi=>ts.getD i 0) (λj=>us.getD j 0) k).map V.int:=by
  rw [dI];refine A6 λi=>?_;have e1:(List.replicate N [V.int 0]).flatten=List.replicate N (V.int 0):=by
   clear eN emax
   induction N with
   | zero=>rfl
   | succ n ih=>simp [mT]
  rw [e1,mS];by_cases hi:i<N;·simp [hi,a_,aT]
  ·simp [hi]
 rw [e0];have Ie:ai H (upd (upd H l (.lst [.int 0])) c (.lst (((List.range N).map λk=>a_ 0 us.length (λi=>ts.getD i 0) (λj=>us.getD j 0) k).map V.int))):=sl.trans (aJ nc);have Ov:upd (upd H l (.lst [.int 0])) c (.lst (((List.range N).map λk=>a_ 0 us.length (λi=>ts.getD i 0) (λj=>us.getD j 0) k).map V.int)) c=_:=az;generalize upd (upd H l (.lst [.int 0])) c (.lst (((List.range N).map λk=>a_ 0 us.length (λi=>ts.getD i 0) (λj=>us.getD j 0) k).map V.int))=H0 at Ie Ov ⊢;have Ow:H c=none:=none_of sl nc;refine (ac _ rfl (ad a rfl ⟨_,.of (Ie _ _ ea)⟩ ?_))
 refine Me (K:=K) (l:=a) (xs:=ts.map V.int) (λi σ Hc=>ai H Hc/\∃(v3 v4 v5 v6:Option V),σ=[some (.ref a),some (.ref b),some (.ref c),v3,v4,v5,v6]/\Hc c=some (.lst (((List.range N).map λk=>a_ i us.length (λi=>ts.getD i 0) (λj=>us.getD j 0) k).map V.int)))
  ⟨Ie,_,_,_,_,rfl,Ov⟩ (λi σ Hc ⟨z,_⟩=>.of (z _ _ ea)) ?_ ?_
 ·intro i x σ Hc Tt hx;intros bn16 _ sc v3 v4 v5 v6 rfl ec;intro nT
  have hi:i<ts.length:=by have:=(dj.mp hx).1;simpa using this
  have ex:x=.int (ts.getD i 0):=by rw [gf] at hx;simp [hi] at hx;rw [getD_at hi,hx]
  subst ex;have sT:ai Hc (upd Hc Tt (.tup [.int (i:Int),.int (ts.getD i 0)])):=aJ nT;have eT:upd Hc Tt (.tup [.int (i:Int),.int (ts.getD i 0)]) Tt=_:=az;generalize upd Hc Tt (.tup [.int (i:Int),.int (ts.getD i 0)])=H1 at sT eT ⊢;refine (ap Tt _ rfl (.of eT) (lf rfl _ (al _ rfl _ _ rfl rfl ?_)));have s1:=sc.trans sT;have Ig:=sT _ _ ec;refine (ac _ rfl (ad b rfl ⟨_,.of (s1 _ _ eb)⟩ ?_))
  refine Me (K:=K) (l:=b) (xs:=us.map V.int) (λj σ Hd=>ai H Hd/\∃(v5 v6:Option V),σ=[some (.ref a),some (.ref b),some (.ref c),some (.int (i:Int)),some (.int (ts.getD i 0)),v5,v6]/\Hd c=some (.lst (((List.range N).map λk=>a_ i us.length (λi=>ts.getD i 0) (λj=>us.getD j 0) k+di j (ts.getD i 0) (λj=>us.getD j 0) i k).map V.int)))
   (lf s1 _ (ac _ rfl ?_)) (λi σ Hc ⟨z,_⟩=>.of (z _ _ eb)) ?_ ?_
  ·rw [Ig]
   congr 5
   exact funext λk=>(j6 _).symm
  ·intro j y σ Hd T2 hy;intros bn7 _ sd v5 v6 rfl ed;intro XD
   have hj:j<us.length:=by have:=(dj.mp hy).1;simpa using this
   have ey:y=.int (us.getD j 0):=by rw [gf] at hy;simp [hj] at hy;rw [getD_at hj,hy]
   subst ey;have s2:ai Hd (upd Hd T2 (.tup [.int (j:Int),.int (us.getD j 0)])):=aJ XD;have e2:upd Hd T2 (.tup [.int (j:Int),.int (us.getD j 0)]) T2=_:=az;generalize upd Hd T2 (.tup [.int (j:Int),.int (us.getD j 0)])=H2 at s2 e2 ⊢;have mG:=s2 _ _ ed;have hN:i+j<N:=by lia
   have ei:(i:Int)+(j:Int)=((i+j:Nat):Int):=by lia
   refine (ap T2 _ rfl (.of e2) (lf rfl _ (al _ rfl _ _ rfl rfl ?_)));refine (ac _ rfl (dL _ rfl _ rfl _ _ rfl rfl (f8 c _ _ (.int (a_ i us.length (λi=>ts.getD i 0) (λj=>us.getD j 0) (i+j)+di j (ts.getD i 0) (λj=>us.getD j 0) i (i+j))) rfl rfl ⋯ (.of mG) (by rw [ei];exact iw (by simp [hN])) (io _ rfl _ rfl _ _ rfl rfl ⟨mt _ (by rw [getD_at hi];exact gZ hi),mu _ (by rw [getD_at hj];exact gZ hj)⟩ (ap _ _ rfl rfl (ii c _ _ (i+j) rfl rfl mG ?_ ?_))))))
   ·rw [ei]
    unfold fY;rw [aq ⋯,aq (by simp;lia),dI]
   refine (lf (iT (sd.trans s2) Ow) _ (ac _ rfl ?_));rw [az,U7 hN]
   congr 4
   exact funext λk=>by unfold di;rw [iA];dsimp only;lia
  ·intro σ Hd;intros bn7 _ sd v5 v6 rfl ed
   refine ⟨sd,_,_,_,_,rfl,?_⟩;rw [ed,aW]
   congr 4
   exact funext λk=>by unfold a_;rw [iA]
 ·intro σ Hc;intros bn16 _ sc v3 v4 v5 v6 rfl ec
  rw [aW] at ec;refine (ac _ rfl (k c Hc sc Ow ?_));unfold iU;rw [ec,eN]
theorem XE:bH ["world","one","other","lead","left","by","much","place","head","less"] ["world","one","other"] (aN CJ):=b6
theorem Ox(T:Txt K mg t):a8 P w K mg base ck 5 t.rP t.vV ["world","one","other"] (VU t.bL):=by
 have S:=XE;have pV:=Ic (P:=P) (w:=w) (base:=base) T;refine T.tO.cS S (λ_ _ _ _ H _ _ _ hr h=>?_);intros bn6 h z a b bn31 q ts us TT U rfl hz hq ea eb bn1 XB XC bn30 u1 hT hU Mp zk pW Oy lz tz k
 refine (ac _ (ak (lV 3 S.nd (aB cz (pv 2) (je jf ah)))
  (ak (putL 4 S.nd (pv 1))
  (ak (putL 5 S.nd (cV ag))
  (ak (putL 6 S.nd ah)
  (ak (jA fi rfl (Vg rfl T.gW (aa (aA eZ (aS bR rfl T.bO bQ (aa (pv 1) ag)) (aS bR rfl T.bO bQ (aa (pv 2) ag))) (aa (je jf ah) (aa (je jf ah) ag)))) (fF (i:=7) S.nd rfl (Or.inl rfl))
   (ak (lV 8 S.nd (aB cz (pv 4) (je jf ah)))
  (ak (putL 9 S.nd (aA nJ (aA yR (cV (aa ah ag)) (pv 7)) (lT (N:=["number","head"]) (ρ:=(λσ=>[σ[8]?.join])) (iy [8] rfl) rfl (nj (vf vh (pv 2) vc (vd (je jf ah)))) (λ_ _ _=>.nil) (λ_ _ _=>(aA gO (pv 1) (pv 0))))))
  (ak (putL 4 S.nd (gM (pv 0) T.dY T.oq pV (hr.mono ∅) T.ug .nil ax (aa (LH (N:=["a","b","lead"]) (ρ:=(λσ=>[σ[3]?.join])) (F0 [3] rfl) rfl (FY rfl T.DM (aa (pv 4) (aa (pv 9) ag))) (λ_ _ _=>.nil) (λ_ _ _=>(aA eZ (aA gO (pv 2) (pv 0)) (pv 1)))) (aa ah ag))))
  (ak (putL 5 S.nd (gM (pv 0) T.dY T.oq pV (hr.mono ∅) T.ug .nil ax (aa (aA nJ (cV (aa (pv 8) ag)) (lT (N:=["number","lead"]) (ρ:=(λσ=>[σ[3]?.join])) (iy [3] rfl) rfl (nj (pv 5)) (λ_ _ _=>.nil) (λ_ _ _=>(aA gO (pv 1) (pv 0))))) (aa ah ag))))
  (aw (putL 6 S.nd (aB cz (gM (pv 0) T.dY T.oq pV (hr.mono ∅) T.ug .nil ax (aa (cV (aa (aA gO (pv 6) (pv 3)) ag)) (aa ah ag))) ah))))))))
  (aw (aM (iP (aa (pv 5) (aa (pv 4) (aa (pv 6) ag))))))))))) ?_)
 obtain ⟨dz,hd⟩:=id hz;generalize nU:us.getD (us.length-1) 0=lead at lz;generalize hn:ts.length+1-us.length=n at pW k;have pU:∀i,i<=n->TT*(2*U) ^ i<=10 ^ 580:=λi hi=>af (dJ TT (dD ⋯ hi)) pW
 have zo:lead.natAbs<=10 ^ 580:=by rw [<-nU];exact af (pF hU _) Oy
 have Ih:aQ lead:=f_ (af zo (by decide +kernel))
 refine (ac _ rfl (gt _ rfl b (us.map V.int) _ _ rfl rfl (.of eb) (B7 u1) ?_));rw [nU];refine (ad _ rfl (by show 0<=sizeLine;decide) (λl0 Af=>?_))
 have s0:ai H (upd H l0 (.lst [])):=aJ Af;have xW:upd H l0 (.lst []) l0=some (.lst (([]:List Int).map V.int)):=az;generalize upd H l0 (.lst [])=H0 at s0 xW ⊢;dsimp only [bo];refine (be _ rfl a (ts.map V.int) rfl (.inl (.of (s0 _ _ ea))) _ rfl (wn b (us.map V.int) rfl (.inl (.of (s0 _ _ eb))) _ _ rfl rfl (dL _ rfl _ rfl _ _ rfl ⟨by simp;lia,by simp;lia,∅,∅⟩ ?_)))
 have en:((((ts.map V.int).length:Int)-((us.map V.int).length:Int)) - -1).toNat=n:=by rw [aW,aW];lia
 rw [en]
 refine Vh (λi σ Hc=>ai H Hc/\∃(l1 l2:Addr) (bs ls:List Int) (aE:Int) (v7 v8 v9:Option V),σ=[some (.ref z),some (.ref a),some (.ref b),some (.int lead),some (.ref l2),some (.ref l1),some (.int aE),v7,v8,v9]/\Hc l1=some (.lst (bs.map V.int))/\Hc l2=some (.lst (ls.map V.int))/\md q ts us TT U n i bs ls aE/\(q=0->aE=lead ^ i))
  (And.intro s0 (ww l0 a [] ts (ii 1 none none none rfl xW (s0 _ _ ea) (md.start hq hT hn.symm) (λ_=>(yF _).symm)))) ?_ ?_
 ·intro i σ Hc hi;intros bn14 _ sc l1 l2 bs ls bn26 aE v7 v8 v9 rfl e1 e2 I em
  have ll:=I.ll;have lb:=I.lb;have xX:1<=ls.length:=by lia
  have bX:=pU i ⋯
  have Ag:∀x∈ls,x.natAbs<=10 ^ 580:=λx hx=>af (I.bl x hx) bX;have Ii:∀x∈bs,x.natAbs<=10 ^ 580:=λx hx=>af (af (fS _ ⋯) (I.bb x hx)) bX
  have Ij:aE.natAbs<=10 ^ 580:=af I.bm (af (gK _ zk) bX);have XF:∀x∈us,x.natAbs<=10 ^ 580:=λx hx=>af (hU x hx) Oy;have xY:∀{x:Int},x.natAbs<=10 ^ 580->aQ x:=λh=>f_ (af h (by decide +kernel))
  have hm:∀x∈f9 (n-1-i) (ls.getD (ls.length-1) 0) us,x.natAbs<=TT*(2*U) ^ i*U:=λx hx=>by
   unfold f9 at hx;rcases i7.mp hx with z | z;·rw [(yE.mp z).2];exact cn _
   ·obtain ⟨u,lZ,e⟩:=fQ.mp z
    rw [<-e,aZ];exact bN (pF I.bl _) (hU u (List.dropLast_subset _ lZ))
  have Ik:lead.natAbs<=U:=by rw [<-nU];exact pF hU _
  have XG:TT*(2*U) ^ i*U+TT*(2*U) ^ i*U<=10 ^ 580:=by
   have:=pU (i+1) ⋯
   rw [fR,<-lC] at this;have e:TT*(2*U) ^ i*(2*U)=TT*(2*U) ^ i*U+TT*(2*U) ^ i*U:=by grind
   rw [<-e];exact this
  have gY:∀x∈bs,(lead*x).natAbs<=10 ^ 580:=λx hx=>by rw [aZ,kr];exact af (af (dJ _ (af Ik (show U<=2*U by lia))) (I.bb x hx)) (pU i ⋯)
  have XH:(aE*lead).natAbs<=10 ^ 580:=by rw [aZ];exact af (bN (af I.bm (gK _ zk)) Ik) ⋯
  have I':=I.step hq hn.symm hi u1 hU Mp zk (by rw [nU];exact lz) (tz ⋯)
  rw [nU] at I';have ep:(((ts.map V.int).length:Int)-((us.map V.int).length:Int))-(i:Int)=((n-1-i:Nat):Int):=by rw [aW,aW];lia
  rw [ep];refine (ac _ rfl (gt _ rfl l2 (ls.map V.int) _ _ rfl rfl (.of e2) (B7 xX) ?_));generalize vE:ls.getD (ls.length-1) 0=head at I';have zm:head.natAbs<=10 ^ 580:=by rw [<-vE];exact pF Ag _
  generalize jg:n-1-i=place at I';dsimp only [bo];simp only [dm,dn];refine ⟨by show 1<=sizeLine;decide,λla xZ=>?_⟩
  have sa:ai Hc (upd Hc la (.lst [.int 0])):=aJ xZ;refine (wE _ rfl la (u8 (place:Int) [.int 0] rfl rfl az ⋯ ⋯ ?_ (λlr XI=>?_)))
  ·rw [dI]
   exact af (show [V.int 0].length*place<=200 by simp;lia) ∅
  rw [Gr];have sr:ai Hc (upd (upd Hc la (.lst [.int 0])) lr (.lst ((List.replicate place (0:Int)).map V.int))):=sa.trans (aJ XI);have Oz:upd (upd Hc la (.lst [.int 0])) lr (.lst ((List.replicate place (0:Int)).map V.int)) lr=some (.lst ((List.replicate place (0:Int)).map V.int)):=az;generalize upd (upd Hc la (.lst [.int 0])) lr (.lst ((List.replicate place (0:Int)).map V.int))=Hd at sr Oz ⊢;refine zt (ts:=us.dropLast) (λu=>head*u) (by rw [List.length_dropLast];lia) (λR h=>(ac _ rfl (dL _ rfl _ rfl b _ rfl (.of (sr _ _ (sc _ _ eb))) (λr nr=>?_)))) ?_ ?_
  ·rw [Vo,List.map_dropLast] at *
   exact (ad r rfl ⟨_,.of az⟩ (h _ _ (aJ nr) (pB (.of az))))
  ·intro u hu Hx R sx kx
   exact (io _ rfl _ rfl _ _ rfl rfl ⟨xY zm,xY (XF u (List.dropLast_subset _ hu))⟩ (kx Hx (ai.refl _)))
  intro D He nD se eD;refine (f8 lr D _ _ rfl rfl (se _ _ Oz) eD ?_ (λAh XJ=>?_))
  ·rw [aW,aW,aW,i9,List.length_dropLast]
   exact af (show _<=300 by lia) ∅
  have eL:(List.replicate place (0:Int)).map V.int++(us.dropLast.map λu=>head*u).map V.int=(f9 place head us).map V.int:=by unfold f9;rw [uK]
  rw [eL];have s1:ai Hc (upd He Ah (.lst ((f9 place head us).map V.int))):=sr.trans (se.trans (aJ XJ));have Il:upd He Ah (.lst ((f9 place head us).map V.int)) Ah=some (.lst ((f9 place head us).map V.int)):=az;dsimp only [bo];generalize upd He Ah (.lst ((f9 place head us).map V.int))=Hf at s1 Il ⊢;simp only [dm,dn];rw [vE,jg] at hm;have o9:=s1 _ _ (sc _ _ hd);refine kg (d8 (ce _ rfl z dz _ rfl o9 (gP (by decide +kernel)) (Mr (xs:=ls) (ys:=f9 place head us) (λx y=>lead*x-y) ⋯ (λR h=>(io _ rfl _ rfl l2 Ah rfl ⟨_,.of (s1 _ _ e2)⟩ ⟨_,.of Il⟩ (h _ _ (ai.refl _) (F8 (.of (s1 _ _ e2)) (.of Il))))) ?_ ?_)))
  ·intro x y mH Hx R sx kx
   exact (io _ rfl _ rfl _ _ rfl rfl ⟨Ih,xY (Ag x (uC mH).1)⟩ (al _ rfl _ _ rfl rfl (kx Hx (ai.refl _))))
  intro D2 Hg sg XM;dsimp only [eJ,tC,iu,qh];refine GB ⟨dz,sg _ _ o9⟩ hq XM ?_ ?_ λc2 Hh sh x6 XN=>?_;·rw [aW,A7];lia
  ·intro x hx
   obtain ⟨ab,Gp,rfl⟩:=fQ.mp hx;have m:=uC Gp;have b1:(lead*ab.1).natAbs<=TT*(2*U) ^ i*U:=by rw [aZ,kr];exact bN (I.bl _ m.1) Ik
   have b2:=hm _ m.2;exact f_ (af (af (Int.natAbs_sub_le ..) (af (oV b1 b2) XG)) (by decide +kernel))
  have s2:=s1.trans (sg.trans sh);have OA:=s2 _ _ (sc _ _ hd);dsimp only [bo];simp only [dm,dn];refine kg (d8 (ce _ rfl z dz _ rfl OA (gP (by decide +kernel)) (ad _ rfl (by show 1<=sizeLine;decide) (λlh OB=>?_))))
  have s3:ai Hc (upd Hh lh (.lst [.int head])):=s2.trans (aJ OB);have OC:ai Hh (upd Hh lh (.lst [.int head])):=aJ OB;have OD:upd Hh lh (.lst [.int head]) lh=some (.lst (([head]:List Int).map V.int)):=az;generalize upd Hh lh (.lst [.int head])=Hi at s3 OD OC ⊢;refine zt (ts:=bs) (λx=>lead*x) ⋯ (λR h=>(ac _ rfl (ad l1 rfl ⟨_,.of (s3 _ _ e1)⟩ (h _ _ (ai.refl _) (pB (.of (s3 _ _ e1))))))) ?_ ?_
  ·intro x hx Hx R sx kx
   exact (io _ rfl _ rfl _ _ rfl rfl ⟨Ih,xY (Ii x hx)⟩ (kx Hx (ai.refl _)))
  intro D3 Hj nD3 sj XO;refine (f8 lh D3 _ _ rfl rfl (sj _ _ OD) XO ?_ (λlc XQ=>?_))
  ·rw [aW,aW,aW]
   exact af (show _<=300 by simp;lia) ∅
  rw [<-uK];have sl:ai Hj (upd Hj lc (.lst ((([head]:List Int)++bs.map λx=>lead*x).map V.int))):=aJ XQ;have OE:upd Hj lc (.lst ((([head]:List Int)++bs.map λx=>lead*x).map V.int)) lc=some (.lst ((([head]:List Int)++bs.map λx=>lead*x).map V.int)):=az;generalize upd Hj lc (.lst ((([head]:List Int)++bs.map λx=>lead*x).map V.int))=Hk at sl OE ⊢;have sk:=OC.trans (sj.trans sl);dsimp only [eJ,tC,iu,qh];refine GB ⟨dz,sk _ _ OA⟩ hq OE (by simp;lia) ?_ λc3 Hl EV OF Im=>?_
  ·intro x hx
   rcases i7.mp hx with z | z;·rw [jZ.mp z];exact xY zm
   ·obtain ⟨u,lZ,e⟩:=fQ.mp z
    rw [<-e];exact f_ (af (gY u lZ) (by decide +kernel))
  have OG:=sk.trans EV;have s4:=s2.trans OG;have OH:=s4 _ _ (sc _ _ hd);dsimp only [bo];simp only [dm,dn];refine (ce _ rfl z dz _ rfl OH (gP (by decide +kernel)) (ul _ rfl _ rfl (jp _ _ rfl rfl ⟨xY Ij,Ih⟩ (by show 1<=sizeLine;decide) (λlm Io=>?_))))
  have sm:ai Hl (upd Hl lm (.lst [.int (aE*lead)])):=aJ Io;dsimp only [eJ,tC,iu,qh];refine GB (ts:=[aE*lead]) ⟨dz,sm _ _ OH⟩ hq az (by simp) (λx hx=>?_) λc4 Hm XR Ai XS=>?_
  ·rw [jZ.mp hx]
   exact f_ (af XH (by decide +kernel))
  refine (ii c4 _ _ _ rfl rfl (.of XS) rfl ?_);have s5:=sm.trans XR;exact (And.intro (sc.trans (s4.trans s5)) (ww c3 c2 _ _ (ii _ _ _ _ rfl (s5 _ _ Im) ((OG.trans s5) _ _ XN) I' (λz=>by subst z;show (aE*lead) % 0=_;rw [Int.emod_zero,em rfl,yG]))))
 ·intro σ Hc;intros bn14 _ sc l1 l2 bs ls bn26 aE v7 v8 v9 rfl e1 e2 I em
  refine (ul _ rfl _ rfl (ad _ rfl (by show 3<=sizeLine;decide) (λp np=>?_)))
  have sp:ai Hc (upd Hc p (.tup [.ref l1,.ref l2,.int aE])):=aJ np;exact k p l1 l2 bs ls aE _ (sc.trans sp) az (sp _ _ e1) (sp _ _ e2) I (by rw [nU];exact em)
theorem XT:bH ["row","many"] ["row"] (aN CD):=b6
theorem OI(T:Txt K mg t):a8 P w K mg base ck 1 t.rK t.vS ["row"] VR:=by
 have S:=XT;refine T.tL.cS S (λ_ _ _ _ H _ _ _ hr h=>?_);intros bn10 h a ts rfl ea DP k;have hu:=hr.qD
 refine (ac _ (ak (putL 1 S.nd (aS bR rfl T.bO bQ (aa (pv 0) ag)))
  (ak (ni fi (PW.pt (pw_and (aX ka (pv 1) ah) (pw_and1 (aX eI (aB cz (pv 0) (aA eZ (pv 1) ah)) ah)))) (aw (Bj (i:=1) S.nd rfl (Or.inl rfl) ah Kg)))
  (aw (aM (vf vh (pv 0) vc (vd (pv 1))))))) ?_)
 have lm:(ts.map V.int).length=ts.length:=aW _;refine (al _ rfl a _ rfl (.inl (.of ea)) ?_);rw [lm];refine (ac (λc σ Hc=>ai H Hc/\c<=ts.length/\(∀j,c<=j->ae ts j=0)/\σ=[some (.ref a),some (.int (c:Int))]) (gl ts.length (ai.refl H) (aL _) (λj hj=>cU hj) rfl) ?_);rintro c σ Hc ⟨sc,hc,hz,rfl⟩;refine (be _ rfl _ _ rfl rfl _ rfl (cD (λh0=>?_) (λh0=>?_)))
 ·have h0:(0:Int)<(c:Int):=dM h0
  obtain ⟨d,rfl⟩:∃d,c=d+1:=⟨c-1,⋯⟩
  have hd:d<ts.length:=by lia
  refine (dL _ rfl _ rfl _ _ rfl rfl (ii a (ts.map V.int) _ (.int ts[d]) rfl rfl (.of (sc _ _ ea)) (by show dF (ts.map V.int) (((d+1:Nat):Int)-1)=_;rw [show ((d+1:Nat):Int)-1=(d:Int) by lia];exact iw (by rw [gf,ET hd];rfl)) ?_))
  have OJ:ae ts d=ts[d]:=getD_at hd;refine (im rfl _ rfl (cD (λhb=>?_) (λhb=>?_)))
  ·have z:ts[d]=0:=by rw [lW] at hb;exact dM hb
   refine (ac (λσ' H2=>ai H H2/\σ'=[some (.ref a),some (.int (d:Int))]) ?_ ?_)
   ·rintro σ' H2 ⟨s2,rfl⟩
    refine ⟨d,⋯,s2,⋯,λj hj=>?_,rfl⟩
    by_cases e:j=d;·rw [e,OJ];exact z
    ·exact hz j ⋯
   ·exact (j' _ rfl _ _ rfl rfl sc (by show List.set _ 1 (some (V.int (((d+1:Nat):Int)-1)))=_;rw [show ((d+1:Nat):Int)-1=(d:Int) by lia];rfl))
  ·refine (ac _ rfl (dL _ rfl _ rfl a _ rfl (.of (sc _ _ ea)) (λr nr=>?_)))
   rw [vB _ (d+1) (by rw [lm];lia),<-List.map_take]
   refine k r _ (d+1) (sc.trans (aJ nr)) (none_of sc nr) hc hz (λ_ e=>hb ?_) az;rw [lW];rw [show d+1-1=d by lia,OJ] at e
   exact dZ e
 ·have h0:¬(0:Int)<(c:Int):=λz=>h0 (dZ z)
  have c0:c=0:=by lia
  subst c0;refine (ac _ rfl (dL _ rfl _ rfl a _ rfl (.of (sc _ _ ea)) (λr nr=>?_)));rw [vB _ 0 ⋯,<-List.map_take]
  exact k r _ 0 (sc.trans (aJ nr)) (none_of sc nr) hc hz (λz=>absurd z ⋯) az
theorem XU:bH ["number","times","told","turn"] ["number","times"] (aN CK):=b6
theorem Ip(T:Txt K mg t):a8 P w K mg base ck 1 t.rQ t.vW ["number","times"] VS:=by
 have S:=XU;refine T.pO.cS S (λ_ _ _ _ H _ _ _ hr h=>?_);intros bn10 h x n rfl n0 n1 bn1 bd bx k
 refine (ac _ (ak (putL 2 S.nd ah)
  (ak (jA fi rfl (iq rfl T.gW (aa (pv 1) ag)) (fF (i:=3) S.nd rfl (Or.inl rfl))
   (aw (Bj (i:=2) S.nd rfl (Or.inl rfl) (pv 0) VO)))
  (aw (aM (pv 2))))) ?_)
 refine gS λ_ hR=>d8 (hR _ _ ?_);refine gS λ_ hR=>(ac _ rfl (gl n rfl ⋯ ⋯ ?_))
 refine nC (λi σ Hc=>∃(v3:Option V),σ=[some (.int x),some (.int n),some (.int (x ^ i)),v3]/\Hc=H) (ac _ (by rw [yF];rfl) rfl) ?_ ?_
 ·intro i σ Hc hi;intros bn0 _ v3 rfl rfl
  refine (io _ rfl _ rfl _ _ rfl rfl ⟨f_ (bd i ⋯),f_ bx⟩ (ac (some (.int (0+(i:Int)))) ?_ rfl))
  rw [yG];rfl
 ·rintro σ Hc ⟨v3,rfl,rfl⟩
  exact hR _ _ (ac _ rfl k)
theorem XW:bH ["one","other","many"] ["one","other"] (aN CH):=b6
theorem XX(T:Txt K mg t):a8 P w K mg base ck 1 t.rO t.vU ["one","other"] VT:=by
 have S:=XW;refine T.xp.cS S (λ_ _ _ _ H _ _ _ hr h=>?_);intros bnE h a bn25 b ts us rfl ea eb l1 l2 k
 refine (ac _ (ak (putL 2 S.nd (aS (Ks rfl) rfl T.HY boot_max (aa (aS bR rfl T.bO bQ (aa (pv 0) ag)) (aa (aS bR rfl T.bO bQ (aa (pv 1) ag)) ag))))
  (aw (aM (LH (N:=["a","b"]) (ρ:=(λσ=>[])) (F0 [] rfl) rfl (FY rfl T.DM (aa (aA nJ (pv 0) (aA yR (cV (aa ah ag)) (aA eZ (pv 2) (aS bR rfl T.bO bQ (aa (pv 0) ag))))) (aa (aA nJ (pv 1) (aA yR (cV (aa ah ag)) (aA eZ (pv 2) (aS bR rfl T.bO bQ (aa (pv 1) ag))))) ag))) (λ_ _ _=>.nil) (λ_ _ _=>(aA eZ (pv 0) (pv 1))))))) ?_)
 refine gS λ_ hR=>d8 (al _ rfl a _ rfl (.inl (.of ea)) (al _ rfl b _ rfl (.inl (.of eb)) (Exists.intro _ (ac _ rfl (hR _ _ ?_)))));rw [aW,aW];obtain ⟨N,eN⟩:∃N:Nat,N=max ts.length us.length:=⟨_,rfl⟩;rw [show (if ((us.length:Nat):Int)>((ts.length:Nat):Int) then ((us.length:Nat):Int) else ((ts.length:Nat):Int))=(N:Int) by rw [eN];split <;> lia]
 refine za (Mr (xs:=ts++List.replicate (N-ts.length) 0) (ys:=us++List.replicate (N-us.length) 0) (λx y=>x-y) (by rw [kq,i9];lia) (λR h=>?_) ?_ λD He se eD=>?_)
 ·refine (ac _ rfl ?_)
  refine ⟨by show 1<=sizeLine;decide,λla xZ=>?_⟩
  have sa:ai H (upd H la (.lst [.int 0])):=aJ xZ;refine (ul _ rfl _ rfl (wn a _ rfl (.inl (.of (sa _ _ (ea)))) _ _ rfl rfl ?_));rw [show (λi j:Int=>V.int (i-j)) (N:Int) ((ts.map V.int).length:Int)=V.int ((N-ts.length:Nat):Int) by
   show V.int _=V.int _;rw [aW]
   congr 1
   lia]
  refine (Exists.intro la (u8 ((N-ts.length:Nat):Int) [.int 0] rfl rfl az ⋯ ⋯ ?_ (λra XY=>?_)))
  ·rw [dI]
   exact af (show [V.int 0].length*_<=200 by simp;lia) ∅
  rw [Gr];have ta:ai H (upd (upd H la (.lst [.int 0])) ra (.lst ((List.replicate (N-ts.length) (0:Int)).map V.int))):=sa.trans (aJ XY);have era:upd (upd H la (.lst [.int 0])) ra (.lst ((List.replicate (N-ts.length) (0:Int)).map V.int)) ra=some (.lst ((List.replicate (N-ts.length) (0:Int)).map V.int)):=az;generalize upd (upd H la (.lst [.int 0])) ra (.lst ((List.replicate (N-ts.length) (0:Int)).map V.int))=H1 at ta era ⊢;refine (f8 a ra _ _ rfl rfl (ta _ _ (ea)) era ?_ (λca Iq=>?_))
  ·rw [aW,aW,i9]
   exact af (show _<=500 by lia) ∅
  rw [<-uK];have ua:ai H (upd H1 ca (.lst ((ts++List.replicate (N-ts.length) 0).map V.int))):=ta.trans (aJ Iq);have Ir:upd H1 ca (.lst ((ts++List.replicate (N-ts.length) 0).map V.int)) ca=some (.lst ((ts++List.replicate (N-ts.length) 0).map V.int)):=az;generalize upd H1 ca (.lst ((ts++List.replicate (N-ts.length) 0).map V.int))=ui at ua Ir ⊢;refine (ac _ rfl ?_);refine ⟨by show 1<=sizeLine;decide,λlb XZ=>?_⟩
  have sb:ai ui (upd ui lb (.lst [.int 0])):=aJ XZ;refine (ul _ rfl _ rfl (wn b _ rfl (.inl (.of (sb _ _ (ua _ _ eb)))) _ _ rfl rfl ?_));rw [show (λi j:Int=>V.int (i-j)) (N:Int) ((us.map V.int).length:Int)=V.int ((N-us.length:Nat):Int) by
   show V.int _=V.int _;rw [aW]
   congr 1
   lia]
  refine (Exists.intro lb (u8 ((N-us.length:Nat):Int) [.int 0] rfl rfl az ⋯ ⋯ ?_ (λrb X0=>?_)))
  ·rw [dI]
   exact af (show [V.int 0].length*_<=200 by simp;lia) ∅
  rw [Gr];have tb:ai ui (upd (upd ui lb (.lst [.int 0])) rb (.lst ((List.replicate (N-us.length) (0:Int)).map V.int))):=sb.trans (aJ X0);have OK:upd (upd ui lb (.lst [.int 0])) rb (.lst ((List.replicate (N-us.length) (0:Int)).map V.int)) rb=some (.lst ((List.replicate (N-us.length) (0:Int)).map V.int)):=az;generalize upd (upd ui lb (.lst [.int 0])) rb (.lst ((List.replicate (N-us.length) (0:Int)).map V.int))=H2 at tb OK ⊢;refine (f8 b rb _ _ rfl rfl (tb _ _ (ua _ _ eb)) OK ?_ (λcb Iu=>?_))
  ·rw [aW,aW,i9]
   exact af (show _<=500 by lia) ∅
  rw [<-uK];have ub:ai ui (upd H2 cb (.lst ((us++List.replicate (N-us.length) 0).map V.int))):=tb.trans (aJ Iu);have Iv:upd H2 cb (.lst ((us++List.replicate (N-us.length) 0).map V.int)) cb=some (.lst ((us++List.replicate (N-us.length) 0).map V.int)):=az;generalize upd H2 cb (.lst ((us++List.replicate (N-us.length) 0).map V.int))=H2' at ub Iv ⊢;exact (i' ca cb rfl ⟨_,.of (ub _ _ Ir)⟩ ⟨_,.of Iv⟩ (h _ _ (ua.trans ub) (F8 (.of (ub _ _ Ir)) (.of Iv))))
 ·intro x y mH Hx R sx kx
  exact (dL _ rfl _ rfl _ _ rfl rfl (kx Hx (ai.refl _)))
 ·have pad:∀(xs:List Int) (m t:Nat),ae (xs++List.replicate m 0) t=ae xs t:=λxs m t=>by
   unfold ae;rw [fP,fP];by_cases h:t<xs.length;·rw [ju h]
   ·rw [i8 ⋯,ku (l:=xs) ⋯,mS]
    split <;> rfl
  refine k D He _ se eD ?_ λt=>?_
  ·simp
   lia
  ·have e:ae (((ts++List.replicate (N-ts.length) 0).zip (us++List.replicate (N-us.length) 0)).map λab:Int×Int=>ab.1-ab.2) t=ae (ts++List.replicate (N-ts.length) 0) t-ae (us++List.replicate (N-us.length) 0) t:=by
    have lz:((ts++List.replicate (N-ts.length) 0).zip (us++List.replicate (N-us.length) 0)).length=N:=by simp;lia
    have la:(ts++List.replicate (N-ts.length) 0).length=N:=by simp;lia
    have lb:(us++List.replicate (N-us.length) 0).length=N:=by simp;lia
    unfold ae;by_cases h:t<N;·rw [getD_at (by simpa [lz] using h),getD_at ⋯,getD_at ⋯,j7,List.getElem_zip]
    ·rw [cF (by simp;lia),cF ⋯,cF ⋯]
     rfl
   rw [e,pad,pad]
theorem X3:bH ["world","last","now","by","much","least","left"] ["world","last","now","by","much","least"] (aN CL):=b6
theorem X4(T:Txt K mg t):a8 P w K mg base ck 5 t.rR t.vX ["world","last","now","by","much","least"] (MN t.bL):=by
 have S:=X3;have pV:=Ic (P:=P) (w:=w) (base:=base) T;refine T.xq.cS S (λ_ _ _ _ H _ _ _ hr h=>?_);intros bn17 h z a b c q xs bn31 ys bs aE least u rfl hz hq ea eb bn20 ec l1 l2 l3 bx X5 bn20 bb bc bm bl nl e k
 refine (ac _ (ak (putL 6 S.nd (ay (XX T) hr T.Nr T.xp.kp T.Nq ax (aa (lT (N:=["number","much"]) (ρ:=(λσ=>[σ[4]?.join])) (iy [4] rfl) rfl (nj (pv 1)) (λ_ _ _=>.nil) (λ_ _ _=>(aA gO (pv 1) (pv 0)))) (aa (ay (Ou T) hr T.Hv T.tM.kp T.Hu ax (aa (pv 3) (aa (pv 2) ag))) ag))))
  (aw (aM (ay (OI T) hr T.Ht T.tL.kp T.Hs ax (aa (gM (pv 0) T.dY T.oq pV (hr.mono ∅) T.ug .nil ax (aa (pv 6) (aa (pv 5) ag))) ag))))) ?_)
 have gX:∀{Hx:Hp},ai H Hx->dO t.bL Hx z q:=λsx=>hz.mono sx;refine gS λ_ hR=>d8 ?_;dsimp only [vb];refine VP (zt (ts:=xs) (λx=>aE*x) ⋯ (λR h=>(ac _ rfl (ad a rfl ⟨_,.of ea⟩ (h _ _ (ai.refl _) (pB (.of ea)))))) ?_ ?_)
 ·intro x hx Hx R sx kx
  exact (io _ rfl _ rfl _ _ rfl rfl ⟨f_ bm,f_ (bx x hx).1⟩ (kx Hx (ai.refl _)))
 intro D H1 nD s1 eD;have X6:=s1 _ _ eb;have Ig:=s1 _ _ ec;refine (ul _ rfl _ rfl (ol c b bs ys rfl Ig X6 (λt h=>f_ (bb t h)) (λt h=>f_ (X5 t h)) ⋯ ⟨⋯,λd H2 s2 nd ed=>?_⟩))
 refine (f8 D d _ _ rfl (s2 _ _ eD) ed (by rw [aW];lia) (by unfold iU;rw [aW,iM];lia) (λe' H3 ls s3 ee le ve=>hR _ _ ?_))
 have fq:=s1.trans (s2.trans s3);have vl:∀t,ae ls t=aE*ae xs t-cv (ae bs) (ae ys) t:=λt=>by
  rw [ve,VG]
  congr 1
  exact zj (by simp) t
 obtain ⟨dz,hd⟩:=gX fq;have cl:(iU bs ys).length<=bs.length+ys.length-1:=by unfold iU;rw [aW,iM];lia
 have ll:ls.length<=max xs.length (bs.length+ys.length-1):=by rw [le,aW];lia
 have X7:∀x∈ls,aQ x:=λx hx=>by
  obtain ⟨t,ht,rfl⟩:=ig hx;have e1:=vl t;rw [show ae ls t=ls[t] from getD_at ht] at e1;rw [e1];have b1:(aE*ae xs t).natAbs<=10 ^ 599:=by
   by_cases h:t<xs.length
   ·rw [show ae xs t=xs[t] from getD_at h]
    exact (bx _ (gZ h)).2
   ·rw [cU ⋯,cO]
    exact cn _
  exact f_ (af (Int.natAbs_sub_le ..) (af (oV b1 (bc t)) (by decide +kernel)))
 refine (ce _ rfl z dz _ rfl hd (gP (by decide +kernel)) (ac _ rfl (wT _ rfl z e' q ls least (wv u rfl (gX fq) hq ee ⋯ X7 (f_ bl) nl (λt _=>by rw [show ls.getD t 0=ae ls t from rfl,vl];exact e t) (λg H4 rs s4 ng eg lr X9 nn=>?_)))))
 refine (i' g rs rfl eg ⋯ (λr H5 k5 s5 nr hk Iw hn er=>?_))
 obtain ⟨X_,Ya,ek⟩:=MM (q:=q) nn hk hn Iw;refine k r H5 (rs.take k5) (fq.trans (s4.trans s5)) (none_of (fq.trans s4) nr) er (by rw [oO];lia) (λt=>?_) X_ Ya
 rw [ek];by_cases h:t<ls.length;·exact X9 t h
 ·rw [cU ⋯]
  have z1:=e t;rw [<-vl t,cU ⋯] at z1
  refine (zE hq nl ?_).symm;rw [cO];exact z1.symm
theorem Yb:bH ["cell","at","x"] ["cell","at"] (aN C_):=b6
theorem Yc(T:Txt K mg t):a8 P w K mg base ck 1 t.sM t.wQ ["cell","at"] UQ:=by
 have S:=Yb;refine T.xF.cS S (λ_ _ _ _ H _ _ _ hr h=>?_);intros bn9 h c a rfl ha k
 refine (ac _ (ak (bI (aX Bp (pv 0) (aA Fe ah ah)) (aw (aM (pv 0))) bV)
  (ak (putL 2 S.nd (aA fX (aA eF (aA eF (aA hJ (aA fX (pv 0) ah) ah) (aA hJ (pv 1) ah)) ah) ah))
  (ak (putL 2 S.nd (aA fX (aA eF (aA eF (aA eF (aA hJ (pv 2) (pv 2)) (aA hJ ah (pv 2))) (pv 1)) ah) ah))
  (aw (aM (aA eF (aA hJ (pv 2) ah) (aA fX (aA eF (aA eF (aA hJ (pv 2) (pv 2)) (aA hJ ah (pv 1))) ah) ah))))))) ?_)
 refine (j' _ rfl _ _ rfl rfl ⟨∅,∅,∅⟩ (on _ _ rfl rfl _ rfl (cD (λh=>?_) (λh=>?_))))
 ·have h:=dM h
  exact (ac _ rfl (k _ (Int.le_trans ∅ h)))
 ·refine (j' _ rfl _ _ rfl rfl (by show (0:Int)<2147483647;decide) (i' _ _ rfl rfl (.inr ⟨∅,∅⟩) (j' _ rfl _ _ rfl rfl (.inr ⟨∅,∅⟩) (wn _ _ rfl rfl _ _ rfl rfl (i' _ _ rfl rfl (by show (0:Int)<2147483399;decide) ?_)))))
  have b0:=d0 (c % 2147483647*40692+a*65539+7) (show (2147483399:Int)≠0 by decide)
  have b1:=ej (c % 2147483647*40692+a*65539+7) (show (0:Int)<2147483399 by decide)
  generalize (c % 2147483647*40692+a*65539+7) % 2147483399=x at b0 b1 ⊢;refine (io _ rfl _ rfl _ _ rfl rfl (.inl ⟨⋯,⋯⟩) (j' _ rfl _ _ rfl rfl (.inl ⟨∅,∅⟩) (on _ _ rfl rfl _ rfl (wn _ _ rfl rfl _ _ rfl rfl (i' _ _ rfl rfl (by show (0:Int)<2147483563;decide) ?_)))))
  have c0:=d0 (x*x+40014*x+a+1) (show (2147483563:Int)≠0 by decide)
  have c1:=ej (x*x+40014*x+a+1) (show (0:Int)<2147483563 by decide)
  generalize (x*x+40014*x+a+1) % 2147483563=y at c0 c1 ⊢;refine (j' _ rfl _ _ rfl rfl (.inr ⟨∅,∅⟩) (io _ rfl _ rfl _ _ rfl rfl (.inl ⟨⋯,⋯⟩) (j' _ rfl _ _ rfl rfl (.inl ⟨∅,∅⟩) (wn _ _ rfl rfl _ _ rfl rfl (i' _ _ rfl rfl (by show (0:Int)<2147483543;decide) (ap _ _ rfl rfl (k _ (Int.add_nonneg (Int.mul_nonneg (d0 _ ∅) ∅) (d0 _ ∅)))))))))
theorem Yd:bH ["pen","many","at","cell","found"] ["pen","many"] (aN Dc):=b6
theorem mI(T:Txt K mg t):a8 P w K mg base ck 2 t.sN t.wR ["pen","many"] (UR K):=by
 have S:=Yd;refine T.fc.cS S (λ_ _ _ _ H _ _ _ hr h=>?_);intros bnE h P0 bn25 a ns many rfl q'87 hS m1 mm k;intros bn9 q'87 x y eP hx hy;have iD:=hr.units
 refine (ac _ (ak (bI (aX jC (aB cz (pv 0) ah) (pv 1)) (ak (putL 2 S.nd (aB cz (pv 0) ah))
  (ak (putL 3 S.nd ah)
  (ak (bI (aX jC (pv 2) (aS bR rfl T.bO bQ (aa (aB cz (pv 0) ah) ag))) (aw (putL 3 S.nd (aB cz (aB cz (pv 0) ah) (pv 2)))) (aw (bI (aX (UO iD) (aB cz (pv 0) ah) (cV ag)) (aw (putL 3 S.nd (aA eF (aA fX (aB cz (aB cz (pv 0) ah) (aA fX (aA hJ (pv 2) ah) (aS bR rfl T.bO bQ (aa (aB cz (pv 0) ah) ag)))) ah) (aA hJ (pv 2) ah)))) bV)))
  (ak (@qu _ _ _ _ _ _ (aA eF (pv 2) ah) (qt (pv 0) ah set_list) (by rfl) (by rfl) (by rfl))
  (aw (@qu _ _ _ _ _ _ (ay (Yc T) hr T.NW T.xF.kp T.NV ax (aa (pv 3) (aa (pv 2) ag))) (qt (pv 0) ah set_list) (by rfl) (by rfl) (by rfl))))))) bV)
  (ak (putL 4 S.nd (aA fX (aB cz (pv 0) ah) (pv 1)))
  (ak (@qu _ _ _ _ _ _ (aA FK (aB cz (pv 0) ah) (pv 1)) (qt (pv 0) ah set_list) (by rfl) (by rfl) (by rfl))
  (aw (aM (pv 4)))))) ?_)
 have DS:=gQ.seq hS;refine (gt _ rfl P0 _ _ _ rfl rfl (.of eP) rfl (be _ rfl _ _ rfl rfl _ rfl (cD (λcZ=>?_) (λcZ=>?_))))
 ·refine (gt _ rfl P0 _ _ _ rfl rfl (.of eP) rfl ?_)
  refine (ac _ rfl (gt _ rfl P0 _ _ _ rfl rfl (.of eP) rfl (ap a (ns.map V.int) rfl (.inl DS) (on _ _ rfl rfl _ rfl (cD (λh1=>?_) (λh1=>?_))))))
  ·have h1:x<((ns.map V.int).length:Int):=dM h1
   obtain ⟨v,hv,mv⟩:=Ll (xs:=ns.map V.int) hx h1;obtain ⟨c,_,rfl⟩:=fQ.mp mv;refine (gt _ rfl P0 _ _ _ rfl rfl (.of eP) rfl (gt _ rfl a (ns.map V.int) _ _ rfl rfl DS hv ?_));refine (al _ rfl _ _ rfl rfl (gt _ rfl P0 _ 1 1 rfl rfl eP rfl ?_));refine (dL _ rfl _ rfl c x rfl hx (λr i5=>(gt _ rfl P0 _ 2 2 rfl rfl az rfl ?_)));have q0:=d0 (r) (show many≠0 by lia)
   have q1:=ej (r) (show 0<many by lia)
   have q2:=yH (i5) (show 0<=many by lia)
   refine (gt _ rfl P0 _ _ _ rfl rfl (.of az) rfl (j' _ rfl _ _ rfl rfl (show 0<many by lia) ?_))
   refine (gt _ rfl P0 _ _ _ rfl rfl (.of az) rfl (j' _ rfl _ _ rfl rfl ⟨show 0<many by lia,mm⟩ (gt _ rfl P0 _ 2 2 rfl rfl az rfl ?_)))
   exact (ac _ rfl (k _ _ q0 q1 (((aR.refl H).trans aR.ma).trans (aR.ma.trans aR.ma)) ⟨x+1,r / many,az,⋯,q2⟩))
  ·refine (ac _ rfl (f8 P0 _ _ _ rfl rfl (.of eP) rfl (by show 0<=sizeLine;decide) (λl nl=>?_)))
   have sl:ai H (upd H l (.lst [])):=aJ nl;refine (re a l (ns.map V.int) rfl rfl (sl.seq DS) az (λv hv=>?_) (ac _ rfl ?_))
   ·obtain ⟨c,_,rfl⟩:=fQ.mp hv
    exact ⟨c,rfl⟩
   have Aj:=sl _ _ eP;have uj:=sl.seq DS;generalize upd H l (.lst [])=H2 at sl Aj uj ⊢;refine cD (λh2=>?_) (λh2=>?_)
   ·have hl:0<(ns.map V.int).length:=by
     cases ns with
     | nil=>simp at h2
     | cons=>simp
    have Ye:=d0 (x*5) (show ((ns.map V.int).length:Int)≠0 by lia)
    have Yf:=ej (x*5) (show (0:Int)<((ns.map V.int).length:Int) by lia)
    obtain ⟨v,hv,mv⟩:=Ll (xs:=ns.map V.int) Ye Yf;obtain ⟨c,_,rfl⟩:=fQ.mp mv;refine (gt _ rfl P0 _ _ _ rfl rfl (.of Aj) rfl (j' _ rfl _ _ rfl rfl (.inr ⟨∅,∅⟩) (gt _ rfl P0 _ _ _ rfl rfl (.of Aj) rfl (ap a (ns.map V.int) rfl (.inl uj) (i' _ _ rfl rfl (show (0:Int)<((ns.map V.int).length:Int) by lia) (ii a (ns.map V.int) _ _ rfl rfl uj hv (i' _ _ rfl rfl (show (0:Int)<1000003 by decide) (j' _ rfl _ _ rfl rfl (.inr ⟨∅,∅⟩) (ap _ _ rfl rfl ?_)))))))))
    refine (al _ rfl _ _ rfl rfl (gt _ rfl P0 _ 1 1 rfl rfl Aj rfl ?_));refine (dL _ rfl _ rfl _ x rfl hx (λr i5=>(gt _ rfl P0 _ 2 2 rfl rfl az rfl ?_)));have q0:=d0 (r) (show many≠0 by lia)
    have q1:=ej (r) (show 0<many by lia)
    have q2:=yH (i5) (show 0<=many by lia)
    refine (gt _ rfl P0 _ _ _ rfl rfl (.of az) rfl (j' _ rfl _ _ rfl rfl (show 0<many by lia) ?_))
    refine (gt _ rfl P0 _ _ _ rfl rfl (.of az) rfl (j' _ rfl _ _ rfl rfl ⟨show 0<many by lia,mm⟩ (gt _ rfl P0 _ 2 2 rfl rfl az rfl ?_)))
    exact (ac _ rfl (k _ _ q0 q1 (((aR.of sl).trans aR.ma).trans (aR.ma.trans aR.ma)) ⟨x+1,r / many,az,⋯,q2⟩))
   ·
    refine (al _ rfl _ _ rfl rfl (gt _ rfl P0 _ 1 1 rfl rfl Aj rfl ?_));refine (dL _ rfl _ rfl 0 x rfl hx (λr i5=>(gt _ rfl P0 _ 2 2 rfl rfl az rfl ?_)));have q0:=d0 (r) (show many≠0 by lia)
    have q1:=ej (r) (show 0<many by lia)
    have q2:=yH (i5) (show 0<=many by lia)
    refine (gt _ rfl P0 _ _ _ rfl rfl (.of az) rfl (j' _ rfl _ _ rfl rfl (show 0<many by lia) ?_))
    refine (gt _ rfl P0 _ _ _ rfl rfl (.of az) rfl (j' _ rfl _ _ rfl rfl ⟨show 0<many by lia,mm⟩ (gt _ rfl P0 _ 2 2 rfl rfl az rfl ?_)))
    exact (ac _ rfl (k _ _ q0 q1 (((aR.of sl).trans aR.ma).trans (aR.ma.trans aR.ma)) ⟨x+1,r / many,az,⋯,q2⟩))
 ·dsimp only [d5]
  have q0:=d0 (y) (show many≠0 by lia)
  have q1:=ej (y) (show 0<many by lia)
  have q2:=yH (hy) (show 0<=many by lia)
  refine (gt _ rfl P0 _ _ _ rfl rfl (.of eP) rfl (j' _ rfl _ _ rfl rfl (show 0<many by lia) ?_))
  refine (gt _ rfl P0 _ _ _ rfl rfl (.of eP) rfl (j' _ rfl _ _ rfl rfl ⟨show 0<many by lia,mm⟩ (gt _ rfl P0 _ 2 2 rfl rfl eP rfl ?_)))
  exact (ac _ rfl (k _ _ q0 q1 (aR.ma) (ap x (y / many) az hx q2)))
theorem Yg:bH ["top","bottom","one","other"] ["top","bottom"] (aN Dd):=b6
theorem Ak(T:Txt K mg t):a8 P w K mg base ck 1 t.sO t.wU ["top","bottom"] T5:=by
 have S:=Yg;refine T.mC.cS S (λ_ _ _ _ H _ Q _ hr h=>?_);intros bn10 h a b rfl hb mb k
 refine (ac _ (ak (putL 2 S.nd (aS Br rfl T.Ad boot_abs (aa (pv 0) ag)))
  (ak (putL 3 S.nd (aS Br rfl T.Ad boot_abs (aa (pv 1) ag)))
  (ak (ni fi (aX jB (pv 3) ah) (aw (Kc (i:=2) (j:=3) rfl S.nd rfl rfl ∅ rfl rfl (aa (pv 3) (aa (aA fX (pv 2) (pv 3)) ag)) rfl)))
  (ak (bI (aX jC (pv 1) ah) (aw (putL 2 S.nd (je jf (pv 2)))) bV)
  (aw (aM (iP (aa (aA yY (pv 0) (pv 2)) (aa (aA yY (pv 1) (pv 2)) ag))))))))) ?_)
 have ok:=Ln (a:=a) hb mb;refine (ul _ rfl a rfl (li _ rfl b rfl (λm σ H'=>H'=H/\∃(x y:Nat),σ=[some (.int a),some (.int b),some (.int (x:Int)),some (.int (y:Int))]/\m=y/\Nat.gcd x y=Int.gcd a b) (al b.natAbs rfl a.natAbs b.natAbs ?_ rfl rfl) ?_))
 ·show [some (V.int a),some (V.int b),some (V.int (if a<0 then -a else a)),some (V.int (if b<0 then -b else b))]=_
  rw [BH,BH]
 ·intro m σ H';intros bn12 _ rfl x y rfl em hg
  refine (bn _ rfl rfl _ rfl (cD (λhy=>?_) (λhy=>?_)))
  ·have hy:y≠0:=λz=>by subst z;revert hy;decide
   refine (ac (λσ' H2=>H2=H'/\σ'=[some (.int a),some (.int b),some (.int (y:Int)),some (.int (((x % y:Nat)):Int))]) ?_ ?_)
   ·rintro σ' H2 ⟨rfl,rfl⟩
    exact ⟨x % y,by rw [em];exact Nat.mod_lt _ ⋯,rfl,y,x % y,rfl,rfl,by rw [Lm];exact hg⟩
   ·exact (ac _ rfl (io _ rfl _ rfl _ _ rfl rfl (show (0:Int)<y by lia) (ap _ _ rfl rfl rfl)))
  ·have y0:y=0:=by
    by_cases z:y=0;·exact z
    ·refine absurd ?_ hy
     rw [lW,iH ⋯]
     rfl
   subst y0;rw [Nat.gcd_zero_right] at hg;have OL:∀(g:Int),g=lowG a b->∀(p:Addr),H' p=none->Q (.ref p) (upd H' p (.tup [.int (a.fdiv g),.int (b.fdiv g)])):=λg e p hp=>by rw [e];exact k p _ (aJ hp) az
   refine (be _ rfl _ _ rfl rfl _ rfl (cD (λhn=>?_) (λhn=>?_)))
   ·have hn:b<0:=dM hn
    have eg:-(x:Int)=lowG a b:=by unfold lowG;rw [aq hn,hg,qj]
    have gC:BE 0 (-(x:Int)):=by rw [eg];exact ok
    exact (ul _ rfl _ rfl (io _ rfl _ rfl _ _ rfl rfl gC (ul _ rfl _ rfl (jp _ _ rfl rfl gC (by show 2<=sizeLine;decide) (OL _ eg)))))
   ·have hn:¬b<0:=λz=>hn (dZ z)
    have eg:(x:Int)=lowG a b:=by unfold lowG;rw [ao hn,hg]
    have gC:BE 0 (x:Int):=by rw [eg];exact ok
    exact (io _ rfl _ rfl _ _ rfl rfl gC (ul _ rfl _ rfl (jp _ _ rfl rfl gC (by show 2<=sizeLine;decide) (OL _ eg))))
theorem Yh:bH ["told","number"] ["told","number"] (aN De):=b6
variable {B:Nat}
theorem pX(T:Txt K mg t):a8 P w K mg base ck 1 t.sP t.wV ["told","number"] (L9 B):=by
 have S:=Yh;refine T.ia.cS S (λ_ _ _ _ H _ _ _ hr h=>?_);intros bn25 h td q i rfl ht hq bi b1 k
 refine (ac _ (ak (bI (aX eI (aB aU (pv 0) ah) fk) (aw (aM (aA fX (pv 1) (aB aU (pv 0) ah)))) bV)
  (aw (aM (iP (aa (pv 1) (aa ah ag)))))) ?_)
 unfold dP at ht;by_cases z:q=0
 ·subst z
  rw [q8] at ht;refine (gt _ rfl td _ _ _ rfl rfl (.of ht) rfl (im rfl false (by decide +kernel) (b5 ?_)))
  refine (ad _ rfl (by show 2<=sizeLine;decide) (λr nr=>k _ _ (aJ nr) ?_))
  unfold bJ;rw [aq rfl];exact .cm az ⟨show (1:Int)<=1 by decide,A4 ..⟩ bi (by show Int.natAbs 1<=B;lia)
 ·rw [pE z] at ht
  obtain ⟨q2,q3,q4⟩:=hq.resolve_left z;refine (gt _ rfl td _ _ _ rfl rfl (.of ht) rfl (im rfl true (by decide +kernel) (fm ?_)))
  refine (ac _ rfl (gt _ rfl td _ _ _ rfl rfl (.of ht) rfl (i' _ _ rfl rfl (show 0<q by lia) (k _ H (ai.refl H) ?_))))
  unfold bJ;rw [ao z];exact .rem (d0 _ z) (ej _ ⋯) q3
theorem Yi:bH ["told","a","b"] ["told","a","b"] (aN Df):=b6
theorem DT(T:Txt K mg t):a8 P w K mg base ck 2 t.sQ t.wW ["told","a","b"] (Mf eQ):=by
 have S:=Yi;refine T.oi.cS S (λ_ _ _ _ H _ _ _ hr h=>?_);obtain ⟨td,q,v,u,⟨x,m⟩,⟨y,n⟩,B,rfl,ht,hq,hv,hu,b1,pY,k⟩:=h
 refine (ac _ (ak (bI (aX eI (aB aU (pv 0) ah) fk) (aw (aM (aA fX (aA eF (pv 1) (pv 2)) (aB aU (pv 0) ah)))) bV)
  (aw (aM (ay (Ak T) hr T.xH T.mC.kp T.xG ax (aa (aA eF (aA gO (aB aU (pv 1) ah) (aB aU (pv 2) ah)) (aA gO (aB aU (pv 2) ah) (aB aU (pv 1) ah))) (aa (aA gO (aB aU (pv 1) ah) (aB aU (pv 2) ah)) ag)))))) ?_)
 unfold dP at ht;have bB:B<=2*B*B:=af (iL B ⋯) (fS _ ⋯)
 have big:∀{x:Int},x.natAbs<=B->aQ x:=λh=>aQ.BZ pY (af h bB);by_cases z:q=0
 ·subst z
  rw [q8] at ht;refine (gt _ rfl td _ _ _ rfl rfl (.of ht) rfl (im rfl false (by decide +kernel) (b5 ?_)))
  dsimp only at hv hu;cases hv with
  | cm e l bx bm=>
   rename_i p
   cases hu with
   | cm e' l' Al pd=>
    rename_i p'
    have m0:=l.pos;have n0:=l'.pos;have mn:0<m*n:=Int.mul_pos ⋯ ⋯
    have Am:(m*n).natAbs<=2*B*B:=by rw [aZ];exact af (bN bm pd) (gK _ ⋯)
    have bt:(x*n+y*m).natAbs<=2*B*B:=by refine af (uN ..) ?_;rw [aZ,aZ];refine af (oV (bN bx pd) (bN Al bm)) (jX ?_);rw [lC,uO]
    refine (gt _ rfl p _ _ _ rfl rfl (.of e) rfl (gt _ rfl p' _ _ _ rfl rfl (.of e') rfl (i' _ _ rfl rfl ⟨big bx,big pd⟩ (gt _ rfl p' _ _ _ rfl rfl (.of e') rfl (gt _ rfl p _ _ _ rfl rfl (.of e) rfl (i' _ _ rfl rfl ⟨big Al,big bm⟩ (ap _ _ rfl rfl (gt _ rfl p _ _ _ rfl rfl (.of e) rfl (gt _ rfl p' _ _ _ rfl rfl (.of e') rfl (i' _ _ rfl rfl ⟨big bm,big pd⟩ (i' _ _ rfl (Int.ne_of_gt mn) (aQ.BZ pY Am) (λr H' s' mJ=>k _ H' s' ?_))))))))))));unfold eQ;rw [aq rfl];exact BW mJ (show 1<=m*n by lia) bt Am
   | rem h0 h1 h2=>lia
  | rem h0 h1 h2=>lia
 ·rw [pE z] at ht
  obtain ⟨q2,q3,q4⟩:=hq.resolve_left z;refine (gt _ rfl td _ _ _ rfl rfl (.of ht) rfl (im rfl true (by decide +kernel) (fm ?_)))
  dsimp only at hv hu;cases hv with
  | cm=>lia
  | rem h0 h1 h2=>
   cases hu with
   | cm=>lia
   | rem pA BM L8=>
    refine (dL _ rfl _ rfl _ _ rfl rfl (gt _ rfl td _ _ _ rfl rfl (.of ht) rfl (i' _ _ rfl rfl (show 0<q by lia) (k _ H (ai.refl H) ?_))))
    unfold eQ;rw [ao z];exact .rem (d0 _ z) (ej _ ⋯) q3
theorem Yj:bH ["told","a","b"] ["told","a","b"] (aN Dg):=b6
theorem Iy(T:Txt K mg t):a8 P w K mg base ck 2 t.sR t.wX ["told","a","b"] (Mf mulQ):=by
 have S:=Yj;refine T.pQ.cS S (λ_ _ _ _ H _ _ _ hr h=>?_);obtain ⟨td,q,v,u,⟨x,m⟩,⟨y,n⟩,B,rfl,ht,hq,hv,hu,b1,pY,k⟩:=h
 refine (ac _ (ak (bI (aX eI (aB aU (pv 0) ah) fk) (aw (aM (aA fX (aA hJ (pv 1) (pv 2)) (aB aU (pv 0) ah)))) bV)
  (aw (aM (ay (Ak T) hr T.xH T.mC.kp T.xG ax (aa (aA gO (aB aU (pv 1) ah) (aB aU (pv 2) ah)) (aa (aA gO (aB aU (pv 1) ah) (aB aU (pv 2) ah)) ag)))))) ?_)
 unfold dP at ht;have bB:B<=2*B*B:=af (iL B ⋯) (fS _ ⋯)
 have big:∀{x:Int},x.natAbs<=B->aQ x:=λh=>aQ.BZ pY (af h bB);by_cases z:q=0
 ·subst z
  rw [q8] at ht;refine (gt _ rfl td _ _ _ rfl rfl (.of ht) rfl (im rfl false (by decide +kernel) (b5 ?_)))
  dsimp only at hv hu;cases hv with
  | cm e l bx bm=>
   rename_i p
   cases hu with
   | cm e' l' Al pd=>
    rename_i p'
    have m0:=l.pos;have n0:=l'.pos;have mn:0<m*n:=Int.mul_pos ⋯ ⋯
    have Am:(m*n).natAbs<=2*B*B:=by rw [aZ];exact af (bN bm pd) (gK _ ⋯)
    have bt:(x*y).natAbs<=2*B*B:=by rw [aZ];exact af (bN bx Al) (gK _ ⋯)
    refine (gt _ rfl p _ _ _ rfl rfl (.of e) rfl (gt _ rfl p' _ _ _ rfl rfl (.of e') rfl (i' _ _ rfl rfl ⟨big bx,big Al⟩ (gt _ rfl p _ _ _ rfl rfl (.of e) rfl (gt _ rfl p' _ _ _ rfl rfl (.of e') rfl (i' _ _ rfl rfl ⟨big bm,big pd⟩ (i' _ _ rfl (Int.ne_of_gt mn) (aQ.BZ pY Am) (λr H' s' mJ=>k _ H' s' ?_))))))));unfold mulQ;rw [aq rfl];exact BW mJ (show 1<=m*n by lia) bt Am
   | rem h0 h1 h2=>lia
  | rem h0 h1 h2=>lia
 ·rw [pE z] at ht
  obtain ⟨q2,q3,q4⟩:=hq.resolve_left z;refine (gt _ rfl td _ _ _ rfl rfl (.of ht) rfl (im rfl true (by decide +kernel) (fm ?_)))
  dsimp only at hv hu;cases hv with
  | cm=>lia
  | rem h0 h1 h2=>
   cases hu with
   | cm=>lia
   | rem pA BM L8=>
    refine (io _ rfl _ rfl _ _ rfl rfl (.inl ⟨⋯,⋯⟩) (gt _ rfl td _ _ _ rfl rfl (.of ht) rfl (i' _ _ rfl rfl (show 0<q by lia) (k _ H (ai.refl H) ?_))))
    unfold mulQ;rw [ao z];exact .rem (d0 _ z) (ej _ ⋯) q3
theorem Yk:bH ["told","a","part"] ["told","a"] (aN Dh):=b6
theorem Yl(T:Txt K mg t):a8 P w K mg base ck 2 t.sS t.wY ["told","a"] US:=by
 have S:=Yk;refine T.xI.cS S (λ_ _ _ _ H _ Q _ hr h=>?_);intros bnE h td bn31 q v x m B rfl ht hq hv hB k;have hu:=hr.qD
 refine (ac _ (ak (bI (aX eI (aB aU (pv 0) ah) fk) (aw (aM (m9 (aS (ji (K:=K)) rfl T.i4 boot_isinstance (aa (pv 1) (aa (jd (v:=.ty "int") rfl T.xS boot_int rfl) ag))) (m9 (Ka (aS (ji (K:=K)) rfl T.i4 boot_isinstance (aa (pv 1) (aa (jd (v:=.ty "bool") rfl T.DL boot_bool rfl) ag)))) (uV (Kr u9 jC ah (pv 1) (aB aU (pv 0) ah))))))) bV)
  (ak (bI (PW.pt (pw_or (g_ (gj (aS (ji (K:=K)) rfl T.i4 boot_isinstance (aa (pv 1) (aa (jd (v:=.ty "tuple") rfl T.pR boot_tuple rfl) ag))))) (pw_or1 (aX jB (aS bR rfl T.bO bQ (aa (pv 1) ag)) ah)))) (aw (aM fV)) bV)
  (ak (jA fi rfl (RF (pv 1)) (fF (i:=2) S.nd rfl (Or.inl rfl))
   (aw (bI (PW.pt (pw_or (g_ (gj (aS (ji (K:=K)) rfl T.i4 boot_isinstance (aa (pv 2) (aa (jd (v:=.ty "int") rfl T.xS boot_int rfl) ag))))) (pw_or1 (gj (aS (ji (K:=K)) rfl T.i4 boot_isinstance (aa (pv 2) (aa (jd (v:=.ty "bool") rfl T.DL boot_bool rfl) ag))))))) (aw (aM fV)) bV)))
  (aw (aM (m9 (nF ka (aB aU (pv 1) ah) ah) (uV (nF (Li hu) (pv 1) (ay (Ak T) hr T.xH T.mC.kp T.xG ax (aa (aB aU (pv 1) ah) (aa (aB aU (pv 1) ah) ag))))))))))) ?_)
 unfold dP at ht;cases hv with
 | cm e l bx bm=>
  rename_i p
  rw [q8] at ht;refine (gt _ rfl td _ _ _ rfl rfl (.of ht) rfl (im rfl false (by decide +kernel) (b5 ?_)))
  refine (gt _ rfl _ _ _ true rfl rfl (.of (.tup e)) nN (ac true rfl (b5 ?_)));refine (al _ rfl p _ rfl (.inr (.of e)) (im rfl false (by rw [lW];rfl) (b5 ?_)))
  refine (ac _ rfl (ad p rfl ⟨_,.of e⟩ ?_));refine RN (K:=K) (a:=p) (xs:=[.int x,.int m]) (λi σ Hc=>Hc=H/\∃v2:Option V,σ=[some (.ref td),some (.ref p),v2]) (lf rfl _ rfl) (λi σ Hc _ ⟨z,_⟩=>by rw [z];exact .of e) ?_ ?_
  ·rintro i v σ Hc hi ⟨rfl,v2,rfl⟩
   obtain ⟨c,rfl⟩:∃c:Int,v=.int c:=by
    match i,hi with
    | 0,h=>cases h;exact ⟨_,rfl⟩
    | 1,h=>cases h;exact ⟨_,rfl⟩
    | i+2,h=>cases h
   refine (gt _ rfl _ _ _ true rfl rfl (.of (.int c)) rfl (ac true rfl (b5 ?_)));refine (gt _ rfl _ _ _ false rfl rfl (.of (.int c)) rfl (ac false rfl (b5 ?_)));exact (lf rfl _ rfl)
  ·rintro σ Hc ⟨rfl,v2,rfl⟩
   have m0:=l.pos;refine (gt _ rfl p _ _ _ rfl rfl (.of e) rfl (on _ _ rfl rfl true (by show V.bl (decide ((0:Int)<m))=_;rw [dZ (show (0:Int)<m by lia)]) (fm ?_)))
   refine (ac _ rfl (gt _ rfl p _ _ _ rfl rfl (.of e) rfl (gt _ rfl p _ _ _ rfl rfl (.of e) rfl (i' x m rfl ⋯ (ic (af bm hB) T7) (λr H' s' mJ=>?_)))))
   have e1:lowG x m=1:=by unfold lowG;rw [ao ⋯,l.y3];rfl
   rw [e1,uF,uF] at mJ;refine (ol p r _ _ rfl rfl (.of (s' _ _ e)) (.of mJ) rfl rfl ?_);show Q (.bl (ix [V.int x,V.int m] [V.int x,V.int m])) H';rw [LA];exact k H' s'
 | rem h0 h1 h2=>
  have z:q≠0:=by lia
  rw [pE z] at ht;refine (gt _ rfl td _ _ _ rfl rfl (.of ht) rfl (im rfl true (by decide +kernel) (fm ?_)))
  refine (gt _ rfl _ _ _ true rfl rfl (.of (.int x)) rfl (ac true rfl (fm ?_)));refine (gt _ rfl _ _ _ false rfl rfl (.of (.int x)) rfl (ul false rfl _ rfl (fm ?_)));refine (be _ rfl _ _ rfl rfl true (by show V.bl (decide ((0:Int)<=x))=_;rw [dZ h0]) (fm ?_))
  refine (gt _ rfl td _ _ _ rfl rfl (.of ht) rfl (ap _ _ rfl rfl ?_));show Q (.bl (decide (x<q))) H;rw [dZ h1];exact k H (ai.refl H)
theorem Ym:bH ["told","found"] ["told","found"] (aN Di):=b6
theorem x8(T:Txt K mg t):a8 P w K mg base ck 3 t.sU t.wZ ["told","found"] UT:=by
 have S:=Ym;refine T.kX.cS S (λ_ _ _ _ H vs _ _ hr h=>?_);intros bn6 h td a q bn27 ps B rfl ht hq q'96 Ib hB k;intros bn4 q'96 vs ea hl hn;refine (ac _ (aw (aM (m9 (aS (ji (K:=K)) rfl T.i4 boot_isinstance (aa (pv 1) (aa (jd (v:=.ty "list") rfl T.ot boot_list rfl) ag))) (uV (aS (TH (K:=K) rfl) rfl T.Of boot_all (aa (lT (N:=["a","told"]) (ρ:=(λσ=>[σ[0]?.join])) (iy [0] rfl) rfl (nj (pv 1)) (λ_ _ _=>.nil) (λ_ _ _=>(ay (Yl T) hr T.NY T.xI.kp T.NX ax (aa (pv 1) (aa (pv 0) ag))))) ag)))))) ?_);refine (gt _ rfl _ _ _ true rfl rfl (.of (.lst ea)) nN (ac true rfl (fm ?_)));refine Uu (Uk (xs:=vs) (λR h=>⟨_,rfl,a,rfl,⟨_,.of ea⟩,h _ _ (ai.refl _) (pB (.of ea))⟩) (by rw [hl];exact jH ⋯) (λ_ i y _=>y=.bl true) (λ_ _ _ _ _ _ h _ _=>h) ?_ ?_)
 ·intro D i v hi Hc R sc _ kc
  have df:i<ps.length:=by rw [<-hl];exact (dj.mp hi).1
  exact (wf _ rfl _ rfl td q v (re _ _ B rfl (ht.mono sc) hq ((hn i v ps[i] hi (by simp [df])).mono sc) hB (λH' s'=>kc _ H' s' rfl)))
 ·intro D ys Hc sc DO hP eD
  refine ⟨D,List.replicate ys.length true,rfl,.of (by rw [eD];exact gI _ (gI _ (Ux hP))),?_⟩
  rw [Uy];exact k Hc sc
theorem Yn:bH ["pen","way"] ["pen"] (aN Dj):=b6
theorem Yo(T:Txt K mg t):a8 P w K mg base ck 3 t.sV t.w5 ["pen"] (UU K):=by
 have S:=Yn;have kZ:=mI (P:=P) (w:=w) (base:=base) T;refine T.xJ.cS S (λ_ _ _ _ H _ _ _ hr h=>?_);intros bn18 h P0 a ns rfl pc hS k
 refine (ac _ (@ak _ _ _ _ _ (@FN _ _ 1 _ _ _ _ (by rfl) (by first | exact .inl rfl | exact .inr rfl | assumption) S.nd rfl (Or.inl rfl) (Bt kZ (hr.mono ∅) rfl T.gF T.fc.kp T.gE .nil ax (@d_ _ _ _ _ _ (by rfl) (pv 0) (@d_ _ _ _ _ _ (by rfl) ah ag))))
   (@ak _ _ _ _ _ (@bI _ _ _ _ _ _ _ _ (@Fi _ _ _ _ _ _ _ _ jC (pv 1) ah (Bq _)) (@aw _ _ _ (@aM _ _ _ _ (@iP _ _ _ _ _ (@d_ _ _ _ _ _ (by rfl) fk ag)))) bV)
   (@ak _ _ _ _ _ (@bI _ _ _ _ _ _ _ _ (@Fi _ _ _ _ _ _ _ _ jC (pv 1) ah (Bq _)) (@aw _ _ _ (@aM _ _ _ _ (@iP _ _ _ _ _ (@d_ _ _ _ _ _ (by rfl) fk (@d_ _ _ _ _ _ (by rfl) (@Fp _ _ _ _ _ _ _ cz (@cV _ _ _ _ (@d_ _ _ _ _ _ (by rfl) ah (@d_ _ _ _ _ _ (by rfl) ah (@d_ _ _ _ _ _ (by rfl) ah (@d_ _ _ _ _ _ (by rfl) ah ag))))) (Bt kZ (hr.mono ∅) rfl T.gF T.fc.kp T.gE .nil ax (@d_ _ _ _ _ _ (by rfl) (pv 0) (@d_ _ _ _ _ _ (by rfl) ah ag))) (λ_ _=>rfl)) ag))))) bV)
   (@aw _ _ _ (@aM _ _ _ _ (@iP _ _ _ _ _ (@d_ _ _ _ _ _ (by rfl) fk (@d_ _ _ _ _ _ (by rfl) (@Fp _ _ _ _ _ _ _ cz (@cV _ _ _ _ (@d_ _ _ _ _ _ (by rfl) ah (@d_ _ _ _ _ _ (by rfl) ah (@d_ _ _ _ _ _ (by rfl) ah (@d_ _ _ _ _ _ (by rfl) ah (@d_ _ _ _ _ _ (by rfl) ah (@d_ _ _ _ _ _ (by rfl) ah (@d_ _ _ _ _ _ (by rfl) ah (@d_ _ _ _ _ _ (by rfl) ah (@d_ _ _ _ _ _ (by rfl) ah (@d_ _ _ _ _ _ (by rfl) ah ag))))))))))) (Bt kZ (hr.mono ∅) rfl T.gF T.fc.kp T.gE .nil ax (@d_ _ _ _ _ _ (by rfl) (pv 0) (@d_ _ _ _ _ _ (by rfl) ah ag))) (λ_ _=>rfl)) ag)))))))) ?_)
 refine (ac _ rfl (f8 P0 a ns 5 rfl pc hS ∅ (aQ.of_lt ∅ ∅) (λr H1 r0 r1 sA p1=>?_)))
 have gG:bG K (er P0 H1) a (ns.map V.int):=ai.seq sA hS;refine (be _ rfl _ _ rfl rfl _ rfl (cD (λ_=>?_) (λ_=>?_)))
 ·refine ⟨by show 1<=sizeLine;decide,λtd k4=>?_⟩
  have np:=p1.ne k4;refine k td 0 _ (.inl rfl) (sA.trans (aR.of (aJ k4))) (p1.mono (aJ k4)) ?_;unfold dP;rw [q8,qZ np];exact az
 refine (be _ rfl _ _ rfl rfl _ rfl (cD (λ_=>?_) (λ_=>?_)))
 ·refine ⟨by show 4<=sizeLine;decide,λl nl=>?_⟩
  have nP:=p1.ne nl;have sl:ai H1 (upd H1 l (.lst [.int 2,.int 3,.int 5,.int 7])):=aJ nl;have el:upd H1 l (.lst [.int 2,.int 3,.int 5,.int 7]) l=some (.lst [.int 2,.int 3,.int 5,.int 7]):=az;have pl:=p1.mono sl;have pZ:bG K (er P0 (upd H1 l (.lst [.int 2,.int 3,.int 5,.int 7]))) a (ns.map V.int):=ai.seq (ze sl) gG;generalize upd H1 l (.lst [.int 2,.int 3,.int 5,.int 7])=H2 at sl el pl pZ ⊢;refine (ac _ rfl (f8 P0 a ns 4 rfl pl pZ ∅ (aQ.of_lt ∅ ∅) (λr H3 r0 r1 s3 p3=>?_)))
  obtain ⟨q,An,hq,pS⟩:∃q:Int,dF ([.int 2,.int 3,.int 5,.int 7]:List V) r=some (.int q)/\au q/\q≠0:=by
   rcases (show r=0\/r=1\/r=2\/r=3 by lia) with rfl | rfl | rfl | rfl
   ·exact ⟨2,rfl,.inr ⟨∅,∅,∅⟩,∅⟩
   ·exact ⟨3,rfl,.inr ⟨∅,∅,∅⟩,∅⟩
   ·exact ⟨5,rfl,.inr ⟨∅,∅,∅⟩,∅⟩
   ·exact ⟨7,rfl,.inr ⟨∅,∅,∅⟩,∅⟩
  refine (f8 l _ _ _ rfl rfl (.of (s3.at nP el)) An (by show 2<=sizeLine;decide) (λtd k4=>?_))
  have np:=p3.ne k4;refine k td q _ hq ((sA.trans (aR.of sl)).trans (s3.trans (aR.of (aJ k4)))) (p3.mono (aJ k4)) ?_;unfold dP;rw [pE pS,qZ np];exact az
 ·refine ⟨by show 10<=sizeLine;decide,λl nl=>?_⟩
  have nP:=p1.ne nl;have sl:ai H1 (upd H1 l (.lst [.int 11,.int 13,.int 29,.int 97,.int 101,.int 257,.int 499,.int 743,.int 991,.int 997])):=aJ nl;have el:upd H1 l (.lst [.int 11,.int 13,.int 29,.int 97,.int 101,.int 257,.int 499,.int 743,.int 991,.int 997]) l=some (.lst [.int 11,.int 13,.int 29,.int 97,.int 101,.int 257,.int 499,.int 743,.int 991,.int 997]):=az;have pl:=p1.mono sl;have pZ:bG K (er P0 (upd H1 l (.lst [.int 11,.int 13,.int 29,.int 97,.int 101,.int 257,.int 499,.int 743,.int 991,.int 997]))) a (ns.map V.int):=ai.seq (ze sl) gG;generalize upd H1 l (.lst [.int 11,.int 13,.int 29,.int 97,.int 101,.int 257,.int 499,.int 743,.int 991,.int 997])=H2 at sl el pl pZ ⊢;refine (ac _ rfl (f8 P0 a ns 10 rfl pl pZ ∅ (aQ.of_lt ∅ ∅) (λr H3 r0 r1 s3 p3=>?_)))
  obtain ⟨q,An,hq,pS⟩:∃q:Int,dF ([.int 11,.int 13,.int 29,.int 97,.int 101,.int 257,.int 499,.int 743,.int 991,.int 997]:List V) r=some (.int q)/\au q/\q≠0:=by
   rcases (show r=0\/r=1\/r=2\/r=3\/r=4\/r=5\/r=6\/r=7\/r=8\/r=9 by lia) with rfl | rfl | rfl | rfl | rfl | rfl | rfl | rfl | rfl | rfl
   ·exact ⟨11,rfl,.inr ⟨∅,∅,∅⟩,∅⟩
   ·exact ⟨13,rfl,.inr ⟨∅,∅,∅⟩,∅⟩
   ·exact ⟨29,rfl,.inr ⟨∅,∅,∅⟩,∅⟩
   ·exact ⟨97,rfl,.inr ⟨∅,∅,∅⟩,∅⟩
   ·exact ⟨101,rfl,.inr ⟨∅,∅,∅⟩,∅⟩
   ·exact ⟨257,rfl,.inr ⟨∅,∅,∅⟩,∅⟩
   ·exact ⟨499,rfl,.inr ⟨∅,∅,∅⟩,∅⟩
   ·exact ⟨743,rfl,.inr ⟨∅,∅,∅⟩,∅⟩
   ·exact ⟨991,rfl,.inr ⟨∅,∅,∅⟩,∅⟩
   ·exact ⟨997,rfl,.inr ⟨∅,∅,∅⟩,∅⟩
  refine (f8 l _ _ _ rfl rfl (.of (s3.at nP el)) An (by show 2<=sizeLine;decide) (λtd k4=>?_))
  have np:=p3.ne k4;refine k td q _ hq ((sA.trans (aR.of sl)).trans (s3.trans (aR.of (aJ k4)))) (p3.mono (aJ k4)) ?_;unfold dP;rw [pE pS,qZ np];exact az
theorem Yp:bH ["pen","told","far","kind","top"] ["pen","told","far"] (aN Dk):=b6
theorem OM(T:Txt K mg t):a8 P w K mg base ck 3 t.sW t.w6 ["pen","told","far"] (Vb K):=by
 have S:=Yp;have kZ:=mI (P:=P) (w:=w) (base:=base) T;refine T.t7.cS S (λ_ _ _ _ H _ _ _ hr h=>?_);intros bnE h P0 bn17 a td ns q b7 F bn30 rfl pc hS ht hq f1 f2 f3 f4 k
 refine (ac _ (ak (putL 3 S.nd (ay kZ hr T.gF T.fc.kp T.gE ax (aa (pv 0) (aa ah ag))))
  (ak (bI (aX eI (aB aU (pv 1) ah) fk) (ak (bI (aX jC (pv 3) ah) (aw (aM ah)) bV)
  (aw (aM (ay kZ hr T.gF T.fc.kp T.gE ax (aa (pv 0) (aa (aB aU (pv 1) ah) ag)))))) bV)
  (ak (bI (aX jC (pv 3) ah) (aw (aM (iP (aa ah (aa ah ag))))) bV)
  (ak (bI (aX eI (pv 3) ah) (ak (putL 4 S.nd (aA hJ (aA eZ ah (aA hJ ah (ay kZ hr T.gF T.fc.kp T.gE ax (aa (pv 0) (aa ah ag))))) (ay kZ hr T.gF T.fc.kp T.gE ax (aa (pv 0) (aa (pv 2) ag)))))
  (aw (aM (ay (Ak T) hr T.xH T.mC.kp T.xG ax (aa (pv 4) (aa (aA eF ah (ay kZ hr T.gF T.fc.kp T.gE ax (aa (pv 0) (aa (pv 2) ag)))) ag)))))) bV)
  (aw (aM (ay (Ak T) hr T.xH T.mC.kp T.xG ax (aa (aA eZ (ay kZ hr T.gF T.fc.kp T.gE ax (aa (pv 0) (aa ah ag))) ah) (aa (aB cz (cV (aa ah (aa ah (aa ah (aa ah ag))))) (ay kZ hr T.gF T.fc.kp T.gE ax (aa (pv 0) (aa ah ag)))) ag))))))))) ?_)
 have mf:aQ b7:=aQ.of_lt ⋯ ⋯
 refine (ac _ rfl (f8 P0 a ns 16 rfl pc hS ∅ (aQ.of_lt ∅ ∅) (λkd H1 kd0 kd1 s1 p1=>?_)))
 have gG:bG K (er P0 H1) a (ns.map V.int):=ai.seq s1 hS;have jU:=ht.mono s1;unfold dP at jU;by_cases z:q=0
 ·subst z
  rw [q8] at jU;refine (gt _ rfl td _ _ _ rfl rfl (.of (gQ _ _ jU)) rfl (im rfl false (by decide +kernel) (b5 ?_)))
  refine (be _ rfl _ _ rfl rfl _ rfl (cD (λ_=>?_) (λ_=>?_)))
  ·refine ⟨by show 2<=sizeLine;decide,λr nr=>?_⟩
   have np:=p1.ne nr;exact k _ 0 1 _ (s1.trans (aR.of (aJ nr))) (p1.mono (aJ nr)) (.cm (nS np az) ⟨∅,∅⟩ (by show Int.natAbs 0<=F;lia) (by show Int.natAbs 1<=F;lia))
  refine (bn _ rfl rfl _ rfl (cD (λ_=>?_) (λ_=>?_)))
  ·refine (ac _ rfl (f8 P0 a ns 2 rfl p1 gG ∅ (aQ.of_lt ∅ ∅) (λsg H2 sg0 sg1 s2 p2=>?_)))
   refine (i' _ _ rfl rfl (.inl ⟨∅,∅⟩) (ap _ _ rfl rfl (ul _ rfl _ rfl (f8 P0 a ns b7 rfl p2 (ai.seq s2 gG) f1 mf (λtp H3 Yq Yr s3 p3=>?_)))))
   refine (i' _ _ rfl rfl (.inl ⟨⋯,⋯⟩) ?_)
   refine (li _ rfl _ rfl _ rfl (f8 P0 a ns b7 rfl p3 (ai.seq s3 (ai.seq s2 gG)) f1 mf (λbt H4 bt0 bt1 s4 p4=>?_)));refine (ap _ _ rfl rfl (i' _ _ rfl (show 1+bt≠0 by lia) (aQ.of_lt ⋯ ⋯) (λr H5 s5 mJ=>?_)))
   have b1:((1-2*sg)*tp).natAbs<=F:=by
    rcases (show sg=0\/sg=1 by lia) with rfl | rfl
    ·rw [show (1-2*(0:Int))*tp=tp by lia];lia
    ·rw [show (1-2*(1:Int))*tp=-tp by lia];lia
   refine k _ _ _ H5 (s1.trans (s2.trans (s3.trans (s4.trans (aR.of s5))))) (p4.mono s5) ((BW (B:=F) mJ (show 1<=1+bt by lia) b1 ⋯).er (H':=H5) (p4.mono s5))
  ·refine (ac _ rfl (f8 P0 a ns 9 rfl p1 gG ∅ (aQ.of_lt ∅ ∅) (λtp H2 Yq Yr s2 p2=>?_)))
   refine (i' _ _ rfl rfl (by show 4<=sizeLine;decide) (λl nl=>?_))
   have nP:=p2.ne nl;have sl:ai H2 (upd H2 l (.lst [.int 1,.int 1,.int 2,.int 3])):=aJ nl;have el:upd H2 l (.lst [.int 1,.int 1,.int 2,.int 3]) l=some (.lst [.int 1,.int 1,.int 2,.int 3]):=az;have pl:=p2.mono sl;have pZ:bG K (er P0 (upd H2 l (.lst [.int 1,.int 1,.int 2,.int 3]))) a (ns.map V.int):=ai.seq (ze sl) (ai.seq s2 gG);generalize upd H2 l (.lst [.int 1,.int 1,.int 2,.int 3])=H3 at sl el pl pZ ⊢;refine (ac _ rfl (f8 P0 a ns 4 rfl pl pZ ∅ (aQ.of_lt ∅ ∅) (λr H4 r0 r1 s4 p4=>?_)))
   obtain ⟨b,An,b1,b3⟩:∃b:Int,dF ([.int 1,.int 1,.int 2,.int 3]:List V) r=some (.int b)/\1<=b/\b<=3:=by
    rcases (show r=0\/r=1\/r=2\/r=3 by lia) with rfl | rfl | rfl | rfl
    ·exact ⟨1,rfl,∅,∅⟩
    ·exact ⟨1,rfl,∅,∅⟩
    ·exact ⟨2,rfl,∅,∅⟩
    ·exact ⟨3,rfl,∅,∅⟩
   refine (ii l _ _ _ rfl rfl (.of (s4.at nP el)) An (i' _ _ rfl ⋯ (aQ.of_lt ⋯ ⋯) (λr' H5 s5 mJ=>?_)))
   exact k _ _ _ H5 (s1.trans (s2.trans ((aR.of sl).trans (s4.trans (aR.of s5))))) (p4.mono s5) ((BW (B:=F) mJ b1 (show (tp-4).natAbs<=_ by lia) ⋯).er (H':=H5) (p4.mono s5))
 ·rw [pE z] at jU
  obtain ⟨q2,q3,q4⟩:=hq.resolve_left z;refine (gt _ rfl td _ _ _ rfl rfl (.of (gQ _ _ jU)) rfl (im rfl true (by decide +kernel) (fm ?_)))
  refine (be _ rfl _ _ rfl rfl _ rfl (cD (λ_=>?_) (λ_=>?_)));·exact k _ 0 1 H1 s1 p1 (.rem ∅ ⋯ q3)
  ·refine (ac _ rfl (gt _ rfl td _ _ _ rfl rfl (.of (gQ _ _ jU)) rfl (f8 P0 a ns q rfl p1 gG ⋯ (aQ.of_lt ⋯ ⋯) (λr H2 r0 r1 s2 p2=>?_))))
   exact k _ r 1 H2 (s1.trans s2) p2 (.rem r0 r1 q3)
theorem Ys:bH ["told","row","many"] ["told","row"] (aN Dl):=b6
theorem Ao(T:Txt K mg t):a8 P w K mg base ck 4 t.sX t.w9 ["told","row"] UX:=by
 have S:=Ys;have gH:=pX (P:=P) (w:=w) (base:=base) (B:=1000) T;refine T.mD.cS S (λ_ _ _ _ H vs _ _ hr h=>?_);intros bn31 h z a q ps B rfl hz hq hR Ib k;have hu:=hr.qD
 refine (ac _ (ak (putL 2 S.nd (aS bR rfl T.bO bQ (aa (pv 1) ag)))
  (ak (ni fi (PW.pt (pw_and (aX ka (pv 2) ah) (pw_and1 (aX (Ls hu) (aB cz (pv 1) (aA eZ (pv 2) ah)) (ay gH hr T.jS T.ia.kp T.jR ax (aa (pv 0) (aa ah ag))))))) (aw (putL 2 S.nd (aA eZ (pv 2) ah))))
  (aw (aM (vf vh (pv 1) vc (vd (pv 2))))))) ?_)
 have q'0:=id hR;intros bn4 q'0 vs ea hl hn;refine (al _ rfl a vs rfl (.inl (.of ea)) ?_);refine (ac (λc σ Hc=>ai H Hc/\c<=ps.length/\dS ps c=dS ps ps.length/\σ=[some (.ref z),some (.ref a),some (.int (c:Int))]) (gl ps.length (ai.refl H) (aL _) rfl (by rw [<-hl];rfl)) ?_)
 rintro c σ Hc ⟨sc,hc,uh,rfl⟩;refine (be _ rfl _ _ rfl rfl _ rfl (cD (λh0=>?_) (λh0=>?_)))
 ·have h0:(0:Int)<(c:Int):=dM h0
  obtain ⟨d,rfl⟩:∃d,c=d+1:=⟨c-1,⋯⟩
  have hd:d<vs.length:=by lia
  have m8:d<ps.length:=by lia
  refine (dL _ rfl _ rfl _ _ rfl rfl (ii a vs _ (vs[d]) rfl rfl (.of (sc _ _ ea)) (by show dF vs (((d+1:Nat):Int)-1)=_;rw [show ((d+1:Nat):Int)-1=(d:Int) by lia];exact iw (by simp [hd])) ?_))
  have hv:=hn d vs[d] ps[d] (by simp [hd]) (by simp [m8])
  refine (ac _ rfl (re z q 0 rfl (hz.mono sc) hq ∅ ∅ (λv0 H1 s1 ho=>?_)))
  have pA:aY 1000 H1 q v0 0 1:=by
   have e:bJ q 0=(0,1):=by unfold bJ;split <;> simp
   rw [e] at ho;exact ho
  have gd:ps.getD d o1=ps[d]:=getD_at m8;refine L7 (hv.mono (sc.trans s1)) pA (ac _ rfl (cD (λgX=>?_) (λgX=>?_)))
  ·have gX:ps[d].1=0:=dM gX
   refine (ac (λσ' H2=>ai H H2/\σ'=[some (.ref z),some (.ref a),some (.int (d:Int))]) ?_ ?_)
   ·rintro σ' H2 ⟨s2,rfl⟩
    refine ⟨d,⋯,s2,⋯,?_,rfl⟩
    rw [<-uh];show _=if (ps.getD d o1).1=0 then dS ps d else d+1
    rw [gd,aq gX]
   ·refine (j' _ rfl _ _ rfl rfl (sc.trans s1) (by show List.set _ 2 (some (V.int (((d+1:Nat):Int)-1)))=_;rw [show ((d+1:Nat):Int)-1=(d:Int) by lia];rfl))
  ·have gX:¬ps[d].1=0:=λe=>gX (dZ e)
   have e:dS ps ps.length=d+1:=by
    rw [<-uh];show (if (ps.getD d o1).1=0 then dS ps d else d+1)=_
    rw [gd,ao gX]
   refine (ac _ rfl (dL _ rfl _ rfl a vs rfl (.of ((sc.trans s1) _ _ ea)) (λr nr=>?_)));rw [vB vs (d+1) ⋯]
   have sr:=(sc.trans s1).trans (aJ (o:=.lst (vs.take (d+1))) nr);refine k r _ sr (none_of (sc.trans s1) nr) ?_;unfold aF;rw [e];exact aD.take az hl λi v p h1 h2=>(hn i v p h1 h2).mono sr
 ·have h0:¬(0:Int)<(c:Int):=λz=>h0 (dZ z)
  have c0:c=0:=by lia
  subst c0;refine (ac _ rfl (dL _ rfl _ rfl a vs rfl (.of (sc _ _ ea)) (λr nr=>?_)));rw [vB vs 0 ⋯]
  have sr:=sc.trans (aJ (o:=.lst (vs.take 0)) nr);refine k r _ sr (none_of sc nr) ?_;unfold aF;rw [<-uh];exact aD.take az hl λi v p h1 h2=>(hn i v p h1 h2).mono sr
def Iz:Sp:=λvs H Q _=>∃(td a b:Addr) (q:Int) (ps rs:aC) (D:Int) (f g:Nat->Int),vs=[.ref td,.ref a,.ref b]/\dP H td q/\au q/\aD B2 H q a ps/\aD B2 H q b rs/\ps.length<=60/\rs.length<=60/\aP q D/\D.natAbs<=B2/\(∀i j,(f i*g j).natAbs<=10 ^ 270)/\(∀i j,i<ps.length->j<rs.length->ar q ((ps.getD i o1).1*(rs.getD j o1).1,(ps.getD i o1).2*(rs.getD j o1).2) (f i*g j,D)) /\
 ∀(c:Addr) (H':Hp),ai H H'->H c=none->aD B2 H' q c (aF (de q ps.length rs.length f g D (ps.length+rs.length-1)))->Q (.ref c) H'
theorem Yt:bH ["told","one","other","found","i","j"] ["told","one","other"] (aN Dn):=b6
theorem x_(T:Txt K mg t):a8 P w K mg base ck 5 t.sZ t.xa ["told","one","other"] Iz:=by
 have S:=Yt;have gH:=pX (P:=P) (w:=w) (base:=base) (B:=B2) T;refine T.kY.cS S (λ_ _ _ _ H vs _ _ hr h=>?_);intros bn6 h td a b bn24 q ps rs D f g rfl ht bn30 hq hA hB Yu Yv cT bD hs Yw k
 refine (ac _ (ak (vx (i0:=3) (N:=["k","told"]) (ρ:=(λσ=>[σ[0]?.join])) (iy [0] rfl) rfl S.nd rfl (Or.inl rfl) (iq rfl T.gW (aa (aA eF (aS bR rfl T.bO bQ (aa (pv 1) ag)) (aS bR rfl T.bO bQ (aa (pv 2) ag))) ag)) (λ_ _ _=>.nil) (λ_ _ _=>(ay gH hr T.jS T.ia.kp T.jR ax (aa (pv 1) (aa ah ag)))))
  (ak (jA fi rfl (iq rfl T.gW (aa (aS bR rfl T.bO bQ (aa (pv 1) ag)) ag)) (fF (i:=4) S.nd rfl (Or.inl rfl))
   (aw (jA fi rfl (iq rfl T.gW (aa (aS bR rfl T.bO bQ (aa (pv 2) ag)) ag)) (fF (i:=5) S.nd rfl (Or.inl rfl))
   (aw (@qu _ _ _ _ _ _ (ay (DT T) hr T.zY T.oi.kp T.zX ax (aa (pv 0) (aa (aB cz (pv 3) (aA eF (pv 4) (pv 5))) (aa (ay (Iy T) hr T.DH T.pQ.kp T.DG ax (aa (pv 0) (aa (aB cz (pv 1) (pv 4)) (aa (aB cz (pv 2) (pv 5)) ag)))) ag)))) (qt (pv 3) (aA eF (pv 4) (pv 5)) set_list) (by rfl) (by rfl) (by rfl))))))
  (aw (aM (ay (Ao T) hr T.xM T.mD.kp T.xK ax (aa (pv 0) (aa (pv 3) ag))))))) ?_)
 have q'1:=id hA;intros bn4 q'1 vs ea lv fv;have q'2:=id hB;intros bn4 q'2 us eb lu fu;have iE:1000<=B2:=by decide +kernel
 obtain ⟨N,eN⟩:∃N,N=ps.length+rs.length:=⟨_,rfl⟩;have e0:da q 0 D=bJ q 0:=by
  refine gB hq (fK hq cT) ?_ ((fo (T:=0) cT).trans ?_ cT)
  ·unfold bJ
   refine ⟨λz=>?_,λz=>?_⟩;·rw [aq z];exact ⟨∅,∅⟩
   ·rw [ao z]
    have q2:0<q:=by rcases hq with h | h <;> lia
    exact ⟨rfl,by simp,by simpa using q2⟩
  ·have:bJ q 0=(0,1):=by unfold bJ;split <;> simp
   rw [this];exact ⟨0,by simp⟩
 have Yx:((vs.length:Int)+(us.length:Int))=(N:Int):=by lia
 refine kg (d8 (qY (xs:=(List.range N).map λi:Nat=>V.int (0+(i:Int))) (λR h=>(be _ rfl a vs rfl (.inl (.of ea)) _ rfl (wn b us rfl (.inl (.of eb)) _ _ rfl rfl (gl (N:Int) (gI (λx=>[V.int x]) Yx) ⋯ ⋯ (h _ _ (ai.refl _) (by rw [dI];exact BN)))))) (by rw [aW,iM];exact jH ⋯) (λ_ j y Hx=>aY B2 Hx q y (da q 0 D).1 (da q 0 D).2) (λ_ _ _ _ _ _ h1 e f=>h1.b7 e f) ?_ ?_))
 ·intro Dx i v hi Hc R sc _ kc
  refine (ac _ rfl (re td q 0 rfl (ht.mono sc) hq (cn _) iE (λu H' s' hu=>kc u H' s' ?_)));rw [e0];exact hu
 intro fd ys H1 mK s1 fL hP jV;rw [aW,iM] at fL;dsimp only [bo];refine (al _ rfl a vs rfl (.inl (.of (s1 _ _ ea))) (gl (vs.length:Int) rfl ⋯ ⋯ ?_))
 rw [dI]
 refine nC (λi σ Hc=>ai H Hc/\∃(v4 v5:Option V) (ws:List V),σ=[some (.ref td),some (.ref a),some (.ref b),some (.ref fd),v4,v5]/\Hc fd=some (.lst ws)/\ws.length=N/\∀(x:Nat) (w:V),ws[x]?=some w->aY B2 Hc q w (da q (a_ i rs.length f g x) D).1 (da q (a_ i rs.length f g x) D).2)
  (lf s1 _ (i' _ ys rfl jV fL (λx w hw=>hP x w hw))) ?_ ?_
 ·intro i σ Hc hi;intros bnA _ sc bn18 v4 v5 ws rfl ef ft fe
  refine (al _ rfl b us rfl (.inl (.of (sc _ _ eb))) (gl (us.length:Int) rfl ⋯ ⋯ ?_))
  rw [dI]
  refine nC (λj σ Hd=>ai H Hd/\∃(v5:Option V) (ws:List V),σ=[some (.ref td),some (.ref a),some (.ref b),some (.ref fd),some (.int (0+(i:Int))),v5]/\Hd fd=some (.lst ws)/\ws.length=N/\∀(x:Nat) (w:V),ws[x]?=some w->aY B2 Hd q w (da q (a_ i rs.length f g x+di j (f i) g i x) D).1 (da q (a_ i rs.length f g x+di j (f i) g i x) D).2)
   (And.intro sc (i' _ ws rfl ef ft (λx w hw=>by
    have z:=fe x w hw;have e:a_ i rs.length f g x+di 0 (f i) g i x=a_ i rs.length f g x:=by show _+0=_;lia
    rw [e];exact z))) ?_ ?_
  ·intro j σ Hd hj;intros bn19 _ sd v5 ws rfl ed ft fe
   have i1:i<ps.length:=by lia
   have j1:j<rs.length:=by lia
   have ij:i+j<ws.length:=by lia
   have ON:(0+(i:Int))+(0+(j:Int))=((i+j:Nat):Int):=by lia
   have nA:=(fv i vs[i] ps[i] (by simp [hi]) (by simp [i1])).mono sd
   have nB:=(fu j us[j] rs[j] (by simp [hj]) (by simp [j1])).mono sd
   have nW:=fe (i+j) ws[i+j] (by simp [ij])
   have cA:=nA.canon;have cB:=nB.canon;have rW:=Yw i j i1 j1;rw [getD_at i1,getD_at j1] at rW;have OO:=hs i j;refine (ul _ rfl _ rfl (dL _ rfl _ rfl _ _ rfl rfl (ii fd ws _ (ws[i+j]) rfl rfl (.of ed) (by show dF ws ((0+(i:Int))+(0+(j:Int)))=_;rw [ON];exact iw (by simp [ij])) (ul _ rfl _ rfl (gt _ rfl a vs _ (vs[i]) rfl rfl (.of (sd _ _ ea)) (by show dF vs (0+(i:Int))=_;rw [Int.zero_add];exact iw (by simp [hi])) (ac _ rfl (gt _ rfl b us _ (us[j]) rfl rfl (.of (sd _ _ eb)) (by show dF us (0+(j:Int))=_;rw [Int.zero_add];exact iw (by simp [hj])) (xL td q _ _ (ps[i]) (wP (rs[j]) B2 rfl (ht.mono sd) hq nA nB (by decide +kernel) (by decide +kernel) (λv' H' s' hv=>?_))))))))))
   have mW:ar q (mulQ q ps[i] rs[j]) (f i*g j,D):=((B0 hq cA cB).2).trans rW (cA.bot.mul cB.bot);have cM:=hv.canon;have eM:mulQ q ps[i] rs[j]=da q (f i*g j) D:=gB hq cM (fK hq cT) (mW.trans (fo cT).symm cT);have bM:=zh (T:=f i*g j) hq cT iE (af OO (by decide +kernel)) bD
   have Yy:=hv.jN (B':=B2) (by rw [eM];exact bM.1) (by rw [eM];exact bM.2)
   refine (xL td q _ _ (da q (a_ i rs.length f g (i+j)+di j (f i) g i (i+j)) D) (wP (mulQ q ps[i] rs[j]) B2 rfl (ht.mono (sd.trans s')) hq (nW.mono s') Yy iE (by decide +kernel) (λv2 H2 s2 Ap=>?_)))
   have mG:=s2 _ _ (s' _ _ ed);have eA:=Gh hq cT (fK (T:=a_ i rs.length f g (i+j)+di j (f i) g i (i+j)) hq cT) cM (fo cT) mW;rw [eA] at Ap;refine (ac _ rfl (dL _ rfl _ rfl _ _ rfl rfl (ii fd ws _ (i+j) rfl rfl mG (by show fY ws.length ((0+(i:Int))+(0+(j:Int)))=_;rw [ON];unfold fY;rw [aq ⋯,aq ⋯,dI]) ?_)))
   have b7:∀b o,b≠fd->H2 b=some o->upd H2 fd (.lst (ws.set (i+j) v2)) b=some o:=λb o nb e=>by rw [cq nb];exact e
   refine (And.intro (iT (sd.trans (s'.trans s2)) mK) (i' _ _ rfl az (by rw [uD];exact ft) (λx w hw=>?_)))
   have eR:di (j+1) (f i) g i x=di j (f i) g i x+if i+j=x then f i*g j else 0:=by unfold di;rw [iA]
   by_cases zx:i+j=x
   ·subst zx
    rw [oM ij] at hw;cases hw;rw [eR,aq rfl,<-Int.add_assoc];have DU:(a_ i rs.length f g (i+j)).natAbs<=60*(60*10 ^ 270):=af (Gj (M:=10 ^ 270) λx y _ _=>hs x y) (bN ⋯ (gK _ ⋯))
    have DV:(di j (f i) g i (i+j)).natAbs<=60*10 ^ 270:=by
     unfold di;refine af (vC (M:=10 ^ 270) j _ λy hy=>?_) (gK _ ⋯)
     by_cases zz:i+y=i+j;·rw [aq zz];exact hs i y
     ·rw [ao zz];exact cn _
    have bT:(a_ i rs.length f g (i+j)+di j (f i) g i (i+j)+f i*g j).natAbs<=B2:=by refine af (af (uN ..) (oV (af (uN ..) (oV DU DV)) OO)) (by decide +kernel)
    have bb:=zh hq cT iE bT bD;exact (Ap.jN bb.1 bb.2).b7 mG b7
   ·rw [oN zx] at hw
    rw [eR,ao zx,j6];exact ((fe x w hw).mono (s'.trans s2)).b7 mG b7
  ·intro σ Hd;intros bn19 _ sd v5 ws rfl ed ft fe
   refine (lf sd _ (i' _ ws rfl ed ft (λx w hw=>?_)));have e:a_ (i+1) rs.length f g x=a_ i rs.length f g x+di us.length (f i) g i x:=by unfold a_;rw [iA,lu]
   rw [e];exact fe x w hw
 ·intro σ Hc;intros bnA _ sc bn18 v4 v5 ws rfl ef ft fe
  have hG:aD B2 Hc q fd (de q ps.length rs.length f g D (ps.length+rs.length)):=(ad ws ef (by unfold de;rw [aW,iM];lia) (λx w p x1 x2=>by
   have hx:x<ps.length+rs.length:=by rw [<-eN,<-ft];exact (dj.mp x1).1
   unfold de at x2;rw [gf] at x2;simp [hx] at x2;subst x2;have z:=fe x w x1;rw [lv] at z;exact z))
  refine (wf _ rfl _ rfl td fd q (pi _ B2 rfl (ht.mono sc) hq hG (by unfold de;rw [aW,iM];lia) (λc H' s' nc hc=>k c H' (sc.trans s') (none_of sc nc) ?_)))
  rw [Va] at hc;exact hc
theorem Yz:bH ["world","one","other","last","now","lead","height","gap","told","least","following"] ["world","one","other"] (aN CM):=b6
theorem YA(T:Txt K mg t):a8 P w K mg base ck 6 t.rS t.vY ["world","one","other"] (VV t.bL):=by
 have S:=Yz;have pV:=Ic (P:=P) (w:=w) (base:=base) T;refine T.xr.cS S (λ_ _ _ _ H vs _ _ hr h=>?_);intros bn6 h z a b bn11 q ts us W rfl bn30 hz hq ea eb lt lu L tt tu k
 refine (ac _ (ak (putL 3 S.nd (cV (aa (pv 1) (aa (cV (aa ah ag)) (aa (cV ag) ag)))))
  (ak (putL 4 S.nd (cV (aa (pv 2) (aa (cV ag) (aa (cV (aa ah ag)) ag)))))
  (ak (bI (aX jC (aS bR rfl T.bO bQ (aa (pv 1) ag)) (aS bR rfl T.bO bQ (aa (pv 2) ag))) (ak (putL 3 S.nd (cV (aa (pv 2) (aa (cV ag) (aa (cV (aa ah ag)) ag)))))
  (aw (putL 4 S.nd (cV (aa (pv 1) (aa (cV (aa ah ag)) (aa (cV ag) ag))))))) bV)
  (ak (putL 5 S.nd ah)
  (ak (putL 6 S.nd ah)
  (ak (ni fi (aX ka (aS bR rfl T.bO bQ (aa (aB cz (pv 4) ah) ag)) ah) (ak (putL 7 S.nd (aA eZ (aS bR rfl T.bO bQ (aa (aB cz (pv 3) ah) ag)) (aS bR rfl T.bO bQ (aa (aB cz (pv 4) ah) ag))))
  (ak (lV 8 S.nd (ay (Ox T) hr T.HA T.tO.kp T.Hz ax (aa (pv 0) (aa (aB cz (pv 3) ah) (aa (aB cz (pv 4) ah) ag)))))
  (ak (lV 9 S.nd (aA gO (pv 5) (ay (Ip T) hr T.DD T.pO.kp T.DC ax (aa (pv 6) (aa (pv 7) ag)))))
  (ak (W4 (i0:=10) (N:=["a","b","world","told","least"]) (ρ:=(λσ=>[σ[0]?.join,σ[8]?.join,σ[9]?.join])) (F0 [0,8,9] rfl) rfl S.nd rfl (Or.inl rfl) (FY rfl T.DM (aa (vf vh (pv 3) (vd ah) vc) (aa (vf vh (pv 4) (vd ah) vc) ag))) (λ_ _ _=>.nil) (λ_ _ _=>(ay (X4 T) hr T.Nu T.xq.kp T.Nt ax (aa (pv 2) (aa (pv 0) (aa (pv 1) (aa (aB (BS (K:=K)) (pv 3) ah) (aa (aB (BS (K:=K)) (pv 3) ah) (aa (pv 4) ag)))))))))
  (ak (putL 3 S.nd (pv 4))
  (ak (putL 4 S.nd (aA nJ (cV (aa (ay (OI T) hr T.Ht T.tL.kp T.Hs ax (aa (gM (pv 0) T.dY T.oq pV (hr.mono ∅) T.ug .nil ax (aa (aB aU (pv 8) ah) (aa (pv 9) ag))) ag)) ag)) (pv 10)))
  (ak (putL 5 S.nd (aB cz (aB cz (pv 3) ah) (je jf ah)))
  (aw (putL 6 S.nd (aB cz (gM (pv 0) T.dY T.oq pV (hr.mono ∅) T.ug .nil ax (aa (cV (aa (ay (Ip T) hr T.DD T.pO.kp T.DC ax (aa (pv 5) (aa (pv 7) ag))) ag)) (aa (ay (Ip T) hr T.DD T.pO.kp T.DC ax (aa (pv 6) (aa (aA eZ (pv 7) ah) ag))) ag))) ah)))))))))))
  (aw (aM (pv 3))))))))) ?_)
 refine gS λ_ hR=>d8 (MO rfl ea λla H1 s1 t1=>hR _ _ ?_);refine gS λ_ hR=>d8 (MP rfl (s1 _ _ eb) λlb H2 s2 t2=>hR _ _ ?_);have cE:=s1.trans s2;simp only [dm,dn,L2.start];refine gS λR Aq=>?_;have DW:∀j,∀x∈[(1:Int)],x.natAbs<=W j:=λj x hx=>by rw [jZ.mp hx];show 1<=W j;have:=L.w1 j;lia
 have DX:∀j,∀x∈([]:List Int),x.natAbs<=W j:=λj x hx=>nomatch hx;have DY:dy q [1]:=λ_=>gD hq;have DZ:dy q []:=λh=>absurd rfl h;have next:∀(la lb:Addr) (r u v r' u' v':List Int) (f g:Srs.Row) (n0 m0:Nat) (Hx:Hp),n0=max ts.length us.length->(∀n m,n<=n0->m<=n->1<=m->100*(W n*(2*W (n-1)) ^ (n-m+1))<=10 ^ 580)->ai H Hx->kl Hx la r u v->kl Hx lb r' u' v'->CI q ts us f g n0 m0 W r u v r' u' v' 1 1->CG q f g n0 m0 W->dy q u->dy q v->dy q u'->dy q v'->(r=[]->ts=[]/\us=[])->(u.length+r'.length<=n0+1/\v.length+r'.length<=n0+1/\u'.length+r.length<=n0+1/\v'.length+r.length<=n0+1)->((r'.length<r.length\/r.length=n0)/\(r.length<n0->u.length+r.length<=n0/\v.length+r.length<=n0))->R [some (.ref z),some (.ref a),some (.ref b),some (.ref la),some (.ref lb),none,none,none,none,none,none] Hx:=λla lb r u v r' u' v' f g n0 m0 Hx YB lim sx tA tB I G D7 D8 D9 D_ em ln bx=>Aq _ _ (by
  refine gS λ_ hR=>d8 (hR _ _ ?_);refine gS λ_ hR=>d8 (hR _ _ ?_);simp only [dm,dn];refine gS λR' YC=>?_;refine (ac (λm σ Hc=>∃(la lb:Addr) (r u v r' u' v':List Int) (ld ht:Int) (v7 v8 v9 v10:Option V),m=r'.length/\σ=[some (.ref z),some (.ref a),some (.ref b),some (.ref la),some (.ref lb),some (.int ld),some (.int ht),v7,v8,v9,v10]/\ai H Hc/\kl Hc la r u v/\kl Hc lb r' u' v'/\CI q ts us f g n0 m0 W r u v r' u' v' ld ht/\dy q u/\dy q v/\dy q u'/\dy q v'/\(r=[]->ts=[]/\us=[])/\(u.length+r'.length<=n0+1/\v.length+r'.length<=n0+1/\u'.length+r.length<=n0+1/\v'.length+r.length<=n0+1)/\((r'.length<r.length\/r.length=n0)/\(r.length<n0->u.length+r.length<=n0/\v.length+r.length<=n0))) (ww _ la lb r (xz u v r' u' v' 1 1 _ _ _ (wv _ rfl rfl sx tA tB I D7 D8 D9 ⟨D_,em,ln,bx⟩))) ?_);clear I tA tB D7 D8 D9 D_ em sx ln bx;intro m σ Hc;intros bn23 _ la lb r u v r' u' v' bn29 ld ht v7 v8 v9 v10 rfl rfl sc bn30 tA tB I D7 D8 D9 D_ em ln bx;have q'3:=id tA;intros bn18 q'3 a0 a1 a2 eA IA OP OQ;have q'4:=id tB;intros bn18 q'4 b0 b1 b2 eB Ar YD YE;have IC:(r'.map V.int).length=r'.length:=aW _;have lr:(r.map V.int).length=r.length:=aW _;refine (gt _ rfl lb _ _ _ rfl rfl (.of eB) rfl (ap b0 _ rfl (.inl (.of Ar)) (on _ _ rfl rfl _ rfl (cD (λhb=>?_) (λhb=>?_)))))
  ·have hb:=dM hb
   rw [IC] at hb;have ne:r'≠[]:=λe=>by rw [e] at hb;exact absurd hb ∅
   have le:=I.le;refine (ac (λσ' H2=>∃m',m'<r'.length/\∃(la lb:Addr) (r u v r' u' v':List Int) (ld ht:Int) (v7 v8 v9 v10:Option V),m'=r'.length/\σ'=[some (.ref z),some (.ref a),some (.ref b),some (.ref la),some (.ref lb),some (.int ld),some (.int ht),v7,v8,v9,v10]/\ai H H2/\kl H2 la r u v/\kl H2 lb r' u' v'/\CI q ts us f g n0 m0 W r u v r' u' v' ld ht/\dy q u/\dy q v/\dy q u'/\dy q v'/\(r=[]->ts=[]/\us=[])/\(u.length+r'.length<=n0+1/\v.length+r'.length<=n0+1/\u'.length+r.length<=n0+1/\v'.length+r.length<=n0+1)/\((r'.length<r.length\/r.length=n0)/\(r.length<n0->u.length+r.length<=n0/\v.length+r.length<=n0))) (λσ' H2 h=>h) ?_);refine gS λ_ hR=>d8 (gt _ rfl la _ _ _ rfl rfl (.of eA) rfl (ap a0 _ rfl (.inl (.of IA)) (gt _ rfl lb _ _ _ rfl rfl (.of eB) rfl (wn b0 _ rfl (.inl (.of Ar)) _ _ rfl rfl (hR _ _ ?_)))));rw [lr,IC,show (λi j:Int=>V.int (i-j)) ((r.length:Nat):Int) ((r'.length:Nat):Int)=V.int ((r.length-r'.length:Nat):Int) by
    show V.int _=V.int _
    congr 1
    lia]
   simp only [dm,dn];have S:=I.VX G lim ne;have hU:jn ht (W (r.length-1)):=I.hU G;obtain ⟨OR,OS,OT⟩:=GF I.bA;obtain ⟨OU,OV,OW⟩:=GF I.Cc;have r5:=af I.rn G.n5;have l1:1<=r'.length:=fT.mpr ne;have nr:r≠[]:=λe=>by rw [e] at le;exact absurd le (by show ¬r'.length<=0;lia)
   have ek:r.length+1-r'.length=r.length-r'.length+1:=by lia
   have S1:=S.a;rw [<-ek] at S1;refine gS λ_ hR=>d8 (ac _ rfl (gt _ rfl la _ _ _ rfl rfl (.of eA) rfl (gt _ rfl lb _ _ _ rfl rfl (.of eB) rfl (Exists.intro z (wS a0 b0 q r r' _ (wv _ rfl (hz.mono sc) hq IA Ar ⋯ ⋯ l1 OR ⟨OU,by have:=S.t;have:=S.tu;lia,S.t,S1,S.u,I.mh ne,λ_=>I.tr nr,λp8 k1 k2 bs ls aE H1 s1 e8 YF YG PI Ea=>hR _ _ ?_⟩))))))
   rw [ek] at PI Ea;have As:=PI.lb;have Au:=PI.ll;have Au:ls.length=r'.length-1:=by lia
   have agh:=G.n5;have l5:bs.length<=41:=by lia
   have pf:=PI.fin;have q'5:=I.left hq G ne As Au pf Ea;intros bn0 q'5 C hC bC;have mi:¬q∣ld*ht ^ (r.length-r'.length):=dr hq I.nl (rk hq I.nh _);have gb:(-5:Int)<=((r.length-r'.length:Nat):Int)/\((r.length-r'.length:Nat):Int)<=100/\((r.length-r'.length:Nat):Int).toNat=r.length-r'.length/\(((r.length-r'.length:Nat):Int)-1).toNat=r.length-r'.length-1/\(-5:Int)<=((r.length-r'.length:Nat):Int)-1/\((r.length-r'.length:Nat):Int)-1<=100:=⟨⋯,⋯,⋯,⋯,⋯,⋯⟩
   have mL:jn (ld*ht ^ (r.length-r'.length)) (10 ^ 580):=S.lead I.bl hU;simp only [dm,dn];have hS:∀i,i<=r.length-r'.length->jn (ht ^ i) (10 ^ 600):=λi hi=>af (S.pow hU (Nat.le_succ_of_le hi)) mj;have Av:jn ht (10 ^ 600):=af (af hU S.u) mj;refine gS λ_ hR=>d8 (li _ rfl _ rfl _ rfl (pi ht _ rfl gb.1 gb.2.1 (λi hi=>hS i (af hi (jX gb.2.2.1))) Av (i' _ _ rfl rfl ⟨f_ (af (af I.bl S.to) mj),f_ (hS _ (jX gb.2.2.1))⟩ (hR _ _ ?_))));rw [gb.2.2.1];simp only [dm,dn];generalize hL:ld*ht ^ (r.length-r'.length)=least at mi mL hC ⊢;obtain ⟨YH,YI,YJ,ID,OX,OY⟩:H1 la=some (.lst [.ref a0,.ref a1,.ref a2])/\H1 a1=some (.lst (u.map V.int))/\H1 a2=some (.lst (v.map V.int))/\H1 lb=some (.lst [.ref b0,.ref b1,.ref b2])/\H1 b1=some (.lst (u'.map V.int))/\H1 b2=some (.lst (v'.map V.int)):=⟨s1 _ _ eA,s1 _ _ OP,s1 _ _ OQ,s1 _ _ eB,s1 _ _ YD,s1 _ _ YE⟩;have Eb:=(hz.mono sc).mono s1;have turn:∀(c:Nat) (xs ys:List Int),(∀t,Lf aE (aO r u v) (ae bs) (aO r' u' v') (3*t+c)=aE*ae xs t-cv (ae bs) (ae ys) t)->(∀x∈xs,x.natAbs<=W r.length)->(∀y∈ys,y.natAbs<=W (r.length-1))->xs.length<=42->ys.length<=42->∀(aj bj:Addr) (Hc:Hp) (R:VK),ai H1 Hc->Hc aj=some (.lst (xs.map V.int))->Hc bj=some (.lst (ys.map V.int))->(∀(v:Addr) (H3:Hp) (rs:List Int),ai Hc H3->Hc v=none->H3 v=some (.lst (rs.map V.int))->rs.length<=max xs.length (bs.length+ys.length-1)->(∀t,Cg q (ae rs t) (C (3*t+c)))->Rm q rs->dy q rs->R (.ref v) H3)->MN t.bL [.ref z,.ref aj,.ref bj,.ref k1,.int aE,.int least] Hc R E0:=λc xs ys hl hx hy lx ly aj bj Hc R uk YK YL kk=>(xz z aj bj k1 q xs ys bs aE least (wv (λt=>C (3*t+c)) rfl (Eb.mono uk) hq YK YL (uk _ _ YF) ⋯ ⋯ ⋯ ⟨λx h=>⟨af (af (hx x h) S.to) mj,S.mx PI.bm (hx x h)⟩,λy h=>af (af (hy y h) S.u) mj,λb h=>S.bs (PI.bb b h),S.cv ⋯ PI.bb hy,S.aE PI.bm,af mL mj,mi,λt=>by rw [<-hl];exact hC _,kk⟩))
   refine gS λ_ hR=>d8 (UY (Z:=λzs _=>zs=[(V.ref a1,V.ref b1),(V.ref a2,V.ref b2)]) (λR h=>(dL _ rfl _ rfl la _ rfl (.of YH) (λr1 n1=>?_))) (λD j y Hx=>∃(x:Addr) (rs:List Int),y=.ref x/\x≠D/\Hx x=some (.lst (rs.map V.int))/\rs.length<=max ([u,v].getD j []).length (bs.length+([u',v'].getD j []).length-1)/\(∀t,Cg q (ae rs t) (C (3*t+(j+1))))/\Rm q rs/\dy q rs) (λD j y Ha Hb ys ⟨x,rs,h1,h2,h3,h4⟩ e f=>(i' x rs h1 h2 (f _ _ h2 h3) h4)) ?_ ?_)
   ·have q1:=aJ (o:=.lst [.ref a1,.ref a2]) n1
    refine (dL _ rfl _ rfl lb _ rfl (.of (q1 _ _ ID)) (λr2 n2=>?_));have q2:=aJ (o:=.lst [.ref b1,.ref b2]) n2;exact (i' r1 r2 rfl ⟨_,.of (q2 _ _ az)⟩ ⟨_,.of az⟩ (h _ _ _ (q1.trans q2) (F8 (.of (q2 _ _ az)) (.of az)) (jH (show 2<=1000 by decide)) rfl))
   ·rintro zs Hx rfl sx D j x y mH Hc R uk ⟨yD,eD⟩ kc
    have cE:=sx.trans uk
    match j,mH with
    | 0,mH=>cases mH;refine (li _ rfl _ rfl _ rfl (gt _ rfl p8 _ _ _ rfl rfl (.of (cE _ _ e8)) rfl (gt _ rfl p8 _ _ _ rfl rfl (.of (cE _ _ e8)) rfl (ac _ rfl ?_))));exact turn 1 u u' (λt=>VZ) OS OV ⋯ ⋯ a1 b1 Hc R cE (cE _ _ YI) (cE _ _ OX) λv3 H3 rs s3 n3 e3 l3 c3 m3 t3=>kc _ _ s3 (u8 v3 rs rfl (λz=>by rw [z,eD] at n3;cases n3) e3 l3 c3 m3 t3)
    | 1,mH=>cases mH;refine (li _ rfl _ rfl _ rfl (gt _ rfl p8 _ _ _ rfl rfl (.of (cE _ _ e8)) rfl (gt _ rfl p8 _ _ _ rfl rfl (.of (cE _ _ e8)) rfl (ac _ rfl ?_))));exact turn 2 v v' (λt=>V0) OT OW ⋯ ⋯ a2 b2 Hc R cE (cE _ _ YJ) (cE _ _ OY) λv3 H3 rs s3 n3 e3 l3 c3 m3 t3=>kc _ _ s3 (u8 v3 rs rfl (λz=>by rw [z,eD] at n3;cases n3) e3 l3 c3 m3 t3)
    | n+2,mH=>cases mH
   rintro zs Hx rfl sx D vs H2 nD s2 Gq hP eD;refine hR _ _ ?_;simp only [dm,dn];obtain ⟨x1,x2,rfl⟩:∃x1 x2,vs=[x1,x2]:=by
    match vs,Gq with
    | [x1,x2],_=>exact ⟨x1,x2,rfl⟩
   have q'6:=hP 0 _ rfl;intros bn27 q'6 f1 u2 rfl _ YM IE YN YO YQ;have q'7:=hP 1 _ rfl;intros bn27 q'7 f2 v2 rfl _ YR IF YS YT YU;have cE:=sx.trans s2;obtain ⟨dz,hd⟩:=Eb.mono cE;have p7:=Eb.mono cE;have ml:∀x∈ls,aQ x:=λx hx=>f_ (af (af (PI.bl x hx) S.a) mj);have YV:∀t,Lf aE (aO r u v) (ae bs) (aO r' u' v') (3*(t+1))=aE*ae r t-cv (ae bs) (ae r') t:=λt=>by rw [Cd];rfl
   have c0:∀t,Cg q (ae ls t) (least*C (3*(t+1))):=λt=>by refine Cg.trans ?_ (hC (3*(t+1)));rw [YV];have:=(pf t).sub (Cg.refl (q:=q) (cv (ae bs) (ae r') t));rw [Int.add_comm,Int.add_sub_cancel] at this;exact this.symm
   refine gS λ_ hR=>d8 (ac _ rfl (hR _ _ ?_));simp only [dm,dn];refine gS λ_ hR=>d8 (ce _ rfl z dz _ rfl hd (gP (by decide +kernel)) (gt _ rfl p8 _ _ _ rfl rfl (.of (cE _ _ e8)) rfl (wT _ rfl z k2 q ls least (wv (λt=>C (3*(t+1))) rfl p7 hq (cE _ _ YG) ⋯ ml (f_ (af mL mj)) mi (λi _=>c0 i) (λc5 H3 rs s3 n3 e3 lrs YW YX=>?_)))))
   refine (i' c5 rs rfl e3 ⋯ (λc6 H4 k5 s4 n4 hk Iw hn e4=>?_))
   obtain ⟨OZ,O0,YY⟩:=MM (q:=q) YX hk hn Iw;have IG:(rs.take k5).length<=r'.length-1:=by rw [oO];lia
   have O1:∀t,Cg q (ae (rs.take k5) t) (C (3*(t+1))):=λt=>by
    rw [YY];by_cases h:t<ls.length;·exact YW t h
    ·rw [cU ⋯]
     have z1:=c0 t;rw [cU ⋯] at z1
     exact zE hq mi ((Cg.of_eq (cO _)).trans z1)
   generalize rs.take k5=r2 at e4 OZ O0 IG O1;have iF:=s3.trans s4;refine ⟨by show 1<=sizeLine;decide,λl6 n6=>?_⟩
   have s6:=aJ (o:=.lst [.ref c6]) n6;refine (ac _ rfl (f8 l6 D _ _ rfl rfl az (s6 _ _ (iF _ _ eD)) (by show 3<=sizeLine;decide) (λl7 n7=>hR _ _ ?_)))
   have s7:=aJ (o:=.lst ([.ref c6]++[.ref f1,.ref f2])) n7;have ko:=s6.trans s7;have tN:kl (upd (upd H4 l6 (.lst [.ref c6])) l7 (.lst ([.ref c6]++[.ref f1,.ref f2]))) l7 r2 u2 v2:=⟨c6,f1,f2,az,ko _ _ e4,ko _ _ (iF _ _ YM),ko _ _ (iF _ _ YR)⟩;have jr:=cE.trans (iF.trans ko);generalize upd (upd H4 l6 (.lst [.ref c6])) l7 (.lst ([.ref c6]++[.ref f1,.ref f2]))=H5 at tN jr ⊢;have O2:=Eb.mono jr;obtain ⟨YZ,um⟩:=id O2;simp only [dm,dn];refine gS λ_ hR=>d8 (gt _ rfl lb _ _ _ rfl rfl (.of (jr _ _ ID)) rfl (gt _ rfl b0 _ _ _ rfl rfl (.of (jr _ _ (s1 _ _ Ar))) (B7 l1) (hR _ _ ?_)));simp only [dm,dn];obtain ⟨x,ex,Y0⟩:∃x:Int,Cg q (ae r' (r'.length-1) ^ (r.length-r'.length)) (ht ^ (r.length-r'.length-1)*x)/\(q=0->jn x (W r'.length)):=I.high hq ne;have Ec:jn (ae r' (r'.length-1)) (W (r.length-1)):=by
    have:=I.Cc (3*r'.length)
    rwa [nY l1] at this
   have nG:=I.mh ne;have lS:∀i,i<=r.length-r'.length->jn (ae r' (r'.length-1) ^ i) (10 ^ 600):=λi hi=>af (S.pow Ec (Nat.le_succ_of_le hi)) mj;have Y3:jn (ae r' (r'.length-1)) (10 ^ 600):=af (af Ec S.u) mj;have Y4:=(sc.trans s1).trans jr;have Ed:r2.length<r'.length:=ic IG (Nat.sub_lt l1 ∅)
   have Ee:u2.length+r'.length<=n0+1/\v2.length+r'.length<=n0+1/\u'.length+r2.length<=n0+1/\v'.length+r2.length<=n0+1:=by have IE:u2.length<=max u.length (bs.length+u'.length-1):=IE;have IF:v2.length<=max v.length (bs.length+v'.length-1):=IF;exact ⟨MQ IE As le ln.1 ln.2.2.1,MQ IF As le ln.2.1 ln.2.2.2,MR Ed le ln.2.2.1,MR Ed le ln.2.2.2⟩
   have Y5:=G.w1;have rn0:=I.rn;have ext:(r2.length<r'.length\/r'.length=n0)/\(r'.length<n0->u'.length+r'.length<=n0/\v'.length+r'.length<=n0):=⟨.inl Ed,λh=>by have e1:=ln.2.2.1;have e2:=ln.2.2.2;rcases bx.1 with e | e <;> exact ⟨⋯,⋯⟩⟩
   have Y6:=G.n5;have eC:∀i,Cg q (aO r2 u2 v2 i) (C i):=VY hq mi (by have:=hC 0;rwa [V1] at this) O1 YN YS
   have O3:q≠0->∀i,(aO r2 u2 v2 i).natAbs<=1000:=λq0=>zH (Ci hq (aL 1000) q0 OZ) (Ci hq (aL 1000) q0 YO) (Ci hq (aL 1000) q0 YT);rw [<-hL] at hC;have Y7:∀h2,Cg q (ae r' (r'.length-1) ^ (r.length-r'.length)) (ht ^ (r.length-r'.length-1)*h2)->jn h2 (W r'.length)->CI q ts us f g n0 m0 W r' u' v' r2 u2 v2 (ae r' (r'.length-1)) h2:=λh2 eh Y8=>I.next hq G ne As Au pf PI.nz Ea hC bC eC O3 IG O0 eh Y8;clear O3 eC hC bC pf Ea PI S1 turn hP OR OS OT OU OV OW bx;refine d8 (ce _ rfl z YZ _ rfl um (gP (by decide +kernel)) (ul _ rfl _ rfl (u8 (ae r' (r'.length-1)) _ rfl gb.1 gb.2.1 (λi hi=>lS i (af hi (jX gb.2.2.1))) Y3 (by show 1<=sizeLine;decide) (λl8 n8=>(dL _ rfl _ rfl _ _ rfl rfl (pi ht _ rfl gb.2.2.2.2.1 gb.2.2.2.2.2 (λi hi=>hS i (af (af hi (jX gb.2.2.2.1)) (Nat.sub_le _ _))) Av ?_))))))
   rw [gb.2.2.1,gb.2.2.2.1];have s8:=aJ (o:=.lst [.int (ae r' (r'.length-1) ^ (r.length-r'.length))]) n8;refine (xL z l8 q [ae r' (r'.length-1) ^ (r.length-r'.length)] (ht ^ (r.length-r'.length-1)) (wv (λ_=>x) rfl (O2.mono s8) hq az (by show 1<=500;decide) (λy hy=>by rw [jZ.mp hy];exact f_ (lS _ (aL _))) (f_ (hS _ (Nat.sub_le _ _))) (rk hq I.nh _) (λi hi=>?_) (λc9 H9 rs9 s9 n9 e9 l9 Y9 Y_=>?_)))
   ·rw [show i=0 from Nat.lt_one_iff.mp hi]
    exact ex
   obtain ⟨h2,rfl⟩:=List.length_eq_one_iff.mp l9;have O4:Cg q h2 x:=Y9 0 (by show 0<1;decide)
   refine (ii _ _ _ _ rfl rfl (.of e9) rfl ?_);have I2:=Y7 h2 (ex.trans (O4.symm.mulL _)) (by
    by_cases q0:q=0
    ·have z1:=Y0 q0
     subst q0
     rwa [mZ.mp (ie.mp O4)]
    ·exact af (Ci hq (aL 1000) q0 Y_ h2 (jZ.mpr rfl)) (Y5 _))
   exact (ac _ Ed (ut lb l7 r' (xz u' v' r2 u2 v2 _ _ _ _ _ (wv _ rfl rfl (Y4.trans (s8.trans s9)) ⟨b0,b1,b2,(s8.trans s9) _ _ (jr _ _ ID),(s8.trans s9) _ _ (jr _ _ (s1 _ _ Ar)),(s8.trans s9) _ _ (jr _ _ OX),(s8.trans s9) _ _ (jr _ _ OY)⟩ (tN.mono (s8.trans s9)) I2 D9 D_ YQ ⟨YU,λe=>absurd e ne,⟨Ee.2.2.1,Ee.2.2.2,Ee.1,Ee.2.1⟩,ext⟩))))
  ·have e0:r'=[]:=kv.mp (by rw [IC,oP] at hb;lia)
   obtain ⟨d1,d2⟩:=I.dv (ae r) (bS.self hq _) (bS.VH hq λt=>Cg.of_eq (by rw [e0];exact cU (by simp)))
   have rn:=I.rn;have Y6:=G.n5;exact YC _ _ (ac _ rfl (k la a0 a1 a2 r u v Hc sc eA IA OP OQ I.tr D7 D8 I.bz em d1 d2 ⋯ ⋯ ⋯ (by rw [<-YB];exact bx.2) λnr=>GF I.bA)))
 have O5:(ts.map V.int).length=ts.length:=aW _;have Ef:(us.map V.int).length=us.length:=aW _;refine (al _ rfl a _ rfl (.inl (.of (cE _ _ ea))) (al _ rfl b _ rfl (.inl (.of (cE _ _ eb))) (on _ _ rfl rfl _ rfl (cD (λhb=>?_) (λhb=>?_)))))
 ·have hb:=dM hb
  rw [O5,Ef] at hb;refine gS λ_ hR=>d8 (MP rfl (cE _ _ eb) λlc H3 s3 t3=>hR _ _ ?_);refine d8 (MO rfl (s3 _ _ (cE _ _ ea)) λld H4 s4 t4=>?_);obtain ⟨I,G⟩:=CI.start (ts:=ts) (us:=us) (u:=[]) (v:=[1]) (u':=[1]) (v':=[]) hq L.w1 L.am ⋯ (show ts.length<=us.length by lia) L.bu L.bt (λj=>⟨DX j,DW j,DW j,DX j⟩) tu tt (L.sA ⋯) (L.eA ⋯) (λt=>by rw [Ce,zG];lia) (λt=>by rw [Ce,zG];lia) λD d1 d2=>⟨d2,d1⟩
  refine next lc ld us [] [1] ts [1] [] _ _ _ _ H4 ⋯ (λn m a b c=>L.lim n m (.inr a) b c) (cE.trans (s3.trans s4)) (t3.mono s4) t4 I G DZ DY DY DZ (λe=>?_) ⟨by simp <;> lia,by simp <;> lia,by simp <;> lia,by simp <;> lia⟩ ⟨.inr rfl,λh=>absurd h (ib _)⟩
  have:us.length=0:=by rw [e];rfl
  lia
 ·rw [O5,Ef,oP] at hb
  obtain ⟨I,G⟩:=CI.start (ts:=ts) (us:=us) (u:=[1]) (v:=[]) (u':=[]) (v':=[1]) hq L.w1 L.am ⋯ (show us.length<=ts.length by lia) L.bt L.bu (λj=>⟨DW j,DX j,DX j,DW j⟩) tt tu (L.sB ⋯) (L.eB ⋯) (λt=>by rw [Ce,zG];lia) (λt=>by rw [Ce,zG];lia) λD d1 d2=>⟨d1,d2⟩
  refine next la lb ts [1] [] us [] [1] _ _ _ _ H2 ⋯ (λn m a b c=>L.lim n m (.inl a) b c) cE (t1.mono s2) t2 I G DY DZ DZ DY (λe=>⟨e,kv.mp ?_⟩) ⟨by simp <;> lia,by simp <;> lia,by simp <;> lia,by simp <;> lia⟩ ⟨.inr rfl,λh=>absurd h (ib _)⟩
  have:ts.length=0:=by rw [e];rfl
  lia
theorem Za:bH ["world","one","other","first","second","told","lead","u","v"] ["world","one","other"] (aN CT):=b6
theorem IH(T:Txt K mg t):a8 P w K mg base ck 9 t.r6 t.we ["world","one","other"] (V5 t.bL):=by
 have S:=Za;have p9:=Ia (P:=P) (w:=w) (base:=base) T;refine T.pP.cS S (λ_ _ _ _ H _ _ _ hr h=>?_);intros bn6 h z a b bn23 q ps rs D1 D2 f g W bn27 VB Z rfl hz hq hA hB I k
 refine (ac _ (ak (putL 3 S.nd (gM (pv 0) T.dY T.oo p9 (hr.mono ∅) T.uf .nil ax (aa (ay (xU T) hr T.tQ T.kU.kp T.tP ax (aa (pv 0) (aa (pv 1) ag))) ag)))
  (ak (putL 4 S.nd (gM (pv 0) T.dY T.oo p9 (hr.mono ∅) T.uf .nil ax (aa (ay (xU T) hr T.tQ T.kU.kp T.tP ax (aa (pv 0) (aa (pv 2) ag))) ag)))
  (ak (putL 5 S.nd (ay (YA T) hr T.Nw T.xr.kp T.Nv ax (aa (pv 0) (aa (aB aU (pv 3) ah) (aa (aB aU (pv 4) ah) ag)))))
  (ak (bI (aX eI (aS bR rfl T.bO bQ (aa (aB cz (pv 5) ah) ag)) ah) (aw (aM (iP (aa (cV ag) (aa (cV ag) (aa (cV ag) ag)))))) bV)
  (ak (putL 6 S.nd (aB cz (aB cz (pv 5) ah) (je jf ah)))
  (ak (putL 7 S.nd (ay (xV T) hr T.tS T.kW.kp T.tR ax (aa (pv 0) (aa (aB cz (pv 5) ah) (aa (aB aU (pv 3) ah) (aa (pv 6) ag))))))
  (ak (putL 8 S.nd (ay (xV T) hr T.tS T.kW.kp T.tR ax (aa (pv 0) (aa (aB cz (pv 5) ah) (aa (aB aU (pv 4) ah) (aa (pv 6) ag))))))
  (aw (aM (iP (aa (ay (xV T) hr T.tS T.kW.kp T.tR ax (aa (pv 0) (aa (aB cz (pv 5) ah) (aa ah (aa (pv 6) ag))))) (aa (pv 7) (aa (pv 8) ag))))))))))))) ?_)
 obtain ⟨dz,hd⟩:=id hz;have Zb:=iz ps;have Zc:=iz rs;have lp:=I.lp;have lr:=I.lr;have hW:=I.hW;have big:=I.big;obtain ⟨z1,II⟩:1<=Z 1/\W<=10 ^ 290:=I.zw;have Eg:10 ^ 290<=10 ^ 300:=dD ∅ ∅
 refine (ce _ rfl z dz _ rfl hd (gP (by decide +kernel)) (wf _ rfl _ rfl z a q (pi ps (10 ^ 290) rfl hz hq hA ⋯ (λca H1 s1 Iq Aw=>?_))))
 refine (xL z ca q (aF ps) (10 ^ 290) (wv D1 rfl (hz.mono s1) hq Aw ⋯ I.kP (λp hp=>I.Cj p (me hp)) Eg (by decide +kernel) ⟨af I.d1 (af II Eg),λv1 H2 ts b1 s2 n1 W1=>?_⟩))
 have cE:=s1.trans s2;have hd2:=cE _ _ hd;refine (ce _ rfl z dz _ rfl hd2 (gP (by decide +kernel)) (wf _ rfl _ rfl z b q (pi rs (10 ^ 290) rfl ⟨dz,hd2⟩ hq (hB.mono cE) ⋯ (λcb H3 s3 Iu oy=>?_))))
 refine (xL z cb q (aF rs) (10 ^ 290) (wv D2 rfl ⟨dz,s3 _ _ hd2⟩ hq oy ⋯ I.gC (λp hp=>I.Ck p (me hp)) Eg (by decide +kernel) ⟨af I.d2 (af II Eg),λv2 H4 us b2 s4 n2 W2=>?_⟩))
 intros bn10 n1 tp l rfl e1 e2 _;intros bn10 n2 oz l' rfl h_ ya _;have iF:=s3.trans s4;have e1:=iF _ _ e1;have e2:=iF _ _ e2;have mM:=cE.trans iF;have Ax:=mM _ _ hd;have lt:=W1.len;have lu:=W2.len;have cA:=Aw.cX;have cB:=oy.cX;have bT:∀x∈ts,x.natAbs<=W:=λx hx=>by
  obtain ⟨i,hi,rfl⟩:=ig hx;have df:i<(aF ps).length:=by lia
  have e:=(W1.each i df).1;rw [getD_at hi,iV df] at e;exact vF hq hW (by rw [<-iV df];exact cH hq cA i) e W1.ok I.kP W1.dvd (I.w1 i) (I.t1 i)
 have bU:∀x∈us,x.natAbs<=W:=λx hx=>by
  obtain ⟨i,hi,rfl⟩:=ig hx;have df:i<(aF rs).length:=by lia
  have e:=(W2.each i df).1;rw [getD_at hi,iV df] at e;exact vF hq hW (by rw [<-iV df];exact cH hq cB i) e W2.ok I.gC W2.dvd (I.w2 i) (I.u2 i)
 have Zd:q=0->∀x∈us,x.natAbs<=VB:=λq0 x hx=>by
  obtain ⟨i,hi,rfl⟩:=ig hx;have df:i<(aF rs).length:=by lia
  have e:=(W2.each i df).1;rw [getD_at hi,iV df] at e;have c1:=cH hq cB i;have c2:=W2.ok;have c3:=I.gC;have c4:=I.w2 i;have c5:=I.u3 q0 i;rw [iV df] at c1;subst q0;exact V4 c1 e c2 c3 W2.dvd c4 c5
 have LT:=I.lim ts us lt lu bT bU Zd;have tT:dy q ts:=λne=>by
  have t1:=fT.mpr ne;have df:ts.length-1<(aF ps).length:=by lia
  have e:=(W1.each _ df).1;refine B9 hq (cH hq cA _) ?_ e W1.ok;rw [lt];exact q_ ⋯
 have tU:dy q us:=λne=>by
  have t1:=fT.mpr ne;have df:us.length-1<(aF rs).length:=by lia
  have e:=(W2.each _ df).1;refine B9 hq (cH hq cB _) ?_ e W2.ok;rw [lu];exact q_ ⋯
 have p7:D1≠0:=λe=>I.kP.nz hq (by rw [e];exact dA q)
 have yb:D2≠0:=λe=>I.gC.nz hq (by rw [e];exact dA q)
 have gY:jn b1 W:=af (ki W1.dvd p7) I.d1;have oA:jn b2 W:=af (ki W2.dvd yb) I.d2;have hP:=B8 (q:=q) (b:=b1) lt λk hk=>⟨0,by have:=(W1.each k hk).1;dsimp only;lia⟩
 have hR:=B8 (q:=q) (b:=b2) lu λk hk=>⟨0,by have:=(W2.each k hk).1;dsimp only;lia⟩
 have c1:=I.c1;have c2:=I.c2;dsimp only [bo];refine (ac _ rfl (gt _ rfl tp _ _ _ rfl rfl (.of e1) rfl (gt _ rfl oz _ _ _ rfl rfl (.of h_) rfl (wS z l l' q ts us (wv Z rfl ⟨dz,Ax⟩ hq e2 ya ⋯ ⋯ LT tT ⟨tU,λp l0 l1 l2 r u v H5 s5 ep xW IJ IK tr tu tv bz em d1 d2 lr5 lu5 lv5 ext Ze=>?_⟩)))))
 have um:=s5 _ _ Ax;have fO:=mM.trans s5;dsimp only [bo];refine (gt _ rfl p _ _ _ rfl rfl (.of ep) rfl (ap l0 (r.map V.int) rfl (.inl (.of xW)) (im rfl _ rfl (cD (λh0=>?_) (λh0=>?_)))))
 ·have r0:r=[]:=kv.mp (by simpa using h0)
  obtain ⟨t0,u0⟩:=em r0;subst r0 t0 u0;have q1:aF ps=[]:=kv.mp (by rw [<-lt];rfl)
  have q2:aF rs=[]:=kv.mp (by rw [<-lu];rfl)
  have wz:=z1;have Zf:([]:List Int).length<max (aF ps).length (aF rs).length->([]:List Int).length+([]:List Int).length<=max (aF ps).length (aF rs).length/\([]:List Int).length+([]:List Int).length<=max (aF ps).length (aF rs).length:=λ_=>⟨cn _,cn _⟩;refine ⟨cn _,λm0 n0=>⟨cn _,λm1 n1=>⟨cn _,λm2 n2=>⟨by show 3<=sizeLine;decide,λpp np=>?_⟩⟩⟩⟩
  have t1:=aJ (o:=.lst []) n0;have t2:=aJ (o:=.lst []) n1;have t3:=aJ (o:=.lst []) n2;have t4:=aJ (o:=.tup [.ref m0,.ref m1,.ref m2]) np;have ne1:m0≠m1:=λe=>by rw [<-e,az] at n1;cases n1
  have ne2:m0≠m2:=λe=>by rw [<-e,t2 _ _ az] at n2;cases n2
  have ne3:m1≠m2:=λe=>by rw [<-e,az] at n2;cases n2
  exact k pp m0 m1 m2 [] [] [] [] [] [] [] [] b1 b2 1 _ (fO.trans (t1.trans (t2.trans (t3.trans t4)))) az (none_of fO n0) (none_of (fO.trans t1) n1) (none_of (fO.trans (t1.trans t2)) n2) ne1 ne2 ne3 (GG (t4 _ _ (t3 _ _ (t2 _ _ az)))) (GG (t4 _ _ (t3 _ _ az))) (GG (t4 _ _ az)) rfl rfl rfl (cn _) (cn _) (cn _) Zf (λx h=>nomatch h) (λx h=>nomatch h) (λx h=>nomatch h) (λx h=>nomatch h) (λx h=>nomatch h) gY oA wz
   ⟨W1.ok,W2.ok,hP,hR,gD hq,λi h=>absurd h (mU _),λi h=>absurd h (mU _),λi h=>absurd h (mU _),rfl,rfl,rfl,λt=>by rw [zG];exact Cg.of_eq rfl,d1,d2,λ_=>⟨q1,q2,rfl,rfl⟩,λh=>absurd rfl h,λh=>absurd rfl h⟩
 ·have rn:r≠[]:=λe=>h0 (by rw [e];rfl)
  have uo:=fT.mpr rn;obtain ⟨Cf,GI,Zg⟩:=Ze rn;have zL:Z r.length<=Z 1:=LT.am _ _ uo;have br:=λx hx=>af (Cf x hx) zL;have bu:=λx hx=>af (GI x hx) zL;have bv:=λx hx=>af (Zg x hx) zL;have nG:=tr rn;have zB:Z 1<=10 ^ 290:=af (fS _ ⋯) big
  have oB:∀{x:Int},x.natAbs<=10 ^ 290->aQ x:=λh=>f_ (af h (dD ∅ ∅))
  have wB:W<=10 ^ 290:=II;generalize rD:ae r (r.length-1)=ld at nG;have p_:jn ld (Z 1):=by rw [<-rD];exact jo br _
  have yc:jn ld (10 ^ 290):=af p_ zB;have mul:∀(x y:Int),x.natAbs<=Z 1->y.natAbs<=W->(x*y).natAbs<=B2:=λx y hx hy=>by rw [aZ];exact af (bN hx hy) big
  dsimp only [d5];refine (gt _ rfl p _ _ _ rfl rfl (.of ep) rfl (gt _ rfl l0 _ _ _ rfl rfl (.of xW) (B7 uo) ?_));rw [show r.getD (r.length-1) 0=ld from rD];dsimp only [bo];refine (ac _ rfl (gt _ rfl p _ _ _ rfl rfl (.of ep) rfl (gt _ rfl tp _ _ _ rfl rfl (.of (s5 _ _ e1)) rfl (ac _ rfl (wS z l1 q b1 ld u (wv B2 rfl ⟨dz,um⟩ hq IJ ⋯ nG (oB yc) (oB (af gY wB)) (λx hx=>oB (af (bu x hx) zB)) ⟨yc,λx hx=>mul _ _ (bu x hx) gY,λr1 Cz H6 s6 IL IM O6 O7=>?_⟩))))))
  have Ay:=s6 _ _ um;dsimp only [bo];refine (ac _ rfl (gt _ rfl p _ _ _ rfl rfl (.of (s6 _ _ ep)) rfl (gt _ rfl oz _ _ _ rfl rfl (.of (s6 _ _ (s5 _ _ h_))) rfl (ac _ rfl (wS z l2 q b2 ld v (wv B2 rfl ⟨dz,Ay⟩ hq (s6 _ _ IK) ⋯ nG (oB yc) (oB (af oA wB)) (λx hx=>oB (af (bv x hx) zB)) ⟨yc,λx hx=>mul _ _ (bv x hx) oA,λr2 rF H7 s7 Eh IP O8 O9=>?_⟩))))))
  have Zh:=s7 _ _ Ay;have ko:=s6.trans s7;dsimp only [bo];refine (ac _ rfl (gt _ rfl p _ _ _ rfl rfl (.of (ko _ _ ep)) rfl (ac _ rfl (wS z l0 q 1 ld r (wv B2 rfl ⟨dz,Zh⟩ hq (ko _ _ xW) ⋯ nG (oB yc) (oB ∅) (λx hx=>oB (af (br x hx) zB)) ⟨yc,λx hx=>mul _ _ (br x hx) (by show 1<=W;lia),λr3 gs H8 s8 ur O_ Ei Pa=>?_⟩)))))
  refine (ac _ rfl (ad _ rfl (by show 3<=sizeLine;decide) (λpp qa=>?_)))
  have sp:=aJ (o:=.tup [.ref r3,.ref r1,.ref r2]) qa;have oC:=s7.trans s8;have Zi:=s6.trans oC;obtain ⟨_,eu,_⟩:=id IM;obtain ⟨_,ev,_⟩:=id IP;have ne1:r3≠r1:=λe=>by rw [e,s7 _ _ eu] at ur;cases ur
  have ne2:r3≠r2:=λe=>by rw [e,ev] at ur;cases ur
  have ne3:r1≠r2:=λe=>by rw [<-e,eu] at Eh;cases Eh
  refine k pp r3 r1 r2 gs Cz rF ts us r u v b1 b2 ld _ (fO.trans (Zi.trans sp)) az (none_of (fO.trans ko) ur) (none_of fO IL) (none_of (fO.trans s6) Eh) ne1 ne2 ne3 (O_.mono sp) (IM.mono (oC.trans sp)) (IP.mono (s8.trans sp)) (zu λh=>?_) (zu λh=>?_) (zu λh=>?_) ⋯ ⋯ ⋯ (by rw [<-lt,<-lu];exact ext) Cf bu bv bT bU gY oA p_
   ⟨W1.ok,W2.ok,hP,hR,nG,λi h=>Pa i ⋯,λi h=>O7 i ⋯,λi h=>O9 i ⋯,Ei,O6,O8,bz,d1,d2,λe=>absurd (by rw [e] at Ei;exact Ei.symm) (Nat.ne_of_gt uo),λ_=>rD.symm,tr⟩
  ·refine Gx hq (cH hq O_.cX _) ?_ (Pa _ ⋯)
   rw [Ei];refine dr hq ?_ (gD hq);rw [show r.getD (r.length-1) 0=ld from rD];exact nG
  ·refine Gx hq (cH hq IM.cX _) ?_ (O7 _ ⋯)
   rw [O6];exact dr hq (tu (fT.mp ⋯)) (W1.ok.nz hq)
  ·refine Gx hq (cH hq IP.cX _) ?_ (O9 _ ⋯)
   rw [O8];exact dr hq (tv (fT.mp ⋯)) (W2.ok.nz hq)
theorem Zj:bH ["world","one","other","first","second","told","bottom","by"] ["world","one","other"] (aN CS):=b6
theorem Pb(T:Txt K mg t):a8 P w K mg base (e_ P w) 7 t.rZ t.wd ["world","one","other"] (WN t.bL):=by
 have S:=Zj;have p9:=Ia (P:=P) (w:=w) (base:=base) T;refine T.tV.fI S (λ_ _ _ _ H _ _ _ hr h L=>?_);intros bn17 h z a b q ps rs bn23 D1 D2 f g TT U LL BB bn30 rfl hz hq hA hB cj Zk Cc Pc k
 refine (ac _ (ak (putL 3 S.nd (gM (pv 0) T.dY T.oo p9 (hr.mono ∅) T.uf .nil ax (aa (ay (xU T) hr T.tQ T.kU.kp T.tP ax (aa (pv 0) (aa (pv 1) ag))) ag)))
  (ak (putL 4 S.nd (gM (pv 0) T.dY T.oo p9 (hr.mono ∅) T.uf .nil ax (aa (ay (xU T) hr T.tQ T.kU.kp T.tP ax (aa (pv 0) (aa (pv 2) ag))) ag)))
  (ak (bI (aX eI (aS bR rfl T.bO bQ (aa (aB aU (pv 4) ah) ag)) ah) (aw (vp L rfl uR T.DN rfl T.DK (aa fk ag))) bV)
  (ak (putL 5 S.nd (ay (Ox T) hr T.HA T.tO.kp T.Hz ax (aa (pv 0) (aa (aB aU (pv 3) ah) (aa (aB aU (pv 4) ah) ag)))))
  (ak (putL 6 S.nd (aA gO (aB aU (pv 5) ah) (aB aU (pv 3) ah)))
  (ak (putL 7 S.nd (ay (xV T) hr T.tS T.kW.kp T.tR ax (aa (pv 0) (aa (aB aU (pv 5) ah) (aa (aB aU (pv 4) ah) (aa (pv 6) ag))))))
  (aw (aM (iP (aa (pv 7) (aa (ay (xU T) hr T.tQ T.kU.kp T.tP ax (aa (pv 0) (aa (ay (xV T) hr T.tS T.kW.kp T.tR ax (aa (pv 0) (aa (aB aU (pv 5) ah) (aa ah (aa (pv 6) ag))))) ag))) ag))))))))))) ?_)
 obtain ⟨dz,hd⟩:=id hz;obtain ⟨lp,lr,kP,gC,Cj,Ck,w1,w2,t1,u2,hT,hU,d2,d1,Cp,hc,len,big,GQ⟩:=id cj;have Zb:=iz ps;have Zc:=iz rs;have n_:10 ^ 290<=10 ^ 300:=dD ∅ ∅
 refine (ce _ rfl z dz _ rfl hd (gP (by decide +kernel)) (wf _ rfl _ rfl z a q (pi ps (10 ^ 290) rfl hz hq hA ⋯ (λca H1 s1 Iq Aw=>?_))))
 refine (xL z ca q (aF ps) (10 ^ 290) (wv D1 rfl (hz.mono s1) hq Aw ⋯ kP (λp hp=>Cj p (me hp)) n_ (by decide +kernel) ⟨af d1 n_,λv1 H2 ts b1 s2 n1 W1=>?_⟩))
 have cE:=s1.trans s2;have hd2:=cE _ _ hd;refine (ce _ rfl z dz _ rfl hd2 (gP (by decide +kernel)) (wf _ rfl _ rfl z b q (pi rs (10 ^ 290) rfl ⟨dz,hd2⟩ hq (hB.mono cE) ⋯ (λcb H3 s3 Iu oy=>?_))))
 refine (xL z cb q (aF rs) (10 ^ 290) (wv D2 rfl ⟨dz,s3 _ _ hd2⟩ hq oy ⋯ gC (λp hp=>Ck p (me hp)) n_ (by decide +kernel) ⟨af d2 (af Cp n_),λv2 H4 us b2 s4 n2 W2=>?_⟩))
 intros bn10 n1 tp l rfl e1 e2 _;intros bn10 n2 oz l' rfl h_ ya _;have iF:=s3.trans s4;have e1:=iF _ _ e1;have e2:=iF _ _ e2;have mM:=cE.trans iF;have Ax:=mM _ _ hd;have lt:=W1.len;have lu:=W2.len;dsimp only [bo];refine (gt _ rfl oz _ _ _ rfl rfl (.of h_) rfl (ap l' (us.map V.int) rfl (.inl (.of ya)) (im rfl _ rfl (cD (λh0=>?_) (λh0=>?_)))))
 ·have z0:us.length=0:=by simpa using h0
  exact absurd (kv.mp ⋯) hc
 ·have u1:1<=us.length:=by
   have:¬us.length=0:=λe=>h0 (by simp [e])
   lia
  dsimp only [d5];have cA:=Aw.cX;have cB:=oy.cX;have bT:∀x∈ts,x.natAbs<=TT:=λx hx=>by
   obtain ⟨i,hi,rfl⟩:=ig hx;have df:i<(aF ps).length:=by lia
   have e:=(W1.each i df).1;rw [getD_at hi,iV df] at e;exact vF hq hT (by rw [<-iV df];exact cH hq cA i) e W1.ok kP W1.dvd (w1 i) (t1 i)
  have bU:∀x∈us,x.natAbs<=U:=λx hx=>by
   obtain ⟨i,hi,rfl⟩:=ig hx;have df:i<(aF rs).length:=by lia
   have e:=(W2.each i df).1;rw [getD_at hi,iV df] at e;exact vF hq hU (by rw [<-iV df];exact cH hq cB i) e W2.ok gC W2.dvd (w2 i) (u2 i)
  have lz:¬q∣us.getD (us.length-1) 0:=by
   have df:us.length-1<(aF rs).length:=by lia
   have e:=(W2.each _ df).1;refine B9 hq (cH hq cB _) ?_ e W2.ok;rw [lu];exact q_ ⋯
  have tz:1<=ts.length->¬q∣ts.getD (ts.length-1) 0:=λt1=>by
   have df:ts.length-1<(aF ps).length:=by lia
   have e:=(W1.each _ df).1;refine B9 hq (cH hq cA _) ?_ e W1.ok;rw [lt];exact q_ ⋯
  generalize hn:ts.length+1-us.length=n;have nL:n<=LL:=by lia
  have pw:(2*U) ^ n<=(2*U) ^ LL:=dD ⋯ nL
  have pW:TT*(2*U) ^ n<=10 ^ 570:=af (dJ TT pw) big;have p7:D1≠0:=λe=>kP.nz hq (by rw [e];exact dA q)
  have yb:D2≠0:=λe=>gC.nz hq (by rw [e];exact dA q)
  have gY:b1.natAbs<=D1.natAbs:=ki W1.dvd p7;have oA:b2.natAbs<=U:=af (ki W2.dvd yb) d2;have yd:10 ^ 570<=10 ^ 580:=dD ∅ ∅
  have IQ:10 ^ 290<=10 ^ 580:=dD ∅ ∅
  refine (ac _ rfl (gt _ rfl tp _ _ _ rfl rfl (.of e1) rfl (gt _ rfl oz _ _ _ rfl rfl (.of h_) rfl (Exists.intro z (wS l l' q ts us TT (wv U rfl ⟨dz,Ax⟩ hq e2 ya ⋯ ⋯ u1 bT ⟨bU,⋯,hT,by rw [hn];exact af pW yd,af Cp IQ,lz,λh=>tz ⋯,λp l1 l2 bs ls aE H5 s5 ep IJ IK I _=>?_⟩))))))
  rw [hn] at I;have um:=s5 _ _ Ax;have Ij:aE.natAbs<=10 ^ 580:=af I.bm (af (gK _ hT) (af pW yd));have bM:(aE*b1).natAbs<=10 ^ 580:=by rw [aZ];exact af (af (bN (af I.bm (dJ 1000 pw)) gY) GQ) yd
  have nM:=dr hq I.nz (W1.ok.nz hq);have Ii:∀x∈bs,x.natAbs<=10 ^ 580:=λx hx=>af (af (fS _ ⋯) (I.bb x hx)) (af pW yd)
  have Ag:∀x∈ls,x.natAbs<=10 ^ 580:=λx hx=>af (I.bl x hx) (af pW yd);have As:=I.lb;have ago:=I.ll;dsimp only [bo];refine (gt _ rfl p _ _ _ rfl rfl (.of ep) rfl (gt _ rfl tp _ _ _ rfl rfl (.of (s5 _ _ e1)) rfl (i' _ _ rfl rfl ⟨rB Ij,rB (af gY (af d1 IQ))⟩ ?_)));refine (ac _ rfl (gt _ rfl p _ _ _ rfl rfl (.of ep) rfl (gt _ rfl oz _ _ _ rfl rfl (.of (s5 _ _ h_)) rfl (ac _ rfl (wS z l1 q b2 (aE*b1) bs (wv (10 ^ 580) rfl ⟨dz,um⟩ hq IJ ⋯ nM (rB bM) (rB (af oA (af Cp IQ))) (λx hx=>rB (Ii x hx)) ⟨bM,λx hx=>?_,λr1 aV H6 s6 IL Pd lby IS=>?_⟩))))))
  ·rw [aZ]
   exact af (dJ _ (af oA (show U<=2*U by lia))) (af (I.bb x hx) (af pW yd))
  have Ay:=s6 _ _ um;dsimp only [bo];refine (li _ rfl _ rfl _ rfl (gt _ rfl p _ _ _ rfl rfl (.of (s6 _ _ ep)) rfl (ac _ rfl (wS z l2 q 1 (aE*b1) ls (wv (10 ^ 580) rfl ⟨dz,Ay⟩ hq (s6 _ _ IK) ⋯ nM (rB bM) (aQ.of_lt ∅ ∅) (λx hx=>rB (Ag x hx)) ⟨bM,λx hx=>?_,λr2 IT H7 s7 Eh Ej Au Zl=>?_⟩)))))
  ·rw [dC]
   exact Ag x hx
  refine (Exists.intro z (f8 r2 q IT (10 ^ 580) rfl ⟨dz,s7 _ _ Ay⟩ hq Ej ⋯ (λr3 H8 s8 ur Pe=>?_)))
  refine ⟨by show 2<=sizeLine;decide,λpp qa=>?_⟩
  have sp:ai H8 (upd H8 pp (.tup [.ref r1,.ref r3])):=aJ qa;have fO:=mM.trans s5;have oC:=s7.trans s8;have agq:=iz IT;have fO:=mM.trans s5;have zP:=Pd.cX;have Zm:=Ej.cX;have Pf:=Vw hq Zm Au (λk hk=>Zl k hk);obtain ⟨D,F,G,cT,hF,hG,ye,ox⟩:=WI hq nM W2.ok zP Pe.cX (λi hi=>IS i ⋯) Pf
  have hP:=B8 (q:=q) (b:=b1) lt λk hk=>⟨0,by have:=(W1.each k hk).1;dsimp only;lia⟩
  have hR:=B8 (q:=q) (b:=b2) lu λk hk=>⟨0,by have:=(W2.each k hk).1;dsimp only;lia⟩
  have Pg:aV.length=n:=by lia
  have PD:=Vt hq I.nz W1.ok W2.ok cT (λk=>by have e:=I.eq k;rw [k_,B6,<-Pg] at e;exact e) ⋯ hP hR (λi hi=>IS i ⋯) Pf hF hG
  have Zn:TT*(2*U) ^ n<=BB:=af (dJ TT pw) Zk;have Zo:b2.natAbs<=2*U:=af oA ⋯
  have Zp:(aE*b1).natAbs<=BB:=by rw [aZ];exact af (bN (af I.bm (dJ 1000 pw)) gY) Cc
  have uW:q≠0->∀j,(ae us j).natAbs<=1000:=λz0 j=>by
   have q3:q<=997:=by rcases hq with h | h <;> lia
   by_cases hj:j<us.length
   ·have e:=(W2.each j ⋯).1
    have c:=(cH hq oy.cX j).2 z0;have b1:=W2.ok.2 z0;show (us.getD j 0).natAbs<=1000;rw [c.1,b1,dC,dC] at e;rw [e];lia
   ·rw [cU ⋯]
    exact cn _
  have Ph:∀(i:Nat) (x:Int),x.natAbs<=2*U->(q≠0->x.natAbs<=1000)->((if i<n then F i else 0)*x).natAbs<=BB:=λi x hx E8=>by
   rw [aZ]
   split
   ·by_cases z0:q=0
    ·by_cases hi:i<bs.length
     ·have m:bs.getD i 0∈bs:=by rw [getD_at hi];exact gZ _
      exact af (bN ((ye z0).2 i) hx) (af (I.bb _ m) Zn)
     ·have h:=(ye z0).2 i
      rw [cF ⋯] at h
      rw [show (F i).natAbs=0 by simpa using h,Nat.zero_mul]
      exact cn _
    ·exact af (bN ((ox z0).2 i) (E8 z0)) (af ∅ Pc)
   ·rw [show (0:Int).natAbs=0 from rfl,Nat.zero_mul]
    exact cn _
  have wb:∀i,ar q (aV.getD i o1) ((if i<n then F i else 0)*b2,D):=λi=>by
   by_cases hi:i<n
   ·rw [aq hi]
    exact WK hq nM (IS i ⋯) (hF i ⋯)
   ·rw [ao hi,cF ⋯,gh]
    exact rg
  refine k pp r1 r3 aV (aF IT) D b2 (λi=>if i<n then F i else 0) G (ae us) _ (fO.trans (s6.trans (oC.trans sp))) az (none_of fO IL) (none_of (fO.trans (s6.trans s7)) ur) (Pd.mono (oC.trans sp)) (Pe.mono sp) ⋯ ⋯ (Gv _) ⟨cT,W2.ok,hR,λj hj=>cU ⋯,wb,λi hi=>ao ⋯,PD.left,λk=>?_,?_,λi j=>Ph i _ (af (jo bU j) ⋯) λz0=>uW z0 j,λi=>Ph i _ Zo λz0=>by rw [W2.ok.2 z0];decide,λp hp=>?_⟩
  ·have w:=PD.whole k
   rw [show a_ aV.length rs.length F (λj=>us.getD j 0) k=cv (λi=>if i<n then F i else 0) (ae us) k from ?_] at w
   ·exact w
   ·rw [<-pH (n:=aV.length) (m:=rs.length) (λi hi=>ao ⋯) (λj hj=>cU ⋯)]
    unfold a_;refine dt λi hi=>?_;dsimp only;rw [aq ⋯]
    rfl
  ·by_cases z0:q=0
   ·exact af (ye z0).1 Zp
   ·rw [(ox z0).1]
    exact af ∅ Pc
  ·obtain ⟨i,hi,rfl⟩:=ig hp
   have w:=wb i;rw [getD_at hi] at w;rw [gB hq (zP _ hp) (fK hq cT) (w.trans (fo cT).symm cT)];exact zi cT
theorem Zq:bH ["world","one","other","first","second"] ["world","one","other"] (aN CQ):=b6
theorem Zr(T:Txt K mg t):a8 P w K mg base ck 6 t.rY t.wc ["world","one","other"] (Wc t.bL):=by
 have S:=Zq;have p9:=Ia (P:=P) (w:=w) (base:=base) T;refine T.xt.cS S (λ_ _ _ _ H _ _ _ hr h=>?_);intros bn17 h z a b q ps rs bn23 D1 D2 f g X1 X2 Y1 Y2 bn27 L1 L2 rfl hz hq hA hB Yu bn30 Yv h1 h2 x1 x2 bX y1 y2 bY k
 refine (ac _ (ak (putL 3 S.nd (gM (pv 0) T.dY T.oo p9 (hr.mono ∅) T.uf .nil ax (aa (pv 1) ag)))
  (ak (putL 4 S.nd (gM (pv 0) T.dY T.oo p9 (hr.mono ∅) T.uf .nil ax (aa (pv 2) ag)))
  (aw (aM (ay (xU T) hr T.tQ T.kU.kp T.tP ax (aa (pv 0) (aa (ay (xV T) hr T.tS T.kW.kp T.tR ax (aa (pv 0) (aa (ay (Ou T) hr T.Hv T.tM.kp T.Hu ax (aa (aB aU (pv 3) ah) (aa (aB aU (pv 4) ah) ag))) (aa ah (aa (aA gO (aB aU (pv 3) ah) (aB aU (pv 4) ah)) ag))))) ag))))))) ?_)
 obtain ⟨dz,hd⟩:=id hz;have p7:D1≠0:=λe=>h1.ok.nz hq (by rw [e];exact dA q)
 have yb:D2≠0:=λe=>h2.ok.nz hq (by rw [e];exact dA q)
 have Zs:X1<=10 ^ 270:=af (fS _ ⋯) bX
 have IU:X2<=10 ^ 270:=af (iL _ ⋯) bX
 have DU:D1.natAbs<=10 ^ 270:=af h1.bD (af (fS _ ⋯) bY)
 have DV:D2.natAbs<=10 ^ 270:=af h2.bD (af (iL _ ⋯) bY)
 have oE:10 ^ 270<=10 ^ 300:=dD ∅ ∅
 have Pj:B2<=10 ^ 300:=by unfold B2;exact dD ∅ ∅
 have iE:1000<=B2:=by decide +kernel
 refine (ce _ rfl z dz _ rfl hd (gP (by decide +kernel)) (wT _ rfl z a q ps B2 (wv D1 rfl ⟨dz,hd⟩ hq hA ⋯ h1.ok h1.dvd Pj iE ⟨af DU oE,λv1 H1 ts b1 s1 n1 w1=>?_⟩)))
 have ou:=s1 _ _ hd;refine (ce _ rfl z dz _ rfl ou (gP (by decide +kernel)) (wT _ rfl z b q rs B2 (wv D2 rfl ⟨dz,ou⟩ hq (hB.mono s1) ⋯ h2.ok h2.dvd Pj iE ⟨af DV oE,λv2 H2 us b2 s2 n2 w2=>?_⟩)))
 intros bn10 n1 tp l rfl e1 e2 _;intros bn10 n2 oz l' rfl h_ ya _;have e1:=s2 _ _ e1;have e2:=s2 _ _ e2;have lt:=w1.len;have lu:=w2.len;have cA:=hA.cX;have cB:=hB.cX;have Az:∀{x:Int},x.natAbs<=10 ^ 270->aQ x:=λh=>M0 (af h (dD ∅ ∅))
 have bT:∀x∈ts,x.natAbs<=X1:=λx hx=>by
  obtain ⟨i,hi,rfl⟩:=ig hx;have e:=(w1.each i ⋯).1
  rw [getD_at hi] at e;exact vF hq x1 (cH hq cA i) e w1.ok h1.ok w1.dvd (h1.w i) (h1.bf i)
 have bU:∀x∈us,x.natAbs<=X2:=λx hx=>by
  obtain ⟨i,hi,rfl⟩:=ig hx;have e:=(w2.each i ⋯).1
  rw [getD_at hi] at e;exact vF hq x2 (cH hq cB i) e w2.ok h2.ok w2.dvd (h2.w i) (h2.bf i)
 have mt:∀t∈ts,aQ t:=λx hx=>Az (af (bT x hx) Zs);have mu:∀t∈us,aQ t:=λx hx=>Az (af (bU x hx) IU);have rep1:∀i,i<ps.length->ar q (ts.getD i 0,b1) (f i,D1):=λi hi=>by
  have a:=(w1.each i hi).1;have w:ar q (ps.getD i o1) (ts.getD i 0,b1):=⟨0,by dsimp only;rw [a];lia⟩
  exact w.symm.trans (h1.w i) (cH hq cA i).bot
 have rep2:∀i,i<rs.length->ar q (us.getD i 0,b2) (g i,D2):=λi hi=>by
  have a:=(w2.each i hi).1;have w:ar q (rs.getD i o1) (us.getD i 0,b2):=⟨0,by dsimp only;rw [a];lia⟩
  exact w.symm.trans (h2.w i) (cH hq cB i).bot
 have Zu:b1.natAbs<=10 ^ 270:=af (ki w1.dvd p7) DU;have Zv:b2.natAbs<=10 ^ 270:=af (ki w2.dvd yb) DV;have bb:(b1*b2).natAbs<=10 ^ 270:=by rw [aZ];exact af (bN (af (ki w1.dvd p7) h1.bD) (af (ki w2.dvd yb) h2.bD)) bY
 have Zw:10 ^ 270<=B2:=by unfold B2;exact dD ∅ ∅
 have cE:=s1.trans s2;have hd2:=cE _ _ hd;refine (ul _ rfl _ rfl (gt _ rfl tp _ _ _ rfl rfl (.of e1) rfl (gt _ rfl oz _ _ _ rfl rfl (.of h_) rfl (ol l l' ts us rfl e2 ya mt mu ⋯ ⟨⋯,λc3 H3 s3 OF Im=>?_⟩))))
 have Pk:∀x∈iU ts us,x.natAbs<=B2:=λx hx=>by
  unfold iU at hx;obtain ⟨k,_,rfl⟩:=fQ.mp hx;refine af (Gj (M:=10 ^ 270) λi j hi hj=>?_) (af (bN (show ts.length<=50 by lia) (gK (10 ^ 270) (show us.length<=50 by lia))) (by decide +kernel))
  rw [aZ];exact af (bN (pF bT i) (pF bU j)) bX
 have lcv:(iU ts us).length=ts.length+us.length-1:=by unfold iU;rw [aW,iM]
 refine (gt _ rfl tp _ _ _ rfl rfl (.of (s3 _ _ e1)) rfl (gt _ rfl oz _ _ _ rfl rfl (.of (s3 _ _ h_)) rfl (i' _ _ rfl rfl ⟨Az Zu,Az Zv⟩ (wS z c3 q 1 (b1*b2) (iU ts us) (wv B2 rfl ⟨dz,s3 _ _ hd2⟩ hq Im ⋯ ((w1.ok.mul w2.ok).nz hq) (Az bb) (aQ.of_lt ∅ ∅) (λx hx=>M0 (Pk x hx)) ⟨af bb Zw,λx hx=>by rw [dC];exact Pk x hx,λc4 xs H4 s4 Ai hG lG wG=>?_⟩)))))
 have eG:xs=de q ps.length rs.length f g (D1*D2) (ps.length+rs.length-1):=by
  have cG:=hG.cX;refine uP (by unfold de;rw [aW,iM];lia) λi i1 i2=>?_
  have e3:(de q ps.length rs.length f g (D1*D2) (ps.length+rs.length-1))[i]=da q (a_ ps.length rs.length f g i) (D1*D2):=by rw [<-getD_at (d:=o1) i2];exact zA ⋯
  rw [e3];have w:=wG i ⋯
  rw [getD_at i1,getD_at (show i<(iU ts us).length by lia),dC] at w
  have e4:(iU ts us)[i]'(⋯)=a_ ts.length us.length (λi=>ts.getD i 0) (λj=>us.getD j 0) i:=by
   rw [<-getD_at (d:=(0:Int)) (show i<(iU ts us).length by lia)]
   exact zA ⋯
  rw [e4,lt,lu] at w;refine gB hq (cG _ (gZ _)) (fK hq (h1.ok.mul h2.ok)) ?_;exact (w.trans (U8 rep1 rep2 i) (w1.ok.mul w2.ok)).trans (fo (h1.ok.mul h2.ok)).symm (h1.ok.mul h2.ok)
 rw [eG] at hG;have Pl:=cE.trans (s3.trans s4);refine ⟨z,c4,q,_,B2,rfl,⟨dz,s4 _ _ (s3 _ _ hd2)⟩,hq,hG,by unfold de;rw [aW,iM];lia,λc5 H5 s5 Ek hC=>k c5 H5 (Pl.trans s5) (none_of Pl Ek) hC⟩
theorem Zx:bH ["world","n"] ["world","n"] (aN CW):=b6
theorem Pm(T:Txt K mg t):a8 P w K mg base ck 5 t.si t.wm ["world","n"] (Wd t.bL):=by
 have S:=Zx;have mF:=Ae (P:=P) (w:=w) (base:=base) T;obtain ⟨dv,ou,ox⟩:=T.DJ;refine T.tX.cS S (λ_ _ _ _ H vs _ _ hr h=>?_);obtain ⟨z,q,n,rfl,⟨dz,hd⟩,hq,n1,ags,k⟩:=h;refine (ac _ (aw (aM (aA nJ (ay (DR T) hr T.zW T.oh.kp T.zV ax (aa (pv 0) (aa (cV (aa (gM (pv 0) T.dY T.ue mF (hr.mono ∅) ox ou lQ (aa (je jf ah) ag)) ag)) (aa (pv 1) ag)))) (cV (aa (gM (pv 0) T.dY T.ue mF (hr.mono ∅) ox ou lQ (aa ah ag)) ag))))) ?_)
 have nv:=Gd hq;have Pn:∀{Hx:Hp} {v:V} {x:Int},x.natAbs<=1000->qT Hx q v x 1->aY 1000 Hx q v (bJ q x).1 (bJ q x).2:=fun{Hx v x} bx ho=>by
  obtain ⟨p,np,wp⟩:=Ms (B:=1000) ho hq (gD hq) bx ∅
  obtain ⟨c,w⟩:=iW q x hq;rw [<-gB hq np.canon c (wp.trans w.symm aP.one)];exact np
 refine (ac _ rfl (ce _ rfl z dz _ rfl hd (gP (by decide +kernel)) (ac _ rfl (f8 z q (-1) 1 rfl ⟨dz,hd⟩ hq (aQ.of_lt ∅ ∅) (λh=>absurd h nv) (λ_ v0 H1 s1 ho=>?_)))))
 refine ⟨by show 1<=sizeLine;decide,λl nl=>?_⟩
 have sl:ai H1 (upd H1 l (.lst [v0])):=aJ nl;have hR:aD 1000 (upd H1 l (.lst [v0])) q l [bJ q (-1)]:=(ad [v0] az rfl (λi v p h1 h2=>by
  match i,h1,h2 with
  | 0,h1,h2=>cases h1;cases h2;exact (Pn ∅ ho).mono sl
  | i+1,h1,h2=>simp at h1))
 generalize upd H1 l (.lst [v0])=H2 at sl hR ⊢;have s2:=s1.trans sl;refine (ac _ rfl (ww z l q [bJ q (-1)] (wP 1000 n rfl ⟨dz,s2 _ _ hd⟩ hq hR ∅ (by show 1<=n;exact n1) ⋯ (λb H3 s3 nb hB=>?_))))
 have IV:=s2.trans s3;refine (ce _ rfl z dz _ rfl (IV _ _ hd) (gP (by decide +kernel)) (f8 z q 1 1 rfl ⟨dz,IV _ _ hd⟩ hq (aQ.of_lt ∅ ∅) (λh=>absurd h nv) (λ_ v1 H4 s4 Zy=>?_)))
 refine ⟨by show 1<=sizeLine;decide,λl4 Zz=>?_⟩
 have IW:ai H4 (upd H4 l4 (.lst [v1])):=aJ Zz;have Po:upd H4 l4 (.lst [v1]) l4=some (.lst [v1]):=az;have h1:=(Pn ∅ Zy).mono IW
 generalize upd H4 l4 (.lst [v1])=H5 at IW Po h1 ⊢;have qb:=s4.trans IW;obtain ⟨vs,eb,lv,fv⟩:=hB.mono qb;refine (f8 b l4 vs [v1] rfl rfl eb Po ?_ (λc nc=>?_))
 ·rw [lv]
  unfold dQ;exact af (show _<=200 by simp;lia) ∅
 have sc:ai H5 (upd H5 c (.lst (vs++[v1]))):=aJ nc;have fO:=IV.trans qb;refine k c _ (fO.trans sc) (none_of fO nc) (aD.cat az lv rfl (λi v p h1 h2=>(fv i v p h1 h2).mono sc) (λi v p e1 e2=>?_))
 match i,e1,e2 with
 | 0,e1,e2=>cases e1;cases e2;exact h1.mono sc
 | i+1,e1,e2=>simp at e1
theorem ZA:bH ["row"] ["row"] (aN CV):=b6
theorem Pp(T:Txt K mg t):a8 P w K mg base (e_ P w) 1 t.r_ t.wk ["row"] (VA t.pN):=by
 have S:=ZA;obtain ⟨uM,hM,rM⟩:=T.Oj;refine T.tW.fI S (λ_ _ _ _ H _ _ _ hr h L=>?_);intros bnE h a bn15 xs rfl ea agt kE k
 refine (ac _ (ak (bI (g_ (RY u9 u9 ah (aS bR rfl T.bO bQ (aa (pv 0) ag)) (E1 (v:=.int 40) rfl hM rM))) (aw (vp L rfl uR T.HZ rfl T.HW (aa fk ag))) bV)
  (aw (aM (aS bR rfl T.bO bQ (aa (pv 0) ag))))) ?_)
 refine (al _ rfl a xs rfl (.inl (.of ea)) (on _ _ rfl rfl _ rfl (cD (λh1=>?_) (λh1=>?_))))
 ·have e1:(1:Int)<=(xs.length:Int):=dM h1
  refine (on _ _ rfl rfl _ rfl (cD (λh2=>?_) (λh2=>?_)))
  ·have e2:¬(xs.length:Int)<=40:=by simpa using h2
   exact ⟨by show 1<=sizeLine;decide,kE (.inr ⋯)⟩
  ·have e2:(xs.length:Int)<=40:=by simpa using h2
   exact (al _ rfl a xs rfl (.inl (.of ea)) (k λh=>by rcases h with h | h <;> lia))
 ·have e1:¬(1:Int)<=(xs.length:Int):=λz=>h1 (dZ z)
  exact (ac false rfl (fm ⟨by show 1<=sizeLine;decide,kE (.inl ⋯)⟩))
theorem ZC:bH ["n","aim"] ["n","aim"] (aN CU):=b6
theorem ZD(T:Txt K mg t):a8 P w K mg base (e_ P w) 1 t.r9 t.wj ["n","aim"] (VC t.pN):=by
 have S:=ZC;refine T.xu.fI S (λ_ _ _ _ H _ _ _ hr h L=>?_);intros bn18 h n a xs rfl ea kE k;refine (ac _ (aw (bI (aX jB (aS bR rfl T.bO bQ (aa (pv 1) ag)) (pv 0)) (aw (vp L rfl uR T.HZ rfl T.HW (aa fk ag))) bV)) ?_);refine (al _ rfl a xs rfl (.inl (.of ea)) (bn _ rfl rfl _ rfl (cD (λpe=>?_) (λpe=>?_))))
 ·have pe:xs.length≠n:=λz=>by
   have:(xs.length:Int)=(n:Int):=by lia
   rw [lW,dZ this] at pe;cases pe
  exact ⟨by show 1<=sizeLine;decide,kE pe⟩
 ·have heq:xs.length=n:=by
   by_cases z:(xs.length:Int)=(n:Int);·lia
   ·exact absurd (by rw [lW,iH z];rfl) pe
  exact k heq
theorem ZE:bH ["world","row","n","told"] ["world","row"] (aN CZ):=b6
theorem ZF(T:Txt K mg t):a8 P w K mg base (e_ P w) 10 t.su t.wt ["world","row"] (M1 t.bL):=by
 have S:=ZE;refine T.xv.fI S (λ_ _ _ _ H vs _ _ hr h L=>?_);intros bn17 h z a q n W ps bn20 rfl hz hq hA cj kN k
 refine (ac _ (ak (putL 2 S.nd (ay (Pp T) hr T.HE T.tW.kp T.HD (o_ L) (aa (pv 1) ag)))
  (ak (putL 3 S.nd (ay (IH T) hr T.DF T.pP.kp T.DE ax (aa (pv 0) (aa (pv 1) (aa (ay (Pm T) hr T.HG T.tX.kp T.HF ax (aa (pv 0) (aa (pv 2) ag))) ag)))))
  (ak (bI (aX ka (aS bR rfl T.bO bQ (aa (aB aU (pv 3) ah) ag)) ah) (aw (aM oZ)) bV)
  (aw (aM (ay (DR T) hr T.zW T.oh.kp T.zV ax (aa (pv 0) (aa (aB aU (pv 3) ah) (aa (pv 2) ag))))))))) ?_)
 obtain ⟨dz,hd⟩:=id hz;obtain ⟨D,f,R⟩:=cj.row;have n1:=cj.sz.t.n1;have cI:=cj.sz.t.cI;have len:=cj.len;have lt:=mq (q:=q) n1;have q'18:=id hA;intros bn4 q'18 xs ea lv fv;have ln:(xs.length:Int)=(n:Int):=by lia
 refine (ac _ rfl (jp a xs rfl ea ⋯ (λh=>?_) (λ_=>?_)))
 ·unfold Ca at h
  lia
 rw [ln];dsimp only [bo]
 try simp only [dm,dn,L2.start]
 refine (ac _ rfl (li _ rfl _ rfl _ rfl (re z q n rfl hz hq n1 ⋯ (λc1 H1 s1 Pq hT=>?_))))
 refine (Exists.intro z (xz a c1 q ps (bK q n) D 1 f (tp n) W (u8 1 (Zt q n W) rfl (hz.mono s1) hq (hA.mono s1) (hT.weak (by decide +kernel)) (cj.GU hq R) (λp l0 xX l2 gs us vs ts ws r u v b1 b2 ld H2 s2 ep _ _ El _ _ _ hG hU _ _ _ _ IY _ _ ext _ bu _ bt _ gY _ p_ C=>?_))))
 have cE:=s1.trans s2;have cp:=hA.cX;have cu:=hU.cX;have uo:=C.nn hq n1;have ZG:=C.lg;have q'19:=id hG;intros bn4 q'19 gv eg ZH _;dsimp only [bo]
 try simp only [dm,dn]
 refine (gt _ rfl p _ _ _ rfl rfl (.of ep) rfl (ap l0 gv rfl (.inl (.of eg)) (on _ _ rfl rfl _ rfl (cD (λh0=>?_) (λh0=>?_)))))
 ·have h0:(1:Int)<(gv.length:Int):=dM h0
  exact kN _ cE λD' f' w h=>C.no hq n1 ⋯ (Cq hq cp w.ok w.w C.k1 C.p1 h)
 ·have h0:¬(1:Int)<(gv.length:Int):=λz=>h0 (dZ z)
  have l1:r.length=1:=by lia
  have cl:=iz ps;have hl:=ext (by rw [iX hq n1,lt];lia)
  rw [iX hq n1,lt] at hl;have IZ:u.length<=n:=by lia
  have Ef:=C.lu;obtain ⟨F,M,RW,m⟩:=C.row hq n1 l1 cu IZ (kS cj.sz.t 1) cj.sz.t.w bu p_ gY;dsimp only [d5];refine (ac _ rfl (gt _ rfl p _ _ _ rfl rfl (.of ep) rfl (ac _ rfl (ww z xX q us (wP B2 n rfl (hz.mono cE) hq hU (by decide +kernel) ⋯ ⋯ (λc H3 s3 nc hC=>?_))))))
  exact k c _ F M H3 (cE.trans s3) (none_of cE nc) hC (C.M5 hq n1 l1 cp ⋯ RW m)
theorem ZI:bH ["world","row","aim","n","turn","told","answer"] ["world","row","aim"] (aN CY):=b6
theorem Pt(T:Txt K mg t):a8 P w K mg base (e_ P w) 10 t.so t.wo ["world","row","aim"] (WQ t.bL):=by
 have S:=ZI;refine T.tY.fI S (λ_ _ _ s H vs _ _ hr h L=>?_);intros bn23 h z a b q SS n W X bn18 ps ss s rfl hz hq bn30 hA hB cj sq ls RS x1 bX kL kO
 refine (ac _ (ak (putL 3 S.nd (ay (Pp T) hr T.HE T.tW.kp T.HD (o_ L) (aa (pv 1) ag)))
  (ak (E3 (ay (ZD T) hr T.NA T.xu.kp T.Nz (o_ L) (aa (pv 3) (aa (pv 2) ag))))
  (ak (putL 4 S.nd (ay (Pm T) hr T.HG T.tX.kp T.HF ax (aa (pv 0) (aa (pv 3) ag))))
  (ak (putL 5 S.nd (ay (IH T) hr T.DF T.pP.kp T.DE ax (aa (pv 0) (aa (pv 1) (aa (pv 4) ag)))))
  (ak (bI (aX ka (aS bR rfl T.bO bQ (aa (aB aU (pv 5) ah) ag)) ah) (aw (aM (iP (aa fk (aa (aB aU (pv 5) ah) (aa (ay (DR T) hr T.zW T.oh.kp T.zV ax (aa (pv 0) (aa (aB aU (ay (Pb T) hr T.HC T.tV.kp T.HB (o_ L) (aa (pv 0) (aa (pv 4) (aa (aB aU (pv 5) ah) ag)))) ah) (aa (pv 3) ag)))) ag)))))) bV)
  (ak (putL 6 S.nd (aB aU (ay (Pb T) hr T.HC T.tV.kp T.HB (o_ L) (aa (pv 0) (aa (ay (Zr T) hr T.Ny T.xt.kp T.Nx ax (aa (pv 0) (aa (aB aU (pv 5) ah) (aa (pv 2) ag)))) (aa (pv 4) ag)))) ah))
  (aw (aM (iP (aa fk (aa (ay (DR T) hr T.zW T.oh.kp T.zV ax (aa (pv 0) (aa (pv 6) (aa (pv 3) ag)))) ag))))))))))) ?_)
 obtain ⟨dz,hd⟩:=id hz;obtain ⟨D,f,R⟩:=cj.row;have n1:=cj.sz.t.n1;have cI:=cj.sz.t.cI;have len:=cj.len;have lt:=mq (q:=q) n1;have q'22:=id hA;intros bn4 q'22 xs ea lv fv;have q'23:=id hB;intros bn4 q'23 ys eb lw fw;have ln:(xs.length:Int)=(n:Int):=by lia
 refine (ac _ rfl (jp a xs rfl ea ⋯ (λh=>?_) (λ_=>?_)))
 ·unfold Ca at h
  lia
 rw [ln];dsimp only [bo];refine (ac _ rfl (ce _ rfl n b ys rfl eb (λh=>absurd ⋯ h) (λ_=>?_)))
 try dsimp only [d5]
 refine (ul _ rfl _ rfl (re z q n rfl hz hq n1 ⋯ (λc1 H1 s1 Pq hT=>?_)))
 have hT:=hT.weak (B':=10 ^ 290) (by decide +kernel)
 dsimp only [bo];refine (ac _ rfl (wf _ rfl _ rfl z a c1 (wS q ps (bK q n) D 1 f (ol (tp n) W 1 (Zt q n W) rfl (hz.mono s1) hq (hA.mono s1) hT (cj.GU hq R) (λp l0 xX l2 gs us vs ts ws r u v b1 b2 ld H2 s2 ep Af El _ _ _ _ hG hU _ uv _ _ IY _ _ ext br bu _ bt _ gY _ p_ C=>?_)))));have cE:=s1.trans s2;have cp:=hA.cX;have cu:=hU.cX;have uo:=C.nn hq n1;have ZG:=C.lg;have Pu:=hT.mono s2;have q'24:=id hG;intros bn4 q'24 gv eg ZH _;dsimp only [bo];refine (gt _ rfl p _ _ _ rfl rfl (.of ep) rfl (ap l0 gv rfl (.inl (.of eg)) (on _ _ rfl rfl _ rfl (cD (λh0=>?_) (λh0=>?_)))))
 ·have h0:(1:Int)<(gv.length:Int):=dM h0
  obtain ⟨M,G,PI⟩:=C.Wj hq cj.sz hG.cX uv ⋯ IY br
  have neg:∀D f,jO q n ps D f->¬Inv q n f:=λD' f' w h=>C.no hq n1 ⋯ (Cq hq cp w.ok w.w C.k1 C.p1 h)
  have z1:=kS cj.sz.t 2;have sh:=C.short hq n1;have Pw:1000*(2*Zt q n W 2) ^ n<=iZ q n W:=oS ..;have ZJ:1000*(2*Zt q n W 2) ^ n*(1:Int).natAbs<=iZ q n W:=by rw [show (1:Int).natAbs=1 from rfl,Nat.mul_one];exact Pw
  have ZK:10 ^ 9<=iZ q n W:=Nat.le_add_left ..;refine (gt _ rfl p _ _ _ rfl rfl (.of ep) rfl (li _ rfl _ rfl _ rfl (gt _ rfl p _ _ _ rfl rfl (.of ep) rfl (ut z c1 l0 (xz q (bK q n) gs 1 M (tp n) G 1000 (Zt q n W 2) n (wv (iZ q n W) rfl (hz.mono cE) hq Pu hG PI Pw ZJ ZK (λp2 m1 m2 aV cW D4 b4 F4 G4 u4 H3 s3 jT nm1 ZL ZM I_ Em ZN _ PD=>?_)))))));rw [uv,iX hq n1,lt] at ZN;rw [uv] at Em PD;have fq:=cE.trans s3;refine (ii p2 _ _ _ rfl rfl (.of jT) rfl (ac _ rfl (ww z m1 q aV (wP (10 ^ 580) n rfl (hz.mono fq) hq ZM (lB ∅) ⋯ ⋯ (λc4 H4 s4 Ai Px=>?_)))))
  refine ⟨by show 3<=sizeLine;decide,λpp qa=>?_⟩
  have Ja:ai H4 (upd H4 pp (.tup [.str (Str.ofString "loose"),.ref l0,.ref c4])):=aJ qa;have ZO:=fq.trans (s4.trans Ja);have cC:=Px.cX;have zr:∀x∈r,x.natAbs<=Zt q n W 2:=λx hx=>af (br x hx) (Co cj.sz.t _ _ ⋯)
  have Ec:ld.natAbs<=Zt q n W 2:=by
   rw [C.lead (by intro e;rw [e] at uo;exact absurd uo ∅)]
   exact jo zr _
  have bB:iZ q n W<=10 ^ 255:=af (iL _ (by have:=cj.sz.t.w;lia)) sq.bw
  have En:aD B2 H4 q c4 (dQ aV n):=Px.jN λp hp=>by obtain ⟨i,hi,rfl⟩:=ig hp;have w:=PD.wb i;rw [<-zN (m:=n),getD_at hi] at w;exact zO hq (cC _ (gZ hi)) w (PD.ok.nz hq) (by decide +kernel) (λ_=>af (PD.Nk i) (af bB (by decide +kernel))) (λ_=>af PD.bD (af bB (by decide +kernel)))
  obtain ⟨_,e4,_⟩:=id hG;refine kL pp l0 c4 gs (dQ aV n) _ ZO az (none_of s1 Af) (none_of fq Ai) (λe=>?_) (hG.mono (s3.trans (s4.trans Ja))) (En.mono Ja) ?_ neg
  ·rw [<-e,s3 _ _ e4] at Ai
   cases Ai
  ·exact (wS us vs aV cW ts ws (xz r u v b1 b2 ld D4 b4 F4 G4 (wv u4 C ⋯ zr Ec bt gY uv ⋯ rfl ⟨⋯,Em,PD⟩)))
 ·have h0:¬(1:Int)<(gv.length:Int):=λz=>h0 (dZ z)
  have l1:r.length=1:=by lia
  have cl:=iz ps;have hl:=ext (by rw [iX hq n1,lt];lia)
  rw [iX hq n1,lt] at hl;have IZ:u.length<=n:=by lia
  have Ef:=C.lu;obtain ⟨F,M,RW,m⟩:=C.row hq n1 l1 cu IZ (kS cj.sz.t 1) cj.sz.t.w bu p_ gY;have pos:∀D f,jO q n ps D f->Inv q n f:=λD' f' w=>Cq hq cp C.k1 C.p1 w.ok w.w (C.inv hq n1 l1);dsimp only [d5];have z1:=kS cj.sz.t 1;have hW:=cj.sz.t.w;have ZW:1000<=Zt q n W 1*W:=af z1 (fS _ ⋯)
  have ZX:Zt q n W 1*W*X<=10 ^ 270:=af (bN cj.sz.big bX) (by decide +kernel)
  have PI:=Wm hq n1 cI RW RS ⋯ ⋯ (af ∅ ZW) cj.sz.big bX
  refine (ul _ rfl _ rfl (gt _ rfl p _ _ _ rfl rfl (.of ep) rfl (wT _ rfl z xX b q us (xz ss M SS F s (Zt q n W 1*W) X (Zt q n W 1*W) X n (wv n rfl (hz.mono cE) hq hU (hB.mono cE) ⋯ ⋯ RW RS ⟨ZW,x1,ZX,af ∅ ZW,⋯,ZX,λc3 H3 s3 OF ZP=>?_⟩)))))
  have fq:=cE.trans s3;have cP:=rh (n:=us.length) (m:=ss.length) (N:=us.length+ss.length-1) (f:=F) (g:=s) hq (RW.ok.mul RS.ok);have bD:(M*SS).natAbs<=10 ^ 245:=by rw [aZ];exact af (bN (af RW.bD cj.sz.big) (af RS.bD bX)) (by decide +kernel)
  have pw:2000 ^ (2*n)<=2000 ^ 80:=dD ∅ ⋯
  refine (ac _ rfl (ut z c3 c1 (xz q _ (bK q n) (M*SS) 1 (a_ us.length ss.length F s) (tp n) (10 ^ 280) 1000 (2*n) (wv (10 ^ 570) rfl (hz.mono fq) hq ZP (Pu.mono s3) PI PI.big PI.GQ (by decide +kernel) (λp2 m1 m2 aV cW D4 b4 F4 G4 u4 H4 s4 jT _ ZL _ I_ Em _ agv PD=>?_)))))
  rw [iX hq n1,lt] at Em;rw [iX hq n1,lt] at PD;have mM:=fq.trans s4;refine (ii p2 _ _ _ rfl rfl (.of jT) rfl ?_);dsimp only [bo];refine (li _ rfl _ rfl _ rfl (ww z m2 q cW (wP (10 ^ 580) n rfl (hz.mono mM) hq I_ (lB ∅) ⋯ ⋯ (λc5 H5 s5 Ek En=>?_))))
  refine ⟨by show 2<=sizeLine;decide,λpp qa=>?_⟩
  have ok:=RW.ok.mul RS.ok;have low:fM (n+n) (cv F s):=vJ RW.out RS.out;rw [WO (h:=cv F s) hq n1 (λp hp=>cP p (me hp)) I_.cX PD ok (λk=>?_) low ⋯] at En
  ·have Jb:aD B2 H5 q c5 (fN q n (cv F s) (M*SS)):=En.jN λp hp=>by
    unfold fN at hp;obtain ⟨k,_,rfl⟩:=fQ.mp hp;refine zh hq ok (by decide +kernel) (af (M8 (Ct RW.out (M:=10 ^ 245) λi j=>?_)) (af (dJ 2 (gK _ cI)) (by decide +kernel))) (af bD (by decide +kernel))
    rw [aZ];exact af (bN (af (RW.bf i) cj.sz.big) (af (RS.bf j) bX)) (by decide +kernel)
   exact kO pp c5 _ F M _ (mM.trans (s5.trans (aJ qa))) az (none_of mM Ek) (Jb.mono (aJ qa)) (C.M5 hq n1 l1 cp ⋯ RW m)
  ·rw [pG hq cP]
   refine (rj ok k).trans (Cu (WS (λi hi=>?_) (λj hj=>?_) k)) ok
   ·have w:=RW.w i
    rw [cF hi] at w;exact rE w
   ·have w:=RS.w j
    rw [cF hj] at w;exact rE w
def ZQ:Sp:=λvs H Q _=>∃(td a b:Addr) (q:Int) (ps rs:aC) (B:Nat),vs=[.ref td,.ref a,.ref b]/\dP H td q/\au q/\aD B H q a ps/\aD B H q b rs/\1000<=B/\B<=10 ^ 300/\ps.length<=200/\rs.length<=200/\∀(c:Addr) (H':Hp),ai H H'->H c=none->aD (2*B*B) H' q c (aF (jj q ps rs))->Q (.ref c) H'
theorem ZR:bH ["told","one","other","found","k"] ["told","one","other"] (aN Dm):=b6
theorem ZS(T:Txt K mg t):a8 P w K mg base ck 5 t.sY t.w_ ["told","one","other"] ZQ:=by
 have S:=ZR;refine T.xN.cS S (λ_ _ _ _ H vs _ _ hr h=>?_);intros bnE h td bn17 a b q ps rs B bn30 rfl ht hq hA hB b1 pY agw agx k
 refine (ac _ (ak (bI (aX jC (aS bR rfl T.bO bQ (aa (pv 1) ag)) (aS bR rfl T.bO bQ (aa (pv 2) ag))) (aw (Kc (i:=1) (j:=2) rfl S.nd rfl rfl ∅ rfl rfl (aa (pv 2) (aa (pv 1) ag)) rfl)) bV)
  (ak (putL 3 S.nd (nI qH rfl T.ot boot_list (aa (pv 1) ag)))
  (ak (jA fi rfl (iq rfl T.gW (aa (aS bR rfl T.bO bQ (aa (pv 2) ag)) ag)) (fF (i:=4) S.nd rfl (Or.inl rfl))
   (aw (@qu _ _ _ _ _ _ (ay (DT T) hr T.zY T.oi.kp T.zX ax (aa (pv 0) (aa (aB cz (pv 3) (pv 4)) (aa (aB cz (pv 2) (pv 4)) ag)))) (qt (pv 3) (pv 4) set_list) (by rfl) (by rfl) (by rfl))))
  (aw (aM (ay (Ao T) hr T.xM T.mD.kp T.xK ax (aa (pv 0) (aa (pv 3) ag)))))))) ?_)
 have q'29:=id hA;intros bn4 q'29 vs ea lv fv;have q'30:=id hB;intros bn4 q'30 us eb lu fu;have bB:B<=2*B*B:=af (iL B ⋯) (fS _ ⋯)
 refine (al _ rfl a vs rfl (.inl (.of ea)) (al _ rfl b us rfl (.inl (.of eb)) (on _ _ rfl rfl _ rfl (cD (λcZ=>?_) (λcZ=>?_)))))
 ·have cZ:(vs.length:Int)<(us.length:Int):=dM cZ
  rw [U0] at k;refine (ac _ rfl (wE _ rfl _ (ac _ rfl ?_)));refine (al _ rfl b us rfl (.inl (.of eb)) (λfd mK=>?_));have sf:ai H (upd H fd (.lst us)):=aJ mK;have AA:upd H fd (.lst us) fd=some (.lst us):=az;generalize upd H fd (.lst us)=H0 at sf AA ⊢;refine (al _ rfl a vs rfl (.inl (.of (sf _ _ ea))) (gl (vs.length:Int) rfl ⋯ ⋯ ?_))
  rw [dI]
  refine nC (λi σ Hc=>ai H Hc/\∃(v4:Option V) (ws:List V),σ=[some (.ref td),some (.ref b),some (.ref a),some (.ref fd),v4]/\Hc fd=some (.lst ws)/\ws.length=rs.length/\∀(j:Nat) (w:V),ws[j]?=some w->(j<i->aY (2*B*B) Hc q w (eQ q (rs.getD j o1) (ps.getD j o1)).1 (eQ q (rs.getD j o1) (ps.getD j o1)).2)/\(i<=j->aY B Hc q w (rs.getD j o1).1 (rs.getD j o1).2))
   (And.intro sf (i' _ us rfl AA lu (λj w hw=>⟨λh=>by lia,λ_=>by
    have hj:j<rs.length:=by rw [<-lu];exact (dj.mp hw).1
    rw [getD_at hj];exact (fu j w rs[j] hw (by simp [hj])).mono sf⟩))) ?_ ?_
  ·intro i σ Hc hi;intros bn19 _ sc v4 ws rfl jV ft fe
   have i1:i<ws.length:=by lia
   have i3:i<ps.length:=by lia
   have nv:=(fe i ws[i] (by simp [i1])).2 (aL _)
   have nu:=(fv i vs[i] ps[i] (by simp [hi]) (by simp [i3])).mono sc
   rw [<-getD_at (d:=o1) i3] at nu;refine (ul _ rfl _ rfl (gt _ rfl fd ws _ (ws[i]) rfl rfl (.of jV) (by show dF ws (0+(i:Int))=_;rw [Int.zero_add];exact iw (by simp [i1])) (ac _ rfl (gt _ rfl a vs _ (vs[i]) rfl rfl (.of (sc _ _ ea)) (by show dF vs (0+(i:Int))=_;rw [Int.zero_add];exact iw (by simp [hi])) (xL td q _ _ (rs.getD i o1) (wP (ps.getD i o1) B rfl (ht.mono sc) hq nv nu b1 pY (λv' H' s' hv=>?_)))))))
   have oF:=s' _ _ jV;refine (ac _ rfl (gt _ rfl fd ws _ i rfl rfl oF (by show fY ws.length (0+(i:Int))=_;rw [Int.zero_add];unfold fY;rw [aq ⋯,aq ⋯,dI]) ?_))
   have b7:∀b o,b≠fd->H' b=some o->upd H' fd (.lst (ws.set i v')) b=some o:=λb o nb e=>by rw [cq nb];exact e
   refine (And.intro (iT (sc.trans s') mK) (i' _ _ rfl az (by rw [uD];exact ft) (λj w hw=>?_)))
   by_cases z:j=i
   ·subst z
    rw [oM i1] at hw;cases hw;exact ⟨λ_=>hv.b7 oF b7,λh=>by lia⟩
   ·rw [oN ⋯] at hw
    obtain ⟨g1,g2⟩:=fe j w hw;exact ⟨λh=>((g1 ⋯).mono s').b7 oF b7,λh=>((g2 ⋯).mono s').b7 oF b7⟩
  ·intro σ Hc;intros bn19 _ sc v4 ws rfl jV ft fe
   have hG:aD (2*B*B) Hc q fd (jj q rs ps):=(ad ws jV (by rw [BY];lia) (λj w p h1 h2=>by
    have hj:j<rs.length:=by rw [<-ft];exact (dj.mp h1).1
    rw [Ma ⋯] at h2
    cases h2;obtain ⟨g1,g2⟩:=fe j w h1;by_cases z:j<vs.length;·exact g1 z
    ·have g:=g2 ⋯
     have e:ps.getD j o1=o1:=by rw [fP,ku ⋯];rfl
     rw [e,L_ g];exact g.weak bB))
   exact (wf _ rfl _ rfl td fd q (pi _ (2*B*B) rfl (ht.mono sc) hq hG (by rw [BY];lia) (λc H' s' nc hc=>k c H' (sc.trans s') (none_of sc nc) hc)))
 ·have cZ:¬(vs.length:Int)<(us.length:Int):=λz=>cZ (dZ z)
  dsimp only [d5];refine (al _ rfl a vs rfl (.inl (.of ea)) (λfd mK=>?_));have sf:ai H (upd H fd (.lst vs)):=aJ mK;have AA:upd H fd (.lst vs) fd=some (.lst vs):=az;generalize upd H fd (.lst vs)=H0 at sf AA ⊢;refine (al _ rfl b us rfl (.inl (.of (sf _ _ eb))) (gl (us.length:Int) rfl ⋯ ⋯ ?_))
  rw [dI]
  refine nC (λi σ Hc=>ai H Hc/\∃(v4:Option V) (ws:List V),σ=[some (.ref td),some (.ref a),some (.ref b),some (.ref fd),v4]/\Hc fd=some (.lst ws)/\ws.length=ps.length/\∀(j:Nat) (w:V),ws[j]?=some w->(j<i->aY (2*B*B) Hc q w (eQ q (ps.getD j o1) (rs.getD j o1)).1 (eQ q (ps.getD j o1) (rs.getD j o1)).2)/\(i<=j->aY B Hc q w (ps.getD j o1).1 (ps.getD j o1).2))
   (And.intro sf (i' _ vs rfl AA lv (λj w hw=>⟨λh=>by lia,λ_=>by
    have hj:j<ps.length:=by rw [<-lv];exact (dj.mp hw).1
    rw [getD_at hj];exact (fv j w ps[j] hw (by simp [hj])).mono sf⟩))) ?_ ?_
  ·intro i σ Hc hi;intros bn19 _ sc v4 ws rfl jV ft fe
   have i1:i<ws.length:=by lia
   have i3:i<rs.length:=by lia
   have nv:=(fe i ws[i] (by simp [i1])).2 (aL _)
   have nu:=(fu i us[i] rs[i] (by simp [hi]) (by simp [i3])).mono sc
   rw [<-getD_at (d:=o1) i3] at nu;refine (ul _ rfl _ rfl (gt _ rfl fd ws _ (ws[i]) rfl rfl (.of jV) (by show dF ws (0+(i:Int))=_;rw [Int.zero_add];exact iw (by simp [i1])) (ac _ rfl (gt _ rfl b us _ (us[i]) rfl rfl (.of (sc _ _ eb)) (by show dF us (0+(i:Int))=_;rw [Int.zero_add];exact iw (by simp [hi])) (xL td q _ _ (ps.getD i o1) (wP (rs.getD i o1) B rfl (ht.mono sc) hq nv nu b1 pY (λv' H' s' hv=>?_)))))))
   have oF:=s' _ _ jV;refine (ac _ rfl (gt _ rfl fd ws _ i rfl rfl oF (by show fY ws.length (0+(i:Int))=_;rw [Int.zero_add];unfold fY;rw [aq ⋯,aq ⋯,dI]) ?_))
   have b7:∀b o,b≠fd->H' b=some o->upd H' fd (.lst (ws.set i v')) b=some o:=λb o nb e=>by rw [cq nb];exact e
   refine (And.intro (iT (sc.trans s') mK) (i' _ _ rfl az (by rw [uD];exact ft) (λj w hw=>?_)))
   by_cases z:j=i
   ·subst z
    rw [oM i1] at hw;cases hw;exact ⟨λ_=>hv.b7 oF b7,λh=>by lia⟩
   ·rw [oN ⋯] at hw
    obtain ⟨g1,g2⟩:=fe j w hw;exact ⟨λh=>((g1 ⋯).mono s').b7 oF b7,λh=>((g2 ⋯).mono s').b7 oF b7⟩
  ·intro σ Hc;intros bn19 _ sc v4 ws rfl jV ft fe
   have hG:aD (2*B*B) Hc q fd (jj q ps rs):=(ad ws jV (by rw [BY];lia) (λj w p h1 h2=>by
    have hj:j<ps.length:=by rw [<-ft];exact (dj.mp h1).1
    rw [Ma ⋯] at h2
    cases h2;obtain ⟨g1,g2⟩:=fe j w h1;by_cases z:j<us.length;·exact g1 z
    ·have g:=g2 ⋯
     have e:rs.getD j o1=o1:=by rw [fP,ku ⋯];rfl
     rw [e,L_ g];exact g.weak bB))
   exact (wf _ rfl _ rfl td fd q (pi _ (2*B*B) rfl (ht.mono sc) hq hG (by rw [BY];lia) (λc H' s' nc hc=>k c H' (sc.trans s') (none_of sc nc) hc)))
variable {v:V}
theorem Py{xs:List V}(h1:1<=xs.length)(h:xs[xs.length-1]?=some v):dF xs (-1)=some v:=by
 have ne:xs≠[]:=λe=>by rw [e] at h1;simp at h1
 have e:xs=xs.dropLast++[v]:=by
  have g:xs.getLast ne=v:=by
   rw [List.getLast_eq_getElem];have:=ET (l:=xs) (i:=xs.length-1) ⋯
   rw [this] at h;exact Option.some.inj h
  rw [<-g];exact (List.dropLast_concat_getLast ne).symm
 rw [e];exact KR _ _
def Pz(H:Hp)(q:Int)(td a c:Addr)(r:List Int)(WW R N:Nat)(m:Nat)(σ:St)(Hc:Hp):Prop:=
 ai H Hc/\∃(la:Addr) (ls:aC) (L:Nat->Int) (M:Int) (j:Nat) (v4 v5 v6:Option V),σ=[some (.ref td),some (.ref a),some (.ref c),some (.ref la),v4,v5,v6]/\m=ls.length/\H la=none/\aD (10 ^ 300) Hc q la ls/\aF ls=ls/\gc q (ae r) ls L M (WW*(2*R) ^ j)/\ls.length+j<=N
theorem ZT:bH ["told","one","under","left","step","number","k"] ["told","one","under"] (aN Dp):=b6
theorem PB(T:Txt K mg t):a8 P w K mg base ck 6 t.s_ t.xb ["told","one","under"] WB:=by
 have S:=ZT;have gH:=pX (P:=P) (w:=w) (base:=base) (B:=1000) T;refine T.t_.cS S (λ_ _ _ _ H _ _ _ hr h=>?_);intros bn17 h td a c q ps gs bn17 r L M ld WW R bn27 N J rfl ht hq hA hC agy bn30 g60 I0 G w1 cN N60 NJ big r1 k;have iD:=hr.units
 refine (ac _ (ak (putL 3 S.nd (ay (Ao T) hr T.xM T.mD.kp T.xK ax (aa (pv 0) (aa (pv 1) ag))))
  (ak (ni fi (aX Bp (aS bR rfl T.bO bQ (aa (pv 3) ag)) (aS bR rfl T.bO bQ (aa (pv 2) ag))) (ak (putL 4 S.nd (aA eZ (aS bR rfl T.bO bQ (aa (pv 3) ag)) (aS bR rfl T.bO bQ (aa (pv 2) ag))))
  (ak (putL 5 S.nd (ay (Iy T) hr T.DH T.pQ.kp T.DG ax (aa (pv 0) (aa (aB cz (pv 3) (je jf ah)) (aa (ay gH hr T.jS T.ia.kp T.jR ax (aa (pv 0) (aa (je jf ah) ag))) ag)))))
  (ak (jA fi rfl (iq rfl T.gW (aa (aS bR rfl T.bO bQ (aa (pv 2) ag)) ag)) (fF (i:=6) S.nd rfl (Or.inl rfl))
   (aw (@qu _ _ _ _ _ _ (ay (DT T) hr T.zY T.oi.kp T.zX ax (aa (pv 0) (aa (aB cz (pv 3) (aA eF (pv 4) (pv 6))) (aa (ay (Iy T) hr T.DH T.pQ.kp T.DG ax (aa (pv 0) (aa (pv 5) (aa (aB cz (pv 2) (pv 6)) ag)))) ag)))) (qt (pv 3) (aA eF (pv 4) (pv 6)) set_list) (by rfl) (by rfl) (by rfl))))
  (aw (putL 3 S.nd (ay (Ao T) hr T.xM T.mD.kp T.xK ax (aa (pv 0) (aa (pv 3) ag)))))))))
  (aw (aM (pv 3))))) ?_)
 have q'31:=id hC;intros bn4 q'31 us ec lu fu;have B3:(1000:Nat)<=10 ^ 300:=by decide +kernel
 refine (wf _ rfl _ rfl td a q (pi ps (10 ^ 150) rfl ht hq hA ⋯ (λla H1 s1 El hL=>?_)))
 dsimp only [bo];simp only [L2.start,fC,List.length_nil,qg,List.map_nil,List.replicate,jw,gg,dm,dn];have cL:=hA.cX;refine (ac (Pz H q td a c r WW R N) (ac _ s1 (ww la (aF ps) L M (ol 0 _ _ _ rfl rfl El (hL.weak (by decide +kernel)) (Gv ps) ⟨λp hp=>cL p (me hp),λk=>by rw [pG hq cL];exact I0.w k,I0.nM,I0.d,λz k=>by rw [Nat.pow_zero,Nat.mul_one];exact I0.bl z k,λz=>by rw [Nat.pow_zero,Nat.mul_one];exact I0.bm z⟩ ⋯))) ?_)
 clear hL I0 El s1 cL;intro m σ Hc;intros bnA _ sc bn17 la ls L M j v4 bn27 v5 v6 rfl rfl xZ Ej cls I hj;have q'32:=id Ej;intros bn4 q'32 ws ew lw fw;refine (al _ rfl la ws rfl (.inl (.of ew)) (al _ rfl c us rfl (.inl (.of (sc _ _ ec))) (on _ _ rfl rfl _ rfl (cD (λh=>?_) (λh=>?_)))))
 ·have h:(us.length:Int)<=(ws.length:Int):=dM h
  have lg:1<=gs.length:=by rw [G.len];exact fT.mpr G.ne
  have jJ:j<=J:=by lia
  have hb:WW*(2*R) ^ j*(2*R)<=10 ^ 300:=by rw [lC,<-fR];exact af (dJ _ (dD ⋯ ⋯)) big
  have ye:WW*(2*R) ^ j<=10 ^ 300:=af (fS _ ⋯) hb
  refine (ac (λσ' H'=>∃m',m'<ls.length/\Pz H q td a c r WW R N m' σ' H') (λσ' H' h=>h) ?_);refine (be _ rfl la ws rfl (.inl (.of ew)) _ rfl (wn c us rfl (.inl (.of (sc _ _ ec))) _ _ rfl rfl ?_));obtain ⟨st,est⟩:∃st:Nat,st=ls.length-gs.length:=⟨_,rfl⟩;have ZU:(ws.length:Int)-(us.length:Int)=(st:Int):=by lia
  have uY:st+gs.length=ls.length:=by lia
  dsimp only [bo];rw [ZU];simp only [dm,dn];have w0:ws.length-1<ws.length:=by lia
  have PF:=fw (ls.length-1) ws[ws.length-1] ls[ls.length-1] (by rw [<-lw];simp [w0]) (by simp)
  rw [<-getD_at (d:=o1) (show ls.length-1<ls.length by lia)] at PF
  refine (ul _ rfl _ rfl (gt _ rfl la ws _ (ws[ws.length-1]) rfl rfl (.of ew) (Py ⋯ (by simp [w0])) (ul _ rfl _ rfl (re td q (-1) rfl (ht.mono sc) hq ∅ ∅ (λv1 Hd sd oG=>?_)))))
  refine (xL td q _ _ (ls.getD (ls.length-1) o1) (wP (bJ q (-1)) (10 ^ 300) rfl (ht.mono (sc.trans sd)) hq (PF.mono sd) (oG.weak B3) B3 (aL _) (λPH He se Eo=>?_)));obtain ⟨ZV,ZY⟩:=I.minus hq (ls.length-1);have PJ:=zO hq ZV ZY I.nM B3 (λz=>by rw [mX];exact af (I.bl z _) ye) (λz=>af (I.bm z) ye)
  have Eo:=Eo.jN PJ.1 PJ.2;have Ep:=sd.trans se;dsimp only [bo];simp only [dm,dn];obtain ⟨nb,AB⟩:∃nb,nb=mulQ q (ls.getD (ls.length-1) o1) (bJ q (-1)):=⟨_,rfl⟩;rw [<-AB] at Eo;refine (al _ rfl c us rfl (.inl (.of ((sc.trans Ep) _ _ ec))) (gl (us.length:Int) rfl ⋯ ⋯ ?_))
  rw [dI];have ZZ:=Ep _ _ ew
  refine nC (λi σ Hf=>ai H Hf/\∃(v6:Option V) (xs:List V),σ=[some (.ref td),some (.ref a),some (.ref c),some (.ref la),some (.int (st:Int)),some PH,v6]/\Hf la=some (.lst xs)/\xs.length=ls.length/\aY (10 ^ 300) Hf q PH nb.1 nb.2/\∀(x:Nat) (u:V),xs[x]?=some u->aY (10 ^ 300) Hf q u (gU q ls gs nb st i x).1 (gU q ls gs nb st i x).2)
   (And.intro (sc.trans Ep) (jp _ ws rfl ZZ lw Eo (λx u hu=>?_))) ?_ ?_
  ·have hx:x<ls.length:=by rw [<-lw];exact (dj.mp hu).1
   have e:gU q ls gs nb st 0 x=ls[x]:=by unfold gU;rw [ao ⋯,getD_at hx]
   rw [e];exact (fw x u ls[x] hu (by simp [hx])).mono Ep
  ·intro i σ Hf hi;intros bn21 _ sf v6 xs rfl ex lx PK AD
   have df:i<gs.length:=by lia
   have sx:st+i<xs.length:=by lia
   have PL:(st:Int)+(0+(i:Int))=((st+i:Nat):Int):=by lia
   have nX:=AD (st+i) xs[st+i] (by simp [sx])
   have eX:gU q ls gs nb st i (st+i)=ls.getD (st+i) o1:=by unfold gU;rw [ao ⋯]
   have nG:=(fu i us[i] gs[i] (by simp [hi]) (by simp [df])).mono sf
   rw [<-getD_at (d:=o1) df] at nG;refine (ul _ rfl _ rfl (dL _ rfl _ rfl _ _ rfl rfl (ii la xs _ (xs[st+i]) rfl rfl (.of ex) (by show dF xs ((st:Int)+(0+(i:Int)))=_;rw [PL];exact iw (by simp [sx])) (li _ rfl _ rfl _ rfl (gt _ rfl c us _ (us[i]) rfl rfl (.of (sf _ _ ec)) (by show dF us (0+(i:Int))=_;rw [Int.zero_add];exact iw (by simp [hi])) (xL td q _ _ nb (wP (gs.getD i o1) (10 ^ 300) rfl (ht.mono sf) hq PK (nG.weak (by decide +kernel)) B3 (aL _) (λv7 Hg sg Jc=>?_))))))))
   obtain ⟨cp,wp⟩:=I.part hq G (ls.length-1) i;rw [<-AB] at cp wp;have PM:¬q∣M*ld:=dr hq I.nM G.nl;have Er:q=0->(M*ld).natAbs<=10 ^ 300:=λz=>af (I.Nh G z) hb;have bp:=zO hq cp wp PM B3 (λz=>by rw [aZ,mX];exact af (af (bN (I.bl z _) (G.br z _)) (dJ _ ⋯)) hb) Er
   have Jc:=Jc.jN bp.1 bp.2;refine (xL td q _ _ (gU q ls gs nb st i (st+i)) (wP (mulQ q nb (gs.getD i o1)) (10 ^ 300) rfl (ht.mono (sf.trans sg)) hq (nX.mono sg) Jc B3 (aL _) (λv8 Hh sh Es=>?_)));have eN:gU q ls gs nb st (i+1) (st+i)=eQ q (gU q ls gs nb st i (st+i)) (mulQ q nb (gs.getD i o1)):=by rw [eX];unfold gU;rw [aq ⋯,show st+i-st=i by lia]
   obtain ⟨PN,PQ⟩:=I.val hq G st (i+1) ls.length (st+i);rw [<-AB,aq ⋯] at PQ
   rw [<-AB] at PN;have b8:=zO hq PN PQ PM B3 (λz=>af (I.bound G z _ _ _) hb) Er;rw [<-eN] at Es;have Es:=Es.jN b8.1 b8.2;have Et:=sg.trans sh;have jx:=Et _ _ ex;refine (ac _ rfl (dL _ rfl _ rfl _ _ rfl rfl (ii la xs _ (st+i) rfl rfl jx (by show fY xs.length ((st:Int)+(0+(i:Int)))=_;rw [PL];unfold fY;rw [aq ⋯,aq ⋯,dI]) ?_)))
   have b7:∀b o,b≠la->Hh b=some o->upd Hh la (.lst (xs.set (st+i) v8)) b=some o:=λb o nb e=>by rw [cq nb];exact e
   refine (And.intro (iT (sf.trans Et) xZ) (jp _ _ rfl az (by rw [uD];exact lx) ((PK.mono Et).b7 jx b7) (λx u hu=>?_)))
   by_cases z:st+i=x
   ·subst z
    rw [oM sx] at hu;cases hu;exact Es.b7 jx b7
   ·rw [oN z] at hu
    have eo:gU q ls gs nb st (i+1) x=gU q ls gs nb st i x:=by
     unfold gU;by_cases y:st<=x/\x<st+i;·rw [aq y,aq ⋯]
     ·rw [ao y,ao ⋯]
    rw [eo];exact ((AD x u hu).mono Et).b7 jx b7
  ·intro σ Hf;intros bn21 _ sf v6 xs rfl ex lx _ AD
   rw [lu] at AD;have hN:aD (10 ^ 300) Hf q la (iC q ls gs st):=(ad xs ex (by simp [iC];exact lx) (λx u p h1 h2=>by
    have hx:x<ls.length:=by rw [<-lx];exact (dj.mp h1).1
    unfold iC at h2;rw [gf] at h2;simp [hx] at h2;subst h2;have z:=AD x u h1;rw [AB] at z;exact z))
   obtain ⟨I2,l2⟩:=I.next hq G st uY;refine (wf _ rfl _ rfl td la q (pi _ (10 ^ 300) rfl (ht.mono sf) hq hN (by simp [iC];lia) (λZ0 H' s' Z1 Z2=>?_)))
   dsimp only [bo];simp only [dm,dn];have I3:gc q (ae r) (aF (iC q ls gs st)) (km L (ae r) ld st ls.length) (M*ld) (WW*(2*R) ^ (j+1)):=by rw [fR,<-lC];exact I2
   exact (ad _ l2 (sf.trans s') (ww Z0 _ _ _ (ol (j+1) _ _ _ rfl rfl (none_of sf Z1) Z2 (Gv _) I3 ⋯)))
 ·have h:¬(us.length:Int)<=(ws.length:Int):=λz=>h (dZ z)
  have e:=I.last hq G ⋯ cls
  subst e;dsimp only [d5];have Z3:ws=[]:=kv.mp lw;subst Z3;exact (ac _ rfl (k la Hc sc xZ ew))
theorem Z4:bH ["told","many"] ["told","many"] (aN Dq):=b6
theorem Eu(T:Txt K mg t):a8 P w K mg base ck 2 t.tf t.xc ["told","many"] M_:=by
 have S:=Z4;have gH:=pX (P:=P) (w:=w) (base:=base) (B:=1000) T;refine T.oj.cS S (λ_ _ _ _ H _ _ _ hr h=>?_);intros bn25 h td q n rfl ht hq n1 cI k;refine (ac _ (aw (aM (aA nJ (aA nJ (cV (aa (ay gH hr T.jS T.ia.kp T.jR ax (aa (pv 0) (aa (je jf ah) ag))) ag)) (lT (N:=["k","told"]) (ρ:=(λσ=>[σ[0]?.join])) (iy [0] rfl) rfl (iq rfl T.gW (aa (aA eZ (pv 1) ah) ag)) (λ_ _ _=>.nil) (λ_ _ _=>(ay gH hr T.jS T.ia.kp T.jR ax (aa (pv 1) (aa ah ag)))))) (cV (aa (ay gH hr T.jS T.ia.kp T.jR ax (aa (pv 0) (aa ah ag))) ag))))) ?_);refine (ul _ rfl _ rfl (re td q (-1) rfl ht hq ∅ ∅ (λv0 H1 s1 h0=>?_)))
 refine ⟨by show 1<=sizeLine;decide,λl nl=>?_⟩
 have sl:ai H1 (upd H1 l (.lst [v0])):=aJ nl;have el:upd H1 l (.lst [v0]) l=some (.lst [v0]):=az;have h0:=h0.mono sl;generalize upd H1 l (.lst [v0])=H2 at sl el h0 ⊢;have s2:=s1.trans sl;refine qY (xs:=(List.range (n-1)).map λi:Nat=>V.int (0+(i:Int))) (λR h=>?_) (by rw [aW,iM];exact jH ⋯) (λ_ j y Hx=>aY 1000 Hx q y (bJ q 0).1 (bJ q 0).2) (λ_ _ _ _ _ _ h1 e f=>h1.b7 e f) ?_ ?_
 ·exact (al _ rfl _ _ rfl rfl (gl ((n-1:Nat):Int) (gI (λx=>[V.int x]) (show (n:Int)-1=((n-1:Nat):Int) by lia)) ⋯ ⋯ (h _ _ (ai.refl _) (by rw [dI];exact BN))))
 ·intro Dx i v hi Hc R sc _ kc
  exact ⟨_,rfl,td,q,0,rfl,ht.mono (s2.trans sc),hq,cn _,∅,λu H' s' hu=>kc u H' s' hu⟩
 intro D ys H3 nD s3 fL hP eD;rw [aW,iM] at fL;have Jd:=s2.trans s3;refine (f8 l D [v0] ys rfl rfl (s3 _ _ el) eD (af (show _<=200 by simp;lia) ∅) (λc nc=>?_))
 have sc:ai H3 (upd H3 c (.lst ([v0]++ys))):=aJ nc;have ec:upd H3 c (.lst ([v0]++ys)) c=some (.lst ([v0]++ys)):=az;have hP:=λi v e=>(hP i v e).mono sc;have h0:=(h0.mono s3).mono sc;generalize upd H3 c (.lst ([v0]++ys))=H4 at sc ec hP h0 ⊢;have s4:=Jd.trans sc;dsimp only;refine (ac _ rfl (re td q 1 rfl (ht.mono s4) hq ∅ ∅ (λv1 H5 s5 h1=>?_)))
 refine ⟨by show 1<=sizeLine;decide,λl5 Je=>?_⟩
 have uw:ai H5 (upd H5 l5 (.lst [v1])):=aJ Je;have PR:upd H5 l5 (.lst [v1]) l5=some (.lst [v1]):=az;have h1:=h1.mono uw;generalize upd H5 l5 (.lst [v1])=H6 at uw PR h1 ⊢;have AE:=s5.trans uw;refine (f8 c l5 ([v0]++ys) [v1] rfl rfl (AE _ _ ec) PR (af (show _<=200 by simp;lia) ∅) (λr nr=>?_))
 have sr:ai H6 (upd H6 r (.lst ([v0]++ys++[v1]))):=aJ nr;refine k r _ (s4.trans (AE.trans sr)) (none_of (s4.trans AE) nr) ?_;have e0:bJ q 0=o1:=by unfold bJ;split <;> simp [o1]
 have one:∀{Hx:Hp} {v:V} {p:Int×Int},aY 1000 Hx q v p.1 p.2->∀(i:Nat) (w:V) (x:Int×Int),[v][i]?=some w->[p][i]?=some x->aY 1000 Hx q w x.1 x.2:=fun{Hx v p} hv i w x a b=>by
  match i,a,b with
  | 0,a,b=>cases a;cases b;exact hv
  | i+1,a,b=>simp at a
 unfold bK dQ;refine aD.cat az (by simp;lia) rfl (λi v p a b=>?_) (one (h1.mono sr))
 by_cases hi:i<1
 ·rw [ju (by simpa using hi)] at a b
  exact one ((h0.mono AE).mono sr) i v p a b
 ·rw [i8 (by simp;lia)] at a b
  rw [mS] at b
  split at b
  ·cases b
   have z:=(hP _ v a).mono (AE.trans sr);rw [e0] at z;exact z
  ·cases b
theorem Z5:bH ["told","many","row","found","k"] ["told","many","row"] (aN Dr):=b6
theorem Ew(T:Txt K mg t):a8 P w K mg base ck 4 t.tj t.xf ["told","many","row"] GW:=by
 have S:=Z5;have gH:=pX (P:=P) (w:=w) (base:=base) (B:=B2) T;refine T.om.cS S (λ_ _ _ _ H vs _ _ hr h=>?_);intros bnE h td bn24 a q D n ps h rfl ht bn30 hq hA n1 cI lp cT bD wh bh k
 refine (ac _ (ak (vx (i0:=3) (N:=["k","told"]) (ρ:=(λσ=>[σ[0]?.join])) (iy [0] rfl) rfl S.nd rfl (Or.inl rfl) (iq rfl T.gW (aa (pv 1) ag)) (λ_ _ _=>.nil) (λ_ _ _=>(ay gH hr T.jS T.ia.kp T.jR ax (aa (pv 1) (aa ah ag)))))
  (ak (jA fi rfl (iq rfl T.gW (aa (aS bR rfl T.bO bQ (aa (pv 2) ag)) ag)) (fF (i:=4) S.nd rfl (Or.inl rfl))
   (aw (@qu _ _ _ _ _ _ (ay (DT T) hr T.zY T.oi.kp T.zX ax (aa (pv 0) (aa (aB cz (pv 3) (aA fX (pv 4) (pv 1))) (aa (aB cz (pv 2) (pv 4)) ag)))) (qt (pv 3) (aA fX (pv 4) (pv 1)) set_list) (by rfl) (by rfl) (by rfl))))
  (aw (aM (pv 3))))) ?_)
 have q'33:=id hA;intros bn4 q'33 vs ea lv fv;have iE:1000<=B2:=by decide +kernel
 have e0:da q 0 D=bJ q 0:=by obtain ⟨c,w⟩:=iW q 0 hq;refine gB hq (fK hq cT) c ((fo (T:=0) cT).trans (ar.symm (w.trans ?_ aP.one)) cT);exact ⟨0,by simp⟩
 refine kg (d8 (qY (xs:=(List.range n).map λi:Nat=>V.int (0+(i:Int))) (λR h=>⟨_,rfl,(n:Int),rfl,⋯,⋯,h _ _ (ai.refl _) (by rw [dI];exact BN)⟩) (by rw [aW,iM];exact jH ⋯) (λ_ j y Hx=>aY B2 Hx q y (da q 0 D).1 (da q 0 D).2) (λ_ _ _ _ _ _ h1 e f=>h1.b7 e f) ?_ ?_))
 ·intro Dx i v hi Hc R sc _ kc
  refine (ac _ rfl (re td q 0 rfl (ht.mono sc) hq (cn _) iE (λu H' s' hu=>kc u H' s' ?_)));rw [e0];exact hu
 intro fd ys H1 mK s1 fL hP jV;rw [aW,iM] at fL;dsimp only [bo];refine (al _ rfl a vs rfl (.inl (.of (s1 _ _ ea))) (gl (vs.length:Int) rfl ⋯ ⋯ ?_))
 rw [dI]
 refine nC (λi σ Hc=>ai H Hc/\∃(v4:Option V) (ws:List V),σ=[some (.ref td),some (.int (n:Int)),some (.ref a),some (.ref fd),v4]/\Hc fd=some (.lst ws)/\ws.length=n/\∀(x:Nat) (w:V),ws[x]?=some w->aY B2 Hc q w (da q (gT n i h x) D).1 (da q (gT n i h x) D).2)
  ⟨s1,_,ys,rfl,jV,fL,λx w hw=>by rw [Wn];exact hP x w hw⟩ ?_ ?_
 ·intro i σ Hc hi;intros bn19 _ sc v4 ws rfl ef ft fe
  have hn:i % n<n:=Nat.mod_lt _ ⋯
  have cj:i % n<ws.length:=by lia
  have df:i<ps.length:=by lia
  have PU:(0+(i:Int)) % (n:Int)=((i % n:Nat):Int):=by rw [Int.zero_add];exact (Int.natCast_emod i n).symm
  have nA:=(fv i vs[i] ps[i] (by simp [hi]) (by simp [df])).mono sc
  have nW:=fe (i % n) ws[i % n] (by simp [cj])
  have wA:=wh i;rw [getD_at df] at wA;dsimp only [bo];refine (ul _ rfl _ rfl (io _ rfl _ rfl _ _ rfl rfl (by show (0:Int)<(n:Int);lia) (ii fd ws _ (ws[i % n]) rfl rfl (.of ef) (by show dF ws ((0+(i:Int)) % (n:Int))=_;rw [PU];exact iw (by simp [cj])) (ac _ rfl (gt _ rfl a vs _ (vs[i]) rfl rfl (.of (sc _ _ ea)) (by show dF vs (0+(i:Int))=_;rw [Int.zero_add];exact iw (by simp [hi])) (xL td q _ _ (da q (gT n i h (i % n)) D) (wP (ps[i]) B2 rfl (ht.mono sc) hq nW nA iE (by decide +kernel) (λv2 H2 s2 Ap=>?_))))))))
  have mG:=s2 _ _ ef;have eA:=Gh hq cT (fK (T:=gT n i h (i % n)) hq cT) nA.canon (fo cT) wA;rw [eA] at Ap;refine (ac _ rfl (io _ rfl _ rfl _ _ rfl rfl (by show (0:Int)<(n:Int);lia) (ii fd ws _ (i % n) rfl rfl mG (by show fY ws.length ((0+(i:Int)) % (n:Int))=_;rw [PU];unfold fY;rw [aq ⋯,aq ⋯,dI]) ?_)))
  have b7:∀b o,b≠fd->H2 b=some o->upd H2 fd (.lst (ws.set (i % n) v2)) b=some o:=λb o nb e=>by rw [cq nb];exact e
  refine ⟨iT (sc.trans s2) mK,_,_,rfl,az,by rw [uD];exact ft,λx w hw=>?_⟩
  by_cases zx:i % n=x
  ·subst zx
   rw [oM cj] at hw;cases hw;rw [Wo ⋯ hn rfl]
   have bT:(gT n i h (i % n)+h i).natAbs<=B2:=by have b1:=Wr (n:=n) (k:=i) (x:=i % n) bh;exact af (uN ..) (af (oV b1 (bh i)) (by decide +kernel))
   have bb:=zh hq cT iE bT bD;exact (Ap.jN bb.1 bb.2).b7 mG b7
  ·rw [oN zx] at hw
   have hx:x<n:=by rw [<-ft];exact (dj.mp hw).1
   rw [Wq ⋯ hx zx]
   exact ((fe x w hw).mono s2).b7 mG b7
 ·intro σ Hc;intros bn19 _ sc v4 ws rfl ef ft fe
  refine (ac _ rfl (k fd Hc sc mK (ad ws ef (by rw [ft,kT]) (λx w p x1 x2=>?_))))
  have hx:x<n:=by rw [<-ft];exact (dj.mp x1).1
  have z:=fe x w x1;have e:(fN q n h D)[x]?=some (da q (wr n h x) D):=by unfold fN;simp [hx]
  rw [e] at x2;cases x2;rw [U9 hq cT cT (T:=gT n vs.length h x) (U:=wr n h x)] at z;·exact z
  ·obtain ⟨c,y⟩:=Ws (q:=q) (k:=vs.length) (h:=h) hx λi hi=>by
    have w0:=wh i;rw [cF ⋯] at w0
    exact rE w0
   exact ⟨c*D,by dsimp only;rw [<-Int.sub_mul,y,gJ]⟩
theorem Z6:bH ["told","row","numbers"] ["told","row","numbers"] (aN Dt):=b6
theorem PV(T:Txt K mg t):a8 P w K mg base ck 6 t.tx t.xh ["told","row","numbers"] Wu:=by
 have S:=Z6;refine T.uc.cS S (λ_ _ _ _ H vs _ _ hr h=>?_);intros bn6 h td a b bn23 q D1 D2 n ps rs f g bn26 X1 X2 Y1 Y2 rfl ht hq hA bn30 hB n1 cI lp lr R1 R2 bX bY k;refine (ac _ (aw (aM (ay (Ew T) hr T.z_ T.om.kp T.z9 ax (aa (pv 0) (aa (aS bR rfl T.bO bQ (aa (pv 1) ag)) (aa (ay (x_ T) hr T.t9 T.kY.kp T.t8 ax (aa (pv 0) (aa (pv 1) (aa (pv 2) ag)))) ag)))))) ?_);obtain ⟨vs,ea,lv,fv⟩:=id hA;have ok:=R1.ok.mul R2.ok;have bD:(D1*D2).natAbs<=B2:=by rw [aZ];exact af (bN R1.bD R2.bD) (af bY (by decide +kernel))
 have PX:∀i j,(f i*g j).natAbs<=10 ^ 260:=λi j=>by rw [aZ];exact af (bN (R1.bf i) (R2.bf j)) bX
 have Z7:∀i j,(f i*g j).natAbs<=10 ^ 270:=λi j=>af (PX i j) (by decide +kernel)
 refine (ac _ rfl (be _ rfl a vs rfl (.inl (.of ea)) _ rfl (wf _ rfl _ rfl td a b (xL q ps rs (D1*D2) f (wv g rfl ht hq hA hB ⋯ ⋯ ok bD ⟨Z7,λi j _ _=>B_ (R1.w i) (R2.w j),λc H1 s1 nc hC=>?_⟩)))))
 have cP:=rh (n:=ps.length) (m:=rs.length) (N:=ps.length+rs.length-1) (f:=f) (g:=g) hq ok;have lP:(de q ps.length rs.length f g (D1*D2) (ps.length+rs.length-1)).length=ps.length+rs.length-1:=by simp [de]
 have cl:=iz (de q ps.length rs.length f g (D1*D2) (ps.length+rs.length-1));refine (wS td c q (D1*D2) n _ (wv (cv f g) (by rw [lv,lp];rfl) (ht.mono s1) hq hC n1 cI ⋯ ok bD ⟨λi=>?_,λi=>?_,λc2 H2 s2 x6 qc=>k c2 H2 (s1.trans s2) (none_of s1 x6) qc⟩))
 ·rw [pG hq cP]
  refine (rj ok i).trans ?_ ok;refine Cu (GZ (λi hi=>R1.out i ⋯) (λj hj=>?_) i)
  have w:=R2.w j;rw [cF hj] at w;exact rE w
 ·exact af (Ct R1.out PX i) (af (gK _ cI) (by decide +kernel))
theorem Z8:bH ["pen","told","many","row","way","by"] ["pen","told","many"] (aN Ds):=b6
theorem Z9(T:Txt K mg t):a8 P w K mg base ck 7 t.tq t.xg ["pen","told","many"] (WX K):=by
 have S:=Z8;refine T.xO.cS S (λ_ _ _ _ H _ Q _ hr h=>?_);intros bn17 h P0 a td ns q n bn27 F W1 rfl pc hS ht hq sz k;have gH:=pX (P:=P) (w:=w) (base:=base) (B:=F+1000) T
 refine (ac _ (ak (vx (i0:=3) (N:=["k","pen","told","many"]) (ρ:=(λσ=>[σ[0]?.join,σ[1]?.join,σ[2]?.join])) (iy [0,1,2] rfl) rfl S.nd rfl (Or.inl rfl) (iq rfl T.gW (aa (pv 2) ag)) (λ_ _ _=>.nil) (λ_ _ _=>(ay (OM T) hr T.HM T.t7.kp T.HL ax (aa (pv 1) (aa (pv 2) (aa (aB (Ut (K:=K)) (cV (aa (aA Fe ah ah) (aa (aA Fe ah ah) (aa ah (aa ah (aa ah (aa ah ag))))))) (aA eZ (aS (RZ rfl) rfl T.Og boot_min (aa (pv 3) (aa ah ag))) ah)) ag))))))
  (ak (putL 4 S.nd (ay (mI T) hr T.gF T.fc.kp T.gE ax (aa (pv 0) (aa ah ag))))
  (ak (lV 5 S.nd (aA eF ah (ay (mI T) hr T.gF T.fc.kp T.gE ax (aa (pv 0) (aa (pv 2) ag)))))
  (ak (bI (PW.pt (pw_or (aX eI (pv 4) ah) (pw_or1 (aX eI (pv 4) ah)))) (aw (putL 3 S.nd (ay (Ew T) hr T.z_ T.om.kp T.z9 ax (aa (pv 1) (aa (pv 2) (aa (ay (x_ T) hr T.t9 T.kY.kp T.t8 ax (aa (pv 1) (aa (pv 3) (aa (ay (Eu T) hr T.z8 T.oj.kp T.zZ ax (aa (pv 1) (aa (pv 5) ag))) ag)))) ag)))))) bV)
  (ak (bI (aX eI (pv 4) ah) (aw (putL 3 S.nd (ay (Ew T) hr T.z_ T.om.kp T.z9 ax (aa (pv 1) (aa (pv 2) (aa (ay (x_ T) hr T.t9 T.kY.kp T.t8 ax (aa (pv 1) (aa (pv 3) (aa (lT (N:=["k","told"]) (ρ:=(λσ=>[σ[1]?.join])) (iy [1] rfl) rfl (iq rfl T.gW (aa (pv 5) ag)) (λ_ _ _=>.nil) (λ_ _ _=>(ay gH hr T.jS T.ia.kp T.jR ax (aa (pv 1) (aa ah ag))))) ag)))) ag)))))) bV)
  (ak (bI (aX eI (pv 4) ah) (aw (vx (i0:=3) (N:=["k","told","by","pen"]) (ρ:=(λσ=>[σ[1]?.join,σ[5]?.join,σ[0]?.join])) (iy [1,5,0] rfl) rfl S.nd rfl (Or.inl rfl) (iq rfl T.gW (aa (pv 2) ag)) (λ_ _ _=>.nil) (λ_ _ _=>(ay gH hr T.jS T.ia.kp T.jR ax (aa (pv 1) (aa (aA hJ (nI Kt rfl T.xS boot_int (aa (nF eI (pv 0) (aA eZ (pv 2) ah)) ag)) (aA eF ah (ay (mI T) hr T.gF T.fc.kp T.gE ax (aa (pv 3) (aa ah ag))))) ag)))))) bV)
  (ak (bI (aX eI (pv 4) ah) (aw (vx (i0:=3) (N:=["k","told","pen"]) (ρ:=(λσ=>[σ[1]?.join,σ[0]?.join])) (iy [1,0] rfl) rfl S.nd rfl (Or.inl rfl) (iq rfl T.gW (aa (pv 2) ag)) (λ_ _ _=>.nil) (λ_ _ _=>(ay gH hr T.jS T.ia.kp T.jR ax (aa (pv 1) (aa (aA eZ (ay (mI T) hr T.gF T.fc.kp T.gE ax (aa (pv 2) (aa ah ag))) ah) ag)))))) bV)
  (aw (aM (pv 3)))))))))) ?_)
 obtain ⟨n1,n8,s1,_,Hn,f4,rJ,b1,Ex,_⟩:=id sz;have bF:F<=B2:=af rJ (by decide +kernel)
 refine kg (d8 (B4 (P:=P0) (a:=a) (n:=n) (ic n8 ∅) (λR h=>⟨_,rfl,(n:Int),rfl,⋯,⋯,by rw [dI];exact h H (aR.refl _) pc⟩) (λD _ y Hx=>∃xm:Int×Int,aY F (er P0 Hx) q y xm.1 xm.2) (λ_ _ _ _ _ _ ⟨xm,h1⟩ e _ f=>⟨xm,h1.BX e f⟩) ?_ ?_))
 ·intro D i hi Hc R sc ux _ nD kc
  refine (io _ rfl _ rfl _ _ rfl rfl ⟨∅,∅,∅⟩ (jp _ _ rfl rfl ⟨∅,∅,∅⟩ (by show 6<=sizeLine;decide) (λl nl=>?_)))
  have t1:=aJ (o:=.lst [.int (10 ^ Int.toNat 12),.int (10 ^ Int.toNat 12),.int 100,.int 9,.int 9,.int 9]) nl;have el:upd Hc l (.lst [.int (10 ^ Int.toNat 12),.int (10 ^ Int.toNat 12),.int 100,.int 9,.int 9,.int 9]) l=some (.lst [.int (10 ^ Int.toNat 12),.int (10 ^ Int.toNat 12),.int 100,.int 9,.int 9,.int 9]):=az;refine (wE _ rfl _ (al _ rfl _ _ rfl rfl (ii l _ _ _ rfl rfl (.of el) Hn ?_)));have p2:=ux.mono t1;have uk:=sc.trans (aR.of t1);exact (wS P0 a td ns q (F:Int) (wv F rfl p2 (ai.seq uk hS) (ht.mono uk) hq ⋯ (Int.le_refl _) ⋯ rJ (λv x m H' s' p' hv=>kc v H' ((aR.of t1).trans s') p' ⟨(x,m),hv⟩)))
 intro D0 ys H1 Z_ oH p1 fL hP eD;have q'35:=Gf (nS Z_ eD) hP;intros bn0 q'35 ps jW cW;have lp:ps.length=n:=by lia
 have x1:1000<=F ^ n+1000:=Nat.le_add_left ..;have q'36:=(GY (X:=F ^ n+1000) hq jW lp ⋯ n1 (λ_=>oS ..) x1);intros bn2 q'36 D f R
 have X8:q=0->F ^ n+1000<=W1:=λz=>af (iL _ ∅) (b1 z).1
 have Aq:aD B2 (er P0 H1) q D0 ps:=jW.weak bF;have PY:jP P0 H1 q n W1 D0:=⟨ps,Aq,G3 hq s1 lp jW.cX λz=>⟨D,f,R.weak (X8 z) (X8 z) (aL _)⟩⟩;dsimp only [bo]
 try simp only [dm,dn]
 have gG:=ai.seq oH hS;have jU:=ht.mono oH;clear hP fL;refine (ac _ rfl (f8 P0 a ns 7 rfl p1 gG ∅ (aQ.of_lt ∅ ∅) (λway H2 wy0 wy1 oI p2=>?_)))
 dsimp only [bo];refine (ul _ rfl _ rfl (f8 P0 a ns (n:Int) rfl p2 (ai.seq oI gG) ⋯ (aQ.of_lt ⋯ ⋯) (λPZ H3 by1 by2 P1 p3=>?_)))
 refine (ap _ _ rfl rfl ?_);obtain ⟨m,em,m1,mn⟩:∃m:Nat,(1:Int)+PZ=(m:Int)/\1<=m/\m<=n:=⟨(1+PZ).toNat,⋯,⋯,⋯⟩
 dsimp only [bo];rw [em];have fq:=oI.trans P1;have aae:=PY.mono fq;have hR3:aD B2 (er P0 H3) q D0 ps:=aD.mono Aq fq;have iG:=jU.mono fq;have eO:=ai.seq fq gG;have cp:=jW.cX;clear gG jU PY jW Aq wy0 wy1 by1 by2 oI P1 p1 p2 eD Hn;have IU:F ^ n+1000<=B2:=af Ex (by decide +kernel)
 have prod:∀(g:Nat->Int) (M:Nat) (rs:aC) (b:Addr) (Hx:Hp) (QQ:VK),aR P0 H3 Hx->dw Hx P0 a->aD B2 Hx q b rs->rs.length<=n+1->(∀i,ar q (rs.getD i o1) (g i,1))->(∀j,(g j).natAbs<=2)->(∀k,(cv f g k).natAbs<=M)->(q=0->2*M<=W1)->M<=10 ^ 280->(∀(r:Addr) (H':Hp),aR P0 H3 H'->dw H' P0 a->jP P0 H' q n W1 r->QQ (.ref r) H')->Iz [.ref td,.ref D0,.ref b] Hx (λv H'=>GW [.ref td,.int (n:Int),v] H' QQ E0) E0:=by
  intro g M rs b Hx QQ sx px hb lr wg bg bM bW Er kk;have fg:∀i j,(f i*g j).natAbs<=10 ^ 270:=λi j=>by rw [aZ];exact af (bN (af (R.bf i) Ex) (bg j)) (by decide +kernel)
  have ok:=R.ok;have bD:D.natAbs<=B2:=af R.bD IU;refine (ut td D0 b (xL q ps rs D f (wv g rfl ((iG.mono sx).mono gQ) hq ((aD.mono hR3 sx).mono gQ) hb ⋯ ⋯ ok bD ⟨fg,λi j _ _=>by have:=B_ (R.w i) (wg j);rwa [dC] at this,λc H4 s4 nc hC=>?_⟩)))
  have cP:=rh (n:=ps.length) (m:=rs.length) (N:=ps.length+rs.length-1) (f:=f) (g:=g) hq ok;have lP:(de q ps.length rs.length f g D (ps.length+rs.length-1)).length=ps.length+rs.length-1:=by simp [de]
  have cl:=iz (de q ps.length rs.length f g D (ps.length+rs.length-1));refine (wS td c q D n _ (wv (cv f g) rfl (((iG.mono sx).mono (aR.of s4)).mono gQ) hq hC n1 ⋯ ⋯ ok bD ⟨λi=>?_,λi=>af (bM i) Er,λc2 H5 s5 x6 qc=>?_⟩))
  ·rw [pG hq cP]
   refine (rj ok i).trans (Cu (GZ (λi hi=>R.out i ⋯) (λj hj=>?_) i)) ok
   have w:=wg j;rw [cF hj] at w;exact rE w
  ·have qb:=s4.trans s5
   have p5:=(px.mono s4).mono s5;refine kk c2 H5 (sx.trans (aR.of qb)) p5 ⟨_,qc.er p5 ((px.mono s4).ne x6),G3 hq s1 (kT ..) qc.cX λz=>⟨D,_,(GX ok bM R.bD).weak (bW z) (X8 z) (aL _)⟩⟩
 refine kg (zC λRa ra=>?_);have P2:∀(r:Addr) (Hx:Hp),aR P0 H3 Hx->dw Hx P0 a->jP P0 Hx q n W1 r->(way=3->r=D0)->Ra [some (.ref P0),some (.ref td),some (.int (n:Int)),some (.ref r),some (.int way),some (.int (m:Int))] Hx:=by
  intro r Hx sx px hx w3;apply ra;dsimp only;refine kg (zC λRb rb=>?_);have P4:∀(r:Addr) (Hx:Hp),aR P0 H3 Hx->dw Hx P0 a->jP P0 Hx q n W1 r->Rb [some (.ref P0),some (.ref td),some (.int (n:Int)),some (.ref r),some (.int way),some (.int (m:Int))] Hx:=by
   intro r Hx sx px hx;apply rb;dsimp only;refine kg (zC λRc rc=>?_);have P5:∀(r:Addr) (Hx:Hp),aR P0 H3 Hx->dw Hx P0 a->jP P0 Hx q n W1 r->Rc [some (.ref P0),some (.ref td),some (.int (n:Int)),some (.ref r),some (.int way),some (.int (m:Int))] Hx:=by
    intro r Hx sx px hx;apply rc;dsimp only;refine kg (zC λRd rd=>?_);have P6:∀(r:Addr) (Hx:Hp),aR P0 H3 Hx->dw Hx P0 a->jP P0 Hx q n W1 r->Rd [some (.ref P0),some (.ref td),some (.int (n:Int)),some (.ref r),some (.int way),some (.int (m:Int))] Hx:=by intro r Hx sx px hx;apply rd;dsimp only;intros bn0 hx xs h1 h2;exact (ac _ rfl (k r xs Hx (oH.trans (fq.trans sx)) px h1 h2))
    refine (bn _ rfl rfl _ rfl (cD (λ_=>?_) (λ_=>?_)))
    ·refine d8 (B4 (P:=P0) (a:=a) (n:=n) (ic n8 ∅) (λR h=>⟨_,rfl,(n:Int),rfl,⋯,⋯,by rw [dI];exact h Hx (aR.refl _) px⟩) (λD _ y Hx=>∃xm:Int×Int,aY F (er P0 Hx) q y xm.1 xm.2) (λ_ _ _ _ _ _ ⟨xm,h1⟩ e _ f=>⟨xm,h1.BX e f⟩) (λD i hi Hc R sc ux _ nD kc=>?_) λD5 ys Hy Ey sy py fL hP AF=>P6 D5 Hy (sx.trans sy) py (jP.Np hq sz Ey AF fL hP))
     refine (ul _ rfl _ rfl (f8 P0 a ns 3 rfl ux (ai.seq (sx.trans sc) eO) ∅ (aQ.of_lt ∅ ∅) (λv H' v0 v1 s' p'=>?_)))
     exact (ap _ _ rfl rfl (re td q (v-1) rfl ((iG.mono ((sx.trans sc).trans s')).mono gQ) hq ⋯ ⋯ (λu AG fG hu=>kc u AG (s'.trans (aR.of fG)) (p'.mono fG) ⟨_,(Nb (F:=F) hu ⋯ ⋯).er (H':=AG) (p'.mono fG)⟩)))
    ·exact P6 r Hx sx px hx
   refine (bn _ rfl rfl _ rfl (cD (λ_=>?_) (λ_=>?_)))
   ·refine d8 (B4 (P:=P0) (a:=a) (n:=n) (ic n8 ∅) (λR h=>⟨_,rfl,(n:Int),rfl,⋯,⋯,by rw [dI];exact h Hx (aR.refl _) px⟩) (λD _ y Hx=>∃xm:Int×Int,aY F (er P0 Hx) q y xm.1 xm.2) (λ_ _ _ _ _ _ ⟨xm,h1⟩ e _ f=>⟨xm,h1.BX e f⟩) (λD i hi Hc R sc ux _ nD kc=>?_) λD5 ys Hy Ey sy py fL hP AF=>P5 D5 Hy (sx.trans sy) py (jP.Np hq sz Ey AF fL hP))
    refine (ac _ rfl (io _ rfl _ rfl _ _ rfl rfl rfl (.inr (ac _ rfl ?_))));refine (ac _ rfl (f8 P0 a ns 9 rfl ux (ai.seq (sx.trans sc) eO) ∅ (aQ.of_lt ∅ ∅) (λv H' v0 v1 s' p'=>?_)))
    have hb:∃b:Int,(if decide (V.int (0+(i:Int))=V.int ((m:Int)-1))=true then (1:Int) else 0)=b/\0<=b/\b<=1:=⟨_,rfl,by split <;> lia,by split <;> lia⟩
    intros bn4 hb b eb b0 Cy;dsimp only;rw [eb];have hx:∃x:Int,b*(1+v)=x/\0<=x/\x<=9:=by
     rcases (show b=0\/b=1 by lia) with rfl | rfl
     ·exact ⟨_,rfl,⋯,⋯⟩
     ·exact ⟨_,rfl,⋯,⋯⟩
    intros bn4 hx x ex x0 x9;refine (ap _ _ rfl rfl (i' _ _ rfl rfl (.inl ⟨⋯,⋯⟩) ?_))
    show L9 (F+1000) [.ref td,.int (b*(1+v))] H' R E0;rw [ex];exact (re td q x rfl ((iG.mono ((sx.trans sc).trans s')).mono gQ) hq ⋯ ⋯ (λu AG fG hu=>kc u AG (s'.trans (aR.of fG)) (p'.mono fG) ⟨_,(Nb (F:=F) hu ⋯ ⋯).er (H':=AG) (p'.mono fG)⟩))
   ·exact P5 r Hx sx px hx
  refine (bn _ rfl rfl _ rfl (cD (λh3=>?_) (λ_=>?_)))
  ·have h3:=w3 (V.int.inj (dM h3))
   subst h3;refine d8 (ac _ rfl (li _ rfl _ rfl _ rfl ?_));refine qY (xs:=(List.range m).map λi:Nat=>V.int (0+(i:Int))) (λR h=>⟨_,rfl,(m:Int),rfl,⋯,⋯,h _ _ (ai.refl _) (by rw [dI];exact BN)⟩) (by rw [aW,iM];exact jH ⋯) (λ_ j y Hx=>aY (F+1000) Hx q y (bJ q 1).1 (bJ q 1).2) (λ_ _ _ _ _ _ h1 e f=>h1.b7 e f) ?_ ?_
   ·intro Dx i v hi Hc R sc _ kc
    exact (ac _ rfl (re td q 1 rfl (((iG.mono sx).mono gQ).mono sc) hq ⋯ ⋯ (λu H' s' hu=>kc u H' s' hu)))
   intro D5 ys Hy Ey sy fL hP AF;rw [aW,iM] at fL;have hO:aD B2 Hy q D5 (List.replicate m (bJ q 1)):=(ad ys AF (by rw [i9,fL]) (λi v p e1 e2=>by
    rw [mS] at e2
    split at e2
    ·cases e2
     exact (hP i v e1).weak (af (Nat.add_le_add_right rJ 1000) (by decide +kernel))
    ·cases e2))
   refine prod (λj=>if j<m then 1 else 0) (n*(F ^ n+1000)) (List.replicate m (bJ q 1)) D5 Hy (λv H'=>Rb [some (.ref P0),some (.ref td),some (.int (n:Int)),some v,some (.int way),some (.int (m:Int))] H') (sx.trans (aR.of sy)) (px.mono sy) hO (by rw [i9];lia) (λi=>?_) (λj=>by split <;> decide) (λk=>?_) (λz=>(b1 z).2) (af (bN n8 Ex) (by decide +kernel)) λr H' sr pr hr=>P4 r H' sr pr hr
   ·by_cases hi:i<m
    ·rw [aq hi,getD_at (by rw [i9];exact hi),List.getElem_replicate]
     exact (iW q 1 hq).2
    ·rw [ao hi,cF (by rw [i9];lia)]
     exact rg
   ·refine Ct R.out (λi j=>?_) k
    split
    ·rw [dC];exact R.bf i
    ·rw [cO];exact cn _
  ·exact P4 r Hx sx px hx
 have turn:way≠3->m_ (vb GW [] E0 (eJ (lH 1) (eJ (lH 2) (eJ (vb Iz [] E0 (eJ (lH 1) (eJ (lH 3) (eJ (vb M_ [] E0 (eJ (lH 1) (eJ (lH 5) iu))) iu)))) iu)))) (bo 3) {nx:=Ra,rt:=Q} [some (.ref P0),some (.ref td),some (.int (n:Int)),some (.ref D0),some (.int way),some (.int (m:Int))] H3:=by
  intro w3;refine d8 (li _ rfl _ rfl _ rfl (li _ rfl _ rfl _ rfl (re td q m rfl (iG.mono gQ) hq m1 ⋯ (λc H4 s4 nc hC=>?_))))
  refine prod (tp m) (2*(F ^ n+1000)) (bK q m) c H4 (λv H'=>Ra [some (.ref P0),some (.ref td),some (.int (n:Int)),some v,some (.int way),some (.int (m:Int))] H') (aR.of s4) (p3.mono s4) (hC.weak (by decide +kernel)) (by rw [mq m1];lia) (nZ hq m1) (zK m) (λk=>?_) (λz=>by have:=(b1 z).1;lia) (af (dJ 2 Ex) (by decide +kernel)) λr H' sr pr hr=>P2 r H' sr pr hr λh=>absurd h w3
  have e1:=R.bf k;have e2:=R.bf (k-m);rw [zI]
  split <;> lia
 refine (bn _ rfl rfl _ rfl (cD (λh1=>fm ?_) (λ_=>(bn _ rfl rfl _ rfl (cD (λh2=>?_) (λ_=>?_))))));·exact turn (by have:=V.int.inj (dM h1);lia)
 ·exact turn (by have:=V.int.inj (dM h2);lia)
 ·exact P2 D0 H3 (aR.refl _) p3 aae λ_=>rfl
theorem aag:bH ["told","row","aim","found"] ["told","row","aim","found"] (aN Du):=b6
theorem P7(T:Txt K mg t):a8 P w K mg base ck 7 t.tD t.xi ["told","row","aim","found"] WZ:=by
 have S:=aag;refine T.ud.cS S (λ_ _ _ s H _ _ _ hr h=>?_);intros bn17 h td a b p c q bn17 SS M n W X ps bn26 ss rs s F rfl ht hq hA bn30 hB hp hC BD cj bZ ls RS bX k;have iD:=hr.units;have hu:=hr.qD
 refine (ac _ (ak (bI (PW.pt (pw_or (g_ (gj (aS (ji (K:=K)) rfl T.i4 boot_isinstance (aa (pv 3) (aa (jd (v:=.ty "tuple") rfl T.pR boot_tuple rfl) ag))))) (pw_or (aX jB (aS bR rfl T.bO bQ (aa (pv 3) ag)) ah) (pw_or1 (aX jB (aB aU (pv 3) ah) fk))))) (aw (aM fV)) bV)
  (ak (bI (PW.pt (pw_or (g_ (gj (ay (x8 T) hr T.t6 T.kX.kp T.t5 ax (aa (pv 0) (aa (aB aU (pv 3) ah) ag))))) (pw_or1 (aX jB (aS bR rfl T.bO bQ (aa (aB aU (pv 3) ah) ag)) (aS bR rfl T.bO bQ (aa (pv 2) ag)))))) (aw (aM fV)) bV)
  (aw (aM (nF (LK (n:=1) iD) (ay (PV T) hr T.HR T.uc.kp T.HQ ax (aa (pv 0) (aa (pv 1) (aa (aB aU (pv 3) ah) ag)))) (pv 2)))))) ?_)
 obtain ⟨D,f,R⟩:=cj.row;have n1:=cj.sz.t.n1;have cI:=cj.sz.t.cI;have lp:=cj.len;have lw:=kT q n (cv F s) (M*SS);have RB:RowW q rs M F (Zt q n W 1*W) (Zt q n W 1*W) n:=⟨BD.eS.ok,BD.dvd,BD.eS.w,BD.bF,BD.bM,BD.eS.low⟩;have RG:=GX (q:=q) (n:=n) (RB.ok.mul RS.ok) (Ct RB.out (M:=Zt q n W 1*W*X) (λi j=>by rw [aZ];exact bN (RB.bf i) (RS.bf j))) (show (M*SS).natAbs<=Zt q n W 1*W*X by rw [aZ];exact bN RB.bD RS.bD)
 have bT:W*(2*(n*(Zt q n W 1*W*X)))<=10 ^ 260:=by
  rw [show W*(2*(n*(Zt q n W 1*W*X)))=2*n*(W*(Zt q n W 1*W)*X) by ac_rfl]
  exact af (bN (show 2*n<=80 by lia) (bN bZ bX)) (by decide +kernel)
 have bU:W*(Zt q n W 1*W*X)<=10 ^ 260:=by
  rw [show W*(Zt q n W 1*W*X)=W*(Zt q n W 1*W)*X by ac_rfl]
  exact af (bN bZ bX) (by decide +kernel)
 have q'38:=id hC;intros bn4 q'38 ws ew ft _;have q'39:=id hB;intros bn4 q'39 ys eb fL _;refine (gt _ rfl _ _ _ true rfl rfl (.of (.tup hp)) nN (ac true rfl (b5 (al _ rfl p _ rfl (.inr (.of hp)) (im rfl false (by rw [lW];rfl) (b5 (gt _ rfl p _ _ _ rfl rfl (.of hp) rfl (im rfl false (by simp) (b5 ?_)))))))))
 dsimp only [d5];refine (ac _ rfl (gt _ rfl p _ _ _ rfl rfl (.of hp) rfl (Exists.intro td (ol c q _ B2 rfl ht hq hC ⋯ (by decide +kernel) (λH1 s1=>(ac true rfl (b5 ?_)))))))
 refine (gt _ rfl p _ _ _ rfl rfl (.of (s1 _ _ hp)) rfl (ap c ws rfl (.inl (.of (s1 _ _ ew))) (al _ rfl b ys rfl (.inl (.of (s1 _ _ eb))) (im rfl false ?_ (b5 ?_)))))
 ·rw [show (ws.length:Int)=(ys.length:Int) by lia]
  simp
 dsimp only [d5];refine (ul _ rfl _ rfl (gt _ rfl p _ _ _ rfl rfl (.of (s1 _ _ hp)) rfl (ww td a c q (xz D (M*SS) n ps _ f (wr n (cv F s)) W (2*(n*(Zt q n W 1*W*X))) W (wv (Zt q n W 1*W*X) rfl (ht.mono s1) hq (hA.mono s1) (hC.mono s1) n1 cI lp ⋯ ⟨R,RG,bT,bU,λc2 H2 s2 x6 h2=>?_⟩)))))
 rw [BD.WY hq n1 R.eS RS.eS ls hB.cX] at h2;exact (ac _ rfl (zf hq h2 (hB.mono (s1.trans s2)) (k _ (s1.trans s2))))
theorem aah:bH ["told","world","row","factor","paper","other"] ["told","world","row","factor"] (aN Dv):=b6
theorem aai(T:Txt K mg t):a8 P w K mg base ck 10 t.tE t.xj ["told","world","row","factor"] (W0 t.bL):=by
 have S:=aah;refine T.xP.cS S (λ_ _ _ s H vs _ _ hr h=>?_);intros bn6 h td z a bn23 fa q b1 b2 ld n W ps bn23 gs us rF ts ws r u v bn30 rfl ht hz hq hA hG uv cj C k;have iD:=hr.units;have hu:=hr.qD
 refine (ac _ (ak (putL 4 S.nd (ay (IH T) hr T.DF T.pP.kp T.DE ax (aa (pv 1) (aa (nI qH rfl T.ot boot_list (aa (pv 2) ag)) (aa (ay (Eu T) hr T.z8 T.oj.kp T.zZ ax (aa (pv 0) (aa (aS bR rfl T.bO bQ (aa (pv 2) ag)) ag))) ag)))))
  (ak (bI (PW.pt (pw_or (g_ (gj (aS (ji (K:=K)) rfl T.i4 boot_isinstance (aa (pv 4) (aa (jd (v:=.ty "tuple") rfl T.pR boot_tuple rfl) ag))))) (pw_or (aX jB (aS bR rfl T.bO bQ (aa (pv 4) ag)) ah) (pw_or1 (aX (y_ (n:=1) iD) (aB aU (pv 4) ah) (pv 3)))))) (aw (aM fV)) bV)
  (ak (bI (PW.pt (pw_or (g_ (gj (ay (x8 T) hr T.t6 T.kX.kp T.t5 ax (aa (pv 0) (aa (aB aU (pv 4) ah) ag))))) (pw_or1 (g_ (gj (ay (x8 T) hr T.t6 T.kX.kp T.t5 ax (aa (pv 0) (aa (aB aU (pv 4) ah) ag)))))))) (aw (aM fV)) bV)
  (ak (putL 5 S.nd (ay (x_ T) hr T.t9 T.kY.kp T.t8 ax (aa (pv 0) (aa (aB aU (pv 4) ah) (aa (ay (Eu T) hr T.z8 T.oj.kp T.zZ ax (aa (pv 0) (aa (aS bR rfl T.bO bQ (aa (pv 2) ag)) ag))) ag)))))
  (aw (aM (nF (LK (n:=1) iD) (ay (ZS T) hr T.N4 T.xN.kp T.N3 ax (aa (pv 0) (aa (ay (x_ T) hr T.t9 T.kY.kp T.t8 ax (aa (pv 0) (aa (aB aU (pv 4) ah) (aa (pv 2) ag)))) (aa (pv 5) ag)))) (pv 3)))))))) ?_)
 have q'40:=cj.row;intros bn2 q'40 D f R;have n1:=cj.sz.t.n1;have cI:=cj.sz.t.cI;have lp:=cj.len;have cp:=hA.cX;have lt:=mq (q:=q) n1;have Jf:10 ^ 150<=B2:=by decide +kernel
 have iE:1000<=B2:=by decide +kernel
 have oE:B2<=10 ^ 300:=by decide +kernel
 have P8:aD B2 H q a ps:=hA.weak Jf;have q'41:=id P8;intros bn4 q'41 xs ea lv fv;refine (dL _ rfl _ rfl a xs rfl (.inl (.of ea)) (λh0 Ez=>?_));have s0:ai H (upd H h0 (.lst xs)):=aJ Ez;have hD:aD B2 (upd H h0 (.lst xs)) q h0 ps:=(ad xs az lv (λi v p h1 h2=>(fv i v p h1 h2).mono s0));generalize upd H h0 (.lst xs)=H0 at s0 hD ⊢;refine (dL _ rfl _ rfl a xs rfl (.inl (.of (s0 _ _ ea))) (re td q n (by rw [lv,lp];rfl) (ht.mono s0) hq n1 cI (λc1 H1 s1 Pq hT=>?_)))
 have P9:=s0.trans s1;refine (Exists.intro z (xz h0 c1 q ps (bK q n) D 1 f (tp n) W (u8 1 (Zt q n W) rfl (hz.mono P9) hq (hD.mono s1) (hT.weak iE) (cj.GU hq R) (λp l0 l1 l2 vO us vs ts ws r' u v Cy G8 mz H2 s2 ep _ _ _ _ _ _ zy hU hV aaj _ _ IY agC agD _ _ bu bv bt bw gY oA p_ C'=>?_))));have EA:=P9.trans s2;have cr:∀p∈bK q n,Canon q p:=hT.cX;have ne:r≠[]:=fT.mp (C.nn hq n1);have ne':r'≠[]:=fT.mp (C'.nn hq n1);have e:=dg.uniq hq cp cr C C' ne ne' hG.cX zy.cX;subst e;have zL:Zt q n W 1*W<=10 ^ 270:=af cj.sz.big (by decide +kernel)
 have w1:=cj.sz.t.w;have P_:∀{us ts:List Int},(∀x∈us,x.natAbs<=Zt q n W 1)->(∀x∈ts,x.natAbs<=W)->∀i j,(ae us i*ae ts j).natAbs<=10 ^ 270:=λh1 h2 i j=>by rw [aZ];exact af (bN (jo h1 i) (jo h2 j)) zL
 obtain ⟨s,D0,cT,bD,hs,Qa⟩:∃s D:Int,aP q D/\D.natAbs<=B2/\(q=0->(s=1\/s=-1)/\D=s*mz)/\(q≠0->D=1):=by
  by_cases zq:q=0
  ·have rD:mz≠0:=λe=>C'.nl (by rw [e];exact dA q)
   have bl:mz.natAbs<=B2:=af p_ (af (fS _ ⋯) (af zL (by decide +kernel)))
   by_cases h:0<mz;·exact ⟨1,mz,⟨λ_=>h,λy=>absurd zq y⟩,bl,λ_=>⟨.inl rfl,⋯⟩,λy=>absurd zq y⟩
   ·exact ⟨-1,-mz,⟨λ_=>by lia,λy=>absurd zq y⟩,by rw [mX];exact bl,λ_=>⟨.inr rfl,⋯⟩,λy=>absurd zq y⟩
  ·exact ⟨1,1,aP.one,by decide +kernel,λy=>absurd y zq,λ_=>rfl⟩
 obtain ⟨F1,G1,A1⟩:=Ni hq hU.cX cp C'.k1 C'.p1 C'.hu C'.lu hs Qa (λ_=>P_ bu bt);obtain ⟨F2,G2,A2⟩:=Ni hq hV.cX cr C'.k2 C'.p2 C'.hv C'.lv hs Qa (λ_=>P_ bv bw);have Qb:=WE hq A1 A2 cT C'.bz zy.cX C'.vP C'.nl;rw [aaj] at Qb;dsimp only [bo];refine (gt _ rfl _ _ _ true rfl rfl (.of (.tup ep)) nN (ac true rfl (b5 (al _ rfl p _ rfl (.inr (.of ep)) (im rfl false (by rw [lW];rfl) (b5 (gt _ rfl p _ _ _ rfl rfl (.of ep) rfl (ac _ rfl (zf hq zy (hG.mono EA) (ac false rfl (b5 ?_)))))))))))
 dsimp only [d5];refine (ac _ rfl (gt _ rfl p _ _ _ rfl rfl (.of ep) rfl (Exists.intro td (ol l1 q us B2 rfl (ht.mono EA) hq hU ⋯ oE (λH3 s3=>(ac true rfl (b5 ?_)))))))
 refine (ac _ rfl (gt _ rfl p _ _ _ rfl rfl (.of (s3 _ _ ep)) rfl (Exists.intro td (ol l2 q vs B2 rfl (ht.mono (EA.trans s3)) hq (hV.mono s3) ⋯ oE (λH4 s4=>(ac true rfl (b5 ?_)))))))
 have iF:=s3.trans s4;have Jg:=EA.trans iF;dsimp only [d5];refine (ac _ rfl (gt _ rfl p _ _ _ rfl rfl (.of (iF _ _ ep)) rfl (dL _ rfl _ rfl a xs rfl (.inl (.of (Jg _ _ ea))) (re td q n (by rw [lv,lp];rfl) (ht.mono Jg) hq n1 cI (λc5 H5 s5 Ek By=>?_)))))
 have Qc:=Jg.trans s5;have Qd:=iF.trans s5;refine (ut td l2 c5 (xL q vs (bK q n) D0 F2 (wv G2 rfl (ht.mono Qc) hq (hV.mono Qd) (By.weak iE) ⋯ ⋯ cT bD ⟨A2.bd,A2.w,λc6 H6 s6 nc6 Jb=>?_⟩)))
 have Jh:=Qc.trans s6;have Qe:=Qd.trans s6;have xX:(de q us.length ps.length F1 G1 D0 (us.length+ps.length-1)).length=us.length+ps.length-1:=by simp [de]
 have l2':(de q vs.length (bK q n).length F2 G2 D0 (vs.length+(bK q n).length-1)).length=vs.length+(bK q n).length-1:=by simp [de]
 have l3':=iz (de q us.length ps.length F1 G1 D0 (us.length+ps.length-1));have l4':=iz (de q vs.length (bK q n).length F2 G2 D0 (vs.length+(bK q n).length-1));dsimp only [bo];refine (ul _ rfl _ rfl (gt _ rfl p _ _ _ rfl rfl (.of (Qe _ _ ep)) rfl (wT _ rfl td l1 a q us (ut ps D0 F1 (wv G1 rfl (ht.mono Jh) hq (hU.mono Qe) (P8.mono Jh) ⋯ ⋯ cT bD ⟨A1.bd,A1.w,λc7 H7 s7 nc7 hC7=>?_⟩)))))
 have Ji:=Jh.trans s7;refine (ac _ rfl (wS td c7 c6 q _ _ (wv B2 rfl (ht.mono Ji) hq hC7 (Jb.mono s7) iE oE ⋯ ⋯ (λc8 H8 s8 nc8 Qf=>?_))))
 rw [Qb] at Qf;exact (ac _ rfl (zf hq Qf (hG.mono (Ji.trans s8)) (k _ (Ji.trans s8))))
theorem aal{B':Nat}{H:Hp}{q:Int}{u:V}{x m:Int}{R:VK}(hv:aY B H q v x m)(hu:aY B' H q u x m)(k:R (.bl false) H):Lu K v u H R:=by
 cases hv with
 | cm e l bx bm=>
  cases hu with
  | cm e' l' _ _=>refine .inl (ol _ _ _ _ rfl rfl (.of e) (.of e') rfl rfl ?_);rw [LA];exact k
  | rem h0 h1 _=>lia
 | rem h0 h1 h2=>
  cases hu with
  | cm _ _ _ _=>lia
  | rem _ _ _=>refine .inr ⟨rfl,?_⟩;simpa using k
theorem aam:bH ["told","world","row","found","factor","move","turn"] ["told","world","row","found"] (aN Dw):=b6
theorem aan(T:Txt K mg t):a8 P w K mg base ck 11 t.tF t.xk ["told","world","row","found"] (W3 t.bL):=by
 have S:=aam;have gH:=pX (P:=P) (w:=w) (base:=base) (B:=1000) T;refine T.xQ.cS S (λ_ _ _ _ H vs _ _ hr h=>?_);intros bn17 h td z a p l0 m bn24 q n W ps gs ms rfl ht bn30 hz hq hA hp hG hM cj sq LD k;have iD:=hr.units;have hu:=hr.qD
 refine (ac _ (ak (bI (PW.pt (pw_or (g_ (gj (aS (ji (K:=K)) rfl T.i4 boot_isinstance (aa (pv 3) (aa (jd (v:=.ty "tuple") rfl T.pR boot_tuple rfl) ag))))) (pw_or (aX jB (aS bR rfl T.bO bQ (aa (pv 3) ag)) ah) (pw_or1 (aX jB (aB aU (pv 3) ah) fk))))) (aw (aM fV)) bV)
  (ak (putL 4 S.nd (aB aU (pv 3) ah))
  (ak (putL 5 S.nd (aB aU (pv 3) ah))
  (ak (putL 6 S.nd (ay (Eu T) hr T.z8 T.oj.kp T.zZ ax (aa (pv 0) (aa (aS bR rfl T.bO bQ (aa (pv 2) ag)) ag))))
  (ak (bI (PW.pt (pw_or (g_ (gj (ay (x8 T) hr T.t6 T.kX.kp T.t5 ax (aa (pv 0) (aa (pv 4) ag))))) (pw_or (aX jC (aS bR rfl T.bO bQ (aa (pv 4) ag)) ah) (pw_or1 (aX (Ud hu) (aB cz (pv 4) (je jf ah)) (ay gH hr T.jS T.ia.kp T.jR ax (aa (pv 0) (aa ah ag)))))))) (aw (aM fV)) bV)
  (ak (bI (PW.pt (pw_or (aX (G5 iD) (ay (PB T) hr T.HP T.t_.kp T.HN ax (aa (pv 0) (aa (pv 2) (aa (pv 4) ag)))) (cV ag)) (pw_or1 (aX (G5 iD) (ay (PB T) hr T.HP T.t_.kp T.HN ax (aa (pv 0) (aa (pv 6) (aa (pv 4) ag)))) (cV ag))))) (aw (aM fV)) bV)
  (ak (bI (PW.pt (pw_or (g_ (gj (ay (x8 T) hr T.t6 T.kX.kp T.t5 ax (aa (pv 0) (aa (pv 5) ag))))) (pw_or (aX jB (aS bR rfl T.bO bQ (aa (pv 5) ag)) (aS bR rfl T.bO bQ (aa (pv 2) ag))) (pw_or1 (aX (y_ (n:=1) iD) (ay (x_ T) hr T.t9 T.kY.kp T.t8 ax (aa (pv 0) (aa (pv 4) (aa (pv 5) ag)))) (pv 6)))))) (aw (aM fV)) bV)
  (ak (bI (aX (G5 iD) (ay (Ao T) hr T.xM T.mD.kp T.xK ax (aa (pv 0) (aa (ay (PV T) hr T.HR T.uc.kp T.HQ ax (aa (pv 0) (aa (pv 2) (aa (pv 5) ag)))) ag))) (cV ag)) (aw (aM fV)) bV)
  (aw (aM (ay (aai T) hr T.N8 T.xP.kp T.N7 ax (aa (pv 0) (aa (pv 1) (aa (pv 2) (aa (pv 4) ag))))))))))))))) ?_)
 intros bn6 LD us vs aV bn23 cW ts ws r u v b1 b2 bn24 ld D b F G uu C l2 bn30 br bl bt gY uv lgs rfl lb ll PD;have q'44:=cj.row;intros bn2 q'44 D1 f R;have n1:=cj.sz.t.n1;have cI:=cj.sz.t.cI;have lp:=cj.len;have cp:=hA.cX;have cg:=hG.cX;have lt:=mq (q:=q) n1;have lg:=C.lg;have hW:=cj.sz.t.w;have z2:=kS cj.sz.t 2;have iE:1000<=B2:=by decide +kernel
 have oE:B2<=10 ^ 300:=by decide +kernel
 have Jf:10 ^ 150<=B2:=by decide +kernel
 have ne:r≠[]:=fT.mp ⋯
 have lms:(dQ aV n).length=n:=by unfold dQ;simp;lia
 have LG:pL q gs r ld (Zt q n W 2):=⟨cg,C.vP,C.nl,lg,ne,C.lead ne,C.tr,λ_ k=>jo br k,λ_=>bl⟩;have LI:gc q (ae r) ps (ae ts) b1 W:=⟨cp,C.p1,C.k1.nz hq,C.d1,λ_ k=>jo bt k,λ_=>gY⟩;have q'45:=id hA;intros bn4 q'45 xs ea lv fv;have q'46:=id hG;intros bn4 q'46 gw eg Qg fgw;refine (gt _ rfl _ _ _ true rfl rfl (.of (.tup hp)) nN (ac true rfl (b5 (al _ rfl p _ rfl (.inr (.of hp)) (im rfl false (by rw [lW];rfl) (b5 (gt _ rfl p _ _ _ rfl rfl (.of hp) rfl (im rfl false (by simp) (b5 ?_)))))))))
 dsimp only [d5];refine (gt _ rfl p _ _ _ rfl rfl (.of hp) rfl ?_);dsimp only [bo];refine (gt _ rfl p _ _ _ rfl rfl (.of hp) rfl ?_);dsimp only [bo];refine (dL _ rfl _ rfl a xs rfl (.inl (.of ea)) (re td q n (by rw [lv,lp];rfl) ht hq n1 cI (λtn H1 s1 ntn hT=>?_)))
 dsimp only [bo];refine (wf _ rfl _ rfl td l0 q (u8 gs B2 rfl (ht.mono s1) hq (hG.mono s1) ⋯ oE (λH2 s2=>(ac true rfl (b5 ?_)))))
 have cE:=s1.trans s2;have AH:=cE _ _ eg;have lead:∃v,gw[gw.length-1]?=some v/\aY B2 H2 q v (bJ q 1).1 (bJ q 1).2:=by
  have g2:gs.length-1<gs.length:=by lia
  have g3:gw.length-1<gw.length:=by lia
  refine ⟨gw[gw.length-1],by simp [g3],?_⟩
  have n1:=(fgw (gs.length-1) gw[gw.length-1] gs[gs.length-1] (by rw [<-Qg];simp [g3]) (by simp [g2])).mono cE
  rw [<-getD_at (d:=o1) g2] at n1;have w:=C.vP (gs.length-1);rw [lg,<-C.lead ne,<-lg] at w;have o:=iW q 1 hq;have e1:gs.getD (gs.length-1) o1=bJ q 1:=by refine gB hq (cH hq cg _) o.1 ?_;refine ar.trans (t:=((1:Int),(1:Int))) ?_ o.2.symm aP.one;refine nV hq C.nl ?_;obtain ⟨x,ex⟩:=w;dsimp only at ex ⊢;exact ⟨x,by rw [<-ex];grind⟩
  rw [e1] at n1;exact n1
 intros bn0 lead lv0 elv nlv;refine (al _ rfl l0 gw rfl (.inl (.of AH)) (on _ _ rfl rfl false ?_ (b5 ?_)))
 ·show V.bl (decide ((gw.length:Int)<2))=V.bl false
  rw [iH ⋯]
 refine (ac _ rfl (gt _ rfl l0 gw _ lv0 rfl rfl (.of AH) (Py ⋯ elv) (ac _ rfl (re td q 1 rfl (ht.mono cE) hq ∅ ∅ (λv9 H3 s3 hv9=>?_)))))
 refine aal (nlv.mono s3) hv9 (ac false rfl (b5 ?_));have fq:=cE.trans s3;have Jd:=s2.trans s3;dsimp only [d5];have Qh:W*(2*Zt q n W 2) ^ (n-1+1)<=10 ^ 300:=by rw [Nat.sub_add_cancel n1];exact sq.lw
 have aav:1000*(2*Zt q n W 2) ^ (n-1+1)<=10 ^ 300:=af (gK _ hW) Qh;have cl:=iz ps;have aaw:=hT.weak (B':=10 ^ 150) (by decide +kernel)
 refine (ac _ rfl (wf _ rfl _ rfl td a l0 (xz q ps gs r (ae ts) b1 ld W (Zt q n W 2) n (wv (n-1) rfl (ht.mono fq) hq (hA.mono fq) (hG.mono fq) ⋯ ⋯ LI LG ⟨hW,⋯,⋯,⋯,Qh,⋯,λd4 H4 s4 nd4 ed4=>?_⟩))))
 refine ⟨by show 0<=sizeLine;decide,λl5 Je=>?_⟩
 have uw:ai H4 (upd H4 l5 (.lst [])):=aJ Je;have qb:=s4.trans uw;refine (Exists.intro d4 (i' l5 [] rfl rfl (.of (uw _ _ ed4)) (im az false rfl (b5 ?_))));have fO:=fq.trans qb;have Jj:=Jd.trans qb;generalize upd H4 l5 (.lst [])=H5 at uw qb fO Jj ⊢;have LT:gc q (ae r) (bK q n) (tp n) 1 1000:=⟨hT.cX,nZ hq n1,gD hq,C.G_ hq n1,λ_ k=>af (zK n k) ∅,λ_=>by decide⟩
 refine (ac _ rfl (wf _ rfl _ rfl td tn l0 (xz q (bK q n) gs r (tp n) 1 ld 1000 (Zt q n W 2) (n+1) (wv (n-1) rfl (ht.mono fO) hq (aaw.mono Jj) (hG.mono fO) ⋯ ⋯ LT LG ⟨∅,by rw [iX hq n1,lt];exact aL _,⋯,⋯,aav,⋯,λd6 H6 s6 nd6 ed6=>?_⟩))))
 refine ⟨by show 0<=sizeLine;decide,λl7 nl7=>?_⟩
 have Jk:ai H6 (upd H6 l7 (.lst [])):=aJ nl7;refine (Exists.intro d6 (i' l7 [] rfl rfl (.of (Jk _ _ ed6)) (im az false rfl (b5 ?_))));have ko:=s6.trans Jk;have jr:=fO.trans ko;have Qi:=Jj.trans ko;generalize upd H6 l7 (.lst [])=H7 at Jk ko jr Qi ⊢;dsimp only [d5];have q'47:=id hM;intros bn4 q'47 mw em lmw _;refine (wf _ rfl _ rfl td m q (u8 _ B2 rfl (ht.mono jr) hq (hM.mono jr) ⋯ oE (λH8 s8=>(ac true rfl (b5 ?_)))))
 have yf:=jr.trans s8;have s28:=Qi.trans s8;refine (al _ rfl m mw rfl (.inl (.of (yf _ _ em))) (al _ rfl a xs rfl (.inl (.of (yf _ _ ea))) (im rfl false ?_ (b5 ?_))))
 ·rw [show (mw.length:Int)=(xs.length:Int) by lia]
  simp
 have Qj:iZ q n W<=10 ^ 255:=af (iL _ ⋯) sq.bw
 refine (ac _ rfl (wf _ rfl _ rfl td l0 m (xL q gs (dQ aV n) D uu (wv F rfl (ht.mono yf) hq (hG.mono yf) (hM.mono yf) ⋯ ⋯ PD.ok (af PD.bD (af Qj (by decide +kernel))) ⟨λi j=>by rw [jb];exact af (PD.WL j i) (af Qj (by decide +kernel)),λi j _ _=>PD.pair hq cg i j,λc9 H9 s9 nc9 Qk=>?_⟩))))
 rw [PD.turn hq n1 cg C ll lb] at Qk;refine (ac _ rfl (zf hq Qk (hT.mono (s28.trans s9)) (ac false rfl (b5 ?_))));have EB:=yf.trans s9;dsimp only [d5];have aaC:fM n (λi=>F i*b):=λi hi=>by show F i*b=0;rw [PD.zQ i ⋯,gh]
 have RM:RowW q (dQ aV n) D (λi=>F i*b) (iZ q n W) (iZ q n W) n:=⟨PD.ok,λp hp=>by
  unfold dQ at hp;rcases i7.mp hp with h | h;·exact PD.WM p h
  ·rw [(yE.mp h).2];exact uJ D,λi=>by rw [zN];exact PD.wb i,PD.Nk,PD.bD,aaC⟩
 have Ql:W*iZ q n W<=10 ^ 260:=af sq.bw (by decide +kernel)
 refine (ac _ rfl (li _ rfl _ rfl _ rfl (ww td a m q (xz D1 D n ps (dQ aV n) f _ W (iZ q n W) W (wv (iZ q n W) rfl (ht.mono EB) hq ((hA.mono EB).weak Jf) (hM.mono EB) n1 cI lp ⋯ ⟨R,RM,Ql,Ql,λFD H10 s10 agP aaE=>?_⟩)))))
 have Qm:=EB.trans s10;refine (Exists.intro td (f8 FD q _ B2 rfl (ht.mono Qm) hq aaE (by rw [kT];lia) (λLe Qn s11 agQ Qo=>?_)))
 rw [WR hq (R.ok.mul PD.ok) (PD.none hq n1 cp cg C ll lb R.eS)] at Qo;intros bn4 Qo w11 e11 l11 _;have z11:w11=[]:=kv.mp l11;subst z11;refine ⟨by show 0<=sizeLine;decide,λQp aaK=>?_⟩
 have Qq:ai Qn (upd Qn Qp (.lst [])):=aJ aaK;refine (Exists.intro Le (i' Qp [] rfl rfl (.of (Qq _ _ e11)) (im az false rfl (b5 ?_))));have AI:=Qm.trans (s11.trans Qq);dsimp only [d5];exact (ul _ rfl _ rfl (wf _ rfl _ rfl td z a (xL l0 q b1 b2 ld (xz n W ps gs us vs ts ws r u (wv v rfl (ht.mono AI) (hz.mono AI) hq (hA.mono AI) (hG.mono AI) uv cj C (λH' s'=>k _ (AI.trans s')))))))
theorem aaL(q:Int):(kK q).prime=if q=0 then .a9 else .int q:=by
 unfold kK
 split <;> rfl
theorem aaM:bH ["script","pen","k","told","world","many","row","aim","unit","handed","turn","found","back","alone"] ["script"] (aN Dy):=b6
theorem aaN(T:Txt K mg t):a8 P w K mg base ck 13 t.pM t.tG ["script"] (BI K):=by
 have S:=aaM;have gH:=pX (P:=P) (w:=w) (base:=base) (B:=B2) T;have aaO:=Xj (P:=P) (w:=w) (base:=base) T;refine T.xR.cS S (λ_ _ _ s H _ Q _ hr h=>?_);intros bn10 h a ns rfl hS hlen kQ;have iD:=hr.units
 refine (ac _ (ak (lV 1 S.nd (cV (aa (pv 0) (aa ah (aa ah ag)))))
  (ak (jA fi rfl (iq rfl T.gW (aa ah ag)) (fF (i:=2) S.nd rfl (Or.inl rfl))
   (ak (bI (PW.pt (pw_and (aX ka (pv 2) ah) (pw_and1 (aX Bp (aB cz (pv 1) ah) (aS bR rfl T.bO bQ (aa (pv 0) ag)))))) (aw Rj) bV)
  (ak (lV 3 S.nd (ay (Yo T) hr T.N0 T.xJ.kp T.NZ ax (aa (pv 1) ag)))
  (ak (putL 4 S.nd (So T.DI aaO (hr.mono ∅) rfl T.Od T.Ob .nil lQ (aa (pv 3) ag)))
  (ak (putL 5 S.nd (aA eF ah (ay (mI T) hr T.gF T.fc.kp T.gE ax (aa (pv 1) (aa ah ag)))))
  (ak (bI (aX eI (aB aU (pv 3) ah) fk) (ak (putL 5 S.nd (aA eF ah (ay (mI T) hr T.gF T.fc.kp T.gE ax (aa (pv 1) (aa ah ag)))))
  (aw (bI (PW.pt (pw_and (aX eI (pv 2) ah) (pw_and1 (aX eI (ay (mI T) hr T.gF T.fc.kp T.gE ax (aa (pv 1) (aa ah ag))) ah)))) (aw (putL 5 S.nd (aA eF ah (ay (mI T) hr T.gF T.fc.kp T.gE ax (aa (pv 1) (aa ah ag)))))) bV))) bV)
  (ak (putL 6 S.nd (ay (Z9 T) hr T.N6 T.xO.kp T.N5 ax (aa (pv 1) (aa (pv 3) (aa (pv 5) ag)))))
  (ak (vx (i0:=7) (N:=["turn","pen","told"]) (ρ:=(λσ=>[σ[1]?.join,σ[3]?.join])) (iy [1,3] rfl) rfl S.nd rfl (Or.inl rfl) (iq rfl T.gW (aa (pv 5) ag)) (λ_ _ _=>.nil) (λ_ _ _=>(ay (OM T) hr T.HM T.t7.kp T.HL ax (aa (pv 1) (aa (pv 2) (aa ah ag))))))
  (ak (putL 8 S.nd (ay (Ew T) hr T.z_ T.om.kp T.z9 ax (aa (pv 3) (aa (pv 5) (aa (cV (aa (ay gH hr T.jS T.ia.kp T.jR ax (aa (pv 3) (aa ah ag))) ag)) ag)))))
  (ak (putL 9 S.nd (cV (aa (nI qH rfl T.ot boot_list (aa (pv 6) ag)) (aa (nI qH rfl T.ot boot_list (aa (pv 7) ag)) ag))))
  (aw (jA fi rfl (iq rfl T.gW (aa (aA eZ ah (nI Kt rfl T.xS boot_int (aa (nF ka (pv 5) ah) ag))) ag)) (fF (i:=10) S.nd rfl (Or.inl rfl))
   (ak (putL 11 S.nd (ay (Pt T) hr T.HI T.tY.kp T.HH lQ (aa (pv 4) (aa (aB cz (pv 9) ah) (aa (aB cz (pv 9) ah) ag)))))
  (ak (bI (PW.pt (pw_or (aX (y_ (n:=2) iD) (pv 9) (cV (aa (pv 6) (aa (pv 7) ag)))) (pw_or (g_ (gj (aS (ji (K:=K)) rfl T.i4 boot_isinstance (aa (pv 11) (aa (jd (v:=.ty "tuple") rfl T.pR boot_tuple rfl) ag))))) (pw_or1 (aX jC (aS bR rfl T.bO bQ (aa (pv 11) ag)) ah))))) (aw (aM fV)) bV)
  (ak (putL 12 S.nd (ay (ZF T) hr T.NC T.xv.kp T.NB lQ (aa (pv 4) (aa (aB cz (pv 9) ah) ag))))
  (ak (bI (aX (y_ (n:=2) iD) (pv 9) (cV (aa (pv 6) (aa (pv 7) ag)))) (aw (aM fV)) bV)
  (ak (bI (aX eI (aB aU (pv 11) ah) fk) (ak (bI (g_ (gj (ay (P7 T) hr T.HU T.ud.kp T.HS ax (aa (pv 3) (aa (pv 6) (aa (pv 7) (aa (pv 11) ag))))))) (aw (aM fV)) bV)
  (ak (putL 13 S.nd (ay (Pt T) hr T.HI T.tY.kp T.HH lQ (aa (pv 4) (aa (nI qH rfl T.ot boot_list (aa (pv 6) ag)) (aa (nI qH rfl T.ot boot_list (aa (pv 8) ag)) ag)))))
  (ak (bI (g_ (gj (ay (P7 T) hr T.HU T.ud.kp T.HS ax (aa (pv 3) (aa (pv 6) (aa (pv 8) (aa (pv 13) ag))))))) (aw (aM fV)) bV)
  (aw (bI (PW.pt (pw_or (g_ (gj (ay (x8 T) hr T.t6 T.kX.kp T.t5 ax (aa (pv 3) (aa (pv 12) ag))))) (pw_or1 (aX (y_ (n:=1) iD) (pv 12) (aB aU (pv 13) ah))))) (aw (aM fV)) bV))))) (ak (bI (PW.pt (pw_or (g_ (gj (ay (aan T) hr T.N_ T.xQ.kp T.N9 ax (aa (pv 3) (aa (pv 4) (aa (pv 6) (aa (pv 11) ag))))))) (pw_or1 (aX RV (pv 12) oZ)))) (aw (aM fV)) bV)
  (aw (E3 (KZ PySem.F.plainAttrs_list PySem.F.slot_list_append PySem.F.type_list_append vk (aB aU (pv 11) ah) (aa oZ ag))))))
  (aw (E3 (KZ PySem.F.plainAttrs_list PySem.F.slot_list_append PySem.F.type_list_append vk (aB aU (pv 11) ah) (aa oZ ag)))))))))))))))))))))
  (aw (aM fV)))) ?_)
 refine (ad _ rfl (by show 3<=sizeLine;decide) (λP0 nP=>?_))
 have p0:dw (upd H P0 (.lst [.ref a,.int 0,.int 0])) P0 a:=⟨0,0,az,∅,∅⟩
 have Av:bG K (er P0 (upd H P0 (.lst [.ref a,.int 0,.int 0]))) a (ns.map V.int):=by rw [L5];exact ai.seq (λb o e=>nS (gL e nP) e) hS
 generalize upd H P0 (.lst [.ref a,.int 0,.int 0])=H0 at p0 Av ⊢;refine (gl 4 rfl ∅ ∅ ?_)
 refine nC (λi σ Hc=>∃(v2 v3 v4 v5 v6 v7 v8 v9 v10 v11 mO mP:Option V),σ=[some (.ref a),some (.ref P0),v2,v3,v4,v5,v6,v7,v8,v9,v10,v11,mO,mP]/\aR P0 H0 Hc/\dw Hc P0 a) (xz _ _ _ _ _ _ _ _ _ _ (ap _ _ rfl (aR.refl _) p0)) ?_ ?_
 ·intro i σ Hc hi;intros bn17 _ v2 v3 v4 v5 v6 v7 bn24 v8 v9 v10 v11 mO mP rfl sT pc
  have gG:bG K (er P0 Hc) a (ns.map V.int):=ai.seq sT Av;refine kg (Vy (λQ hQ=>?_) ?_ ?_)
  ·have q'48:=id pc;intros bn5 q'48 x y eP _
   exact (be _ rfl _ _ rfl rfl _ rfl (cD (λ_=>(gt _ rfl P0 _ _ _ rfl rfl (.of eP) rfl (al _ rfl a (ns.map V.int) rfl (.inl (gQ.seq gG)) (on _ _ rfl rfl _ rfl (hQ _))))) (λ_=>hQ _)))
  ·exact kQ _
  dsimp only [d5];refine (ce _ rfl P0 a ns rfl pc gG (λtd q H1 hq s1 p1 jU=>?_));refine (ac _ rfl (λz dz nz Qr ne=>(ii z dz td (kK q) rfl az ?_ (λ_=>⟨rfl,?_⟩) (λhg=>absurd ((UP hq).symm.trans hg) ∅))))
  ·have e:=gQ _ _ jU
   rw [cq (gL e nz),cq (gL e Qr)];exact e
  have sz:ai H1 (upd (upd (upd H1 dz (.own z)) z (.ins t.bL dz [])) z (.ins t.bL dz [("prime",(kK q).prime)])):=λb o e=>by rw [cq (gL e nz),cq (gL e nz),cq (gL e Qr)];exact e
  have EC:dO t.bL (upd (upd (upd H1 dz (.own z)) z (.ins t.bL dz [])) z (.ins t.bL dz [("prime",(kK q).prime)])) z q:=⟨dz,by rw [az,aaL]⟩
  generalize (upd (upd (upd H1 dz (.own z)) z (.ins t.bL dz [])) z (.ins t.bL dz [("prime",(kK q).prime)]))=H2 at sz EC ⊢;have p2:=p1.mono sz;have nzP:z≠P0:=λe=>by intros bn5 p2 x y eP _;obtain ⟨d',ez⟩:=EC;rw [e,eP] at ez;cases ez
  have hzE:∀{Hx:Hp},aR P0 H2 Hx->dO t.bL Hx z q:=fun{Hx} s=>by obtain ⟨d',ez⟩:=EC;exact ⟨d',s.at nzP ez⟩
  have ht:dP (er P0 H2) td q:=jU.mono (ze sz);have uj:bG K (er P0 H2) a (ns.map V.int):=ai.seq (s1.trans (aR.of sz)) gG;have sT:aR P0 H0 H2:=sT.trans (s1.trans (aR.of sz));dsimp only [bo];simp only [dm,dn];refine (ac _ rfl (f8 P0 a ns 6 rfl p2 uj ∅ (aQ.of_lt ∅ ∅) (λm0 H3 m00 m01 s3 p3=>(ap _ _ rfl rfl ?_))))
  dsimp only [bo];simp only [dm,dn];have iG:=ht.mono s3;have eO:bG K (er P0 H3) a (ns.map V.int):=ai.seq s3 uj;have Qs:=sT.trans s3;have Qt:∀{Hx:Hp},aR P0 H3 Hx->dO t.bL Hx z q:=fun{Hx} s=>hzE (s3.trans s);clear ht uj gG jU s1 EC;refine kg (zC λR hR=>?_);have rest:∀(n F W1:Nat) (Hx:Hp),zS q n F W1->aR P0 H3 Hx->dw Hx P0 a->R [some (.ref a),some (.ref P0),some (.int (0+(i:Int))),some (.ref td),some (.ref z),some (.int (n:Int)),v6,v7,v8,v9,v10,v11,mO,mP] Hx:=by
   intro n F W1 Hx sz sx px;apply hR;dsimp only;refine (li _ rfl _ rfl _ rfl (ww P0 a td ns (ol q n F W1 rfl px (ai.seq sx eO) (iG.mono sx) hq sz (λr1 oJ H4 s4 p4 jW T1=>?_))));have ED:=sx.trans s4;dsimp only [bo];simp only [dm,dn];have n1:=sz.n1;have cI:=sz.cI;refine kg (d8 (B4 (P:=P0) (a:=a) (n:=n) (ic cI ∅) (λR h=>⟨_,rfl,(n:Int),rfl,⋯,⋯,by rw [dI];exact h H4 (aR.refl _) p4⟩) (λD _ y Hx=>∃xm:Int×Int,aY 100 (er P0 Hx) q y xm.1 xm.2) (λ_ _ _ _ _ _ ⟨xm,h1⟩ e _ f=>⟨xm,h1.BX e f⟩) ?_ ?_))
   ·intro D i hi Hc R sc ux _ nD kc
    exact (ul _ rfl _ rfl (wS P0 a td ns q 100 (wv 100 rfl ux (ai.seq (ED.trans sc) eO) (iG.mono (ED.trans sc)) hq ∅ ∅ ∅ ∅ (λv x m H' s' p' hv=>kc v H' s' p' ⟨(x,m),hv⟩))))
   intro D6 ys H6 nD6 s6 p6 fL hP eD6;have q'49:=Gf (nS nD6 eD6) hP;intros bn0 q'49 ss qd lss;have ls:ss.length=n:=by lia
   have q'50:=(GY (X:=10 ^ 25) hq qd ls ∅ n1 (λz=>af (dD ∅ (sz.n6 z)) (by decide +kernel)) (by decide +kernel));intros bn2 q'50 SS sf RS
   have qd:aD B2 (er P0 H6) q D6 ss:=qd.weak (by decide +kernel)
   have EE:=ED.trans s6;have jW:=aD.mono jW s6;have q'51:=T1.row;intros bn2 q'51 D1 f1 R1;have l1:=T1.len;dsimp only [bo];simp only [dm,dn];have yg:=iG.mono EE;clear hP fL eO;have qd:=qd.mono gQ;have jW:=jW.mono gQ;have yg:=yg.mono gQ;have Qu:dO t.bL H6 z q:=Qt EE;refine (li _ rfl _ rfl _ rfl (re td q 1 rfl yg hq (by decide +kernel) (by decide +kernel) (λv0 H7 s7 Qv=>?_)))
   refine ⟨by show 1<=sizeLine;decide,λl nl=>?_⟩
   have sl:ai H7 (upd H7 l (.lst [v0])):=aJ nl;have hL:aD B2 (upd H7 l (.lst [v0])) q l [bJ q 1]:=(ad [v0] az rfl (λi v p h1 h2=>by
    match i,h1,h2 with
    | 0,h1,h2=>cases h1;cases h2;exact Qv.mono sl
    | i+1,h1,h2=>simp at h1))
   generalize upd H7 l (.lst [v0])=H8 at sl hL ⊢;have oC:=s7.trans sl;refine (wS td l q 1 n [bJ q 1] (wv (dl 1) rfl (yg.mono oC) hq hL n1 cI (by show 1<=2*n;lia) aP.one (by decide +kernel) ⟨λi=>?_,λi=>?_,λun H9 s9 nun hU=>?_⟩))
   ·match i with
    | 0=>exact (iW q 1 hq).2
    | i+1=>exact rg
   ·unfold dl
    split
    ·exact af (show (1:Int).natAbs<=1 by decide) (lB ∅)
    ·exact cn _
   have Qw:∀i,(dl 1 i).natAbs<=1:=λi=>by unfold dl;split <;> decide
   have RU:RowW q (fN q n (dl 1) 1) 1 (wr n (dl 1)) 1000 1000 n:=(GX (q:=q) (n:=n) (D:=1) (Y:=1) aP.one Qw ∅).weak ∅ ∅ (aL _)
   have lU:=kT q n (dl 1) 1;generalize fN q n (dl 1) 1=U at hU RU lU;have EF:=oC.trans s9;dsimp only [bo];simp only [dm,dn];have q'52:=id (jW.mono EF);intros bn4 q'52 xs ex lx fx;refine (al _ rfl r1 xs rfl (.inl (.of ex)) (λh0 Ez=>?_));have s0:ai H9 (upd H9 h0 (.lst xs)):=aJ Ez;have uy:aD B2 (upd H9 h0 (.lst xs)) q h0 oJ:=(ad xs az lx (λi v p h1 h2=>(fx i v p h1 h2).mono s0));generalize upd H9 h0 (.lst xs)=G0 at s0 uy ⊢;have q'53:=id ((qd.mono EF).mono s0);intros bn4 q'53 zs ez lz fz;refine (al _ rfl D6 zs rfl (.inl (.of ez)) (λh1 Qx=>?_));have oH:ai G0 (upd G0 h1 (.lst zs)):=aJ Qx;have AJ:aD B2 (upd G0 h1 (.lst zs)) q h1 ss:=(ad zs az lz (λi v p h1 h2=>(fz i v p h1 h2).mono oH));generalize upd G0 h1 (.lst zs)=G1 at oH AJ ⊢;refine ⟨by show 2<=sizeLine;decide,λhd Qy=>?_⟩
   have oI:ai G1 (upd G1 hd (.lst [.ref h0,.ref h1])):=aJ Qy;have yh:upd G1 hd (.lst [.ref h0,.ref h1]) hd=some (.lst [.ref h0,.ref h1]):=az;generalize upd G1 hd (.lst [.ref h0,.ref h1])=Hb at oI yh ⊢;have Jl:=s0.trans (oH.trans oI);have uz:=EF.trans Jl;have uy:=uy.mono (oH.trans oI);have AJ:=AJ.mono oI;have hA:=jW.mono uz;have aaU:=T1.jN hq hA sz.WT;have hS:=qd.mono uz;have hU:=hU.mono Jl;have ht:=yg.mono uz;have hz:=Qu.mono uz;have pb:=p6.mono uz;have sTb:=Qs.trans (EE.trans (aR.of (P:=P0) uz));clear jW qd yg Qu hL Qv ex ez fx fz lx lz s0 oH oI Jl uz EF oC sl s7 s9 Qy Ez Qx nl nun Qt sx ED EE Qs iG px p4 p6 s4 s6 hR Qw;dsimp only [bo];simp only [dm,dn];have same:∀{Hx:Hp} {R:VK} {r:Bool},ai Hb Hx->(∀(l:Addr),Hx l=none->R (.bl r) (upd Hx l (.lst [.ref r1,.ref D6])))->∀l,Hx l=none->BQ K 2 r (.ref hd) (.ref l) (upd Hx l (.lst [.ref r1,.ref D6])) R:=fun{Hx R r} sx kx l nl=>by
    have sl:ai Hx (upd Hx l (.lst [.ref r1,.ref D6])):=aJ nl;have sK:=sx.trans sl;refine (ol hd l _ _ rfl rfl (.of (sK _ _ yh)) (.of az) rfl (λj x y hx hy=>?_) (kx l nl))
    match j,hx,hy with
    | 0,hx,hy=>cases hx;cases hy;exact L6 hq (uy.mono sK) (hA.mono sK) 0
    | 1,hx,hy=>cases hx;cases hy;exact L6 hq (AJ.mono sK) (hS.mono sK) 0
    | j+2,hx,hy=>cases hx
   obtain ⟨m,em,m2⟩:∃m:Nat,(2:Int)-(if decide ((12:Int)<(n:Int))=true then 1 else 0)=(m:Int)/\m<=2:=⟨((2:Int)-(if decide ((12:Int)<(n:Int))=true then 1 else 0)).toNat,by split <;> lia,by split <;> lia⟩
   refine (al _ rfl _ _ rfl rfl (.inr (al _ rfl _ _ rfl rfl (gl (m:Int) (gI (λx=>[V.int x]) em) ⋯ ⋯ ?_))))
   rw [dI];refine nC (λj σ Hc=>∃(v10 v11 mO mP:Option V),σ=[some (.ref a),some (.ref P0),some (.int (0+(i:Int))),some (.ref td),some (.ref z),some (.int (n:Int)),some (.ref r1),some (.ref D6),some (.ref un),some (.ref hd),v10,v11,mO,mP]/\ai Hb Hc) (ut _ _ _ (ac _ rfl (ai.refl _))) ?_ ?_
   ·intro j σ Hc hj;intros bn11 _ v10 v11 mO mP rfl sc
    dsimp only [bo];simp only [dm,dn];refine (ac _ rfl (gt _ rfl hd _ _ _ rfl rfl (.of (sc _ _ yh)) rfl (gt _ rfl hd _ _ _ rfl rfl (.of (sc _ _ yh)) rfl (xz z h0 h1 q SS n W1 (10 ^ 25) oJ ss (wv sf rfl (hz.mono sc) hq (uy.mono sc) (AJ.mono sc) T1 sz.sq ls RS ⟨by decide +kernel,aL _,λp l0 mv gs ms Hd sd ep Af nmv Io hG hM LD neg=>?_,λp c rs F2 M Hd sd ep nc hC BD=>?_⟩)))))
    ·have yi:=sc.trans sd
     dsimp only [bo];simp only [dm,dn];refine (ul _ rfl _ rfl (ad _ rfl (by show 2<=sizeLine;decide) (same yi λl nl=>(ac false rfl (b5 ?_)))))
     have sl:ai Hd (upd Hd l (.lst [.ref r1,.ref D6])):=aJ nl;generalize upd Hd l (.lst [.ref r1,.ref D6])=He at sl ⊢;refine (gt _ rfl _ _ _ true rfl rfl (.of (.tup (sl _ _ ep))) nN (ac true rfl (b5 (al _ rfl p _ rfl (.inr (.of (sl _ _ ep))) (on _ _ rfl rfl false rfl (b5 ?_))))));dsimp only [d5];have oK:=yi.trans sl;have ep:=sl _ _ ep;refine (ac _ rfl (gt _ rfl hd _ _ _ rfl rfl (.of (oK _ _ yh)) rfl ?_));dsimp only [iu];refine Nd (ut z h0 q (re n W1 oJ rfl (hz.mono oK) hq (uy.mono oK) T1 (λv1 Hf uA oG=>?_)));have AK:=oK.trans uA;have ep:=uA _ _ ep;dsimp only [bo];simp only [dm,dn];refine (ul _ rfl _ rfl (ad _ rfl (by show 2<=sizeLine;decide) (same AK λl nl=>(ac false rfl (b5 ?_)))))
     have k6:ai Hf (upd Hf l (.lst [.ref r1,.ref D6])):=aJ nl;generalize upd Hf l (.lst [.ref r1,.ref D6])=Hg at k6 ⊢;have qe:=AK.trans k6;have ep:=k6 _ _ ep;have oG:=oG.mono k6;have yj:=sl.trans (uA.trans k6);dsimp only [d5];have e1:decide (V.str (Str.ofString "loose")=V.str (Str.ofString "one"))=false:=by decide +kernel
     refine (gt _ rfl p _ _ _ rfl rfl (.of ep) rfl (im rfl false (by rw [e1]) (b5 ?_)))
     rcases oG with ⟨rfl,_⟩ | ⟨_,_,_,_,_,_,B1⟩
     ·refine (li _ rfl _ rfl _ rfl (wE _ rfl td (xz z r1 p l0 mv q n W1 oJ gs (wv ms rfl (ht.mono qe) (hz.mono qe) hq (aaU.mono qe) ep (hG.mono yj) (hM.mono yj) T1 ⟨sz.sq,LD,λHw sw=>(ac true rfl (b5 ?_))⟩))))
      have ep:=sw _ _ ep;have AL:=yj.trans sw;refine (bn _ rfl rfl false (by simp) (b5 ?_))
      dsimp only [d5];have q'54:=id (hM.mono AL);intros bn4 q'54 mw Jm lmw _;have q'55:=id (hG.mono AL);intros bn4 q'55 gw egw Qg _;intros bn23 LD _ _ _ _ _ _ _ _ bn23 _ _ _ _ _ _ _ _ bn0 _ _ bn30 _ _ _ _ _ _ lgs ems Pg _;have lms:ms.length<=100:=by rw [ems];unfold dQ;simp;lia
      refine (gt _ rfl p _ _ _ rfl rfl (.of ep) rfl (lf (.inl (lf rfl _ (.of Jm))) mv (jp mw _ rfl rfl Jm (jH ⋯) ?_)))
      have npm:p≠mv:=λe=>by rw [e,Jm] at ep;cases ep
      have jT:upd Hw mv (.lst (mw++[.a9])) p=some (.tup [.str (Str.ofString "loose"),.ref l0,.ref mv]):=by rw [cq npm];exact ep
      have AH:upd Hw mv (.lst (mw++[.a9])) l0=some (.lst gw):=by rw [cq Io];exact egw
      refine (gt _ rfl p _ _ _ rfl rfl (.of jT) rfl (lf (.inl (lf rfl _ (.of AH))) l0 (jp gw _ rfl rfl AH (jH ⋯) ?_)))
      exact (ut _ _ _ (ac _ rfl (iT (iT (yi.trans AL) (none_of sc nmv)) (none_of sc Af))))
     ·exact absurd (B1.inv _ _ R1.eS) (neg _ _ R1.eS)
    ·have yi:=sc.trans sd
     dsimp only [bo];simp only [dm,dn];refine (ul _ rfl _ rfl (ad _ rfl (by show 2<=sizeLine;decide) (same yi λl nl=>(ac false rfl (b5 ?_)))))
     have sl:ai Hd (upd Hd l (.lst [.ref r1,.ref D6])):=aJ nl;generalize upd Hd l (.lst [.ref r1,.ref D6])=He at sl ⊢;refine (gt _ rfl _ _ _ true rfl rfl (.of (.tup (sl _ _ ep))) nN (ac true rfl (b5 (al _ rfl p _ rfl (.inr (.of (sl _ _ ep))) (on _ _ rfl rfl false rfl (b5 ?_))))));dsimp only [d5];have oK:=yi.trans sl;have ep:=sl _ _ ep;refine (ac _ rfl (gt _ rfl hd _ _ _ rfl rfl (.of (oK _ _ yh)) rfl ?_));dsimp only [iu];refine Nd (ut z h0 q (re n W1 oJ rfl (hz.mono oK) hq (uy.mono oK) T1 (λv1 Hf uA oG=>?_)));have AK:=oK.trans uA;have ep:=uA _ _ ep;dsimp only [bo];simp only [dm,dn];refine (ul _ rfl _ rfl (ad _ rfl (by show 2<=sizeLine;decide) (same AK λl nl=>(ac false rfl (b5 ?_)))))
     have k6:ai Hf (upd Hf l (.lst [.ref r1,.ref D6])):=aJ nl;generalize upd Hf l (.lst [.ref r1,.ref D6])=Hg at k6 ⊢;have qe:=AK.trans k6;have ep:=k6 _ _ ep;have oG:=oG.mono k6;have yj:=sl.trans (uA.trans k6);dsimp only [d5];refine (gt _ rfl p _ _ _ rfl rfl (.of ep) rfl (im rfl true (by simp) (fm ?_)))
     rcases oG with ⟨_,neg⟩ | ⟨cb,rsb,Fb,Mb,rfl,oy,B1⟩;·exact absurd (BD.inv _ _ R1.eS) (neg _ _ R1.eS)
     refine (li _ rfl _ rfl _ rfl (wT _ rfl td r1 D6 p c (xz q SS M n W1 (10 ^ 25) oJ ss rs sf (wv F2 rfl (ht.mono qe) hq (hA.mono qe) (hS.mono qe) ep (hC.mono yj) BD T1 ⟨sz.z1,ls,RS,aL _,λHw sw=>(ac true rfl (b5 ?_))⟩))));have ep:=sw _ _ ep;have AL:=yj.trans sw;have AM:=qe.trans sw;dsimp only [d5];have q'56:=id (hA.mono AM);intros bn4 q'56 y1 ey1 ly1 fy1;refine (dL _ rfl _ rfl r1 y1 rfl (.inl (.of ey1)) (λk1 nk1=>?_));have u1:ai Hw (upd Hw k1 (.lst y1)):=aJ nk1;have Qz:aD B2 (upd Hw k1 (.lst y1)) q k1 oJ:=(ad y1 az ly1 (λi v p h1 h2=>(fy1 i v p h1 h2).mono u1));generalize upd Hw k1 (.lst y1)=K1 at u1 Qz ⊢;have q'57:=id ((hU.mono AM).mono u1);intros bn4 q'57 y2 ey2 ly2 fy2;refine (al _ rfl un y2 rfl (.inl (.of ey2)) (λk2 nk2=>?_));have u2:ai K1 (upd K1 k2 (.lst y2)):=aJ nk2;have QA:aD B2 (upd K1 k2 (.lst y2)) q k2 U:=(ad y2 az ly2 (λi v p h1 h2=>(fy2 i v p h1 h2).mono u2));generalize upd K1 k2 (.lst y2)=K2 at u2 QA ⊢;have QB:=u1.trans u2;have sb2:=AM.trans QB;refine (xz z k1 k2 q 1 n W1 1000 oJ U (wv (wr n (dl 1)) rfl (hz.mono sb2) hq (Qz.mono u2) QA T1 sz.sq lU RU ⟨aL _,by decide +kernel,λ_ _ _ _ _ _ _ _ _ _ _ _ _ _ neg=>absurd (BD.inv _ _ R1.eS) (neg _ _ R1.eS),λp2 c2 Ho F3 M3 K3 s3 jT x6 qc QC=>?_⟩))
     have QD:=QB.trans s3;have EG:=AM.trans QD;dsimp only [bo];simp only [dm,dn];refine (li _ rfl _ rfl _ rfl (wT _ rfl td r1 un p2 c2 (xz q 1 M3 n W1 1000 oJ U Ho (wr n (dl 1)) (wv F3 rfl (ht.mono EG) hq (hA.mono EG) (hU.mono EG) jT qc QC T1 ⟨sz.z1,lU,RU,by decide +kernel,λK4 s4=>(ac true rfl (b5 ?_))⟩))))
     dsimp only [d5];have QE:=QD.trans s4;have QF:=(oy.mono sw).mono QE;have lrb:=B1.len;rw [B1.same hq n1 QC R1.eS oy.cX] at qc;refine (wf _ rfl _ rfl td cb q (u8 rsb B2 rfl (ht.mono (EG.trans s4)) hq QF ⋯ (by decide +kernel) (λK5 s5=>(ac true rfl (b5 ?_)))))
     refine (ac _ rfl (gt _ rfl p2 _ _ _ rfl rfl (.of (s5 _ _ (s4 _ _ jT))) rfl (zf hq (QF.mono s5) ((qc.mono s4).mono s5) (ac false rfl (b5 ?_)))));dsimp only [d5];have Jn:=QE.trans s5;have q'58:=id ((hC.mono AL).mono Jn);intros bn4 q'58 cw QG lcw _;have lww:=kT q n (cv F2 sf) (M*SS);refine (gt _ rfl p _ _ _ rfl rfl (.of (Jn _ _ ep)) rfl (lf (.inl (lf rfl _ (.of QG))) c (jp cw _ rfl rfl QG (jH ⋯) ?_)))
     exact (ut _ _ _ (ac _ rfl (iT (AM.trans Jn) (none_of sc nc))))
   ·intro σ Hc;intros bn11 _ v10 v11 mO mP rfl sc
    exact (xz _ _ _ _ _ _ _ _ _ _ (ap _ _ rfl (sTb.trans (aR.of sc)) (pb.mono sc)))
  unfold dP at iG;by_cases z0:q=0
  ·subst z0
   have q'59:=(WU (n:=(1+m0).toNat) ⋯ ⋯);intros bn2 q'59 F W1 sz
   have en:(1:Int)+m0=(((1+m0).toNat:Nat):Int):=by lia
   generalize (1+m0).toNat=n at sz en;rw [q8] at iG;refine (gt _ rfl td _ _ _ rfl rfl (.of (gQ _ _ iG)) rfl (im rfl false (by decide +kernel) (b5 ?_)))
   show R [some (.ref a),some (.ref P0),some (.int (0+(i:Int))),some (.ref td),some (.ref z),some (.int (1+m0)),v6,v7,v8,v9,v10,v11,mO,mP] H3;rw [en];exact rest n F W1 H3 sz (aR.refl _) p3
  ·rw [pE z0] at iG
   refine (gt _ rfl td _ _ _ rfl rfl (.of (gQ _ _ iG)) rfl (im rfl true (by decide +kernel) (fm ?_)))
   refine (ac _ rfl (f8 P0 a ns 12 rfl p3 eO ∅ (aQ.of_lt ∅ ∅) (λm1 H4 QH m11 s4 p4=>(ap _ _ rfl rfl ?_))))
   have go:∀(m1:Int) (Hx:Hp),0<=m1->m1<40->aR P0 H3 Hx->dw Hx P0 a->R [some (.ref a),some (.ref P0),some (.int (0+(i:Int))),some (.ref td),some (.ref z),some (.int (1+m1)),v6,v7,v8,v9,v10,v11,mO,mP] Hx:=by
    intro m1 Hx h1 h2 sx px;obtain ⟨F,W1,sz⟩:=WV (q:=q) (n:=(1+m1).toNat) z0 ⋯ ⋯
    have en:(1:Int)+m1=(((1+m1).toNat:Nat):Int):=by lia
    generalize (1+m1).toNat=n at sz en;rw [en];exact rest n F W1 Hx sz sx px
   dsimp only [bo];simp only [dm,dn];have QI:bG K (er P0 H4) a (ns.map V.int):=ai.seq s4 eO;refine (bn _ rfl rfl _ rfl (cD (λ_=>?_) (λ_=>b5 ?_)))
   ·refine (ac _ rfl (f8 P0 a ns 4 rfl p4 QI ∅ (aQ.of_lt ∅ ∅) (λm2 H5 m20 m21 s5 p5=>(im rfl _ rfl (cD (λ_=>?_) (λ_=>?_))))))
    ·refine (ac _ rfl (f8 P0 a ns 40 rfl p5 (ai.seq s5 QI) ∅ (aQ.of_lt ∅ ∅) (λm3 H6 m30 m31 s6 p6=>(ap _ _ rfl rfl ?_))))
     exact go m3 H6 m30 m31 (s4.trans (s5.trans s6)) p6
    ·exact go m1 H5 QH ⋯ (s4.trans s5) p5
   ·exact go m1 H4 QH ⋯ s4 p4
 ·intro σ Hc;intros bn17 _ v2 v3 v4 v5 v6 v7 bn24 v8 v9 v10 v11 mO mP rfl sT pc
  exact kQ _
theorem abb{l:PySem.W.OpenLaw}(T:Txt K mg t):∃fd:FuncData,(∀(s:Shared) (v:Value),BindsTo s fd ⟨[v],[]⟩ [("script",v)])/\∀base:Heap,K.In base->base.Ns mainGlobals mg->a8 l.prog w K mg base ck 13 t.pM fd ["script"] (BI K):=by have q'61:=T.xR.ex;intros bn6 q'61 oc od kV bn24 doc pm an a7 ct gr e lk gi;refine ⟨t.tG,λs v=>?_,λbase _ _=>aaN T⟩;rw [e];exact .of_eq rfl
end
theorem walk{l:PySem.W.OpenLaw}{q:Program}{loose:List Str}{XP:(Str->Option Value)->Heap->Prop}{YP:World->Heap->Prop}{d:DefRec}{K:Params->PySem.W.Frag}(hn:l.most=some 63)(o9:d.params.defaults=[])
  (hY:∀(w:World) (h:Heap),YP w h->(K w.params).In h)
  (F:∀(w:World) (mg:dX) (fa:Addr) (h:Heap),(K w.params).In h->h.Ns mainGlobals mg->mg d.name=some (.ref fa)->
   ∃fd:FuncData,(∀(s:Shared) (u:Value),BindsTo s fd ⟨[u],[]⟩ [("script",u)])/\∀base:Heap,(K w.params).In base->base.Ns mainGlobals mg->a8 l.prog w (K w.params) mg base ck 13 fa fd ["script"] (BI (K w.params))) :
  PySem.W.WalkO q loose XP YP l.row.toRowW d [] (λf vs=>PySem.call f vs):=
 L2.Tc (n:=63) (k:=13) (x:="script") (CX:=λ_=>ck) (sp:=λw=>BI (K w.params)) hn ∅ o9 ⟨rfl,∅,∅⟩ hY F (λ_ _ a ns hl _ hS=>(i' a ns rfl hS hl (λ_=>rfl))) λ_ _ _ _ _ z=>z
theorem abc{K:aI}{h:Heap}{mg:dX}(X:K.In h)(G:h.Ns mainGlobals mg)
  {bL:Addr}
  {tK:Addr}
  {mB:Addr}
  {pN:Addr}
  {og:Addr} {abd QJ:Option Addr} {abe:Array (Option Value)} {abf QK QL QM Jo QN:Value}
  {Jp:Addr} {abg:Tok} {abh:Value} {abi:Option Addr} {abj:Nat} {abk:Array (Option Value)}
  {abl:Tok}
  {abm:Tok}
  {abn:Tok}
  {rK rN rO rP rQ rR rS rT rV rX rY rZ r6 r9 r_ si so su sv sC sD sE sF sG sI sJ sL sM sN sO sP sQ sR sS sU sV sW sX sY sZ s_ tf tj tq tx tD tE tF pM tH tI tJ:Addr} {vS vT vU vV vW vX vY vZ v_ wa wc wd we wj wk wm wo wt wC wF wH wI wJ wK wL wN wO wQ wR wU wV wW wX wY wZ w5 w6 w9 w_ xa xb xc xf xg xh xi xj xk tG xl xn xo:FuncData}
  (Jq:PySem.W.nsIn K mainGlobals "World"=some (some (.ref bL)))
  (Jr:PySem.W.nsIn K mainGlobals "NoWorld"=some (some (.ref tK)))
  (Js:PySem.W.nsIn K mainGlobals "NoOver"=some (some (.ref mB)))
  (Jt:PySem.W.nsIn K mainGlobals "NoFit"=some (some (.ref pN)))
  (abo:mg "whole_trimmed"=some (.ref rK))
  (tL:aH K "whole_trimmed" CD rK vS)
  (abp:mg "whole_times"=some (.ref rN))
  (tM:aH K "whole_times" CF rN vT)
  (abq:mg "whole_less"=some (.ref rO))
  (xp:aH K "whole_less" CH rO vU)
  (abr:mg "whole_parted"=some (.ref rP))
  (tO:aH K "whole_parted" CJ rP vV)
  (abt:mg "power"=some (.ref rQ))
  (pO:aH K "power" CK rQ vW)
  (abu:mg "next_part"=some (.ref rR))
  (xq:aH K "next_part" CL rR vX)
  (abv:mg "whole_common"=some (.ref rS))
  (xr:aH K "whole_common" CM rS vY)
  (abw:mg "trimmed"=some (.ref rT))
  (kU:aH K "trimmed" CN rT vZ)
  (abx:mg "padded"=some (.ref rV))
  (oh:aH K "padded" CO rV v_)
  (aby:mg "numbers_of"=some (.ref rX))
  (kW:aH K "numbers_of" CP rX wa)
  (abz:mg "poly_times"=some (.ref rY))
  (xt:aH K "poly_times" CQ rY wc)
  (abA:mg "parted"=some (.ref rZ))
  (tV:aH K "parted" CS rZ wd)
  (abB:mg "common"=some (.ref r6))
  (pP:aH K "common" CT r6 we)
  (abC:mg "check_aim"=some (.ref r9))
  (xu:aH K "check_aim" CU r9 wj)
  (abD:mg "turned_size"=some (.ref r_))
  (tW:aH K "turned_size" CV r_ wk)
  (abE:mg "whole_turn"=some (.ref si))
  (tX:aH K "whole_turn" CW si wm)
  (abF:mg "turned_undone"=some (.ref so))
  (tY:aH K "turned_undone" CY so wo)
  (abG:mg "turned_back"=some (.ref su))
  (xv:aH K "turned_back" CZ su wt)
  (abH:mg "is_whole"=some (.ref sv))
  (xw:aH K "is_whole" C1 sv wC)
  (abI:mg "common_divisor"=some (.ref sC))
  (tZ:aH K "common_divisor" C2 sC wF)
  (abJ:mg "is_prime"=some (.ref sD))
  (xx:aH K "is_prime" C3 sD wH)
  (abK:mg "ratio"=some (.ref sE))
  (xy:aH K "ratio" C4 sE wI)
  (abL:mg "one_bottom"=some (.ref sF))
  (xA:aH K "one_bottom" C5 sF wJ)
  (abM:mg "remainder_back"=some (.ref sG))
  (xB:aH K "remainder_back" C6 sG wK)
  (abN:mg "remainder_over"=some (.ref sI))
  (xC:aH K "remainder_over" C7 sI wL)
  (abO:mg "is_fractions"=some (.ref sJ))
  (xD:aH K "is_fractions" C8 sJ wN)
  (abP:mg "is_wheel"=some (.ref sL))
  (xE:aH K "is_wheel" C9 sL wO)
  (abQ:mg "_law_e_fill"=some (.ref sM))
  (xF:aH K "_law_e_fill" C_ sM wQ)
  (abR:mg "_law_e_next"=some (.ref sN))
  (fc:aH K "_law_e_next" Dc sN wR)
  (abS:mg "_law_e_low"=some (.ref sO))
  (mC:aH K "_law_e_low" Dd sO wU)
  (abT:mg "_law_e_of"=some (.ref sP))
  (ia:aH K "_law_e_of" De sP wV)
  (abU:mg "_law_e_plus"=some (.ref sQ))
  (oi:aH K "_law_e_plus" Df sQ wW)
  (abV:mg "_law_e_times"=some (.ref sR))
  (pQ:aH K "_law_e_times" Dg sR wX)
  (abW:mg "_law_e_is_number"=some (.ref sS))
  (xI:aH K "_law_e_is_number" Dh sS wY)
  (abX:mg "_law_e_is_row"=some (.ref sU))
  (kX:aH K "_law_e_is_row" Di sU wZ)
  (abY:mg "_law_e_world"=some (.ref sV))
  (xJ:aH K "_law_e_world" Dj sV w5)
  (abZ:mg "_law_e_number"=some (.ref sW))
  (t7:aH K "_law_e_number" Dk sW w6)
  (ab0:mg "_law_e_cut"=some (.ref sX))
  (mD:aH K "_law_e_cut" Dl sX w9)
  (ab1:mg "_law_e_sum"=some (.ref sY))
  (xN:aH K "_law_e_sum" Dm sY w_)
  (ab2:mg "_law_e_product"=some (.ref sZ))
  (kY:aH K "_law_e_product" Dn sZ xa)
  (ab3:mg "_law_e_left"=some (.ref s_))
  (t_:aH K "_law_e_left" Dp s_ xb)
  (ab4:mg "_law_e_turn"=some (.ref tf))
  (oj:aH K "_law_e_turn" Dq tf xc)
  (ab5:mg "_law_e_wrapped"=some (.ref tj))
  (om:aH K "_law_e_wrapped" Dr tj xf)
  (ab6:mg "_law_e_turned_row"=some (.ref tq))
  (xO:aH K "_law_e_turned_row" Ds tq xg)
  (ab7:mg "_law_e_turned_to"=some (.ref tx))
  (uc:aH K "_law_e_turned_to" Dt tx xh)
  (ab8:mg "_law_e_one_right"=some (.ref tD))
  (ud:aH K "_law_e_one_right" Du tD xi)
  (ab9:mg "_law_e_widest"=some (.ref tE))
  (xP:aH K "_law_e_widest" Dv tE xj)
  (ab_:mg "_law_e_loose_right"=some (.ref tF))
  (xQ:aH K "_law_e_loose_right" Dw tF xk)
  (aca:mg "law"=some (.ref pM))
  (xR:aH K "law" Dy pM tG)
  (DI:Mk K bL tH)
  (Aa:fZ K "__init__" "World.__init__" Dz tH xl)
  (Ju:PySem.W.findIn K (.ref bL) "of"=some (some (.ref og)))
  (Jv:PySem.W.isFn K (.ref og)=true)
  (yk:K.lookup og=some ⟨abf,abd,.func (PySem.W.fnOf "of" "World.of" (jG kn) (gN kn) (aN kn) (.ref Jp) QK QL QM QJ Jo QN),abe⟩)
  (yl:PySem.W.codeIn K Jo "World.of"=true)
  (uB:PySem.W.keepIn K (.ref og)=true)
  (ym:K.lookup Jp=some ⟨abh,abi,.seq #[.int 1 abg] abj,abk⟩)
  (oo:Meth K bL "as_wholes" tI)
  (Ab:fZ K "as_wholes" "World.as_wholes" DA tI xn)
  (oq:Meth K bL "evenly" tJ)
  (Ac:fZ K "evenly" "World.evenly" DB tJ xo)
  (Jw:PySem.W.plainGet K bL Str.empty=true)
  (Jx:PySem.W.hasDictIn K bL=true)
  (Jy:PySem.W.plainOver K bL=true)
  (Jz:PySem.W.findIn K (.ref bL) "__setattr__"=some (some (.builtin "object.__setattr__")))
  (JA:PySem.W.findIn K (.ref bL) "prime"=some none)
  (JB:PySem.W.nsIn K mainGlobals "ValueError"=some none)
  (JD:PySem.W.nsIn K mainGlobals "abs"=some none)
  (JE:PySem.W.nsIn K mainGlobals "all"=some none)
  (JF:PySem.W.nsIn K mainGlobals "bool"=some none)
  (JG:PySem.W.nsIn K mainGlobals "enumerate"=some none)
  (JH:PySem.W.nsIn K mainGlobals "int"=some none)
  (JI:PySem.W.nsIn K mainGlobals "isinstance"=some none)
  (JJ:PySem.W.nsIn K mainGlobals "len"=some none)
  (JK:PySem.W.nsIn K mainGlobals "list"=some none)
  (JL:PySem.W.nsIn K mainGlobals "max"=some none)
  (JM:PySem.W.nsIn K mainGlobals "min"=some none)
  (JN:PySem.W.nsIn K mainGlobals "range"=some none)
  (JO:PySem.W.nsIn K mainGlobals "sum"=some none)
  (JP:PySem.W.nsIn K mainGlobals "tuple"=some none)
  (JQ:PySem.W.nsIn K mainGlobals "zip"=some none)
  (JR:PySem.W.nsIn K mainGlobals "GREATEST_PRIME"=some (some (.int 997 abl)))
  (JS:PySem.W.nsIn K mainGlobals "LONG"=some (some (.int 2048 abm)))
  (JT:PySem.W.nsIn K mainGlobals "MOST"=some (some (.int 40 abn)))
  (JU:PySem.W.excIn K tK [.type "ValueError",.type "Exception",.type "BaseException",.type "object"] "ValueError.__new__"=true)
  (JV:PySem.W.excIn K mB [.type "ValueError",.type "Exception",.type "BaseException",.type "object"] "ValueError.__new__"=true)
  (JW:PySem.W.excIn K pN [.type "ValueError",.type "Exception",.type "BaseException",.type "object"] "ValueError.__new__"=true)
  : ∃t:Hq,Txt K mg t:=by
 refine ⟨⟨rK,vS,rN,vT,rO,vU,rP,vV,rQ,vW,rR,vX,rS,vY,rT,vZ,rV,v_,rX,wa,rY,wc,rZ,wd,r6,we,r9,wj,r_,wk,si,wm,so,wo,su,wt,sv,wC,sC,wF,sD,wH,sE,wI,sF,wJ,sG,wK,sI,wL,sJ,wN,sL,wO,sM,wQ,sN,wR,sO,wU,sP,wV,sQ,wW,sR,wX,sS,wY,sU,wZ,sV,w5,sW,w6,sX,w9,sY,w_,sZ,xa,s_,xb,tf,xc,tj,xf,tq,xg,tx,xh,tD,xi,tE,xj,tF,xk,pM,tG,tH,xl,og,PySem.W.fnOf "of" "World.of" (jG kn) (gN kn) (aN kn) (.ref Jp) QK QL QM QJ Jo QN,tI,xn,tJ,xo,bL,tK,mB,pN⟩,?_⟩
 exact {
  tL:=tL
  Hs:=tL.b_
  Ht:=abo
  tM:=tM
  Hu:=tM.b_
  Hv:=abp
  xp:=xp
  Nq:=xp.b_
  Nr:=abq
  tO:=tO
  Hz:=tO.b_
  HA:=abr
  pO:=pO
  DC:=pO.b_
  DD:=abt
  xq:=xq
  Nt:=xq.b_
  Nu:=abu
  xr:=xr
  Nv:=xr.b_
  Nw:=abv
  kU:=kU
  tP:=kU.b_
  tQ:=abw
  oh:=oh
  zV:=oh.b_
  zW:=abx
  kW:=kW
  tR:=kW.b_
  tS:=aby
  xt:=xt
  Nx:=xt.b_
  Ny:=abz
  tV:=tV
  HB:=tV.b_
  HC:=abA
  pP:=pP
  DE:=pP.b_
  DF:=abB
  xu:=xu
  Nz:=xu.b_
  NA:=abC
  tW:=tW
  HD:=tW.b_
  HE:=abD
  tX:=tX
  HF:=tX.b_
  HG:=abE
  tY:=tY
  HH:=tY.b_
  HI:=abF
  xv:=xv
  NB:=xv.b_
  NC:=abG
  xw:=xw
  ND:=xw.b_
  NF:=abH
  tZ:=tZ
  HJ:=tZ.b_
  HK:=abI
  xx:=xx
  NG:=xx.b_
  NH:=abJ
  xy:=xy
  NI:=xy.b_
  NK:=abK
  xA:=xA
  NL:=xA.b_
  NM:=abL
  xB:=xB
  NN:=xB.b_
  NO:=abM
  xC:=xC
  NP:=xC.b_
  NQ:=abN
  xD:=xD
  NR:=xD.b_
  NS:=abO
  xE:=xE
  NT:=xE.b_
  NU:=abP
  xF:=xF
  NV:=xF.b_
  NW:=abQ
  fc:=fc
  gE:=fc.b_
  gF:=abR
  mC:=mC
  xG:=mC.b_
  xH:=abS
  ia:=ia
  jR:=ia.b_
  jS:=abT
  oi:=oi
  zX:=oi.b_
  zY:=abU
  pQ:=pQ
  DG:=pQ.b_
  DH:=abV
  xI:=xI
  NX:=xI.b_
  NY:=abW
  kX:=kX
  t5:=kX.b_
  t6:=abX
  xJ:=xJ
  NZ:=xJ.b_
  N0:=abY
  t7:=t7
  HL:=t7.b_
  HM:=abZ
  mD:=mD
  xK:=mD.b_
  xM:=ab0
  xN:=xN
  N3:=xN.b_
  N4:=ab1
  kY:=kY
  t8:=kY.b_
  t9:=ab2
  t_:=t_
  HN:=t_.b_
  HP:=ab3
  oj:=oj
  zZ:=oj.b_
  z8:=ab4
  om:=om
  z9:=om.b_
  z_:=ab5
  xO:=xO
  N5:=xO.b_
  N6:=ab6
  uc:=uc
  HQ:=uc.b_
  HR:=ab7
  ud:=ud
  HS:=ud.b_
  HU:=ab8
  xP:=xP
  N7:=xP.b_
  N8:=ab9
  xQ:=xQ
  N9:=xQ.b_
  N_:=ab_
  xR:=xR
  W5:=xR.b_
  Oa:=aca
  Aa:=Aa
  Ob:=Aa.b_
  DI:=DI
  Oc:=(BK (st:=kn) (i:=1) yk yl uB ym)
  HV:=jK.binds (ps:=["self","top","bottom"]) (BK (st:=kn) (i:=1) yk yl uB ym) λs dT kV doc pm an a7 ct tk o n us ho hd hl=>match us,hl with | [_,_,_],_=>.of_defaults rfl ho hd rfl rfl
  DJ:=jK.Ub (ps:=["self","top","bottom"]) (BK (st:=kn) (i:=1) yk yl uB ym) λs dT kV doc pm an a7 ct tk o n us ho hd hl=>match us,hl with | [_,_],_=>.of_defaults rfl ho hd rfl rfl
  W6:=jK.Uc (ps:=["self","top","bottom"]) (y:="bottom") (BK (st:=kn) (i:=1) yk yl uB ym) λs dT kV doc pm an a7 ct tk o n us ws ho hd hw hl=>match ws,us,hw,hl with | [_],[_,_],_,_=>.of_defaults rfl ho hd rfl rfl
  ue:=⟨Ju,Jv,uB⟩
  Ab:=Ab
  uf:=Ab.b_
  oo:=oo
  Ac:=Ac
  ug:=Ac.b_
  oq:=oq
  dY:=⟨Jw,Jx,Jy,Jz⟩
  Od:=bP X G Jq
  mE:=JA
  Oe:=bP X G Jr
  DK:=bP X G Js
  HW:=bP X G Jt
  W7:=iN X G JB
  Ad:=iN X G JD
  Of:=iN X G JE
  DL:=iN X G JF
  HX:=iN X G JG
  xS:=iN X G JH
  i4:=iN X G JI
  bO:=iN X G JJ
  ot:=iN X G JK
  HY:=iN X G JL
  Og:=iN X G JM
  gW:=iN X G JN
  W8:=iN X G JO
  pR:=iN X G JP
  DM:=iN X G JQ
  Oh:=⟨_,bP X G JR,_,rfl⟩
  Oi:=⟨_,bP X G JS,_,rfl⟩
  Oj:=⟨_,bP X G JT,_,rfl⟩
  Ol:=JU
  DN:=JV
  HZ:=JW
 }
end My
inductive PySem.W.Fast|tw17122389340155458656|tw7663602793314669199|tw17920858053810558933|tw11036719428444841598|tw14779741281635311946|tw12995109401470816540|tw4882800902202750254|tw7923616065361890054|tw2382663326078983912|tw5147568852790006031|tw2505276138982571192|tw12735151636773810903|tw16692948913258728513|tw1884686107854472362|tw8749149350141473570|tw3675868567750070884|tw4831677147393417929|tw12532700075705839602|tw3994329167513504898|tw4251459542933153736|tw11013823144316371278|tw5658180508834201603|tw9885484858549053057|tw12975991075326806592|tw6645488524937391337|tw6743847102019350830|tw7269440876981569266|tw821816576944137228|tw15666827258206338645|tw13957997494189633870|tw11498435132533466093|tw14258111060345759481|tw8259744321671143335|tw2341851375888417653|tw15899842073097989006|tw5452912158870509411|tw18256934342776432669|tw353552237266601027|tw2572740257805408989|tw17743507767928619698|tw13644110142843763705|tw18391381849284144747|tw8714172880264022908|tw7611379747135886447|tw7070354397384217941|tw21573720802803780|tw1468689304380274434|tw2579923410961457348|tw10107047625730136462|tw3424210973684637002|tw8196314907601470538|tw2345821206781381788|tw6109985036445433249|tw13569527920385181095|tw4436927397536954870|tw13766280080840754214|tw12411693728970804277|tw16049885979107405815|tw13848479285979641301|tw5845941075315224827|tw1470158014060184282|tw15990375088958820007|tw12258933906442948642|tw5126622578578734929|tw4169283548994909789|tw11365194190542284921|tw246796836235756143|tw12436549929945111438|tw1219985303465644076|tw5745969512403092436|tw5304723115091610687|tw765196812594770484|tw14836262640376283854|tw6477940962759773154|tw6644297236110431502|tw3647578923974350048|tw4871516489606672347|tw9721414244194785239|tw32916410385208342|tw6547586956796363261|tw5010682810245110515|tw6021416909101121260|tw2199390641359972416|tw14477841286363136466|tw8998160625616091534|tw8612220677723614543|tw12787727185170766831|tw2717538031709048671|tw16972963345460516714|tw6287974695942213204|tw18327151404775852218|tw10987112685284417178|tw11624467400788810699|tw17305853445984638371|tw15727392079152410371|tw16540964552940804808|tw17760138651556320723|tw12513272193562451274|tw13116843505993549123|tw7672873718180024708|tw15710090814262155342|tw6007162855210679789|tw15891257549418943284|tw765417563820373484|tw10834831017340834298|tw7092950901214210285|tw17283962838913823818|tw13831950079243894492|tw2928727879404733090|tw7752355666012402069|tw5176548062850987691|tw15074333549249564179|tw15116746371013847733|tw3477341810547884302|tw8149028090959035701|tw16531584021244779485|tw15311363897303099002|tw5615556042283951142|tw14712154622729601783|tw2561518524712959107|tw15109256904401036822|tw7877412901252555507|tw7668737257642249609|tw9852097042366921404|tw3259962060049503073|tw13744067490463284613|tw17801728093355731497|tw310584188649057433|tw7683996759426721593|tw1388604411268947415|tw14144358174959118574|tw4481585090590299300|tw7285437095600200066|tw4658865803300395698|tw3347044024203424148|tw11235014853780651912|tw10796285956457747598|tw14431615728830318568|tw13333689254903572301|tw3701260932819536634|tw3081089480955920048|tw9174619287231776605|tw6527507381255328901|tw14604939998049461371|tw15108864605076938504|tw9539904478844988571|tw9709306833558673815|tw6639295137437378252|tw2939761926200434346|tw5747668440160867403|tw4911637797159723104|tw14245754914113454675|tw15831138185734824541|tw10111785790720130669|tw13494904497914794162|tw10550838346153598140|tw176517996009936124|tw3733538134782495002|tw14815688517508646959|tw3234863748872147022|tw854144487926767530|tw7185691454672461924|tw17675489984398462539|tw8508544510523958526|tw10682000154123535630|tw14692438456694126527|tw11422380968420538254|tw5531679310897268364|tw15043128284127610770|tw2722431069122666948|tw10409107617607146916|tw5438863901027727197|tw14146991459905203714|tw7871391369015383420|tw12667825357046827322|tw1416577295984198407|tw7010813631612993101|tw14350355720908426051|tw10184833334338278601|tw13597847361475370947|tw10538434616077941475|tw1088967835101456775|tw608299355908316946|tw6069859604283194472|tw2093167065160039175|tw17096524375119444409|tw13157629902807077405|tw12123610701294102714|tw13428244025080687516|tw14107898499745895304|tw9420173477826165191|tw7195552387893059035|tw11576417474028788547|tw8460848204455451455|tw1139003726748027884|tw18428386205451358453|tw3922281207462187850|tw9687641564179744593|tw16585445003227775652|tw17166001466385467161
open PySem PySem.W PyProof.Rows
set_option maxRecDepth 100000 in
set_option maxHeartbeats 0 in
theorem PySem.Challenge.cw_bandwright_k62_whole_turned_rows_undone_holds : PySem.Challenge.rw_bandwright_k62_whole_turned_rows_undone.Holds := by
 w_on;o_law;k_head;(case hw=>w_witness2)
 k_fill
 refine My.walk (l:=PySem.Challenge.rw_bandwright_k62_whole_turned_rows_undone) rfl rfl (λw h Y=>PySem.W.kIn_of Y) ?F
 case F=>
  intro w mg fa h KX G yS
  have T:∃t,My.Txt (L2.Ld KX) mg t:=by
   dsimp only [L2.Ld]
   refine' My.abc KX G ?Jq ?Jr ?Js ?Jt (bP KX G ?acd) (L2.cf (st:=My.CD) ?ace ?acf ?acg) (bP KX G ?ach) (L2.cf (st:=My.CF) ?aci ?acj ?ack) (bP KX G ?acm) (L2.cf (st:=My.CH) ?acn ?aco ?acp) (bP KX G ?acq) (L2.cf (st:=My.CJ) ?acr ?acs ?acu) (bP KX G ?acv) (L2.cf (st:=My.CK) ?acw ?acy ?acz) (bP KX G ?acA) (L2.cf (st:=My.CL) ?acB ?acC ?acD) (bP KX G ?acE) (L2.cf (st:=My.CM) ?acF ?acG ?acH) (bP KX G ?acI) (L2.cf (st:=My.CN) ?acJ ?acK ?acL) (bP KX G ?acM) (L2.cf (st:=My.CO) ?acN ?acO ?acP) (bP KX G ?acQ) (L2.cf (st:=My.CP) ?acR ?acS ?acT) (bP KX G ?acU) (L2.cf (st:=My.CQ) ?acV ?acW ?acX) (bP KX G ?acY) (L2.cf (st:=My.CS) ?acZ ?ac0 ?ac1) (bP KX G ?ac2) (L2.cf (st:=My.CT) ?ac3 ?ac4 ?ac5) (bP KX G ?ac6) (L2.cf (st:=My.CU) ?ac7 ?ac8 ?ac9) (bP KX G ?ac_) (L2.cf (st:=My.CV) ?ada ?adb ?ade) (bP KX G ?adf) (L2.cf (st:=My.CW) ?adg ?adh ?adi) (bP KX G ?adj) (L2.cf (st:=My.CY) ?adk ?adl ?adm) (bP KX G ?adn) (L2.cf (st:=My.CZ) ?ado ?adp ?adq) (bP KX G ?ads) (L2.cf (st:=My.C1) ?adt ?adu ?adv) (bP KX G ?adw) (L2.cf (st:=My.C2) ?adx ?ady ?adz) (bP KX G ?adA) (L2.cf (st:=My.C3) ?adB ?adC ?adD) (bP KX G ?adE) (L2.cf (st:=My.C4) ?adF ?adG ?adH) (bP KX G ?adI) (L2.cf (st:=My.C5) ?adJ ?adK ?adL) (bP KX G ?adM) (L2.cf (st:=My.C6) ?adN ?adO ?adP) (bP KX G ?adQ) (L2.cf (st:=My.C7) ?adR ?adS ?adT) (bP KX G ?adU) (L2.cf (st:=My.C8) ?adV ?adW ?adX) (bP KX G ?adY) (L2.cf (st:=My.C9) ?adZ ?ad0 ?ad1) (bP KX G ?ad2) (L2.cf (st:=My.C_) ?ad3 ?ad4 ?ad5) (bP KX G ?ad6) (L2.cf (st:=My.Dc) ?ad7 ?ad8 ?ad9) (bP KX G ?ad_) (L2.cf (st:=My.Dd) ?aea ?aeb ?aec) (bP KX G ?aed) (L2.cf (st:=My.De) ?aee ?aef ?aeg) (bP KX G ?aeh) (L2.cf (st:=My.Df) ?aei ?aej ?aek) (bP KX G ?ael) (L2.cf (st:=My.Dg) ?aem ?aen ?aeo) (bP KX G ?aep) (L2.cf (st:=My.Dh) ?aeq ?aer ?aes) (bP KX G ?aet) (L2.cf (st:=My.Di) ?aeu ?aev ?aew) (bP KX G ?aex) (L2.cf (st:=My.Dj) ?aey ?aez ?aeA) (bP KX G ?aeB) (L2.cf (st:=My.Dk) ?aeC ?aeD ?aeE) (bP KX G ?aeF) (L2.cf (st:=My.Dl) ?aeG ?aeH ?aeI) (bP KX G ?aeJ) (L2.cf (st:=My.Dm) ?aeK ?aeL ?aeM) (bP KX G ?aeN) (L2.cf (st:=My.Dn) ?aeO ?aeP ?aeQ) (bP KX G ?aeR) (L2.cf (st:=My.Dp) ?aeS ?aeT ?aeU) (bP KX G ?aeV) (L2.cf (st:=My.Dq) ?aeW ?aeX ?aeY) (bP KX G ?aeZ) (L2.cf (st:=My.Dr) ?ae0 ?ae1 ?ae2) (bP KX G ?ae3) (L2.cf (st:=My.Ds) ?ae4 ?ae5 ?ae6) (bP KX G ?ae7) (L2.cf (st:=My.Dt) ?ae8 ?ae9 ?ae_) (bP KX G ?afa) (L2.cf (st:=My.Du) ?afb ?afc ?afd) (bP KX G ?afe) (L2.cf (st:=My.Dv) ?afg ?afh ?afi) (bP KX G ?afj) (L2.cf (st:=My.Dw) ?afk ?afl ?afm) (bP KX G ?afn) (L2.cf (st:=My.Dy) ?afo ?afp ?afq) ⟨?afr,?afs,?aft,?afu⟩ (L2.cf (st:=My.Dz) ?afv ?afw ?afx) ?Ju ?Jv ?yk ?yl ?uB ?ym ⟨?afy,?afz,?afA⟩ (L2.cf (st:=My.DA) ?afB ?afC ?afD) ⟨?afE,?afF,?afG⟩ (L2.cf (st:=My.DB) ?afH ?afI ?afJ) ?Jw ?Jx ?Jy ?Jz ?JA ?JB ?JD ?JE ?JF ?JG ?JH ?JI ?JJ ?JK ?JL ?JM ?JN ?JO ?JP ?JQ ?JR ?JS ?JT ?JU ?JV ?JW
   (case Jq|Jr|Js|Jt|acd|ace|acf|acg|ach|aci|acj|ack|acm|acn|aco|acp|acq|acr|acs|acu|acv|acw|acy|acz|acA|acB|acC|acD|acE|acF|acG|acH|acI|acJ|acK|acL|acM|acN|acO|acP|acQ|acR|acS|acT|acU|acV|acW|acX|acY|acZ|ac0|ac1|ac2|ac3|ac4|ac5|ac6|ac7|ac8|ac9|ac_|ada|adb|ade|adf|adg|adh|adi|adj|adk|adl|adm|adn|ado|adp|adq|ads|adt|adu|adv|adw|adx|ady|adz|adA|adB|adC|adD|adE|adF|adG|adH|adI|adJ|adK|adL|adM|adN|adO|adP|adQ|adR|adS|adT|adU|adV|adW|adX|adY|adZ|ad0|ad1|ad2|ad3|ad4|ad5|ad6|ad7|ad8|ad9|ad_|aea|aeb|aec|aed|aee|aef|aeg|aeh|aei|aej|aek|ael|aem|aen|aeo|aep|aeq|aer|aes|aet|aeu|aev|aew|aex|aey|aez|aeA|aeB|aeC|aeD|aeE|aeF|aeG|aeH|aeI|aeJ|aeK|aeL|aeM|aeN|aeO|aeP|aeQ|aeR|aeS|aeT|aeU|aeV|aeW|aeX|aeY|aeZ|ae0|ae1|ae2|ae3|ae4|ae5|ae6|ae7|ae8|ae9|ae_|afa|afb|afc|afd|afe|afg|afh|afi|afj|afk|afl|afm|afn|afo|afp|afq|afr|afs|aft|afu|afv|afw|afx|Ju|Jv|yk|yl|uB|ym|afy|afz|afA|afB|afC|afD|afE|afF|afG|afH|afI|afJ|Jw|Jx|Jy|Jz|JA|JB|JD|JE|JF|JG|JH|JI|JJ|JK|JL|JM|JN|JO|JP|JQ|JR|JS|JT=>k_is)
   (case JU|JV|JW=>k_exc)
  obtain ⟨t,T⟩:=T
  have e0:=yS.symm.trans T.Oa
  cases e0
  exact My.abb T
#print axioms PySem.Challenge.cw_bandwright_k62_whole_turned_rows_undone_holds
