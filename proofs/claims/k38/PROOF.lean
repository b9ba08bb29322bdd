import PyProof.Rows.All
import Wide.All
import OpenK.AllK
import Wide.FinOn
import Lean
import PyProof.EqAt
import PyProof.EqKinds
import PyProof.TupleCall
import PySem.Challenge.RW_bandwright_k38_factors_looked_at
set_option Elab.async false
set_option linter.all false
set_option maxRecDepth 100000
abbrev cZ:=@decide_eq_false
abbrev n8:=@beq_eq_false_iff_ne
abbrev Gj:=@List.getElem?_eq_none_iff
abbrev aq:=@if_pos
abbrev az:=@if_neg
abbrev bP:=@PySem.Heap.lt_size
abbrev eO:=@Nat.lt_of_lt_of_le
abbrev fM:=@Nat.lt_irrefl
abbrev dY:=@Nat.ne_of_lt
abbrev B3:=@PySem.W.hideAll_get
abbrev vI:=@List.mem_filter
abbrev dA:=@List.mem_range
abbrev aM:=@Nat.le_trans
abbrev zU:=@Nat.le_of_lt
abbrev B4:=@List.filterMap_cons
abbrev n_:=@List.mem_cons_self
abbrev je:=@List.mem_cons_of_mem
abbrev dB:=@List.mem_cons
abbrev mR:=@List.mem_append
abbrev B5:=@List.mem_append_left
abbrev bK:=@List.getElem?_eq_some_iff
abbrev Gk:=@List.getElem?_set_self
abbrev bT:=@PySem.wpAny_mono
abbrev pK:=@PySem.wpAny_truthy_bool
abbrev hV:=@congrArg
abbrev vJ:=@PySem.wpAny_execs_nil
abbrev B6:=@PySem.wpAny_assign_Name
abbrev cj:=@PySem.wpAny_bind
abbrev vK:=@PySem.wpAny_standAt
abbrev dZ:=@PySem.wpAny_pure
abbrev vL:=@PySem.wpAny_newObj_type
abbrev cx:=@PySem.Heap.get?_push_of_some
abbrev qW:=@PySem.wpAny_passesOwn
abbrev dC:=@Bool.false_ne_true
abbrev gD:=@Int.mul_one
abbrev B7:=@PySem.wpAny_pyIter_list
abbrev fN:=@PySem.Heap.get?_push_size
abbrev aV:=@Nat.le_refl
abbrev vM:=@PyProof.Rows.callWith_type1
abbrev d5:=@List.mem_append_right
abbrev cG:=@Nat.zero_le
abbrev qX:=@Bool.eq_iff_iff
abbrev mS:=@beq_iff_eq
abbrev fO:=@List.length_cons
abbrev B8:=@PySem.W.looks_findIn
abbrev ky:=@List.map_cons
abbrev aR:=@List.length_map
abbrev zV:=@PySem.Heap.size_push
abbrev B9:=@Nat.lt_succ_self
abbrev jL:=@PySem.W.kia_one
abbrev B_:=@List.append_nil
abbrev zW:=@PySem.codeAny_mono
abbrev zX:=@PySem.wpAny_Call_Name_kw
abbrev Ca:=@PySem.W.callWith_K
abbrev og:=@Nat.le_succ
abbrev zY:=@List.nodup_cons
abbrev Gm:=@Option.isSome_iff_exists
abbrev oh:=@List.length_take
abbrev kz:=@PySem.mem_of_lookup
abbrev oi:=@List.getElem?_append_right
abbrev oj:=@List.getElem?_append_left
abbrev bU:=@List.getElem?_map
abbrev kA:=@List.mem_of_getElem?
abbrev dD:=@List.length_append
abbrev dE:=@Int.toNat_natCast
abbrev vN:=@List.length_drop
abbrev cM:=@List.size_toArray
abbrev vO:=@List.replicate_succ
abbrev zZ:=@List.flatten_cons
abbrev mT:=@PySem.call_meets
abbrev Gn:=@List.length_singleton
abbrev Cb:=@List.length_reverse
abbrev z8:=@Nat.mul_comm
abbrev cK:=@decide_eq_true
abbrev a8:=@PySem.W.mg_of
abbrev fz:=@Nat.lt_of_le_of_lt
abbrev qY:=@PySem.wpAny_loadPart_at
abbrev Gp:=@PySem.F.typeOf_object_class
abbrev pL:=@Nat.not_lt_zero
abbrev Gq:=@List.range_succ_eq_map
abbrev mU:=@List.all_eq_true
abbrev Cc:=@decide_eq_true_eq
abbrev vP:=@Bool.false_or
abbrev Cd:=@List.forall_mem_nil
abbrev vQ:=@List.forall_mem_cons
abbrev z9:=@PySem.wpAny_comprehension_free
abbrev Ce:=@PySem.wpAny_newFunctionEnv
abbrev Gr:=@PySem.codeAny_compLoop_tests
abbrev kB:=@PySem.lookup_relabel_local
abbrev z_:=@PySem.wpAny_tests_nil
abbrev Aa:=@PySem.wpAny_tests_one
abbrev Ab:=@PySem.codeAny_compStart_list
abbrev gE:=@List.getD_eq_getElem?_getD
abbrev jM:=@List.mem_singleton
abbrev cy:=@List.length_range
abbrev jN:=@List.getElem?_range
abbrev Cf:=@beq_self_eq_true
abbrev qZ:=@Nat.gcd_pos_of_pos_right
abbrev lJ:=@Int.natAbs_pos
abbrev vR:=@Int.natAbs_natCast
abbrev vS:=@Int.mul_le_mul_of_nonneg_left
abbrev lK:=@Int.mul_zero
abbrev jO:=@Int.gcd_dvd_left
abbrev jf:=@Int.gcd_dvd_right
abbrev cS:=@Int.natAbs_mul
abbrev h_:=@Int.dvd_trans
abbrev gT:=@Int.mul_ediv_cancel_left
abbrev eE:=@Int.mul_comm
abbrev lL:=@Int.mul_pos
abbrev mV:=@Int.mul_assoc
abbrev Ac:=@Int.mul_left_comm
abbrev Ad:=@Int.dvd_mul_left
abbrev om:=@Int.natAbs_ediv_le_natAbs
abbrev Ae:=@Int.natAbs_neg
abbrev iW:=@Int.dvd_refl
abbrev Af:=@Nat.mul_le_mul_left
abbrev Gs:=@Int.emod_add_mul_ediv
abbrev gF:=@Int.emod_lt_of_pos
abbrev gu:=@Int.emod_nonneg
abbrev q5:=@Int.neg_mul
abbrev q8:=@Int.mul_emod
abbrev q_:=@Int.emod_eq_of_lt
abbrev vT:=@Int.zero_sub
abbrev Ci:=@Int.fdiv_eq_ediv_of_dvd
abbrev kC:=@Int.mul_neg
abbrev Cj:=@Int.gcd_one_right
abbrev Gu:=@Int.eq_of_mul_eq_mul_right
abbrev jg:=@Int.dvd_zero
abbrev vU:=@Int.dvd_of_emod_eq_zero
abbrev Ag:=@Nat.sub_self
abbrev Gv:=@PySem.exec_Assign_Name_used
abbrev jP:=@List.not_mem_nil
abbrev jQ:=@or_false
abbrev rf:=@Nat.le_add_right
abbrev Ah:=@List.any_cons
abbrev vV:=@List.take_length
abbrev pM:=@PySem.Around.in1_units
abbrev Ck:=@PySem.SeqAt.EqAt.of_refs
abbrev Cm:=@List.lookup_cons
abbrev Cn:=@List.getElem?_zip_eq_some
abbrev Ai:=@List.getElem?_eq_none
abbrev fP:=@dif_pos
abbrev e9:=@Int.zero_dvd
abbrev pN:=@Int.mul_eq_zero
abbrev vW:=@List.length_eq_zero_iff
abbrev Co:=@Int.eq_of_mul_eq_mul_left
abbrev Cp:=@Int.natAbs_dvd_natAbs
abbrev Aj:=@Int.mul_ediv_add_emod
abbrev iX:=@Int.zero_mul
abbrev fQ:=@Nat.mul_le_mul
abbrev pO:=@Int.sub_zero
abbrev Ak:=@Classical.byContradiction
abbrev eP:=@List.ext_getElem
abbrev Cq:=@List.mem_iff_getElem
abbrev kD:=@List.range_succ
abbrev kG:=@List.map_append
abbrev gU:=@List.map_congr_left
abbrev Gw:=@List.length_filter_le
abbrev iF:=@List.mem_map
abbrev Cr:=@List.find?_cons
abbrev Al:=@decide_eq_true_iff
abbrev fD:=@of_decide_eq_true
abbrev gW:=@List.map_map
abbrev Cs:=@List.nodup_append
abbrev d8:=@List.getElem_map
abbrev e_:=@List.getElem_range
abbrev rh:=@List.take_of_length_le
abbrev f9:=@List.getElem_mem
abbrev cw:=@List.getElem?_eq_getElem
abbrev lM:=@Int.sub_self
abbrev Am:=@Int.dvd_mul_of_dvd_left
abbrev oo:=@Nat.le_mul_of_pos_left
abbrev Ct:=@Int.ediv_nonneg
abbrev jh:=@Int.zero_add
abbrev pP:=@List.map_singleton
abbrev vX:=@Int.one_dvd
abbrev Gx:=@PySem.F.slot_list_index
abbrev de:=@PySem.PassesOwn.never
abbrev dJ:=@PySem.boot_len
abbrev mW:=@PySem.F.excBase_ValueError
abbrev oq:=@PySem.F.plainAttrs_list
abbrev An:=@Int.eq_ofNat_of_zero_le
abbrev Gy:=@PySem.F.slot_list_append
abbrev Gz:=@PySem.F.type_list_append
abbrev vY:=@List.set_cons_zero
abbrev vZ:=@List.set_cons_succ
abbrev gX:=@PySem.W.mg_none_of
abbrev cT:=List (List (Int×Int))
abbrev bR:=List (Int×Int)
abbrev a_:=Nat->Nat->Int
abbrev cU:=PySem.Str->Option PySem.Value
abbrev aX:=PySem.Value->PySem.Shared->Prop
abbrev aE:=PySem.W.Frag
abbrev a7:=List (PySem.Addr×PySem.Obj)
local macro_rules|`(⋯)=>`(by lia)
local macro_rules|`(∅)=>`(by decide)
section
variable{t0 t1 t2 t3 t4 t5 t6 t7 t8 t9:Sort _}{R:Prop}{A0 B0 C0 D0 E0 F0 G0 H0 I0 J0 K0:Prop}{A1 B1 C1 D1 E1 F1 G1 H1 I1 J1:t0->Prop}{A2 B2 C2 D2 E2 F2:t0->t1->Prop}{A3 B3 C3 D3 E3 F3 G3:t0->t1->t2->Prop}{A4 B4 C4 D4 E4 F4 G4:t0->t1->t2->t3->Prop}{A5 B5 C5 D5 E5 F5:t0->t1->t2->t3->t4->Prop}{A6 B6 C6:t0->t1->t2->t3->t4->t5->Prop}{A8:t0->t1->t2->t3->t4->t5->t6->t7->Prop}{A10:t0->t1->t2->t3->t4->t5->t6->t7->t8->t9->Prop}
theorem wp(x y)(c:A2 x y):∃x y,A2 x y:=⟨x,y,c⟩
theorem ad(x)(h1:A1 x)(c:B1 x):∃x,A1 x/\B1 x:=⟨x,h1,c⟩
theorem ii(x y)(h1:A2 x y)(c:B2 x y):∃x y,A2 x y/\B2 x y:=⟨x,y,h1,c⟩
theorem bv(x)(h1:A1 x)(h2:B1 x)(c:C1 x):∃x,A1 x/\B1 x/\C1 x:=⟨x,h1,h2,c⟩
theorem ib(h1:A0)(x)(h2:A1 x)(c:B1 x):A0/\∃x,A1 x/\B1 x:=⟨h1,x,h2,c⟩
theorem wn(x y z)(c:A3 x y z):∃x y z,A3 x y z:=⟨x,y,z,c⟩
theorem ww(x)(h1:A1 x)(y)(c:A2 x y):∃x,A1 x/\∃y,A2 x y:=⟨x,h1,y,c⟩
theorem bi(x y)(h1:A2 x y)(h2:B2 x y)(c:C2 x y):∃x y,A2 x y/\B2 x y/\C2 x y:=(Exists.intro x (bv y h1 h2 c))
theorem o0(x)(h1:A1 x)(h2:B1 x)(h3:C1 x)(c:D1 x):∃x,A1 x/\B1 x/\C1 x/\D1 x:=(bv x h1 h2 (And.intro h3 c))
theorem u8(x)(h1:A1 x)(y)(h2:A2 x y)(c:B2 x y):∃x,A1 x/\∃y,A2 x y/\B2 x y:=(Exists.intro x (ib h1 y h2 c))
theorem f8(x y)(h1:A2 x y)(h2:B2 x y)(h3:C2 x y)(c:D2 x y):∃x y,A2 x y/\B2 x y/\C2 x y/\D2 x y:=(Exists.intro x (o0 y h1 h2 h3 c))
theorem S'(x y z u v)(c:A5 x y z u v):∃x y z u v,A5 x y z u v:=(wp x y (wn z u v c))
theorem be(x)(h1:A1 x)(y)(h2:A2 x y)(h3:B2 x y)(c:C2 x y):∃x,A1 x/\∃y,A2 x y/\B2 x y/\C2 x y:=(ad x h1 (bv y h2 h3 c))
theorem ce(x)(h1:A1 x)(h2:B1 x)(y)(h3:A2 x y)(c:B2 x y):∃x,A1 x/\B1 x/\∃y,A2 x y/\B2 x y:=(ad x h1 (ib h2 y h3 c))
theorem zn(x y)(h1:A2 x y)(h2:B2 x y)(h3:C2 x y)(z)(c:A3 x y z):∃x y,A2 x y/\B2 x y/\C2 x y/\∃z,A3 x y z:=(f8 x y h1 h2 h3 (Exists.intro z c))
theorem wE(h1:A0)(x y z)(h2:A3 x y z)(h3:B3 x y z)(c:C3 x y z):A0/\∃x y z,A3 x y z/\B3 x y z/\C3 x y z:=(And.intro h1 (Exists.intro x (bi y z h2 h3 c)))
theorem re(x y z)(h1:A3 x y z)(h2:B3 x y z)(h3:C3 x y z)(c:D3 x y z):∃x y z,A3 x y z/\B3 x y z/\C3 x y z/\D3 x y z:=(Exists.intro x (f8 y z h1 h2 h3 c))
theorem ul(x)(h1:A1 x)(y)(h2:A2 x y)(z)(h3:A3 x y z)(c:B3 x y z):∃x,A1 x/\∃y,A2 x y/\∃z,A3 x y z/\B3 x y z:=(ad x h1 (u8 y h2 z h3 c))
theorem ut(x y)(h1:A2 x y)(h2:B2 x y)(z)(h3:A3 x y z)(c:B3 x y z):∃x y,A2 x y/\B2 x y/\∃z,A3 x y z/\B3 x y z:=(Exists.intro x (ce y h1 h2 z h3 c))
theorem SB(x y z u v w)(c:A6 x y z u v w):∃x y z u v w,A6 x y z u v w:=(Exists.intro x (S' y z u v w c))
theorem io(x)(h1:A1 x)(y z)(h2:A3 x y z)(h3:B3 x y z)(c:C3 x y z):∃x,A1 x/\∃y z,A3 x y z/\B3 x y z/\C3 x y z:=(ad x h1 (bi y z h2 h3 c))
theorem sB(x y)(h1:A2 x y)(h2:B2 x y)(h3:C2 x y)(h4:D2 x y)(c:E2 x y):∃x y,A2 x y/\B2 x y/\C2 x y/\D2 x y/\E2 x y:=(f8 x y h1 h2 h3 (And.intro h4 c))
theorem sK(x)(h1:A1 x)(y z)(h2:A3 x y z)(h3:B3 x y z)(h4:C3 x y z)(c:D3 x y z):∃x,A1 x/\∃y z,A3 x y z/\B3 x y z/\C3 x y z/\D3 x y z:=(ad x h1 (f8 y z h2 h3 h4 c))
theorem pi(x y z)(h1:A3 x y z)(h2:B3 x y z)(h3:C3 x y z)(h4:D3 x y z)(c:E3 x y z):∃x y z,A3 x y z/\B3 x y z/\C3 x y z/\D3 x y z/\E3 x y z:=(Exists.intro x (sB y z h1 h2 h3 h4 c))
theorem wS(x)(h1:A1 x)(h2:B1 x)(h3:C1 x)(h4:D1 x)(h5:E1 x)(h6:F1 x)(c:G1 x):∃x,A1 x/\B1 x/\C1 x/\D1 x/\E1 x/\F1 x/\G1 x:=(o0 x h1 h2 h3 (And.intro h4 (And.intro h5 (And.intro h6 c))))
theorem tz(x)(h1:A1 x)(y z u)(h2:A4 x y z u)(h3:B4 x y z u)(h4:C4 x y z u)(c:D4 x y z u):∃x,A1 x/\∃y z u,A4 x y z u/\B4 x y z u/\C4 x y z u/\D4 x y z u:=(ad x h1 (re y z u h2 h3 h4 c))
theorem db(x)(h1:A1 x)(y z)(h2:A3 x y z)(h3:B3 x y z)(u)(h4:A4 x y z u)(c:B4 x y z u):∃x,A1 x/\∃y z,A3 x y z/\B3 x y z/\∃u,A4 x y z u/\B4 x y z u:=(ad x h1 (ut y z h2 h3 u h4 c))
theorem gt(x y z u)(h1:A4 x y z u)(h2:B4 x y z u)(h3:C4 x y z u)(h4:D4 x y z u)(c:E4 x y z u):∃x y z u,A4 x y z u/\B4 x y z u/\C4 x y z u/\D4 x y z u/\E4 x y z u:=(Exists.intro x (pi y z u h1 h2 h3 h4 c))
theorem on(x)(h1:A1 x)(y)(h2:A2 x y)(z u)(h3:A4 x y z u)(h4:B4 x y z u)(h5:C4 x y z u)(c:D4 x y z u):∃x,A1 x/\∃y,A2 x y/\∃z u,A4 x y z u/\B4 x y z u/\C4 x y z u/\D4 x y z u:=(ad x h1 (sK y h2 z u h3 h4 h5 c))
theorem ia(x y z u)(h1:A4 x y z u)(h2:B4 x y z u)(h3:C4 x y z u)(h4:D4 x y z u)(h5:E4 x y z u)(c:F4 x y z u):∃x y z u,A4 x y z u/\B4 x y z u/\C4 x y z u/\D4 x y z u/\E4 x y z u/\F4 x y z u:=(gt x y z u h1 h2 h3 h4 (And.intro h5 c))
theorem gl(x)(h1:A1 x)(y z)(h2:A3 x y z)(h3:B3 x y z)(h4:C3 x y z)(u)(h5:A4 x y z u)(c:B4 x y z u):∃x,A1 x/\∃y z,A3 x y z/\B3 x y z/\C3 x y z/\∃u,A4 x y z u/\B4 x y z u:=(io x h1 y z h2 h3 (ib h4 u h5 c))
theorem xz(x y z u)(h1:A4 x y z u)(h2:B4 x y z u)(h3:C4 x y z u)(h4:D4 x y z u)(v)(h5:A5 x y z u v)(c:B5 x y z u v):∃x y z u,A4 x y z u/\B4 x y z u/\C4 x y z u/\D4 x y z u/\∃v,A5 x y z u v/\B5 x y z u v:=(gt x y z u h1 h2 h3 h4 (ad v h5 c))
theorem Re(x y z u v w s t a b)(c:A10 x y z u v w s t a b):∃x y z u v w s t a b,A10 x y z u v w s t a b:=(S' x y z u v (S' w s t a b c))
theorem Rs(x)(h1:A1 x)(h2:B1 x)(h3:C1 x)(h4:D1 x)(h5:E1 x)(h6:F1 x)(h7:G1 x)(h8:H1 x)(h9:I1 x)(c:J1 x):∃x,A1 x/\B1 x/\C1 x/\D1 x/\E1 x/\F1 x/\G1 x/\H1 x/\I1 x/\J1 x:=(wS x h1 h2 h3 h4 h5 h6 (And.intro h7 (And.intro h8 (And.intro h9 c))))
theorem SC(x)(h1:A1 x)(y z u v)(h2:A5 x y z u v)(h3:B5 x y z u v)(h4:C5 x y z u v)(h5:D5 x y z u v)(c:E5 x y z u v):∃x,A1 x/\∃y z u v,A5 x y z u v/\B5 x y z u v/\C5 x y z u v/\D5 x y z u v/\E5 x y z u v:=(ad x h1 (gt y z u v h2 h3 h4 h5 c))
theorem sw(x y z u)(h1:A4 x y z u)(h2:B4 x y z u)(h3:C4 x y z u)(h4:D4 x y z u)(h5:E4 x y z u)(h6:F4 x y z u)(c:G4 x y z u):∃x y z u,A4 x y z u/\B4 x y z u/\C4 x y z u/\D4 x y z u/\E4 x y z u/\F4 x y z u/\G4 x y z u:=(wn x y z (wS u h1 h2 h3 h4 h5 h6 c))
theorem bvE(f:∀x,A1 x->R)(h:∃x,A1 x):R:=match h with|⟨x,c⟩=>f x c
theorem bvA(f:A0->B0->R)(h:A0/\B0):R:=match h with|⟨x,c⟩=>f x c
theorem bv0(f:∀x y,A2 x y->R)(h:∃x y,A2 x y):R:=match h with|⟨x,y,c⟩=>f x y c
theorem bv1(f:A0->B0->C0->R)(h:A0/\B0/\C0):R:=match h with|⟨h1,h2,c⟩=>f h1 h2 c
theorem bv2(f:∀x,A1 x->B1 x->R)(h:∃x,A1 x/\B1 x):R:=match h with|⟨x,h1,c⟩=>f x h1 c
theorem bv3(f:∀x y,A2 x y->B2 x y->R)(h:∃x y,A2 x y/\B2 x y):R:=match h with|⟨x,y,h1,c⟩=>f x y h1 c
theorem bv4(f:∀x,A1 x->B1 x->C1 x->R)(h:∃x,A1 x/\B1 x/\C1 x):R:=match h with|⟨x,h1,h2,c⟩=>f x h1 h2 c
theorem bv5(f:∀x y z,A3 x y z->R)(h:∃x y z,A3 x y z):R:=match h with|⟨x,y,z,c⟩=>f x y z c
theorem bv6(f:A0->∀x y z,A3 x y z->R)(h:A0/\∃x y z,A3 x y z):R:=bvA (λh1=>bv5 (λx y z c=>f h1 x y z c)) h
theorem bv7(f:∀x y,A2 x y->B2 x y->C2 x y->R)(h:∃x y,A2 x y/\B2 x y/\C2 x y):R:=bvE (λx=>bv4 (λy h1 h2 c=>f x y h1 h2 c)) h
theorem bv8(f:A0->∀x y,A2 x y->B2 x y->R)(h:A0/\∃x y,A2 x y/\B2 x y):R:=bvA (λh1=>bv3 (λx y h2 c=>f h1 x y h2 c)) h
theorem bv9(f:∀x,A1 x->B1 x->C1 x->D1 x->R)(h:∃x,A1 x/\B1 x/\C1 x/\D1 x):R:=bv2 (λx h1=>bv1 (λh2 h3 c=>f x h1 h2 h3 c)) h
theorem bv10(f:∀x y,A2 x y->B2 x y->C2 x y->D2 x y->R)(h:∃x y,A2 x y/\B2 x y/\C2 x y/\D2 x y):R:=bvE (λx=>bv9 (λy h1 h2 h3 c=>f x y h1 h2 h3 c)) h
theorem bv11(f:A0->∀x y,A2 x y->B2 x y->C2 x y->R)(h:A0/\∃x y,A2 x y/\B2 x y/\C2 x y):R:=bvA (λh1=>bv7 (λx y h2 h3 c=>f h1 x y h2 h3 c)) h
theorem bv12(f:∀x,A1 x->B1 x->C1 x->D1 x->E1 x->R)(h:∃x,A1 x/\B1 x/\C1 x/\D1 x/\E1 x):R:=bv4 (λx h1 h2=>bv1 (λh3 h4 c=>f x h1 h2 h3 h4 c)) h
theorem bv13(f:A0->B0->∀x,A1 x->∀y,A2 x y->R)(h:A0/\B0/\∃x,A1 x/\∃y,A2 x y):R:=bv1 (λh1 h2=>bv2 (λx h3=>bvE (λy c=>f h1 h2 x h3 y c))) h
theorem bv14(f:∀x y z,A3 x y z->B3 x y z->C3 x y z->R)(h:∃x y z,A3 x y z/\B3 x y z/\C3 x y z):R:=bvE (λx=>bv7 (λy z h1 h2 c=>f x y z h1 h2 c)) h
theorem bv15(f:∀x,A1 x->∀y,A2 x y->B2 x y->C2 x y->R)(h:∃x,A1 x/\∃y,A2 x y/\B2 x y/\C2 x y):R:=bv2 (λx h1=>bv4 (λy h2 h3 c=>f x h1 y h2 h3 c)) h
theorem bv16(f:∀x y z u,A4 x y z u->B4 x y z u->C4 x y z u->R)(h:∃x y z u,A4 x y z u/\B4 x y z u/\C4 x y z u):R:=bvE (λx=>bv14 (λy z u h1 h2 c=>f x y z u h1 h2 c)) h
theorem bv17(f:∀x y z,A3 x y z->B3 x y z->C3 x y z->D3 x y z->R)(h:∃x y z,A3 x y z/\B3 x y z/\C3 x y z/\D3 x y z):R:=bvE (λx=>bv10 (λy z h1 h2 h3 c=>f x y z h1 h2 h3 c)) h
theorem bv18(f:∀x y z u v w,A6 x y z u v w->R)(h:∃x y z u v w,A6 x y z u v w):R:=bv5 (λx y z=>bv5 (λu v w c=>f x y z u v w c)) h
theorem bv19(f:A0->B0->C0->D0->E0->F0->G0->R)(h:A0/\B0/\C0/\D0/\E0/\F0/\G0):R:=bv1 (λh1 h2=>bv1 (λh3 h4=>bv1 (λh5 h6 c=>f h1 h2 h3 h4 h5 h6 c))) h
theorem bv20(f:A0->∀x y,A2 x y->B2 x y->C2 x y->D2 x y->R)(h:A0/\∃x y,A2 x y/\B2 x y/\C2 x y/\D2 x y):R:=bvA (λh1=>bv10 (λx y h2 h3 h4 c=>f h1 x y h2 h3 h4 c)) h
theorem bv21(f:∀x y,A2 x y->B2 x y->C2 x y->D2 x y->E2 x y->R)(h:∃x y,A2 x y/\B2 x y/\C2 x y/\D2 x y/\E2 x y):R:=bvE (λx=>bv12 (λy h1 h2 h3 h4 c=>f x y h1 h2 h3 h4 c)) h
theorem bv22(f:∀x y z u,A4 x y z u->B4 x y z u->C4 x y z u->D4 x y z u->R)(h:∃x y z u,A4 x y z u/\B4 x y z u/\C4 x y z u/\D4 x y z u):R:=bvE (λx=>bv17 (λy z u h1 h2 h3 c=>f x y z u h1 h2 h3 c)) h
theorem bv23(f:A0->B0->C0->D0->∀x,A1 x->B1 x->C1 x->R)(h:A0/\B0/\C0/\D0/\∃x,A1 x/\B1 x/\C1 x):R:=bv1 (λh1 h2=>bv1 (λh3 h4=>bv4 (λx h5 h6 c=>f h1 h2 h3 h4 x h5 h6 c))) h
theorem bv24(f:∀x y,A2 x y->B2 x y->C2 x y->D2 x y->E2 x y->F2 x y->R)(h:∃x y,A2 x y/\B2 x y/\C2 x y/\D2 x y/\E2 x y/\F2 x y):R:=bv10 (λx y h1 h2 h3=>bv1 (λh4 h5 c=>f x y h1 h2 h3 h4 h5 c)) h
theorem bv25(f:A0->B0->C0->D0->E0->F0->G0->H0->R)(h:A0/\B0/\C0/\D0/\E0/\F0/\G0/\H0):R:=bvA (λh1=>bv19 (λh2 h3 h4 h5 h6 h7 c=>f h1 h2 h3 h4 h5 h6 h7 c)) h
theorem bv26(f:∀x y z,A3 x y z->B3 x y z->C3 x y z->D3 x y z->E3 x y z->R)(h:∃x y z,A3 x y z/\B3 x y z/\C3 x y z/\D3 x y z/\E3 x y z):R:=bvE (λx=>bv21 (λy z h1 h2 h3 h4 c=>f x y z h1 h2 h3 h4 c)) h
theorem bv27(f:∀x y z,A3 x y z->B3 x y z->C3 x y z->D3 x y z->E3 x y z->F3 x y z->R)(h:∃x y z,A3 x y z/\B3 x y z/\C3 x y z/\D3 x y z/\E3 x y z/\F3 x y z):R:=bvE (λx=>bv24 (λy z h1 h2 h3 h4 h5 c=>f x y z h1 h2 h3 h4 h5 c)) h
theorem bv28(f:∀x y z u v w,A6 x y z u v w->B6 x y z u v w->C6 x y z u v w->R)(h:∃x y z u v w,A6 x y z u v w/\B6 x y z u v w/\C6 x y z u v w):R:=bv0 (λx y=>bv16 (λz u v w h1 h2 c=>f x y z u v w h1 h2 c)) h
theorem bv29(f:∀x y z u,A4 x y z u->B4 x y z u->C4 x y z u->D4 x y z u->E4 x y z u->R)(h:∃x y z u,A4 x y z u/\B4 x y z u/\C4 x y z u/\D4 x y z u/\E4 x y z u):R:=bvE (λx=>bv26 (λy z u h1 h2 h3 h4 c=>f x y z u h1 h2 h3 h4 c)) h
theorem bv30(f:∀x y z u v w s t,A8 x y z u v w s t->R)(h:∃x y z u v w s t,A8 x y z u v w s t):R:=bv0 (λx y=>bv18 (λz u v w s t c=>f x y z u v w s t c)) h
theorem bv31(f:∀x y z,A3 x y z->B3 x y z->C3 x y z->D3 x y z->E3 x y z->F3 x y z->G3 x y z->R)(h:∃x y z,A3 x y z/\B3 x y z/\C3 x y z/\D3 x y z/\E3 x y z/\F3 x y z/\G3 x y z):R:=bv5 (λx y z=>bv19 (λh1 h2 h3 h4 h5 h6 c=>f x y z h1 h2 h3 h4 h5 h6 c)) h
theorem bv32(f:∀x y z u v,A5 x y z u v->B5 x y z u v->C5 x y z u v->D5 x y z u v->E5 x y z u v->F5 x y z u v->R)(h:∃x y z u v,A5 x y z u v/\B5 x y z u v/\C5 x y z u v/\D5 x y z u v/\E5 x y z u v/\F5 x y z u v):R:=bv0 (λx y=>bv27 (λz u v h1 h2 h3 h4 h5 c=>f x y z u v h1 h2 h3 h4 h5 c)) h
theorem bv33(f:∀x y z u,A4 x y z u->B4 x y z u->C4 x y z u->D4 x y z u->E4 x y z u->F4 x y z u->G4 x y z u->R)(h:∃x y z u,A4 x y z u/\B4 x y z u/\C4 x y z u/\D4 x y z u/\E4 x y z u/\F4 x y z u/\G4 x y z u):R:=bvE (λx=>bv31 (λy z u h1 h2 h3 h4 h5 h6 c=>f x y z u h1 h2 h3 h4 h5 h6 c)) h
theorem bv34(f:A0->B0->C0->D0->E0->F0->G0->H0->I0->J0->K0->R)(h:A0/\B0/\C0/\D0/\E0/\F0/\G0/\H0/\I0/\J0/\K0):R:=bvA (λh1=>bv1 (λh2 h3=>bv25 (λh4 h5 h6 h7 h8 h9 h10 c=>f h1 h2 h3 h4 h5 h6 h7 h8 h9 h10 c))) h
end
local macro_rules|`(tactic|intros $xs*)=>do
 if xs.size<3 then Lean.Macro.throwUnsupported
 let mut t:Lean.TSyntax `term:=<-`(?_)
 let mut b:Array (Lean.TSyntax `term):=#[]
 let mut n:=xs.size
 let mut r:Array (Lean.TSyntax `ident):=#[]
 for x in xs.reverse do
  n:=n-1
  if n=1 then continue
  if x.raw.getId.toString.startsWith "bv" then
   t:=<-`($(⟨x.raw⟩) λ$b*=>$t)
   b:=#[]
  else if x.raw.getId==`rfl then
   let i:=Lean.mkIdent (.mkSimple s!"e'{n}")
   r:=#[i]++r
   b:=#[⟨i.raw⟩]++b
  else b:=#[⟨x.raw⟩]++b
 let h:Lean.TSyntax `ident:=⟨xs[1]!.raw⟩
 let mut s:Lean.TSyntax `tactic:=<-if h.raw.isIdent then `(tactic|(revert $h;refine $t)) else `(tactic|refine $t)
 for i in r do s:=<-`(tactic|($s:tactic;subst $i))
 return s
namespace L2
open PySem PySem.Spec PyProof.Rows
abbrev Key:=Sum Int Str
def rj:Key->Value->Bool
 | .inl k,v=>Value.isInt k v
 | .inr x,v=>Value.isStrOf x v
def UM(w:World):Key->Int
 | .inl k=>hashInt k
 | .inr x=>hashStr w x
theorem mX:∀{k:Key} {v:Value},rj k v=true->(∃i t,k=Sum.inl i/\v=Value.int i t)\/(∃x t,k=Sum.inr x/\v=Value.str x t)
 | .inl i,v,h=>by obtain ⟨t,e⟩:=Value.isInt_shape (k:=i) (v:=v) h;exact .inl (ii i t rfl e)
 | .inr x,v,h=>by obtain ⟨t,e⟩:=Value.isStrOf_shape (x:=x) (v:=v) h;exact .inr (ii x t rfl e)
theorem UN(i:Int)(t:Tok):rj (.inl i) (.int i t)=true:=by simp [rj,Value.isInt]
theorem UO(x:Str)(t:Tok):rj (.inr x) (.str x t)=true:=by simp [rj,Value.isStrOf]
theorem UP(a b:Int):decide ((Sum.inl a:Key)=Sum.inl b)=(a == b):=by
 by_cases e:a=b;·subst e;simp
 ·have h:¬(Sum.inl a:Key)=Sum.inl b:=λq=>e (Sum.inl.inj q)
  rw [cZ h];exact (n8.mpr e).symm
theorem UQ(a b:Str):decide ((Sum.inr a:Key)=Sum.inr b)=decide (a=b):=by
 by_cases e:a=b;·subst e;simp
 ·have h:¬(Sum.inr a:Key)=Sum.inr b:=λq=>e (Sum.inr.inj q)
  rw [cZ h,cZ e]
theorem UR(a:Int)(b:Str):decide ((Sum.inl a:Key)=Sum.inr b)=false:=cZ (λq=>nomatch q)
theorem US(a:Str)(b:Int):decide ((Sum.inr a:Key)=Sum.inl b)=false:=cZ (λq=>nomatch q)
def ji(prog:Program)(w:World):PySem.KeyKind prog w Key where
 is:=rj
 hash:=UM w
 inj:=λv a b ha hb=>by
  rcases mX ha with ⟨i,t,rfl,rfl⟩ | ⟨x,t,rfl,rfl⟩
  ·rcases mX hb with ⟨j,u,rfl,e⟩ | ⟨y,u,rfl,e⟩
   ·injection e with e1 _;rw [e1]
   ·exact nomatch e
  ·rcases mX hb with ⟨j,u,rfl,e⟩ | ⟨y,u,rfl,e⟩
   ·exact nomatch e
   ·injection e with e1 _;rw [e1]
 byValue:=λk v h=>by
  rcases mX h with ⟨i,t,rfl,rfl⟩ | ⟨x,t,rfl,rfl⟩ <;> rfl
 pyHash:=λhv h=>by
  rcases mX hv with ⟨i,t,rfl,rfl⟩ | ⟨x,t,rfl,rfl⟩
  ·exact wpAny_pyHash_int h
  ·exact wpAny_pyHash_str h
 eqBool:=λhu hv h=>by
  rcases mX hu with ⟨i,t,rfl,rfl⟩ | ⟨x,t,rfl,rfl⟩
  ·rcases mX hv with ⟨j,u,rfl,rfl⟩ | ⟨y,u,rfl,rfl⟩
   ·rw [UP] at h;exact wpAny_eqBool_int h
   ·rw [UR] at h;exact SeqAt.EqAt.int_str i t y u _ _ _ _ h
  ·rcases mX hv with ⟨j,u,rfl,rfl⟩ | ⟨y,u,rfl,rfl⟩
   ·rw [US] at h;exact SeqAt.EqAt.str_int x t j u _ _ _ _ h
   ·rw [UQ] at h;exact wpAny_eqBool_str h
 «strs»:=λk x t v h=>by
  rcases mX h with ⟨i,u,rfl,e⟩ | ⟨y,u,rfl,e⟩
  ·exact nomatch e
  ·injection e with e1 _
   subst e1
   cases v <;> rfl
theorem UT(prog:Program)(w:World)(i:Int)(t:Tok):(ji prog w).is (.inl i) (.int i t)=true:=UN i t
theorem UU(prog:Program)(w:World)(x:Str)(t:Tok):(ji prog w).is (.inr x) (.str x t)=true:=UO x t
inductive V where
 | aO | bl (b:Bool) | int (i:Int) | str (x:Str) | kH (b:Array UInt8) | rn (b:UInt64) | ref (a:Addr) | ty (n:String)
 deriving DecidableEq
def RelV:V->Value->Prop
 | .aO,u=>u=Value.none
 | .bl b,u=>u=Value.bool b
 | .int i,u=>∃t,u=Value.int i t
 | .str x,u=>∃t,u=Value.str x t
 | .kH b,u=>∃t,u=Value.bytes b t
 | .rn b,u=>∃t,u=Value.float b t
 | .ref a,u=>u=Value.ref a
 | .ty n,u=>u=Value.type n
abbrev Vals:List V->List Value->Prop:=Paired RelV
variable {xs:List V} {us:List Value}
theorem Vals.length(r:Vals xs us):xs.length=us.length:=Paired.length r
theorem Vals.get:∀{xs:List V} {us:List Value} {i:Nat} {x:V},Vals xs us->xs[i]?=some x->∃u,us[i]?=some u/\RelV x u
 | _,_,_,_,.nil,e=>by simp at e
 | _,_,0,_,.cons r _,e=>by simp at e;subst e;exact (ad _ rfl r)
 | _,_,i+1,x,.cons _ t,e=>by
  obtain ⟨u,h1,h2⟩:=Vals.get (i:=i) (x:=x) t (by simpa using e)
  exact ⟨u,by simpa using h1,h2⟩
theorem Vals.set{x:V}{u:Value}(r:RelV x u):∀{xs:List V} {us:List Value} (i:Nat),Vals xs us->Vals (xs.set i x) (us.set i u)
 | _,_,_,.nil=>.nil
 | _,_,0,.cons _ t=>.cons r t
 | _,_,i+1,.cons q t=>.cons q (Vals.set r i t)
theorem Vals.append:∀{xs ys:List V} {us ws:List Value},Vals xs us->Vals ys ws->Vals (xs++ys) (us++ws)
 | _,_,_,_,.nil,s=>s
 | _,_,_,_,.cons r t,s=>.cons r (Vals.append t s)
theorem Vals.take:∀{xs:List V} {us:List Value} (n:Nat),Vals xs us->Vals (xs.take n) (us.take n)
 | _,_,0,_=>.nil
 | _,_,_+1,.nil=>.nil
 | _,_,n+1,.cons r t=>.cons r (Vals.take n t)
theorem Vals.drop:∀{xs:List V} {us:List Value} (n:Nat),Vals xs us->Vals (xs.drop n) (us.drop n)
 | _,_,0,r=>r
 | _,_,_+1,.nil=>.nil
 | _,_,n+1,.cons _ t=>Vals.drop n t
theorem Vals.none_of:∀{xs:List V} {us:List Value} {i:Nat},Vals xs us->xs[i]?=none->us[i]?=none:=fun{xs us i} r e=>by have h1:=r.length;have h2:xs.length<=i:=Gj.mp e;exact Gj.mpr ⋯
def jR:Option V->Option Value->Prop
 | some v,some u=>RelV v u
 | none,none=>True
 | _,_=>False
def KV{κ:Type}:List (κ×V)->List (κ×Value)->Prop:=Paired fun(p:κ×V) (q:κ×Value)=>p.1=q.1/\RelV p.2 q.2
def kV:Key->V
 | .inl i=>.int i
 | .inr x=>.str x
inductive HO where
 | lst (xs:List V)
 | tup (xs:List V)
 | dK (ar:List (Key×V)) | dT (ar:List (List Key×V))
 | set (S:Int->Bool) (n:Nat)
 | ins (C dx:Addr) (fs:List (Str×V))
 | own (x:Addr)
 | xd (fs:List (Str×V))
 | met (f x:Addr)
 | pQ (lo hi:Int)
 | cL (o:Obj) (u:HO)
 | mY (ps:Array Value)
 | ext (φ:Heap->Prop)
abbrev Hp:=Addr->Option HO
def upd(H:Hp)(a:Addr)(o:HO):Hp:=λb=>if b=a then some o else H b
variable {H:Hp} {a:Addr} {o:HO}
theorem au:upd H a o a=some o:=by unfold upd;rw [aq rfl]
variable {b:Addr}
theorem aH(h:b≠a):upd H a o b=H b:=by unfold upd;rw [az h]
theorem UW{u:HO}(h:H a=some o)(h':H b=some u)(d:o≠u):a≠b:=by intro e;subst e;rw [h] at h';exact d (Option.some.inj h')
theorem f_(h:H a=some o)(h':H b=none):a≠b:=by intro e;subst e;rw [h] at h';cases h'
section
variable (P:Program) (w:World)
def cN(H:Hp)(h:Heap)(a:Addr):HO->Prop
 | .lst xs=>xs.length<=sizeLine/\∃(ai:List Value) (n:Nat),Vals xs ai/\h.get? a=some {cls:=.type "list",data:=.seq ai.toArray n}
 | .tup xs=>xs.length<=sizeLine/\∃ai:List Value,Vals xs ai/\IsTup h a ai.toArray
 | .dK ar=>ar.length<=sizeLine/\(a == sysModules)=false/\∃vs,KV ar vs/\h.DictOf (ji P w) a vs
 | .dT ar=>ar.length<=sizeLine/\(a == sysModules)=false/\∃xs:List (List Key×Addr×Value),
   Paired (fun(p:List Key×V) (q:List Key×Addr×Value)=>p.1=q.1/\H q.2.1=some (.tup (p.1.map kV))/\RelV p.2 q.2.2) ar xs /\
   ∃o es ep,h.get? a=some o/\o.ExactDict/\o.data=.dict es ep/\es.toList=xs.map (entryOfKey (tupleKind (ji P w)))/\(xs.map (·.1)).Nodup
 | .set S n=>h.SetOf (intKind P w) a S n
 | .ins C dx fs=>H dx=some (.own a)/\fs.length<=1000/\dx≠a/\h.get? a=some (PySem.W.instObj C dx) /\
   ∃mA,h.Ns1 dx mA/\(∀f,jR (fs.lookup f) (mA f))/\PySem.Within mA (fs.map (·.1))
 | .own _=>∃o,h.get? a=some o
 | .xd fs=>∃mA,h.Ns1 a mA/\∀f,jR (fs.lookup f) (mA f)
 | .pQ lo hi=>∃t u v,h.get? a=some {cls:=.type "range",data:=.fields #[.int lo t,.int hi u,.int 1 v]}
 | .cL o u=>h.get? a=some o/\cN H h a u
 | .mY ps=>h.get? a=some {cls:=.none,data:=.fields ps}
 | .met f x=>h.get? a=some (PySem.W.methodObj (.ref f) (.ref x))
 | .ext φ=>φ h/\(∃o,h.get? a=some o)/\∀h1 h2:Heap,φ h1->(∀o,h1.get? a=some o->h2.get? a=some o)->φ h2
def cq(H:Hp)(h:Heap):Prop:=∀a o,H a=some o->cN P w H h a o
end
section
variable {P:Program} {w:World} {H H':Hp} {h h':Heap} {a:Addr} {o:HO}
theorem cN.lt(x:cN P w H h a o):a<h.objs.size:=by
 cases o with
 | lst xs=>intros bv8 x _ _ _ _ e;exact bP e
 | tup xs=>obtain ⟨_,_,_,p⟩:=x;exact p.lt
 | dK ar=>intros bv13 x _ _ _ _ o bv3 _ _ e _;exact bP e
 | dT ar=>intros bv13 x _ _ _ _ o bv3 _ _ e _;exact bP e
 | set S n=>intros bv0 x o _ bv3 _ _ e _;exact bP e
 | ins C dx fs=>obtain ⟨_,_,_,e,_⟩:=x;exact bP e
 | own y=>obtain ⟨_,e⟩:=x;exact bP e
 | xd fs=>obtain ⟨_,⟨_,_,_,e,_⟩,_⟩:=x;exact bP e
 | pQ lo hi=>intros bv5 x _ _ _ e;exact bP e
 | cL ob u=>obtain ⟨e,_⟩:=x;exact bP e
 | mY ps=>exact bP (show h.get? a=some _ from x)
 | met f y=>exact bP (show h.get? a=some _ from x)
 | ext φ=>obtain ⟨_,⟨_,e⟩,_⟩:=x;exact bP e
theorem Paired.GA{α β:Type}{F G:α->β->Prop}:∀{l₁:List α} {l₂:List β},Paired F l₁ l₂->(∀a b,F a b->G a b)->Paired G l₁ l₂
 | _,_,.nil,_=>.nil
 | _,_,.cons r t,f=>.cons (f _ _ r) (Paired.GA t f)
theorem cN.ic(x:cN P w H h a o)(k:∀b u,(b=a\/H b=some (.own a))->h.get? b=some u->h'.get? b=some u)
  (ho:∀b,H b=some (.own a)->H' b=some (.own a)) (ht:∀b xs,H b=some (.tup xs)->H' b=some (.tup xs)):cN P w H' h' a o:=by
 induction o with
 | lst xs=>intros bv8 x z ai n r e;exact ⟨z,ai,n,r,k _ _ (.inl rfl) e⟩
 | tup xs=>obtain ⟨z,ai,r,ob,e,c⟩:=x;exact ⟨z,ai,r,ob,k _ _ (.inl rfl) e,c⟩
 | dK ar=>intros bv13 x z y vs r ob bv3 es ep e c;exact ⟨z,y,vs,r,ob,es,ep,k _ _ (.inl rfl) e,c⟩
 | dT ar=>intros bv13 x z y xs r ob bv3 es ep e c;exact ⟨z,y,xs,Paired.GA r λp q z=>⟨z.1,ht _ _ z.2.1,z.2.2⟩,ob,es,ep,k _ _ (.inl rfl) e,c⟩
 | set S n=>intros bv0 x ob es bv3 ep t e c;exact (wp ob es (ii ep t (k _ _ (.inl rfl) e) c))
 | ins C dx fs=>obtain ⟨d,z,ne,e,mA,⟨od,es,ep,e2,c⟩,r⟩:=x;exact ⟨ho _ d,z,ne,k _ _ (.inl rfl) e,mA,⟨od,es,ep,k _ _ (.inr d) e2,c⟩,r⟩
 | own y=>obtain ⟨ob,e⟩:=x;exact ⟨ob,k _ _ (.inl rfl) e⟩
 | xd fs=>obtain ⟨mA,⟨od,es,ep,e,c⟩,r⟩:=x;exact (ad mA ⟨od,es,ep,k _ _ (.inl rfl) e,c⟩ r)
 | pQ lo hi=>intros bv5 x t u v e;exact (wn t u v (k _ _ (.inl rfl) e))
 | cL ob u ih=>obtain ⟨e,q⟩:=x;exact ⟨k _ _ (.inl rfl) e,ih q⟩
 | mY ps=>have e:h.get? a=some {cls:=.none,data:=.fields ps}:=x;show h'.get? a=some {cls:=.none,data:=.fields ps};exact k a _ (.inl rfl) e
 | met f y=>have e:h.get? a=some (PySem.W.methodObj (.ref f) (.ref y)):=x;show h'.get? a=some (PySem.W.methodObj (.ref f) (.ref y));exact k a _ (.inl rfl) e
 | ext φ=>obtain ⟨p,⟨o,e⟩,st⟩:=x;exact ⟨st _ _ p λo q=>k _ _ (.inl rfl) q,⟨o,k _ _ (.inl rfl) e⟩,st⟩
theorem cq.lt(x:cq P w H h)(e:H a=some o):a<h.objs.size:=(x a o e).lt
theorem cq.fresh(x:cq P w H h)(e:h.objs.size<=a):H a=none:=by
 cases q:H a with
 | none=>rfl
 | some u=>exact absurd (eO (x.lt q) e) (fM _)
theorem cq.kept(x:cq P w H h)(k:∀b u,h.get? b=some u->h'.get? b=some u):cq P w H h':=λa o e=>(x a o e).ic (λb u _ q=>k b u q) (λ_ q=>q) λ_ _ q=>q
theorem cq.laid(x:cq P w H h)(k:∀b u,h.get? b=some u->h'.get? b=some u)(hp:h.objs.size<=a)(new:cN P w (upd H a o) h' a o):cq P w (upd H a o) h':=λb u e=>by
 have hn:=x.fresh hp;by_cases hb:b=a;·subst hb;rw [au] at e;cases e;exact new
 ·rw [aH hb] at e
  exact (x b u e).ic (λc v _ q=>k c v q) (λc q=>by rw [aH (f_ q hn)];exact q) λc xs q=>by rw [aH (f_ q hn)];exact q
end
def Rd(H:Hp)(a:Addr)(u:HO):Prop:=H a=some u\/∃o,H a=some (.cL o u)
variable {P:Program} {w:World} {h:Heap}
theorem Rd.ok{u:HO}(r:Rd H a u)(x:cq P w H h):cN P w H h a u:=by
 rcases r with r | ⟨o,r⟩;·exact x a u r
 ·obtain ⟨_,q⟩:=x a _ r
  exact q
def Ao:Option HO->Prop
 | some (.lst _)=>True
 | some (.dK _)=>True
 | some (.dT _)=>True
 | some (.set _ _)=>True
 | some (.ins _ _ _)=>True
 | some (.ext _)=>True
 | _=>False
section
variable {P:Program} {w:World} {H:Hp} {h h':Heap} {x e:Addr} {o':HO}
theorem cq.write(ok:cq P w H h)(mu:Ao (H x))(he:e=x\/H e=some (.own x))(k:∀b u,b≠e->h.get? b=some u->h'.get? b=some u)(v8:∃u,h'.get? e=some u)
  (new:cN P w (upd H x o') h' x o'):cq P w (upd H x o') h':=λb u q=>by
 have L9:∀c y,H c=some (.own y)->c≠x:=λc y r z=>by subst z;rw [r] at mu;exact mu
 have UX:∀c xs,H c=some (.tup xs)->c≠x:=λc xs r z=>by subst z;rw [r] at mu;exact mu
 by_cases hb:b=x;·subst hb;rw [au] at q;cases q;exact new
 ·rw [aH hb] at q
  by_cases rp:b=e
  ·have q':H b=some (.own x):=by
    rcases he with z | z;·exact absurd (rp.trans z) hb
    ·rw [rp];exact z
   rw [q] at q';cases q';obtain ⟨v,hv⟩:=v8;exact ⟨v,by rw [rp];exact hv⟩
  ·refine (ok b u q).ic (λc v hc r=>k c v ?_ r) (λc r=>by rw [aH (L9 c b r)];exact r) λc xs r=>by rw [aH (UX c xs r)];exact r
   rcases hc with rfl | hc;·exact rp
   ·rintro rfl
    rcases he with z | z;·exact L9 c b hc z
    ·rw [hc] at z;cases z;exact hb rfl
end
structure Un (fs ex:List Addr) (H H':Hp) (h h':Heap):Prop where
 keep:∀b o,h.get? b=some o->H b=none->b∉fs->b∉ex->h'.get? b=some o
 slot:∀b o,h.get? b=some o->H b=none->b∈fs->b∉ex->∃sl,h'.get? b=some {o with slots:=sl}
 free:∀b o,h.get? b=some o->H b=none->b∉ex->H' b=none
 there:∀b o,h.get? b=some o->b∉ex->∃o',h'.get? b=some o'
 fR:∀b xs,H b=some (.tup xs)->H' b=some (.tup xs)
 fE:∀b o u,H b=some (.cL o u)->H' b=some (.cL o u)
 fS:∀b ps,H b=some (.mY ps)->∃more,H' b=some (.mY (ps++more))
section
variable {fs GB ex jS:List Addr} {H H1 H2:Hp} {h h1 h2 h':Heap} {a x e:Addr} {o:HO}
theorem Un.any(u:Un fs ex H H1 h h1){ob:Obj}(q:h.get? b=some ob)(n:H b=none)(hx:b∉ex):∃sl,h1.get? b=some {ob with slots:=sl}:=by
 by_cases hb:b∈fs;·exact u.slot b ob q n hb hx
 ·exact ⟨ob.slots,u.keep b ob q n hb hx⟩
theorem Un.kept(k:∀b u,h.get? b=some u->h'.get? b=some u):Un fs ex H H h h':=
 ⟨λb ob q _ _ _=>k b ob q,λb ob q _ _ _=>⟨ob.slots,k b ob q⟩,λ_ _ _ n _=>n,λb ob q _=>⟨ob,k b ob q⟩,λ_ _ q=>q,λ_ _ _ q=>q,λ_ ps q=>⟨#[],by rw [q];simp⟩⟩
theorem Un.refl:Un fs ex H H h h:=Un.kept λ_ _ q=>q
theorem Un.laid(k:∀b u,h.get? b=some u->h'.get? b=some u)(hp:h.objs.size<=a)(hn:H a=none):Un fs ex H (upd H a o) h h' where
 keep:=λb u q _ _ _=>k b u q
 slot:=λb u q _ _ _=>⟨u.slots,k b u q⟩
 free:=λb u q n _=>by rw [aH (dY (eO (bP q) hp))];exact n
 there:=λb u q _=>⟨u,k b u q⟩
 fR:=λb xs q=>by rw [aH (f_ q hn)];exact q
 fE:=λb u xs q=>by rw [aH (f_ q hn)];exact q
 fS:=λb ps q=>⟨#[],by rw [aH (f_ q hn),q];simp⟩
theorem Un.write(mu:Ao (H x))(he:e=x\/H e=some (.own x))(k:∀b u,b≠e->h.get? b=some u->h'.get? b=some u)(v8:∃u,h'.get? e=some u):Un fs ex H (upd H x o) h h':=by
 have hx:∀b,H b=none->b≠x:=λb n z=>by subst z;rw [n] at mu;exact mu
 have hb:∀b,H b=none->b≠e:=λb n z=>by
  subst z;rcases he with r | r;·exact hx b n r
  ·rw [n] at r;cases r
 have hm:∀b u,H b=some u->¬Ao (some u)->b≠x:=λb u q nm z=>by subst z;rw [q] at mu;exact nm mu
 refine ⟨λb u q n _ _=>k b u (hb b n) q,λb u q n _ _=>⟨u.slots,k b u (hb b n) q⟩,λb u q n _=>by rw [aH (hx b n)];exact n,λb u q _=>?_,
  λb xs q=>by rw [aH (hm b _ q λz=>z)];exact q,λb u xs q=>by rw [aH (hm b _ q λz=>z)];exact q,λb ps q=>⟨#[],by rw [aH (hm b _ q λz=>z),q];simp⟩⟩
 by_cases rp:b=e;·subst rp;exact v8
 ·exact ⟨u,k b u rp q⟩
end
def Cu(h:Heap)(H:Hp):List Addr:=(List.range h.objs.size).filter λa=>(H a).isSome
def ou(h:Heap)(H:Hp):Heap:=PySem.W.hideAll h (Cu h H)
theorem UY(h:Heap)(H:Hp):(ou h H).objs.size=h.objs.size:=PySem.W.hideAll_size _ _
theorem UZ{o:Obj}(e:h.get? b=some o)(n:H b=none):(ou h H).get? b=some o:=
 B3 _ e λhm=>by have q:(H b).isSome=true:=(vI.mp hm).2;rw [n] at q;simp at q
theorem U1{o:Obj}(e:(ou h H).get? b=some o):h.get? b=some o/\H b=none:=by
 have e':h.get? b=some o:=PySem.W.of_hideAll (Cu h H) e;refine ⟨e',?_⟩;cases q:H b with
 | none=>rfl
 | some x=>
  have hm:b∈Cu h H:=vI.mpr ⟨dA.mpr (bP e'),by simp [q]⟩
  have z:(ou h H).get? b=none:=PySem.W.hideAll_none (Cu h H) hm;rw [z] at e;cases e
structure Mod (K:aE) (mg:cU) (base:Heap):Prop where
 c_:K.In base
 glob:base.Ns mainGlobals mg
 blt:∃mb,base.Ns builtinsNs mb/\∀x:Str,x ≠ "__name__"->mb x=bootBuiltins x
 nolimit:base.NoLimit
structure Cx where
 prog:Program
 w:World
 K:PySem.W.Frag
 mg:Str->Option Value
 base:Heap
 A:Around
 N:List Str
 s₀:Shared
 H₀:Hp
 env:Env
 outer:List Env
 stack:List Env
 ex:List Addr
 fn:Str->Bool
 calm:Bool
 pn:List (Addr×Obj)
 xe:Value->Shared->Prop
def cz(l:List Env):List Addr:=l.filterMap (·.frame)
abbrev Cx.fs (X:Cx):List Addr:=cz X.outer
def oz(sc:Scope)(x:Str):Prop:=sc.names.lookup x=some .local\/sc.names.lookup x=some .cell\/sc.names.lookup x=some .free
def Loc(sc:Scope)(x:Str):Prop:=sc.names.lookup x=some .local\/sc.names.lookup x=some .cell
def Look(env:Env)(h:Heap)(m:cU)(x:Str)(u:Value):Prop:=
 (env.kindOf x=some .local/\m x=some u)\/((env.kindOf x=some .cell\/env.kindOf x=some .free)/\∃c,env.cells.lookup x=some c/\h.IsCell c (some u))
structure Cx.Ok (X:Cx):Prop where
 mod:Mod X.K X.mg X.base
 kind:X.env.scope.kind=.function
 glob:X.env.globals=mainGlobals
 blt:X.env.builtins=builtinsNs
 above:X.s₀.heap.objs.size<=X.env.locals
 inj:∀x y c,X.env.cells.lookup x=some c->X.env.cells.lookup y=some c->x=y
 has:∀x,(X.env.kindOf x=some .cell\/X.env.kindOf x=some .free)->∃c,X.env.cells.lookup x=some c
 pR:∀x c,X.fn x=true->X.env.cells.lookup x=some c->X.s₀.heap.objs.size<=c
 hd:X.calm=true->X.A.handled=none
 frames:X.A.frames=some X.stack
 ie:X.stack=X.outer\/(X.stack=X.env::X.outer/\X.env.frame=some X.env.locals)
 GC:∀b∈X.ex,b≠X.env.locals/\∀x c,X.env.cells.lookup x=some c->c≠b
 bs:∀b o,X.base.get? b=some o->X.s₀.heap.get? b=some o/\X.H₀ b=none
 gY:X.base.objs.size<=X.s₀.heap.objs.size
 mZ:∀b o,X.base.get? b=some o->b∉X.ex
 m4:∀b∈X.ex,b∉X.fs
 jT:X.s₀.heap.FunFrames X.base X.outer
 m5:∀b∈X.fs,X.H₀ b=none
structure Inv (X:Cx) (pins:a7) (σ:List (Option V)) (H:Hp) (s:Shared):Prop where
 ok:X.Ok
 os:s.os=X.s₀.os
 bare:AllBare s.gens
 base:Un X.fs X.ex X.H₀ H X.s₀.heap s.heap
 loc:∃m,s.heap.Ns X.env.locals m/\∀(i:Nat) (x:Str) (v:V),X.N[i]?=some x->σ[i]?=some (some v)->oz X.env.scope x->∃u,RelV v u/\Look X.env s.heap m x u
 cell:∀x c,X.env.cells.lookup x=some c->∃v,s.heap.IsCell c v
 free:H X.env.locals=none
 ig:∀x c,X.env.cells.lookup x=some c->H c=none
 pin:∀p∈X.pn++pins,s.heap.get? p.1=some p.2/\H p.1=none/\p.1≠X.env.locals/\p.1∉X.fs/\∀v,p.2.data≠.cell v
 aB:cq X.prog X.w H s.heap
 len:σ.length=X.N.length
section
variable {X:Cx} {pins:a7} {σ:List (Option V)} {H H':Hp} {s:Shared} {h':Heap}
theorem Cx.Ok.U4(ok:X.Ok){o:Obj}(e:X.base.get? b=some o):b∉X.fs:=λhb=>by have:=(ok.jT.mem hb).1;rw [e] at this;cases this
theorem Inv.bs(I:Inv X pins σ H s):∀b o,X.base.get? b=some o->s.heap.get? b=some o/\H b=none:=λb o e=>⟨I.base.keep b o (I.ok.bs b o e).1 (I.ok.bs b o e).2 (I.ok.U4 e) (I.ok.mZ b o e),I.base.free b o (I.ok.bs b o e).1 (I.ok.bs b o e).2 (I.ok.mZ b o e)⟩
theorem Inv.bk(I:Inv X pins σ H s):∀b o,X.base.get? b=some o->s.heap.get? b=some o:=λb o e=>(I.bs b o e).1
theorem Inv.mod(I:Inv X pins σ H s):Mod X.K X.mg X.base:=I.ok.mod
theorem Inv.dj(I:Inv X pins σ H s):X.K.In s.heap:=I.ok.mod.c_.keeps I.bk
theorem Inv.lt(I:Inv X pins σ H s):X.env.locals<s.heap.objs.size:=let ⟨_,hn,_⟩:=I.loc;hn.lt
theorem Inv.sz(I:Inv X pins σ H s):X.s₀.heap.objs.size<=s.heap.objs.size:=aM I.ok.above (zU I.lt)
theorem Inv.U5(I:Inv X pins σ H s)(h:s.heap.objs.size<=a):a∉X.fs:=λhb=>by obtain ⟨_,o,ho,_⟩:=I.ok.jT.mem hb;exact absurd (eO (bP ho) (aM I.sz h)) (fM _)
theorem Inv.lN(I:Inv X pins σ H s):∀x c,X.env.cells.lookup x=some c->c≠X.env.locals:=λx c e z=>by obtain ⟨v,o,ho,hd⟩:=I.cell x c e;obtain ⟨m,⟨o',es,ep,kI,GD,_⟩,_⟩:=I.loc;rw [z,kI] at ho;cases ho;rw [GD] at hd;cases hd
theorem Inv.jT(I:Inv X pins σ H s):s.heap.FunFrames X.base X.outer:=by
 have all:∀(l:List Env),(∀b∈cz l,b∈X.fs)->X.s₀.heap.FunFrames X.base l->s.heap.FunFrames X.base l:=by
  intro l
  induction l with
  | nil=>intro _ _;trivial
  | cons env r ih=>
   intro hs hl;obtain ⟨hk,⟨L,o,hf,hn,ho,hd⟩,hr⟩:=hl;have hL:L∈X.fs:=hs L (by unfold cz;rw [B4,hf];exact n_)
   obtain ⟨sl,e⟩:=I.base.slot L o ho (I.ok.m5 L hL) hL λz=>I.ok.m4 L z hL;exact ⟨hk,(f8 L _ hf hn e hd),ih (λb hb=>hs b (by unfold cz;rw [B4,hf];exact je _ hb)) hr⟩
 exact all X.outer (λ_ hb=>hb) I.ok.jT
theorem Inv.stack(I:Inv X pins σ H s):s.heap.FunFrames X.base X.stack:=by
 rcases I.ok.ie with e | ⟨e,hf⟩;·rw [e];exact I.jT
 ·rw [e]
  obtain ⟨m,hn,_⟩:=I.loc;refine .cons (by rw [I.ok.kind];decide) hf hn ?_ I.jT
  exact Heap.get?_none_of_le (aM I.ok.gY I.ok.above)
theorem Inv.rq(I:Inv X pins σ H s):∀b∈cz X.stack,b∈X.env.locals::X.fs:=λb hb=>by
 rcases I.ok.ie with e | ⟨e,hf⟩;·rw [e] at hb;exact je _ hb
 ·rw [e] at hb
  unfold cz at hb;rw [B4,hf] at hb;exact hb
theorem Inv.rz(I:Inv X pins σ H s):∀b∈cz X.stack,H b=none:=λb hb=>by
 rcases dB.mp (I.rq b hb) with e | hb;·rw [e];exact I.free
 ·obtain ⟨_,o,ho,_⟩:=I.ok.jT.mem hb
  exact I.base.free b o ho (I.ok.m5 b hb) λz=>I.ok.m4 b z hb
variable {g':Array GenState} {t':Nat} {d':Drawn} {ch:List Addr}
theorem Inv.step(I:Inv X pins σ H s)
  (m7:∀b∈ch,(b∈X.ex\/X.s₀.heap.objs.size<=b)/\b≠X.env.locals/\(∀x c,X.env.cells.lookup x=some c->c≠b)/\∀p∈X.pn++pins,p.1≠b)
  (keep:∀b o,b≠X.env.locals->b∉X.fs->b∉ch->s.heap.get? b=some o->H b=none->h'.get? b=some o)
  (slot:∀b o,b≠X.env.locals->b∈X.fs->b∉ch->s.heap.get? b=some o->H b=none->∃sl,h'.get? b=some {o with slots:=sl}) (free:∀b o,b∉ch->s.heap.get? b=some o->H b=none->H' b=none)
  (there:∀b o,b∉ch->s.heap.get? b=some o->∃o',h'.get? b=some o')
  (fR:∀b xs,H b=some (.tup xs)->H' b=some (.tup xs)) (fE:∀b o u,H b=some (.cL o u)->H' b=some (.cL o u)) (fS:∀b ps,H b=some (.mY ps)->∃more,H' b=some (.mY (ps++more)))
  (ns:∀m,s.heap.Ns X.env.locals m->h'.Ns X.env.locals m) (aB:cq X.prog X.w H' h') (hg:AllBare g') :
  Inv X pins σ H' {s with heap:=h',gens:=g',drawn:=d',toks:=t'}:=by
 have Md:∀b o,X.s₀.heap.get? b=some o->b≠X.env.locals:=λb o e=>dY (eO (bP e) I.ok.above);have Cv:∀b o,X.s₀.heap.get? b=some o->b∉X.ex->b∉ch:=λb o e hx hb=>by
  rcases (m7 b hb).1 with z | z;·exact hx z
  ·exact absurd (eO (bP e) z) (fM _)
 have cellK:∀x c,X.env.cells.lookup x=some c->∀v,s.heap.IsCell c v->h'.IsCell c v:=λx c e v ⟨o,ho,hd⟩=>by
  have Ap:c∉ch:=λz=>(m7 c z).2.2.1 x c e rfl;by_cases hc:c∈X.fs
  ·obtain ⟨sl,q⟩:=slot c o (I.lN x c e) hc Ap ho (I.ig x c e)
   exact (ad _ q hd)
  ·exact ⟨o,keep c o (I.lN x c e) hc Ap ho (I.ig x c e),hd⟩
 refine ⟨I.ok,I.os,hg,⟨λb o e n hb hx=>?_,λb o e n hb hx=>?_,λb o e n hx=>?_,λb o e hx=>?_,λb xs e=>fR b xs (I.base.fR b xs e),λb o xs e=>fE b o xs (I.base.fE b o xs e),λb ps e=>?_⟩,?_,λx c e=>?_,?_,λx c e=>?_,λp hp=>?_,aB,I.len⟩;·exact keep b o (Md b o e) hb (Cv b o e hx) (I.base.keep b o e n hb hx) (I.base.free b o e n hx)
 ·obtain ⟨sl,e1⟩:=I.base.slot b o e n hb hx
  obtain ⟨U6,e2⟩:=slot b _ (Md b o e) hb (Cv b o e hx) e1 (I.base.free b o e n hx);exact ⟨U6,e2⟩
 ·obtain ⟨o',e1⟩:=I.base.there b o e hx
  exact free b o' (Cv b o e hx) e1 (I.base.free b o e n hx)
 ·obtain ⟨o',e1⟩:=I.base.there b o e hx
  exact there b o' (Cv b o e hx) e1
 ·obtain ⟨m1,e1⟩:=I.base.fS b ps e
  obtain ⟨m2,e2⟩:=fS b _ e1;exact ⟨m1++m2,by rw [e2,Array.append_assoc]⟩
 ·obtain ⟨m,hn,hl⟩:=I.loc
  refine ⟨m,ns m hn,λi x v e1 e2 e3=>?_⟩;obtain ⟨u,r,l⟩:=hl i x v e1 e2 e3;refine (ad u r ?_);rcases l with l | ⟨k,c,e,z⟩;·exact .inl l
  ·exact .inr (ib k c e (cellK x c e _ z))
 ·obtain ⟨v,z⟩:=I.cell x c e
  exact ⟨v,cellK x c e v z⟩
 ·obtain ⟨m,⟨o,_,_,ho,_⟩,_⟩:=I.loc
  exact free _ o (λz=>(m7 _ z).2.1 rfl) ho I.free
 ·obtain ⟨v,o,ho,hd⟩:=I.cell x c e
  exact free c o (λz=>(m7 c z).2.2.1 x c e rfl) ho (I.ig x c e)
 ·obtain ⟨e,n,ne,nf,d⟩:=I.pin p hp
  have Ap:p.1∉ch:=λz=>(m7 p.1 z).2.2.2 p hp rfl;exact ⟨keep p.1 p.2 ne nf Ap e n,free p.1 p.2 Ap e n,ne,nf,d⟩
theorem Inv.un(I:Inv X pins σ H s)(u:Un X.fs [] H H' s.heap h')(aB:cq X.prog X.w H' h'):Inv X pins σ H' {s with heap:=h',toks:=t'}:=by
 obtain ⟨m,⟨o,es,ep,ho,r⟩,_⟩:=id I.loc;obtain ⟨sl,hL⟩:=u.any ho I.free (by simp)
 exact I.step (g':=s.gens) (d':=s.drawn) (ch:=[]) (λ_ z=>nomatch z) (λb o _ hb _ e n=>u.keep b o e n hb (by simp)) (λb o _ hb _ e n=>u.slot b o e n hb (by simp)) (λb o _ e n=>u.free b o e n (by simp)) (λb o _ e=>u.there b o e (by simp)) u.fR u.fE u.fS (λm' hm=>by intros bvE hm o' bv3 GF GG kI r';rw [ho] at kI;cases kI;exact ⟨_,GF,GG,hL,r'⟩) aB I.bare
theorem Inv.call(I:Inv X pins σ H s)(u:Un (cz X.stack) ch H H' s.heap h')(aB:cq X.prog X.w H' h')(hg:AllBare g')
  (m7:∀b∈ch,(b∈X.ex\/X.s₀.heap.objs.size<=b)/\b≠X.env.locals/\(∀x c,X.env.cells.lookup x=some c->c≠b)/\∀p∈X.pn++pins,p.1≠b) :
  Inv X pins σ H' {s with heap:=h',gens:=g',drawn:=d',toks:=t'}:=by
 obtain ⟨m,⟨o,es,ep,ho,r⟩,_⟩:=id I.loc;obtain ⟨sl,hL⟩:=u.any ho I.free λz=>(m7 _ z).2.1 rfl;exact I.step (ch:=ch) m7 (λb o hL hb hc e n=>u.keep b o e n (λz=>(dB.mp (I.rq b z)).elim hL hb) hc) (λb o _ _ hc e n=>u.any e n hc) (λb o hc e n=>u.free b o e n hc) (λb o hc e=>u.there b o e hc) u.fR u.fE u.fS (λm' hm=>by intros bvE hm o' bv3 GF GG kI r';rw [ho] at kI;cases kI;exact ⟨_,GF,GG,hL,r'⟩) aB hg
theorem Inv.turned{it:Addr}(I:Inv X pins σ H s)(k:∀b o,b≠it->s.heap.get? b=some o->h'.get? b=some o)(hn:H it=none)(hL:it≠X.env.locals)
  (h1:it∈X.ex\/X.s₀.heap.objs.size<=it) (h2:∀x c,X.env.cells.lookup x=some c->c≠it) (h3:∀p∈X.pn++pins,p.1≠it):Inv X pins σ H {s with heap:=h',toks:=t'}:=by
 have Mh:∀b u,H b=some u->b≠it:=λb u e z=>by rw [z,hn] at e;cases e
 refine I.step (g':=s.gens) (d':=s.drawn) (ch:=[it]) (λb hb=>?_) (λb o _ _ hc e _=>k b o (λz=>hc (by simp [z])) e) (λb o _ _ hc e _=>⟨o.slots,k b o (λz=>hc (by simp [z])) e⟩) (λ_ _ _ _ n=>n)
  (λb o hc e=>⟨o,k b o (λz=>hc (by simp [z])) e⟩) (λ_ _ e=>e) (λ_ _ _ e=>e) (λb ps e=>⟨#[],by rw [e];simp⟩) (λm hm=>?_) (λb u e=>?_) I.bare
 ·have e:b=it:=by simpa using hb
  subst e;exact ⟨h1,hL,h2,h3⟩
 ·intros bvE hm o bv3 es ep ho r
  exact ⟨o,es,ep,k _ o (Ne.symm hL) ho,r⟩
 ·refine (I.aB b u e).ic (λc v hc q=>k c v ?_ q) (λ_ q=>q) λ_ _ q=>q
  rcases hc with z | z;·rw [z];exact Mh b u e
  ·exact Mh c _ z
theorem Inv.tok(I:Inv X pins σ H s)(t:Nat):Inv X pins σ H {s with toks:=t}:=I.un (h':=s.heap) (t':=t) Un.refl I.aB
theorem Inv.kept(I:Inv X pins σ H s)(k:∀b u,s.heap.get? b=some u->h'.get? b=some u):Inv X pins σ H {s with heap:=h',toks:=t'}:=I.un (Un.kept k) (I.aB.kept k)
theorem Inv.laid(I:Inv X pins σ H s)(k:∀b u,s.heap.get? b=some u->h'.get? b=some u)(hp:s.heap.objs.size<=a)(new:cN X.prog X.w (upd H a o) h' a o) :
  Inv X pins σ (upd H a o) {s with heap:=h',toks:=t'}:=I.un (Un.laid k hp (I.aB.fresh hp)) (I.aB.laid k hp new)
theorem Inv.write{x e:Addr}(I:Inv X pins σ H s)(mu:Ao (H x))(he:e=x\/H e=some (.own x))(k:∀b u,b≠e->s.heap.get? b=some u->h'.get? b=some u)(v8:∃u,h'.get? e=some u)
  (new:cN X.prog X.w (upd H x o) h' x o):Inv X pins σ (upd H x o) {s with heap:=h',toks:=t'}:=I.un (Un.write mu he k v8) (I.aB.write mu he k v8 new)
theorem Inv.Mi{Mj:a7}(I:Inv X pins σ H s)(h:∀p∈Mj,s.heap.get? p.1=some p.2/\H p.1=none/\p.1≠X.env.locals/\p.1∉X.fs/\∀v,p.2.data≠.cell v):Inv X Mj σ H s:=
 ⟨I.ok,I.os,I.bare,I.base,I.loc,I.cell,I.free,I.ig,λp hp=>(mR.mp hp).elim (λz=>I.pin p (B5 _ z)) (h p),I.aB,I.len⟩
variable {i:Nat} {x:Str}
theorem GH{N:List Str}(hN:N.Nodup){j:Nat}(a:N[i]?=some x)(b:N[j]?=some x):i=j:=by obtain ⟨h1,e1⟩:=bK.mp a;obtain ⟨h2,e2⟩:=bK.mp b;exact (List.getElem_inj hN).mp (e1.trans e2.symm)
variable {M:Model} {A:Around} {E:aX} {v:V} {u:Value} {Q:Unit->Shared->Prop}
theorem Cw(I:Inv X pins σ H s)(hN:X.N.Nodup)(hi:X.N[i]?=some x)(hx:Loc X.env.scope x)(r:RelV v u)
  (h:∀s',Inv X pins (σ.set i (some v)) H s'->(∃a,Heap.SameBut a s.heap s'.heap/\(a=X.env.locals\/X.env.cells.lookup x=some a))->Q () s') (hf:X.fn x=true\/X.env.scope.names.lookup x=some .local:=by first | exact .inl rfl | exact .inr rfl | assumption):wpAny M A (storeName X.env x u) Q E s:=by
 obtain ⟨m,hn,hl⟩:=id I.loc;have GI:(X.env.scope.kind == .class || (X.env.scope.kind == .module && X.env.locals != X.env.globals))=false:=by rw [I.ok.kind];rfl
 have Cy:i<σ.length:=by rw [I.len];exact (bK.mp hi).1
 have lN:=I.lN;have tracked:∀{a:Addr} {h':Heap},(∃o,s.heap.get? a=some o/\H a=none)->Heap.SameBut a s.heap h'->cq X.prog X.w H h':=fun{a h'} ha hs b ob e=>by
  obtain ⟨_,_,Ml⟩:=ha;refine (I.aB b ob e).ic (λc w' hc q=>(hs.2 c ?_).trans q) (λ_ q=>q) λ_ _ q=>q;rintro rfl;rcases hc with rfl | hc;·rw [Ml] at e;cases e
  ·rw [Ml] at hc;cases hc
 rcases hx with hk | hk
 ·refine wpAny_storeName_local hk hn (λh' GJ hs=>?_) GI
  obtain ⟨oL,_,_,U7,_⟩:=id hn;refine h _ ⟨I.ok,I.os,I.bare,⟨λb o e n hb hx=>?_,λb o e n hb hx=>?_,I.base.free,λb o e hx=>?_,I.base.fR,I.base.fE,I.base.fS⟩,(ad _ GJ (λj y v' e1 e2 e3=>?_)),λy c e=>?_,I.free,I.ig,λp hp=>?_,tracked (ad oL U7 I.free) hs,by simpa using I.len⟩ (ad _ hs (.inl rfl))
  ·exact (hs.2 b (dY (eO (bP e) I.ok.above))).trans (I.base.keep b o e n hb hx)
  ·obtain ⟨sl,e1⟩:=I.base.slot b o e n hb hx
   exact ⟨sl,(hs.2 b (dY (eO (bP e) I.ok.above))).trans e1⟩
  ·obtain ⟨o',e1⟩:=I.base.there b o e hx
   exact ⟨o',(hs.2 b (dY (eO (bP e) I.ok.above))).trans e1⟩
  ·by_cases hj:j=i
   ·subst hj
    rw [hi] at e1;cases e1;rw [Gk Cy] at e2;cases e2;exact (ad u r (.inl ⟨hk,by simp⟩))
   ·rw [List.getElem?_set_ne (Ne.symm hj)] at e2
    obtain ⟨u',r',q⟩:=hl j y v' e1 e2 e3;refine (ad u' r' ?_);rcases q with ⟨k,e⟩ | ⟨k,c,e,z⟩
    ·refine .inl ⟨k,?_⟩
     have:y≠x:=λe=>hj (GH hN e1 (e▸hi));simp [this,e]
    ·exact .inr (ib k c e (z.sameBut hs (lN y c e)))
  ·obtain ⟨w',z⟩:=I.cell y c e
   exact ⟨w',z.sameBut hs (lN y c e)⟩
  ·obtain ⟨e,n,ne,nf,d⟩:=I.pin p hp
   exact ⟨(hs.2 p.1 ne).trans e,n,ne,nf,d⟩
 ·have GK:X.fn x=true:=by
   rcases hf with z | z;·exact z
   ·rw [z] at hk;cases hk
  obtain ⟨c,hc⟩:=I.ok.has x (.inl hk);obtain ⟨w',z⟩:=I.cell x c hc;refine wpAny_storeName_cell I.ok.kind hk hc z (λh' dF hs=>?_);obtain ⟨oc,Mm,U8⟩:=id z;refine h {s with heap:=h'} ⟨I.ok,I.os,I.bare,⟨λb o e n hb hx=>?_,λb o e n hb hx=>?_,I.base.free,λb o e hx=>?_,I.base.fR,I.base.fE,I.base.fS⟩,⟨m,hn.sameBut hs (Ne.symm (lN x c hc)),λj y v' e1 e2 e3=>?_⟩,λy c' e=>?_,I.free,I.ig,λp hp=>?_,tracked ⟨oc,Mm,I.ig x c hc⟩ hs,by simpa using I.len⟩ ⟨c,hs,.inr hc⟩
  ·exact (hs.2 b (dY (eO (bP e) (I.ok.pR x c GK hc)))).trans (I.base.keep b o e n hb hx)
  ·obtain ⟨sl,e1⟩:=I.base.slot b o e n hb hx
   exact ⟨sl,(hs.2 b (dY (eO (bP e) (I.ok.pR x c GK hc)))).trans e1⟩
  ·obtain ⟨o',e1⟩:=I.base.there b o e hx
   exact ⟨o',(hs.2 b (dY (eO (bP e) (I.ok.pR x c GK hc)))).trans e1⟩
  ·by_cases hj:j=i
   ·subst hj
    rw [hi] at e1;cases e1;rw [Gk Cy] at e2;cases e2;exact ⟨u,r,.inr (ib (.inl hk) c hc dF)⟩
   ·rw [List.getElem?_set_ne (Ne.symm hj)] at e2
    obtain ⟨u',r',q⟩:=hl j y v' e1 e2 e3;refine (ad u' r' ?_);rcases q with q | ⟨k,c',e,z'⟩;·exact .inl q
    ·refine .inr (ib k c' e (z'.sameBut hs ?_))
     rintro rfl;exact hj (GH hN e1 (I.ok.inj _ _ _ e hc▸hi))
  ·by_cases Mn:c'=c
   ·subst Mn;exact ⟨_,dF⟩
   ·obtain ⟨w2,z2⟩:=I.cell y c' e
    exact ⟨w2,z2.sameBut hs Mn⟩
  ·obtain ⟨e,n,ne,nf,d⟩:=I.pin p hp
   refine ⟨(hs.2 p.1 ?_).trans e,n,ne,nf,d⟩;intro q;rw [q,Mm] at e;have q':oc=p.2:=Option.some.inj e;exact d w' (by rw [<-q'];exact U8)
theorem v9(I:Inv X pins σ H s)(hN:X.N.Nodup)(hi:X.N[i]?=some x)(hx:Loc X.env.scope x)(r:RelV v u)
  (h:∀s',Inv X pins (σ.set i (some v)) H s'->Q () s') (hf:X.fn x=true\/X.env.scope.names.lookup x=some .local:=by first | exact .inl rfl | exact .inr rfl | assumption):wpAny M A (storeName X.env x u) Q E s:=
 Cw I hN hi hx r (λs' I' _=>h s' I') hf
theorem Inv.jj{s':Shared}(I:Inv X pins σ H s)(ho:s'.os=s.os)(u:Un (cz X.stack) ch H H' s.heap s'.heap)(aB:cq X.prog X.w H' s'.heap)(hg:AllBare s'.gens)
  (m7:∀b∈ch,(b∈X.ex\/X.s₀.heap.objs.size<=b)/\b≠X.env.locals/\(∀x c,X.env.cells.lookup x=some c->c≠b)/\∀p∈X.pn++pins,p.1≠b):Inv X pins σ H' s':=by
 obtain ⟨h',g',d',t',o'⟩:=s';have e:o'=s.os:=ho;subst e;exact I.call (g':=g') (t':=t') (d':=d') u aB hg m7
end
abbrev XK:=Value->Option Addr->Hp->Prop
abbrev St:=List (Option V)
abbrev VK:=V->Hp->Prop
abbrev TE:=St->Hp->VK->Prop
abbrev TT:=St->Hp->(Bool->Hp->Prop)->Prop
abbrev TA:=St->Hp->(List V->Hp->Prop)->Prop
structure Ends where
 nx:St->Hp->Prop
 rt:VK
 bk:St->Hp->Prop:=λ_ _=>False
 ct:St->Hp->Prop:=λ_ _=>False
abbrev TS:=Ends->St->Hp->Prop
def EP(X:Cx)(pins:a7)(σ:St)(Q:VK)(u:Value)(s':Shared):Prop:=∃v H',Inv X pins σ H' s'/\RelV v u/\Q v H'
def TP(X:Cx)(pins:a7)(σ:St)(Q:Bool->Hp->Prop)(b:Bool)(s':Shared):Prop:=∃H',Inv X pins σ H' s'/\Q b H'
def AP(X:Cx)(pins:a7)(σ:St)(Q:List V->Hp->Prop)(us:List Value)(s':Shared):Prop:=∃vs H',Inv X pins σ H' s'/\Vals vs us/\Q vs H'
def SP(X:Cx)(pins:a7)(D:Ends)(f:Flow)(s':Shared):Prop:=
 match f with
 | .next=>∃σ' H',Inv X pins σ' H' s'/\D.nx σ' H'
 | .brk=>∃σ' H',Inv X pins σ' H' s'/\D.bk σ' H'
 | .cont=>∃σ' H',Inv X pins σ' H' s'/\D.ct σ' H'
 | .ret u=>∃v σ' H',Inv X pins σ' H' s'/\RelV v u/\D.rt v H'
def PE(X:Cx)(e:Expr)(t:TE):Prop:=
 ∀(pins:a7) (s:Shared) (σ:St) (H:Hp) (Q:VK),Inv X pins σ H s->t σ H Q->wpAny (model X.prog X.w) X.A (eval e X.env) (EP X pins σ Q) X.xe s
def PT(X:Cx)(e:Expr)(t:TT):Prop:=
 ∀(pins:a7) (s:Shared) (σ:St) (H:Hp) (Q:Bool->Hp->Prop),Inv X pins σ H s->t σ H Q->wpAny (model X.prog X.w) X.A (isTrue e X.env (eval e X.env)) (TP X pins σ Q) X.xe s
def PW(X:Cx)(e:Expr)(t:TT):Prop:=
 ∀(whole:Sem Value) (pins:a7) (s:Shared) (σ:St) (H:Hp) (Q:Bool->Hp->Prop),Inv X pins σ H s->t σ H Q->wpAny (model X.prog X.w) X.A (isTrue e X.env whole) (TP X pins σ Q) X.xe s
variable {X:Cx}
theorem PW.pt{e:Expr}{t:TT}(h:PW X e t):PT X e t:=h _
def PA(X:Cx)(es:List Expr)(t:TA):Prop:=
 ∀(pos:Pos) (pins:a7) (s:Shared) (σ:St) (H:Hp) (Q:List V->Hp->Prop),Inv X pins σ H s->t σ H Q->wpAny (model X.prog X.w) X.A (spliced (backTo pos (starEach es X.env))) (AP X pins σ Q) X.xe s
def PS(X:Cx)(st:Stmt)(t:TS):Prop:=
 ∀(pins:a7) (s:Shared) (σ:St) (H:Hp) (D:Ends),Inv X pins σ H s->t D σ H->wpAny (model X.prog X.w) X.A (exec st X.env) (SP X pins D) X.xe s
def fb(X:Cx)(st:List Stmt)(t:TS):Prop:=
 ∀(pins:a7) (s:Shared) (σ:St) (H:Hp) (D:Ends),Inv X pins σ H s->t D σ H->wpAny (model X.prog X.w) X.A (execs st X.env) (SP X pins D) X.xe s
variable {M:Model} {A:Around} {E:aX} {s:Shared}
theorem aT{α:Type}{t:Sem α}{Q Q':α->Shared->Prop}(h:wpAny M A t Q E s)(hQ:∀a s,Q a s->Q' a s):wpAny M A t Q' E s:=bT h hQ λ_ _ x=>x
section
variable {X:Cx}
variable {pins:a7} {σ:St}
theorem bin{a b:Expr}{ta tb:TE}(ha:PE X a ta)(hb:PE X b tb){R:V->V->Hp->Prop}(I:Inv X pins σ H s)(h:ta σ H λx H1=>tb σ H1 λy H2=>R x y H2)
  {α:Type} {Q:α->Shared->Prop} {f:Value->Value->Sem α}
  (hf:∀v u s2 x y H2,Inv X pins σ H2 s2->RelV x v->RelV y u->R x y H2->wpAny (model X.prog X.w) X.A (f v u) Q X.xe s2) :
  wpAny (model X.prog X.w) X.A (eval a X.env) (λv s₁=>wpAny (model X.prog X.w) X.A (eval b X.env) (λu s₂=>wpAny (model X.prog X.w) X.A (f v u) Q X.xe s₂) X.xe s₁) X.xe s:=by
 refine aT (ha pins s σ H _ I h) λv s1 ⟨x,H1,I1,r1,q1⟩=>?_;refine aT (hb pins s1 σ H1 _ I1 q1) λu s2 ⟨y,H2,I2,r2,q2⟩=>?_;exact hf v u s2 x y H2 I2 r1 r2 q2
def lO(i:Nat):TE:=λσ H Q=>∃v,σ[i]?=some (some v)/\Q v H
def tC(v:V):TE:=λ_ H Q=>Q v H
variable {x:Str} {pos:Pos}
theorem U9{i:Nat}(hN:X.N[i]?=some x)(hv:oz X.env.scope x)(hd:(x == ("__debug__":Str))=false:=by decide)(gG:(x == ("__classdict__":Str))=false:=by decide):PE X (.Name x pos) (lO i):=by
 intro pins s σ H Q I h;intros bv2 h v e h;obtain ⟨m,hn,hl⟩:=I.loc;obtain ⟨u,r,l⟩:=hl i x v hN e hv;have fin:EP X pins σ Q u s:=(bi v H I r h);rcases l with ⟨hk,hm⟩ | ⟨hk,c,hc,Cz⟩;·exact wpAny_Name (wpAny_loadName_local I.ok.kind hk hn hm fin) hd
 ·rcases hk with hk | hk
  ·exact wpAny_Name (wpAny_loadName_cell I.ok.kind hk hc Cz fin) hd
  ·exact wpAny_Name (wpAny_loadName_free I.ok.kind hk hc Cz fin gG) hd
theorem ah{i j pos}:PE X (.Constant (.int i) j pos) (tC (.int i)):=λ_ _ _ H _ I h=>wpAny_Constant_int ⟨.int i,H,I.tok _,⟨_,rfl⟩,h⟩
theorem gv{b j pos}:PE X (.Constant (.bool b) j pos) (tC (.bl b)):=λ_ _ _ H _ I h=>Constant_bool ⟨.bl b,H,I,rfl,h⟩
theorem kJ{j pos}:PE X (.Constant .none j pos) (tC .aO):=λ_ _ _ H _ I h=>Constant_none ⟨.aO,H,I,rfl,h⟩
theorem dq{x j pos}:PE X (.Constant (.str x) j pos) (tC (.str x)):=λ_ _ _ H _ I h=>Calls.Constant_str ⟨.str x,H,I.tok _,⟨_,rfl⟩,h⟩
def Gl(X:Cx)(x:Str):Prop:=X.env.kindOf x=some .globalImplicit
variable {u:Value} {Q:aX}
theorem v_(I:Inv X pins σ H s)(hg:Gl X x)(hm:X.mg x=some u)(h:Q u s)
  (hd:(x == ("__debug__":Str))=false:=by decide):wpAny (model X.prog X.w) X.A (eval (.Name x pos) X.env) Q E s:=
 Calls.Name_function_global I.ok.kind hg (Calls.loadGlobal_global (by rw [I.ok.glob];exact I.mod.glob.keeps I.bk) hm h) hd
theorem pS(I:Inv X pins σ H s)(hg:Gl X x)(hm:X.mg x=none)(hv:bootBuiltins x=some u)(h:Q u s)
  (hn:x ≠ "__name__":=by decide) (hd:(x == ("__debug__":Str))=false:=by decide):wpAny (model X.prog X.w) X.A (eval (.Name x pos) X.env) Q E s:=by
 obtain ⟨mb,h1,h2⟩:=I.mod.blt;exact Calls.Name_function_global I.ok.kind hg (Calls.loadGlobal_builtin (by rw [I.ok.glob];exact I.mod.glob.keeps I.bk) hm (by rw [I.ok.blt];exact h1.keeps I.bk) ((h2 x hn).trans hv) h) hd
variable {v:V}
theorem m8(hg:Gl X x)(hm:X.mg x=some u)(r:RelV v u)(hd:(x == ("__debug__":Str))=false:=by decide):PE X (.Name x pos) (tC v):=
 λ_ _ _ H _ I h=>v_ I hg hm (bi v H I r h) hd
theorem rC(hg:Gl X x)(hm:X.mg x=none)(hv:bootBuiltins x=some u)(r:RelV v u)(hn:x ≠ "__name__":=by decide)(hd:(x == ("__debug__":Str))=false:=by decide):PE X (.Name x pos) (tC v):=
 λ_ _ _ H _ I h=>pS I hg hm hv (bi v H I r h) hn hd
variable {a b:Expr} {ta tb:TE} {pos:Pos}
def PC(X:Cx)(op:CmpOp)(a b:Expr)(t:TE):Prop:=
 ∀(pins:a7) (s:Shared) (σ:St) (H:Hp) (Q:VK),Inv X pins σ H s->t σ H Q->
  wpAny (model X.prog X.w) X.A (eval a X.env) (λv s₁=>wpAny (model X.prog X.w) X.A (eval b X.env) (λu s₂=>wpAny (model X.prog X.w) X.A (compareOp op v u) (EP X pins σ Q) X.xe s₂) X.xe s₁) X.xe s
def tB(t:TE):TT:=λσ H Q=>t σ H λx H1=>∃c,x=.bl c/\Q c H1
variable {t:TE}
theorem al9{op:CmpOp}(h:PC X op a b t)(h1:behindInMarks op b=false:=by first | exact al_ _ ∅ ∅ | rfl):PT X (.Compare a [op] [b] pos) (tB t):=by intro pins s σ H Q I hw;refine wpAny_isTrue_Compare1 (aT (h pins s σ H _ I hw) λv s1 h1=>aT h1 λu s2 h2=>aT h2 λc s3 ⟨x,H1,I1,r1,q1⟩=>?_) h1;obtain ⟨d,rfl,q⟩:=q1;cases r1;exact pK ⟨H1,I1,q⟩
theorem iY{e:Expr}(h:PE X e t)(he:∀whole,isTrue e X.env whole=(do let v <-whole;standAt e.pos;holding [v] (truthy v)):=by intro _;rfl):PT X e (tB t):=by
 intro pins s σ H Q I hw
 refine isTrue_plain (aT (h pins s σ H _ I hw) λv s1 ⟨x,H1,I1,r1,q1⟩=>?_) (he _)
 obtain ⟨d,rfl,q⟩:=q1
 cases r1
 exact pK ⟨H1,I1,q⟩
variable {tA Aq:TT} {rest:List Expr}
def U_(t u:TT):TT:=λσ H Q=>t σ H λc H1=>if c=true then u σ H1 Q else Q false H1
def Va(t u:TT):TT:=λσ H Q=>t σ H λc H1=>if c=true then Q true H1 else u σ H1 Q
def Mo(t:TT):TT:=λσ H Q=>t σ H λc H1=>Q (!c) H1
theorem pw_and1(ha:PT X a tA):PW X (.BoolOp .And [a] pos) tA:=by
 intro wh pins s σ H Q I h;refine isTrue_and (aT (ha pins s σ H Q I h) λc s1 e=>?_);cases c with
 | true=>exact isTrue_and_nil e
 | false=>exact e
theorem pw_or1(ha:PT X a tA):PW X (.BoolOp .Or [a] pos) tA:=by
 intro wh pins s σ H Q I h;refine isTrue_or (aT (ha pins s σ H Q I h) λc s1 e=>?_);cases c with
 | false=>exact isTrue_or_nil e
 | true=>exact e
theorem pw_and(ha:PT X a tA)(hb:PW X (.BoolOp .And (b::rest) pos) Aq):PW X (.BoolOp .And (a::b::rest) pos) (U_ tA Aq):=by
 intro wh pins s σ H Q I h;refine isTrue_and (aT (ha pins s σ H _ I h) λc s1 ⟨H1,I1,q1⟩=>?_);cases c with
 | true=>exact hb wh pins s1 σ H1 Q I1 q1
 | false=>exact ⟨H1,I1,q1⟩
theorem pw_or(ha:PT X a tA)(hb:PW X (.BoolOp .Or (b::rest) pos) Aq):PW X (.BoolOp .Or (a::b::rest) pos) (Va tA Aq):=by
 intro wh pins s σ H Q I h;refine isTrue_or (aT (ha pins s σ H _ I h) λc s1 ⟨H1,I1,q1⟩=>?_);cases c with
 | true=>exact ⟨H1,I1,q1⟩
 | false=>exact hb wh pins s1 σ H1 Q I1 q1
theorem lP(ha:PT X a tA):PT X (.UnaryOp .Not a pos) (Mo tA):=by intro pins s σ H Q I h;exact isTrue_not (ha pins s σ H (λc H1=>Q (!c) H1) I h)
def Vb(ta tb:TE):TE:=λσ H Q=>ta σ H λx H1=>∃c,x=.bl c/\if c=true then tb σ H1 Q else Q (.bl false) H1
def Vc(ta:TE):TE:=λσ H Q=>ta σ H λx H1=>∃c,x=.bl c/\Q (.bl (!c)) H1
theorem CA{op}(h:PE X a t):PE X (.BoolOp op [a] pos) t:=λpins s σ H Q I hw=>BoolOp_one (h pins s σ H Q I hw)
theorem wc(ha:PE X a ta)(hb:PE X (.BoolOp .And (b::rest) pos) tb):PE X (.BoolOp .And (a::b::rest) pos) (Vb ta tb):=by
 intro pins s σ H Q I h;refine BoolOp_and (aT (ha pins s σ H _ I h) λv s1 ⟨x,H1,I1,r1,q1⟩=>?_);intros bv2 q1 c rfl q1;cases r1;refine pK ?_;cases c with
 | true=>exact hb pins s1 σ H1 Q I1 q1
 | false=>exact ⟨.bl false,H1,I1,rfl,q1⟩
theorem Vd(ha:PE X a ta):PE X (.UnaryOp .Not a pos) (Vc ta):=by intro pins s σ H Q I h;refine UnaryOp_ (aT (ha pins s σ H _ I h) λv s1 ⟨x,H1,I1,r1,q1⟩=>?_);obtain ⟨c,rfl,q1⟩:=q1;cases r1;exact not_of (pK ⟨.bl (!c),H1,I1,rfl,q1⟩)
def Ve(t:TT)(ta tb:TE):TE:=λσ H Q=>t σ H λc H1=>if c=true then ta σ H1 Q else tb σ H1 Q
theorem Mp{c:Expr}(hc:PT X c tA)(ha:PE X a ta)(hb:PE X b tb):PE X (.IfExp c a b pos) (Ve tA ta tb):=by
 intro pins s σ H Q I h;refine wpAny_IfExp (aT (hc pins s σ H _ I h) λd s1 ⟨H1,I1,q1⟩=>?_);cases d with
 | true=>exact ha pins s1 σ H1 Q I1 q1
 | false=>exact hb pins s1 σ H1 Q I1 q1
end
def bM(K:aE)(H:Hp)(a:Addr)(xs:List V):Prop:=
 Rd H a (.lst xs) \/
  ∃(o:Obj) (ai:Array Value) (n:Nat),K.lookup a=some o/\o.cls=.type "list"/\o.dict=none/\o.data=.seq ai n/\ai.size<=sizeLine/\Vals xs ai.toList
def eF(K:aE)(H:Hp)(a:Addr)(xs:List V):Prop:=
 Rd H a (.tup xs) \/
  ∃(o:Obj) (ai:Array Value) (n:Nat),K.lookup a=some o/\o.cls=.type "tuple"/\o.data=.seq ai n/\ai.size<=sizeLine/\Vals xs ai.toList
def Vf:Value->Option V
 | .none=>some .aO
 | .bool b=>some (.bl b)
 | .int i _=>some (.int i)
 | .str x _=>some (.str x)
 | .bytes b _=>some (.kH b)
 | .float b _=>some (.rn b)
 | .ref a=>some (.ref a)
 | .type n=>some (.ty n)
 | _=>none
variable {x:V} {u:Value}
theorem RelV.abs(r:RelV x u):Vf u=some x:=by
 cases x with
 | aO=>cases r;rfl
 | bl _=>cases r;rfl
 | int _=>obtain ⟨t,rfl⟩:=r;rfl
 | str _=>obtain ⟨t,rfl⟩:=r;rfl
 | kH _=>obtain ⟨t,rfl⟩:=r;rfl
 | rn _=>obtain ⟨t,rfl⟩:=r;rfl
 | ref _=>cases r;rfl
 | ty _=>cases r;rfl
theorem RelV.inj{y:V}(r:RelV x u)(q:RelV y u):x=y:=Option.some.inj (r.abs.symm.trans q.abs)
theorem Vals.inj:∀{xs ys:List V} {us:List Value},Vals xs us->Vals ys us->xs=ys
 | _,_,_,.nil,.nil=>rfl
 | _,_,_,.cons r t,.cons r' t'=>by rw [r.inj r',Vals.inj t t']
section
variable {X:Cx} {pins:a7} {σ:St} {H:Hp} {s:Shared} {a:Addr} {xs ys:List V}
variable {K:aE}
theorem bM.of(h:H a=some (.lst xs)):bM K H a xs:=.inl (.inl h)
theorem eF.of(h:H a=some (.tup xs)):eF K H a xs:=.inl (.inl h)
theorem Inv.list(I:Inv X pins σ H s)(h:bM X.K H a xs):∃ai:List Value,Vals xs ai/\PlainL s.heap a ai.toArray/\xs.length<=sizeLine:=by
 rcases h with h | ⟨o,ai,n,hk,hc,hd,hs,hz,r⟩
 ·obtain ⟨z,ai,n,r,e⟩:=h.ok I.aB
  exact (bv ai r (f8 _ n e rfl rfl rfl) z)
 ·refine (bv ai.toList r ⟨o,n,I.dj a o hk,hc,hd,by simpa using hs⟩ ?_)
  have e:=r.length;simp only [Array.length_toList] at e;lia
theorem Inv.tuple(I:Inv X pins σ H s)(h:eF X.K H a xs):∃ai:List Value,Vals xs ai/\IsTup s.heap a ai.toArray/\xs.length<=sizeLine:=by
 rcases h with h | ⟨o,ai,n,hk,hc,hs,hz,r⟩
 ·obtain ⟨z,ai,r,p⟩:=h.ok I.aB
  exact (bv ai r p z)
 ·refine (bv ai.toList r ⟨o,I.dj a o hk,hc,n,by simpa using hs⟩ ?_)
  have e:=r.length;simp only [Array.length_toList] at e;lia
theorem Inv.CB(I:Inv X pins σ H s)(h:bM X.K H a xs)(h':bM X.K H a ys):xs=ys:=by
 obtain ⟨ai,r,⟨o,n,e,_,_,d⟩,_⟩:=I.list h;obtain ⟨its',r',⟨o',n',e',_,_,d'⟩,_⟩:=I.list h';rw [e] at e';cases e';rw [d] at d';injection d' with d1 _;have:ai=its':=by simpa using hV Array.toList d1
 subst this;exact r.inj r'
theorem Inv.Vg(I:Inv X pins σ H s)(h:eF X.K H a xs)(h':eF X.K H a ys):xs=ys:=by
 obtain ⟨ai,r,⟨o,e,_,n,d⟩,_⟩:=I.tuple h;obtain ⟨its',r',⟨o',e',_,n',d'⟩,_⟩:=I.tuple h';rw [e] at e';cases e';rw [d] at d';injection d' with d1 _;have:ai=its':=by simpa using hV Array.toList d1
 subst this;exact r.inj r'
end
abbrev Cx.lQ (X:Cx) (E:aX):Cx:={X with xe:=E}
abbrev Cx.lR (X:Cx):Cx:=X.lQ λ_ _=>False
theorem Cx.Ok.lQ(ok:X.Ok)(E:aX):(X.lQ E).Ok:=
 ⟨ok.mod,ok.kind,ok.glob,ok.blt,ok.above,ok.inj,ok.has,ok.pR,ok.hd,ok.frames,ok.ie,ok.GC,ok.bs,ok.gY,ok.mZ,ok.m4,ok.jT,ok.m5⟩
theorem Cx.Ok.oA(ok:(X.lQ E).Ok):X.Ok:=
 ⟨ok.mod,ok.kind,ok.glob,ok.blt,ok.above,ok.inj,ok.has,ok.pR,ok.hd,ok.frames,ok.ie,ok.GC,ok.bs,ok.gY,ok.mZ,ok.m4,ok.jT,ok.m5⟩
section
variable {X:Cx} {pins:a7} {σ:St} {H:Hp} {s:Shared} {E:aX}
theorem Inv.lQ(I:Inv X pins σ H s)(E:aX):Inv (X.lQ E) pins σ H s:=⟨I.ok.lQ E,I.os,I.bare,I.base,I.loc,I.cell,I.free,I.ig,I.pin,I.aB,I.len⟩
theorem Inv.oA(I:Inv (X.lQ E) pins σ H s):Inv X pins σ H s:=⟨I.ok.oA,I.os,I.bare,I.base,I.loc,I.cell,I.free,I.ig,I.pin,I.aB,I.len⟩
theorem SP.oA{D:Ends}{f:Flow}{s':Shared}(h:SP (X.lQ E) pins D f s'):SP X pins D f s':=by
 cases f with
 | next=>obtain ⟨σ',H',I,q⟩:=h;exact (ii σ' H' I.oA q)
 | brk=>obtain ⟨σ',H',I,q⟩:=h;exact (ii σ' H' I.oA q)
 | cont=>obtain ⟨σ',H',I,q⟩:=h;exact (ii σ' H' I.oA q)
 | ret u=>intros bv14 h v σ' H' I r q;exact ⟨v,σ',H',I.oA,r,q⟩
theorem fb.lR{st:List Stmt}{t:TS}(h:fb X.lR st t):fb X st t:=λpins s σ H D I hw=>bT (h pins s σ H D (I.lQ _) hw) (λ_ _ q=>q.oA) λ_ _ z=>False.elim z
end
section
variable {X:Cx} {st:Stmt} {rest:List Stmt} {t u:TS} {e:Expr} {te:TE} {pos:Pos}
def Ar:TS:=λD σ H=>D.nx σ H
def GL(t u:TS):TS:=λD σ H=>t {D with nx:=u D} σ H
theorem bQ:fb X [] Ar:=λ_ _ σ H _ I h=>vJ (ii σ H I h)
theorem aj(h1:PS X st t)(h2:fb X rest u):fb X (st::rest) (GL t u):=by
 intro pins s σ H D I h;refine wpAny_execs_cons (aT (h1 pins s σ H {D with nx:=u D} I h) λf s1 q=>?_);cases f with
 | next=>intros bv3 q σ' H' I' q;exact h2 pins s1 σ' H' D I' q
 | ret v=>exact q
 | brk=>exact q
 | cont=>exact q
theorem ak(h1:PS X st t):fb X [st] t:=by
 intro pins s σ H D I h;refine wpAny_execs_cons (aT (h1 pins s σ H D I h) λf s1 q=>?_);cases f with
 | next=>exact vJ q
 | ret v=>exact q
 | brk=>exact q
 | cont=>exact q
theorem Inv.quiet{pins:a7}{σ:St}(I:Inv X pins σ H s):interactive X.env=false:=by simp [interactive,I.ok.kind]
def Vh(te:TE):TS:=λD σ H=>te σ H λ_ H1=>D.nx σ H1
theorem m9(he:PE X e te)(hs:swapsWith e none pos.line X.env=pure false:=by rfl):PS X (.Expr e pos) (Vh te):=by intro pins s σ H D I h;exact wpAny_Expr_any (aT (he pins s σ H _ I h) λv s1 ⟨x,H1,I1,r1,q1⟩=>(ii σ H1 I1 q1)) I.quiet hs
def Mq(te:TE):TS:=λD σ H=>te σ H D.rt
theorem aJ(he:PE X e te):PS X (.Return (some e) pos) (Mq te):=by intro pins s σ H D I h;exact wpAny_Return_some (aT (he pins s σ H _ I h) λv s1 ⟨x,H1,I1,r1,q1⟩=>⟨x,σ,H1,I1,r1,q1⟩)
def Mr(c:TT)(t u:TS):TS:=λD σ H=>c σ H λb H1=>if b=true then t D σ H1 else u D σ H1
theorem bO{c:Expr}{a b:List Stmt}{tc:TT}(hc:PT X c tc)(ha:fb X a t)(hb:fb X b u):PS X (.If c a b pos) (Mr tc t u):=by
 intro pins s σ H D I h;refine wpAny_If (aT (hc pins s σ H _ I h) λd s1 ⟨H1,I1,q1⟩=>?_);cases d with
 | true=>exact ha pins s1 σ H1 D I1 q1
 | false=>exact hb pins s1 σ H1 D I1 q1
def Vi:TS:=λ_ _ _=>False
theorem Vj{Vk:List Stmt}:fb X Vk Vi:=λ_ _ _ _ _ _ h=>h.elim
end
abbrev TG:=V->St->Hp->(St->Hp->Prop)->Prop
abbrev rE:=List V->St->Hp->(St->Hp->Prop)->Prop
def PG(X:Cx)(target:Expr)(t:TG):Prop:=
 ∀(pins:a7) (s:Shared) (σ:St) (H:Hp) (v:V) (u:Value) (Q:St->Hp->Prop),Inv X pins σ H s->RelV v u->t v σ H Q->
  wpAny (model X.prog X.w) X.A (assign target X.env u) (λ_ s'=>∃σ' H',Inv X pins σ' H' s'/\Q σ' H') X.xe s
def CD(X:Cx)(ts:List Expr)(t:rE):Prop:=
 ∀(pins:a7) (s:Shared) (σ:St) (H:Hp) (vs:List V) (us:List Value) (Q:St->Hp->Prop),Inv X pins σ H s->Vals vs us->t vs σ H Q->
  wpAny (model X.prog X.w) X.A (assignInOrder ((assignEach ts X.env).map (·.2)) us) (λ_ s'=>∃σ' H',Inv X pins σ' H' s'/\Q σ' H') X.xe s
abbrev GN:=V->V->V->Hp->(Hp->Prop)->Prop
def Ms(X:Cx)(t:GN):Prop:=
 ∀(pins:a7) (s:Shared) (σ:St) (H:Hp) (o i v:V) (ov iv u:Value) (Q:Hp->Prop),Inv X pins σ H s->RelV o ov->RelV i iv->RelV v u->t o i v H Q->
  wpAny (model X.prog X.w) X.A (setItem ov iv u) (λ_ s'=>∃H',Inv X pins σ H' s'/\Q H') X.xe s
abbrev CF:=V->V->Hp->VK->Prop
def Mt(X:Cx)(op:Operator)(t:CF):Prop:=
 ∀(pins:a7) (s:Shared) (σ:St) (H:Hp) (x y:V) (v u:Value) (Q:VK),Inv X pins σ H s->RelV x v->RelV y u->t x y H Q->
  wpAny (model X.prog X.w) X.A (inplaceOp op v u) (EP X pins σ Q) X.xe s
section
variable {X:Cx} {pos:Pos}
def ck(i:Nat):TG:=λv σ H Q=>Q (σ.set i (some v)) H
variable {i:Nat}
theorem b_{x:Str}(hN:X.N.Nodup)(hi:X.N[i]?=some x)(hx:Loc X.env.scope x)(hf:X.fn x=true\/X.env.scope.names.lookup x=some .local:=by first | exact .inl rfl | exact .inr rfl | assumption):PG X (.Name x pos) (ck i):=by intro pins s σ H v u Q I r h;exact B6 (v9 I hN hi hx r (λs' I'=>(ii _ H I' h)) hf)
def GO:rE:=λvs σ H Q=>vs=[]/\Q σ H
def As(t:TG)(u:rE):rE:=λvs σ H Q=>∃v r,vs=v::r/\t v σ H λσ' H'=>u r σ' H' Q
theorem oB:CD X [] GO:=by intro pins s σ H vs us Q I r h;obtain ⟨e,h⟩:=h;subst e;cases r;exact assignInOrder_nil (ii σ H I h)
variable {e:Expr} {es:List Expr}
theorem gc{t:TG}{u:rE}(h1:PG X e t)(h2:CD X es u)
  (hs:(assignEach (e::es) X.env).map (·.2)=assign e X.env::(assignEach es X.env).map (·.2):=by rfl):CD X (e::es) (As t u):=by
 intro pins s σ H vs us Q I r h;intros bv3 h v vr e1 h;subst e1;cases r with
 | cons r rr=>rw [hs];refine assignInOrder_cons (aT (h1 pins s σ H _ _ _ I r h) λ_ s1 ⟨σ1,H1,I1,q1⟩=>?_);exact h2 pins s1 σ1 H1 _ _ Q I1 rr q1
def GP(K:aE)(n:Nat)(t:rE):TG:=λv σ H Q=>∃a xs,v=.ref a/\eF K H a xs/\xs.length=n/\t xs σ H Q
theorem oC{k:Nat}{t:rE}{n:Nat}(hc:X.calm=true)(h:CD X es t)
  (hn:(assignEach es X.env).length=n:=by rfl) (Au:(assignEach es X.env).findIdx? (·.1)=none:=by rfl):PG X (.Tuple es k pos) (GP X.K n t):=by
 intro pins s σ H v u Q I r hw;intros bv10 hw a xs e1 hq hl hw;subst e1;cases r;obtain ⟨ai,rv,ht,hz⟩:=I.tuple hq;refine assign_Tuple_tuple (I.ok.hd hc) ht (by simp [hn,<-hl,rv.length]) Au λh' hx=>?_
 have I1:Inv X pins σ H {s with heap:=h'}:=I.kept (t':=s.toks) λb o e=>hx b o (dY (bP e)) e;exact h pins _ σ H xs _ Q I1 (by simpa using rv) hw
def Vl(to ti:TE)(t:GN):TG:=λv σ H Q=>to σ H λo H1=>ti σ H1 λi H2=>t o i v H2 λH3=>Q σ H3
theorem jk{o i:Expr}{to ti:TE}{t:GN}(ho:PE X o to)(hi:PE X i ti)(hs:Ms X t)
  (ha:∀v,assign (.Subscript o i pos) X.env v=(do
   let ov <-holding [v] (eval o X.env)
   let iv <-holding [v,ov] (eval i X.env)
   standAt pos
   holding [v,ov,iv] (setItem ov iv v)
   release [v,ov,iv] []):=by intro _;rfl):PG X (.Subscript o i pos) (Vl to ti t):=by
 intro pins s σ H v u Q I r h
 rw [ha]
 refine cj (wpAny_holding (aT (ho pins s σ H _ I h) λov s1 ⟨x,H1,I1,r1,q1⟩=>?_))
 refine cj (wpAny_holding (aT (hi pins s1 σ H1 _ I1 q1) λiv s2 ⟨y,H2,I2,r2,q2⟩=>?_))
 refine cj (vK (cj (wpAny_holding (aT (hs pins s2 σ H2 x y v ov iv u _ I2 r1 r2 r q2) λ_ s3 ⟨H3,I3,q3⟩=>?_))))
 exact wpAny_release (ii σ H3 I3 q3)
def oE(te:TE)(g:TG):TS:=λD σ H=>te σ H λx H1=>g x σ H1 D.nx
theorem il{tg e:Expr}{te:TE}{g:TG}(he:PE X e te)(hg:PG X tg g)(hs:swapsWithSole [tg] e pos.line X.env=pure false:=by rfl)(hw:swappedStores [tg] e X.env=pure none:=by rfl)
  (h1:(assignEach [tg] X.env).map (·.2)=[assign tg X.env]:=by rfl):PS X (.Assign [tg] e pos) (oE te g):=by
 intro pins s σ H D I h;refine wpAny_Assign_stores (aT (he pins s σ H _ I h) λv s1 ⟨x,H1,I1,r1,q1⟩=>?_) hs hw;rw [h1];exact aT (hg pins s1 σ H1 x v _ I1 r1 q1) λ_ s2 q=>q
variable {te:TE} {pos':Pos}
theorem Vm{x:Str}(hN:X.N.Nodup)(hi:X.N[i]?=some x)(hx:Loc X.env.scope x)(he:PE X e te)(hs:swapsWith e (some (.Name x pos')) pos.line X.env=pure false:=by rfl)(hf:X.fn x=true\/X.env.scope.names.lookup x=some .local:=by first | exact .inl rfl | exact .inr rfl | assumption) :
  PS X (.Assign [.Name x pos'] e pos) (oE te (ck i)):=by
 intro pins s σ H D I h;refine wpAny_Assign_Name (aT (he pins s σ H _ I h) λv s1 ⟨y,H1,I1,r1,q1⟩=>?_) hs;exact v9 I1 hN hi hx r1 (λs2 I2=>(ii _ H1 I2 q1)) hf
def Vn(i j:Nat)(ta:TA):TS:=λD σ H=>ta σ H λvs H1=>∃v w,vs=[v,w]/\D.nx ((σ.set i (some v)).set j (some w)) H1
theorem CG{j:Nat}{x y:Str}{a b:Expr}{ta:TA}{px py pt:Pos}{kt k2 GQ}(hc:X.calm=true)(hN:X.N.Nodup)(hi:X.N[i]?=some x)(hj:X.N[j]?=some y)(rF:i≠j)
  (hx:X.env.scope.names.lookup x=some .local) (hy:X.env.scope.names.lookup y=some .local) (ha:PA X [a,b] ta)
  (hw:swappedStores [.Tuple [.Name x px,.Name y py] kt pt] (.Tuple [a,b] k2 GQ) X.env=pure (some [x,y]))
  (hs:swapsWithSole [.Tuple [.Name x px,.Name y py] kt pt] (.Tuple [a,b] k2 GQ) pos.line X.env=pure false:=by rfl) :
  PS X (.Assign [.Tuple [.Name x px,.Name y py] kt pt] (.Tuple [a,b] k2 GQ) pos) (Vn i j ta):=by
 intro pins s σ H D I h
 rw [exec_Assign_arm]
 refine cj (vK ?_)
 rw [hs]
 refine cj (dZ ?_)
 rw [az ∅]
 refine cj (Tuple_ (aT (ha _ pins s σ H _ I h) λus s1 ⟨vs,H1,I1,r1,q1⟩=>?_))
 intros bv3 q1 v w e1 q1
 subst e1
 obtain ⟨u1,u2,rfl,rv,dM⟩:∃u1 u2,us=[u1,u2]/\RelV v u1/\RelV w u2:=by
  cases r1 with
  | cons p q=>
   cases q with
   | cons p' q'=>
    cases q'
    exact (bi _ _ rfl p p')
 refine vL ?_ (by show 2<=sizeLine;decide)
 have I2:Inv X pins σ H1 {s1 with heap:=s1.heap.push {cls:=.type "tuple",data:=.seq [u1,u2].toArray}}:=I1.kept (t':=s1.toks) λb o e=>cx _ e
 rw [hw]
 refine cj (dZ ?_)
 show wpAny (model X.prog X.w) X.A (do rule "assign.swapped-stores";let items <-unpackItems (.ref s1.heap.objs.size) 2 none;assignInOrder [λv=>bindName X.env y v,λv=>bindName X.env x v] items.reverse;pure Flow.next) _ _ _
 refine cj (wpAny_rule (cj (unpackItems_tuple (items:=#[u1,u2]) (I.ok.hd hc) (IsTup.new s1.heap _) λh' Av=>?_)))
 have I3:=I2.kept (h':=h') (t':=s1.toks) λb o e=>Av b o (dY (bP e)) e
 show wpAny _ _ (assignInOrder [λv=>bindName X.env y v,λv=>bindName X.env x v] [u2,u1] >>= λ_=>pure Flow.next) _ _ _
 refine cj (assignInOrder_cons (wpAny_bindName (v9 I3 hN hj (.inl hy) dM (λs2 I4=>?_) (.inr hy))))
 refine assignInOrder_cons (wpAny_bindName (v9 I4 hN hi (.inl hx) rv (λs3 I5=>assignInOrder_nil (dZ ?_)) (.inr hx)))
 rw [List.set_comm _ _ (Ne.symm rF)] at I5
 exact (ii _ H1 I5 q1)
def Vo(i:Nat)(te:TE)(ti:CF):TS:=λD σ H=>∃x,σ[i]?=some (some x)/\te σ H λy H1=>ti x y H1 λz H2=>D.nx (σ.set i (some z)) H2
theorem Vp{x:Str}{op:Operator}{ti:CF}(hN:X.N.Nodup)(hi:X.N[i]?=some x)(hx:Loc X.env.scope x)(he:PE X e te)(ho:Mt X op ti)(hf:X.fn x=true\/X.env.scope.names.lookup x=some .local:=by first | exact .inl rfl | exact .inr rfl | assumption) :
  PS X (.AugAssign (.Name x pos') op e pos) (Vo i te ti):=by
 intro pins s σ H D I h;intros bv2 h v e1 h;obtain ⟨m,hn,hl⟩:=I.loc;have Vq:oz X.env.scope x:=by rcases hx with k | k;exact .inl k;exact .inr (.inl k)
 obtain ⟨u,r,l⟩:=hl i x v hi e1 Vq;refine wpAny_AugAssign_Name ?_;have go:wpAny (model X.prog X.w) X.A (eval e X.env) (λw s₂=>wpAny (model X.prog X.w) X.A (inplaceOp op u w) (λr s₃=>wpAny (model X.prog X.w) X.A (storeName X.env x r) (λ_=>SP X pins D .next) X.xe s₃) X.xe s₂) X.xe s:=by refine aT (he pins s σ H _ I h) λw s1 ⟨y,H1,I1,r1,q1⟩=>?_;refine aT (ho pins s1 σ H1 v y u w _ I1 r r1 q1) λz s2 ⟨zv,H2,I2,r2,q2⟩=>?_;exact v9 I2 hN hi hx r2 (λs3 I3=>(ii _ H2 I3 q2)) hf
 rcases l with ⟨hk,hm⟩ | ⟨hk,c,hc,Cz⟩;·exact wpAny_loadName_local I.ok.kind hk hn hm go
 ·rcases hk with hk | hk
  ·exact wpAny_loadName_cell I.ok.kind hk hc Cz go
  ·rcases hx with k | k
   ·have:X.env.scope.names.lookup x=some .free:=hk
    rw [k] at this;cases this
   ·have:X.env.scope.names.lookup x=some .free:=hk
    rw [k] at this;cases this
def Vr(f:Int->Int->Int):CF:=λx y H Q=>∃i j,x=.int i/\y=.int j/\Q (.int (f i j)) H
theorem Vs:Mt X .Add (Vr λi j=>i+j):=by intro pins s σ H x y v u Q I r1 r2 h;intros bv7 h i j e1 e2 q;subst e1;subst e2;obtain ⟨t,rfl⟩:=r1;obtain ⟨t',rfl⟩:=r2;exact iadd_int ⟨.int _,H,I.tok _,⟨_,rfl⟩,q⟩
end
section
variable {X:Cx} {pos:Pos}
def Vt(c:TT)(tb:TS):TS:=λD σ H=>∃W:Nat->St->Hp->Prop,(∃m,W m σ H)/\∀m σ H,W m σ H->
 c σ H λb H1=>if b=true then ∃N:St->Hp->Prop,(∀σ' H',N σ' H'->∃m',m'<m/\W m' σ' H')/\tb {D with nx:=N,ct:=N,bk:=D.nx} σ H1 else D.nx σ H1
theorem Aw{c:Expr}{body:List Stmt}{tc:TT}{tb:TS}(hp:PassesOwn (model X.prog X.w) X.A X.env X.xe)(hc:PT X c tc)(hb:fb X body tb):PS X (.While c body [] pos) (Vt tc tb):=by
 intro pins s σ H D I h;obtain ⟨W,⟨m0,w0⟩,turn⟩:=h;refine wpAny_While (codeAny_whileLoop (λn s'=>∃σ' H',Inv X pins σ' H' s'/\W n σ' H') ?_ m0 (ii σ H I w0));intro n s1;intros bv3 _ σ1 H1 I1 w1;refine qW hp (aT (hc pins s1 σ1 H1 _ I1 (turn n σ1 H1 w1)) λb s2 ⟨H2,I2,q2⟩=>?_);cases b with
 | true=>
  intros bv2 q2 N hN q2;rw [aq rfl];refine qW hp (aT (hb pins s2 σ1 H2 _ I2 q2) λf s3 q3=>?_);cases f with
  | next=>intros bv3 q3 σ3 H3 I3 n3;obtain ⟨m',hm,w3⟩:=hN σ3 H3 n3;exact ⟨m',hm,σ3,H3,I3,w3⟩
  | cont=>intros bv3 q3 σ3 H3 I3 n3;obtain ⟨m',hm,w3⟩:=hN σ3 H3 n3;exact ⟨m',hm,σ3,H3,I3,w3⟩
  | brk=>exact q3
  | ret v=>exact q3
 | false=>rw [az dC];exact vJ (ii σ1 H2 I2 q2)
end
structure It where
 go:Nat->Hp->Prop
 fc:Nat->Hp->V->Hp->Prop
 stop:Nat->Hp->Prop
def lS(X:Cx)(pins:a7)(H:Hp)(b:Addr):Prop:=
 H b=none/\b≠X.env.locals/\b∉X.fs/\(b∈X.ex\/X.s₀.heap.objs.size<=b)/\(∀x c,X.env.cells.lookup x=some c->c≠b)/\∀p∈X.pn++pins,p.1≠b
variable {σ:St}
theorem Inv.rH{pins:a7}{H':Hp}(I:Inv X pins σ H s)(hb:s.heap.objs.size<=b)(hn:H' b=none):lS X pins H' b:=by
 refine ⟨hn,Nat.ne_of_gt (eO I.lt hb),I.U5 hb,.inr (aM I.sz hb),λx c e z=>?_,λp hp z=>?_⟩
 ·obtain ⟨v,q⟩:=I.cell x c e
  exact absurd (eO q.lt (by rw [z];exact hb)) (fM _)
 ·exact absurd (eO (bP (I.pin p hp).1) (by rw [z];exact hb)) (fM _)
structure Turn (P:Program) (w:World) (K:aE) (tg:Expr) (J:It) (fp:List Addr) (it:Addr) (tn:Nat->Heap->Prop):Prop where
 mem:it∈fp
 obj:∀i h,tn i h->∀b∈fp,∃o,h.get? b=some o/\∀v,o.data≠.cell v
 keep:∀i h h',tn i h->(∀b∈fp,∀o,h.get? b=some o->h'.get? b=some o)->tn i h'
 item:∀(X:Cx),X.prog=P->X.w=w->X.K=K->X.calm=true->∀(i:Nat) (pins:a7) (s:Shared) (σ:St) (H:Hp) (E:aX),Inv X pins σ H s->(∀b∈fp,lS X pins H b)->tn i s.heap->J.go i H->
  wpAny (model P w) X.A (pyNext (.ref it)) (λr s1=>∃u,r=some u /\
   wpAny (model P w) X.A (letOwnedTupleGo tg (.ref it) u) (λ_ s2=>∃x H',Inv X pins σ H' s2/\RelV x u/\J.fc i H x H'/\tn (i+1) s2.heap/\∀b∈fp,H' b=none) E s1) E s
 done:∀(X:Cx),X.prog=P->X.w=w->X.K=K->X.calm=true->∀(i:Nat) (pins:a7) (s:Shared) (σ:St) (H:Hp) (E:aX),Inv X pins σ H s->(∀b∈fp,lS X pins H b)->tn i s.heap->J.stop i H->
  wpAny (model P w) X.A (pyNext (.ref it)) (λr s1=>r=none/\Inv X pins σ H s1) E s
 self:∀(A:Around) (i:Nat) (s:Shared) (Q:aX) (E:aX),tn i s.heap->Q (.ref it) s->wpAny (model P w) A (pyIter (.ref it)) Q E s
abbrev TI:=St->Hp->(It->Hp->Prop)->Prop
def CH(X:Cx)(pins:a7)(σ:St)(tg:Expr)(R:It->Hp->Prop)(rJ:Value)(s2:Shared):Prop:=
 ∃(it:Addr) (fp:List Addr) (tn:Nat->Heap->Prop) (J:It) (H':Hp),rJ=.ref it/\Inv X pins σ H' s2/\Turn X.prog X.w X.K tg J fp it tn/\tn 0 s2.heap/\(∀b∈fp,lS X pins H' b)/\R J H'
def PI(X:Cx)(tg iter:Expr)(wi:TI):Prop:=
 ∀(pins:a7) (s:Shared) (σ:St) (H:Hp) (R:It->Hp->Prop),Inv X pins σ H s->wi σ H R->
  wpAny (model X.prog X.w) X.A (eval iter X.env) (λv s1=>wpAny (model X.prog X.w) X.A (pyIter v) (CH X pins σ tg R) X.xe s1) X.xe s
variable {tg:Expr}
theorem Ax{it:Addr}{o:Obj}{n:String}{vs:Array Value}{Q:Unit->Shared->Prop}(ho:s.heap.get? it=some o)(hc:o.cls=.type n)(hd:o.data=.fields vs)
    (hn:["enumerate","zip","dict_itemiterator","dict_reverseitemiterator","odict_iterator","itertools.zip_longest","itertools.pairwise"].contains n=false) (hQ:Q () s):wpAny M A (letOwnedTupleGo tg (.ref it) u) Q E s:=by
  unfold letOwnedTupleGo
  cases tg <;> first
    | exact dZ hQ
    | (cases u <;> first
        | exact dZ hQ
        | (refine cj (wpAny_load ho ?_)
           rw [hc,hd];show wpAny M A (if (["enumerate","zip","dict_itemiterator","dict_reverseitemiterator","odict_iterator","itertools.zip_longest","itertools.pairwise"].contains n && vs[0]? == some (rawInt _))=true then _ else _) Q E s
           rw [az (by intro h;rw [hn,Bool.false_and] at h;cases h)]
           exact dZ hQ))
def we(K:aE)(a:Addr):It:=
 ⟨λi H=>∃xs x,bM K H a xs/\xs[i]?=some x,λi H x H'=>H'=H/\∀xs,bM K H a xs->xs[i]?=some x,λi H=>∃xs,bM K H a xs/\xs.length<=i⟩
def Ay(K:aE)(a:Addr):It:=
 ⟨λi H=>∃xs x,eF K H a xs/\xs[i]?=some x,λi H x H'=>H'=H/\∀xs,eF K H a xs->xs[i]?=some x,λi H=>∃xs,eF K H a xs/\xs.length<=i⟩
def oF(lo:Int)(n:Nat):It:=⟨λi _=>i<n,λi H x H'=>H'=H/\x=.int (lo+i),λi _=>n<=i⟩
variable {K:aE}
theorem Vu(a it:Addr):Turn P w K tg (we K a) [it] it (λi h=>h.IsListIter it a i) where
 mem:=by simp
 obj:=λi h st b hb=>by
  have e:b=it:=by simpa using hb
  subst e;intros bv4 st o e c d;exact ⟨o,e,λv z=>by rw [d] at z;cases z⟩
 keep:=λi h h' st k=>st.at λo e=>k it (by simp) o e
 item:=by
  intro X hP hw hK hc i pins s σ H E I hf st hg;subst hP hw hK;intros bv3 hg xs x hq hx;obtain ⟨ai,rv,p,hz⟩:=I.list hq;obtain ⟨u,hu,ru⟩:=rv.get hx;obtain ⟨f0,f1,f2,f3,f4,f5⟩:=hf it (by simp)
  refine wpAny_pyNext_list_item st p.isList (x:=u) (by simpa using hu) λh' iZ sb=>?_
  have I1:Inv X pins σ H {s with heap:=h'}:=I.turned (t':=s.toks) (λb o hb e=>(sb.2 b hb).trans e) f0 f1 f3 f4 f5;obtain ⟨o,e,c,d⟩:=id iZ;exact (ad u rfl (Ax (s:={s with heap:=h'}) e c d ∅ (sB x H I1 ru ⟨rfl,λys hy=>by rw [I.CB hy hq];exact hx⟩ iZ (λb hb=>(hf b hb).1))))
 done:=by
  intro X hP hw hK hc i pins s σ H E I hf st hg;subst hP hw hK;intros bv2 hg xs hq hx;obtain ⟨ai,rv,p,hz⟩:=I.list hq;obtain ⟨f0,f1,f2,f3,f4,f5⟩:=hf it (by simp)
  have hl:=rv.length;exact wpAny_pyNext_list_end (I.ok.hd hc) st p.isList (by simp;lia) λh' eb=>⟨rfl,I.turned (t':=s.toks) (λb o hb e=>eb b o hb e) f0 f1 f3 f4 f5⟩
 self:=λ_ _ _ _ _ st h=>wpAny_pyIter_listiter st h
theorem Vv(a it:Addr):Turn P w K tg (Ay K a) [it] it (λi h=>h.IsTupleIter it a i) where
 mem:=by simp
 obj:=λi h st b hb=>by
  have e:b=it:=by simpa using hb
  subst e;intros bv4 st o e c d;exact ⟨o,e,λv z=>by rw [d] at z;cases z⟩
 keep:=λi h h' st k=>st.at λo e=>k it (by simp) o e
 item:=by
  intro X hP hw hK hc i pins s σ H E I hf st hg;subst hP hw hK;intros bv3 hg xs x hq hx;obtain ⟨ai,rv,p,hz⟩:=I.tuple hq;obtain ⟨u,hu,ru⟩:=rv.get hx;obtain ⟨f0,f1,f2,f3,f4,f5⟩:=hf it (by simp)
  refine wpAny_pyNext_tuple_item st (show s.heap.IsTuple a ai.toArray from p) (x:=u) (by simpa using hu) λh' iZ sb=>?_
  have I1:Inv X pins σ H {s with heap:=h'}:=I.turned (t':=s.toks) (λb o hb e=>(sb.2 b hb).trans e) f0 f1 f3 f4 f5;obtain ⟨o,e,c,d⟩:=id iZ;exact (ad u rfl (Ax (s:={s with heap:=h'}) e c d ∅ (sB x H I1 ru ⟨rfl,λys hy=>by rw [I.Vg hy hq];exact hx⟩ iZ (λb hb=>(hf b hb).1))))
 done:=by
  intro X hP hw hK hc i pins s σ H E I hf st hg;subst hP hw hK;intros bv2 hg xs hq hx;obtain ⟨ai,rv,p,hz⟩:=I.tuple hq;obtain ⟨f0,f1,f2,f3,f4,f5⟩:=hf it (by simp)
  have hl:=rv.length;exact wpAny_pyNext_tuple_end (I.ok.hd hc) st (show s.heap.IsTuple a ai.toArray from p) (by simp;lia) λh' eb=>⟨rfl,I.turned (t':=s.toks) (λb o hb e=>eb b o hb e) f0 f1 f3 f4 f5⟩
 self:=λ_ _ _ _ _ st h=>wpAny_pyIter_tupleiter st h
theorem Vw(it:Addr)(lo:Int)(n:Nat):Turn P w K tg (oF lo n) [it] it (λi h=>IsRangeIter h it (lo+(i:Nat)*1) ((n:Int)-(i:Nat)) 1) where
 mem:=by simp
 obj:=λi h st b hb=>by
  have e:b=it:=by simpa using hb
  subst e;exact ⟨_,st,λv z=>by have z':Data.fields _=Data.cell v:=z;cases z'⟩
 keep:=λi h h' st k=>k it (by simp) _ st
 item:=by
  intro X hP hw hK hc i pins s σ H E I hf st hg;subst hP hw hK;obtain ⟨f0,f1,f2,f3,f4,f5⟩:=hf it (by simp)
  have W:=Walks.range (prog:=X.prog) (w:=X.w) (I.ok.hd hc) it lo 1 n;refine W.item i s _ _ hg st λv h' tk hv iZ kk=>?_;obtain ⟨t,rfl⟩:=hv;have I1:Inv X pins σ H {s with heap:=h',toks:=tk}:=I.turned (λb o hb e=>kk b o (by simpa using hb) e) f0 f1 f3 f4 f5
  refine (ad _ rfl (Ax (s:={s with heap:=h',toks:=tk}) (n:="range_iterator") iZ rfl rfl ∅ (sB (.int (lo+i)) H I1 ⟨t,?_⟩ ⟨rfl,rfl⟩ iZ (λb hb=>(hf b hb).1))))
  rw [gD]
 done:=by
  intro X hP hw hK hc i pins s σ H E I hf st hg;subst hP hw hK;obtain ⟨f0,f1,f2,f3,f4,f5⟩:=hf it (by simp)
  exact wpAny_pyNext_range_end (I.ok.hd hc) st (by have:n<=i:=hg;lia) λh' eb=>⟨rfl,I.turned (t':=s.toks) (λb o hb e=>eb b o hb e) f0 f1 f3 f4 f5⟩
 self:=λ_ _ _ _ _ st h=>wpAny_pyIter_rangeiter st h
section
variable {X:Cx} {tg:Expr}
def Mu(K:aE)(tl:TE):TI:=λσ H R=>tl σ H λx H1=>∃a,x=.ref a/\(∃xs,bM K H1 a xs)/\R (we K a) H1
def Vx(K:aE)(tl:TE):TI:=λσ H R=>tl σ H λx H1=>∃a,x=.ref a/\(∃xs,eF K H1 a xs)/\R (Ay K a) H1
variable {l:Expr} {tl:TE}
theorem dN(hl:PE X l tl):PI X tg l (Mu X.K tl):=by
 intro pins s σ H R I h;refine aT (hl pins s σ H _ I h) λv s1 ⟨x,H1,I1,r1,q1⟩=>?_;obtain ⟨a,e,⟨xs,hq⟩,q⟩:=q1;subst e;cases r1;obtain ⟨ai,rv,p,hz⟩:=I1.list hq;refine B7 p.isList ?_;refine ⟨s1.heap.objs.size,[s1.heap.objs.size],_,_,H1,rfl,I1.kept (t':=s1.toks) λb o e=>cx _ e,Vu a _,(bv _ (fN _ rfl) rfl rfl),λb hb=>?_,q⟩;have e:b=s1.heap.objs.size:=by simpa using hb
 subst e;exact I1.rH (aV _) (I1.aB.fresh (aV _))
theorem Vy(hl:PE X l tl):PI X tg l (Vx X.K tl):=by
 intro pins s σ H R I h;refine aT (hl pins s σ H _ I h) λv s1 ⟨x,H1,I1,r1,q1⟩=>?_;obtain ⟨a,e,⟨xs,hq⟩,q⟩:=q1;subst e;cases r1;obtain ⟨ai,rv,p,hz⟩:=I1.tuple hq;refine wpAny_pyIter_tuple (show s1.heap.IsTuple a ai.toArray from p) ?_;refine ⟨s1.heap.objs.size,[s1.heap.objs.size],_,_,H1,rfl,I1.kept (t':=s1.toks) λb o e=>cx _ e,Vv a _,(bv _ (fN _ rfl) rfl rfl),λb hb=>?_,q⟩;have e:b=s1.heap.objs.size:=by simpa using hb
 subst e;exact I1.rH (aV _) (I1.aB.fresh (aV _))
variable {pins:a7}
theorem Mv{R:It->Hp->Prop}{lo hi:Int}{t u v:Tok}{tk:Nat}(I:Inv X pins σ H s)(h1:-(2 ^ 62)<=lo)(h2:lo<2 ^ 62)(h3:-(2 ^ 62)<=hi)(h4:hi<2 ^ 62)
  (q:R (oF lo (hi-lo).toNat) H):wpAny (model X.prog X.w) X.A (pyIter (.ref s.heap.objs.size)) (CH X pins σ tg R) E {s with heap:=s.heap.push {cls:=.type "range",data:=.fields #[.int lo t,.int hi u,.int 1 v]},toks:=tk}:=by
 refine wpAny_pyIter_range (IsRange.new ..) (small_one h1 h2 h3 h4) ?_;have I1:Inv X pins σ H {s with heap:=s.heap.push {cls:=.type "range",data:=.fields #[.int lo t,.int hi u,.int 1 v]},toks:=tk}:=I.kept λb o e=>cx _ e
 refine ⟨(s.heap.push {cls:=.type "range",data:=.fields #[.int lo t,.int hi u,.int 1 v]}).objs.size,[(s.heap.push {cls:=.type "range",data:=.fields #[.int lo t,.int hi u,.int 1 v]}).objs.size],_,_,H,rfl,
  I1.kept (t':=tk) λb o e=>cx _ e,Vw _ lo (hi-lo).toNat,?_,λb hb=>?_,q⟩
 ·have e1:lo+((0:Nat):Int)*1=lo:=by simp
  have e2:(((hi-lo).toNat:Nat):Int)-((0:Nat):Int)=Builtin.Range.rangeSize lo hi 1:=by rw [rangeSize_one];split <;> lia
  show IsRangeIter _ _ (lo+((0:Nat):Int)*1) ((((hi-lo).toNat:Nat):Int)-((0:Nat):Int)) 1;rw [e1,e2];exact fN _ rfl
 ·have e:b=(s.heap.push {cls:=.type "range",data:=.fields #[.int lo t,.int hi u,.int 1 v]}).objs.size:=by simpa using hb
  subst e;exact I1.rH (aV _) (I1.aB.fresh (aV _))
def Vz(ta:TA):TI:=λσ H R=>ta σ H λvs H1=>∃j:Int,vs=[.int j]/\-(2 ^ 62)<=j/\j<2 ^ 62/\R (oF 0 j.toNat) H1
def VA(ta:TA):TI:=λσ H R=>ta σ H λvs H1=>∃i j:Int,vs=[.int i,.int j]/\(-(2 ^ 62)<=i/\i<2 ^ 62/\-(2 ^ 62)<=j/\j<2 ^ 62)/\R (oF i (j-i).toNat) H1
variable {ta:TA} {p pos:Pos}
theorem fe{a:Expr}(hg:Gl X "range")(hm:X.mg "range"=none)(ha:PA X [a] ta)(hs:starEach [a] X.env=[(false,eval a X.env)]:=by rfl):PI X tg (.Call (.Name "range" p) [a] [] pos) (Vz ta):=by
 intro pins s σ H R I h;refine Call_ (pS I hg hm boot_range (vM (aT (ha pos pins s σ H _ I h) λus s1 ⟨vs,H1,I1,r1,q1⟩=>?_) hs rfl));intros bv9 q1 j e q1 q2 q;subst e;cases r1 with
 | cons r rr=>cases rr;obtain ⟨t,rfl⟩:=r;exact call_range_1 (Mv I1 ⋯ ⋯ q1 q2 (by simpa using q))
theorem VB{a b:Expr}(hg:Gl X "range")(hm:X.mg "range"=none)(ha:PA X [a,b] ta)(hs:starEach [a,b] X.env=[(false,eval a X.env),(false,eval b X.env)]:=by rfl)(jU:starEach [b] X.env=[(false,eval b X.env)]:=by rfl) :
  PI X tg (.Call (.Name "range" p) [a,b] [] pos) (VA ta):=by
 intro pins s σ H R I h;refine Call_ (pS I hg hm boot_range (vM (aT (ha pos pins s σ H _ I h) λus s1 ⟨vs,H1,I1,r1,q1⟩=>?_) (by rw [hs,jU]) (by rw [jU];rfl)))
 obtain ⟨i,j,e,⟨q1,q2,q3,q4⟩,q⟩:=q1;subst e;cases r1 with
 | cons r rr=>
  cases rr with
  | cons r' rr=>cases rr;obtain ⟨t,rfl⟩:=r;obtain ⟨t',rfl⟩:=r';exact call_range_2 (Mv I1 q1 q2 q3 q4 q)
def VC(wi:TI)(g:TG)(tb:TS):TS:=λD σ H=>wi σ H λJ H1=>∃W:Nat->Nat->St->Hp->Prop,(∃m,W 0 m σ H1)/\∀i m σ H,W i m σ H->
 (J.stop i H/\D.nx σ H)\/(J.go i H/\∃N:St->Hp->Prop,(∀σ' H',N σ' H'->∃m',m'<m/\W (i+1) m' σ' H')/\∀x H',J.fc i H x H'->g x σ H' λσ2 H2=>tb {D with nx:=N,ct:=N,bk:=D.nx} σ2 H2)
def jn(fp:List Addr)(h:Heap):List (Addr×Obj):=fp.filterMap λb=>(h.get? b).map λo=>(b,o)
variable {fp:List Addr}
theorem kK{o:Obj}(hb:b∈fp)(e:h.get? b=some o):(b,o)∈jn fp h:=List.mem_filterMap.mpr (ad b hb (by rw [e];rfl))
theorem VD{p:Addr×Obj}(hp:p∈jn fp h):p.1∈fp/\h.get? p.1=some p.2:=by
 obtain ⟨b,hb,e⟩:=List.mem_filterMap.mp hp;cases q:h.get? b with
 | none=>rw [q] at e;cases e
 | some o=>rw [q] at e;have e':(b,o)=p:=Option.some.inj e;subst e';exact ⟨hb,q⟩
theorem Inv.pinned(I:Inv X pins σ H s)(hf:∀b∈fp,lS X pins H b)(ho:∀b∈fp,∃o,s.heap.get? b=some o/\∀v,o.data≠.cell v):Inv X (pins++jn fp s.heap) σ H s:=
 I.Mi λp hp=>(mR.mp hp).elim (λz=>I.pin p (d5 _ z)) λz=>by obtain ⟨hb,e⟩:=VD z;obtain ⟨f0,f1,f2,_⟩:=hf p.1 hb;obtain ⟨o,e',d⟩:=ho p.1 hb;rw [e] at e';cases e';exact ⟨e,f0,f1,f2,d⟩
theorem Inv.pU{pl:a7}(I:Inv X (pins++pl) σ H s):Inv X pins σ H s:=I.Mi λp hp=>I.pin p (d5 _ (B5 _ hp))
theorem eG{iter:Expr}{body:List Stmt}{wi:TI}{g:TG}{tb:TS}(hp:PassesOwn (model X.prog X.w) X.A X.env X.xe)(hc:X.calm=true)(hi:PI X tg iter wi)(hg:PG X tg g)(hb:fb X body tb)
  (hs:∀x,foldedSetIterable iter X.env x=pure x:=by intro _;rfl):PS X (.For tg iter body [] pos) (VC wi g tb):=by
 intro pins s σ H D I h;refine wpAny_For (aT (hi pins s σ H _ I h) λv s1 h1=>aT h1 λrJ s2 h2=>?_) hs;intros bv32 h2 it fp tn J H2 e I2 T gf f2 bv2 W q'53 turn;obtain ⟨m0,w0⟩:=q'53;subst e;have fF:∀{H':Hp},(∀b∈fp,H' b=none)->∀b∈fp,lS X pins H' b:=λhn b hb=>⟨hn b hb,(f2 b hb).2⟩;refine codeAny_forLoop_any (λn s'=>∃i σ' H',Inv X pins σ' H' s'/\tn i s'.heap/\(∀b∈fp,H' b=none)/\W i n σ' H') ?_ m0 (re 0 σ H2 I2 gf (λb hb=>(f2 b hb).1) w0);intro n s3;intros bv17 _ i σ3 H3 I3 Mw Mx w3;rcases turn i n σ3 H3 w3 with ⟨stop,qn⟩ | ⟨go,N,hN,step⟩
 ·refine qW hp (aT (T.done X rfl rfl rfl hc i pins s3 σ3 H3 X.xe I3 (fF Mx) Mw stop) λr s4 ⟨hr,I4⟩=>?_)
  subst hr;exact vJ (ii σ3 H3 I4 qn)
 ·refine qW hp (aT (T.item X rfl rfl rfl hc i pins s3 σ3 H3 X.xe I3 (fF Mx) Mw go) λr s4 ⟨u,hr,h4⟩=>?_)
  subst hr;refine qW hp (aT h4 λ_ s5 ⟨x,H5,I5,r5,y5,fG,lV⟩=>?_);have lW:=I5.pinned (fF lV) (T.obj _ _ fG);refine qW hp (aT (hg _ s5 σ3 H5 x u _ lW r5 (step x H5 y5)) λ_ s6 ⟨σ6,H6,I6,q6⟩=>?_);refine qW hp (aT (hb _ s6 σ6 H6 _ I6 q6) λf s7 q7=>?_);have again:∀{σ7:St} {H7:Hp},Inv X (pins++jn fp s5.heap) σ7 H7 s7->N σ7 H7->∃m,m<n/\∃i σ' H',Inv X pins σ' H' s7/\tn i s7.heap/\(∀b∈fp,H' b=none)/\W i m σ' H':=fun{σ7 H7} I7 n7=>by obtain ⟨m',hm,w7⟩:=hN σ7 H7 n7;refine ⟨m',hm,i+1,σ7,H7,I7.pU,T.keep _ _ _ fG λb hb o e=>(I7.pin (b,o) (d5 _ (d5 _ (kK hb e)))).1,λb hb=>?_,w7⟩;obtain ⟨o,e,d⟩:=T.obj _ _ fG b hb;exact (I7.pin (b,o) (d5 _ (d5 _ (kK hb e)))).2.1
  cases f with
  | next=>intros bv3 q7 σ7 H7 I7 n7;exact again I7 n7
  | cont=>intros bv3 q7 σ7 H7 I7 n7;exact again I7 n7
  | brk=>intros bv3 q7 σ7 H7 I7 q7;exact (ii σ7 H7 I7.pU q7)
  | ret v=>intros bv14 q7 x7 σ7 H7 I7 r7 q7;exact ⟨x7,σ7,H7,I7.pU,r7,q7⟩
end
variable {g:TG} {tb:TS} {D:Ends}
theorem lX(Pv:Nat->St->Hp->Prop)(h0:Pv 0 σ H)(hl:∀i σ H,i<=xs.length->Pv i σ H->bM K H a xs)
  (hs:∀i x σ H,xs[i]?=some x->Pv i σ H->g x σ H λσ2 H2=>tb {D with nx:=Pv (i+1),ct:=Pv (i+1),bk:=D.nx} σ2 H2) (hd:∀σ H,Pv xs.length σ H->D.nx σ H) :
  ∃W:Nat->Nat->St->Hp->Prop,(∃m,W 0 m σ H)/\∀i m σ H,W i m σ H->
   ((we K a).stop i H/\D.nx σ H)\/((we K a).go i H/\∃N:St->Hp->Prop,(∀σ' H',N σ' H'->∃m',m'<m/\W (i+1) m' σ' H')/\∀x H',(we K a).fc i H x H'->g x σ H' λσ2 H2=>tb {D with nx:=N,ct:=N,bk:=D.nx} σ2 H2):=by
 refine (ad (λi m σ H=>m=xs.length-i/\i<=xs.length/\Pv i σ H) ⟨xs.length,by simp,cG _,h0⟩ ?_)
 rintro i m σ H ⟨rfl,hi,p⟩;have q:=hl i σ H hi p;by_cases cm:i<xs.length
 ·refine .inr ⟨⟨xs,xs[i],q,by simp [cm]⟩,Pv (i+1),λσ' H' p'=>⟨xs.length-(i+1),⋯,rfl,cm,p'⟩,λx H' y=>?_⟩
  obtain ⟨e,y⟩:=y;subst e;exact hs i x σ _ (y xs q) p
 ·have e:i=xs.length:=by lia
  subst e;exact .inl ⟨⟨xs,q,aV _⟩,hd σ H p⟩
theorem VE(Pv:Nat->St->Hp->Prop)(h0:Pv 0 σ H)(hl:∀i σ H,i<=xs.length->Pv i σ H->eF K H a xs)
  (hs:∀i x σ H,xs[i]?=some x->Pv i σ H->g x σ H λσ2 H2=>tb {D with nx:=Pv (i+1),ct:=Pv (i+1),bk:=D.nx} σ2 H2) (hd:∀σ H,Pv xs.length σ H->D.nx σ H) :
  ∃W:Nat->Nat->St->Hp->Prop,(∃m,W 0 m σ H)/\∀i m σ H,W i m σ H->
   ((Ay K a).stop i H/\D.nx σ H)\/((Ay K a).go i H/\∃N:St->Hp->Prop,(∀σ' H',N σ' H'->∃m',m'<m/\W (i+1) m' σ' H')/\∀x H',(Ay K a).fc i H x H'->g x σ H' λσ2 H2=>tb {D with nx:=N,ct:=N,bk:=D.nx} σ2 H2):=by
 refine (ad (λi m σ H=>m=xs.length-i/\i<=xs.length/\Pv i σ H) ⟨xs.length,by simp,cG _,h0⟩ ?_)
 rintro i m σ H ⟨rfl,hi,p⟩;have q:=hl i σ H hi p;by_cases cm:i<xs.length
 ·refine .inr ⟨⟨xs,xs[i],q,by simp [cm]⟩,Pv (i+1),λσ' H' p'=>⟨xs.length-(i+1),⋯,rfl,cm,p'⟩,λx H' y=>?_⟩
  obtain ⟨e,y⟩:=y;subst e;exact hs i x σ _ (y xs q) p
 ·have e:i=xs.length:=by lia
  subst e;exact .inl ⟨⟨xs,q,aV _⟩,hd σ H p⟩
variable {n:Nat}
theorem lY{lo:Int}(Pv:Nat->St->Hp->Prop)(h0:Pv 0 σ H)
  (hs:∀i σ H,i<n->Pv i σ H->g (.int (lo+i)) σ H λσ2 H2=>tb {D with nx:=Pv (i+1),ct:=Pv (i+1),bk:=D.nx} σ2 H2) (hd:∀σ H,Pv n σ H->D.nx σ H) :
  ∃W:Nat->Nat->St->Hp->Prop,(∃m,W 0 m σ H)/\∀i m σ H,W i m σ H->
   ((oF lo n).stop i H/\D.nx σ H)\/((oF lo n).go i H/\∃N:St->Hp->Prop,(∀σ' H',N σ' H'->∃m',m'<m/\W (i+1) m' σ' H')/\∀x H',(oF lo n).fc i H x H'->g x σ H' λσ2 H2=>tb {D with nx:=N,ct:=N,bk:=D.nx} σ2 H2):=by
 refine (ad (λi m σ H=>m=n-i/\i<=n/\Pv i σ H) ⟨n,by simp,cG _,h0⟩ ?_)
 rintro i m σ H ⟨rfl,hi,p⟩;by_cases cm:i<n
 ·refine .inr ⟨cm,Pv (i+1),λσ' H' p'=>⟨n-(i+1),⋯,rfl,cm,p'⟩,λx H' y=>?_⟩
  obtain ⟨e,y⟩:=y;subst e y;exact hs i σ _ cm p
 ·have e:i=n:=by lia
  subst e;exact .inl ⟨aV _,hd σ H p⟩
abbrev R2:=V->V->Hp->VK->Prop
def cC(X:Cx)(f:Value->Value->Sem Value)(r:R2):Prop:=
 ∀(pins:a7) (s:Shared) (σ:St) (H:Hp) (x y:V) (v u:Value) (Q:VK),Inv X pins σ H s->RelV x v->RelV y u->r x y H Q->
  wpAny (model X.prog X.w) X.A (f v u) (EP X pins σ Q) X.xe s
def GR(X:Cx)(f:Value->Sem Value)(r:V->Hp->VK->Prop):Prop:=
 ∀(pins:a7) (s:Shared) (σ:St) (H:Hp) (x:V) (v:Value) (Q:VK),Inv X pins σ H s->RelV x v->r x H Q->
  wpAny (model X.prog X.w) X.A (f v) (EP X pins σ Q) X.xe s
def gZ(X:Cx)(f:Value)(r:List V->Hp->VK->Prop):Prop:=
 ∀(pins:a7) (s:Shared) (σ:St) (H:Hp) (xs:List V) (us:List Value) (Q:VK),Inv X pins σ H s->Vals xs us->r xs H Q->
  wpAny (model X.prog X.w) X.A (call f us) (EP X pins σ Q) X.xe s
def oG(r:R2)(ta tb:TE):TE:=λσ H Q=>ta σ H λx H1=>tb σ H1 λy H2=>r x y H2 Q
def VF(r:V->Hp->VK->Prop)(ta:TE):TE:=λσ H Q=>ta σ H λx H1=>r x H1 Q
def rI(C:Int->Int->Prop)(g:Int->Int->V):R2:=λx y H Q=>∃i j,x=.int i/\y=.int j/\C i j/\Q (g i j) H
def pV(g:Int->Int->V):R2:=λx y H Q=>∃i j,x=.int i/\y=.int j/\Q (g i j) H
def rU(g:Int->V):V->Hp->VK->Prop:=λx H Q=>∃i,x=.int i/\Q (g i) H
section
variable {X:Cx} {a b c:Expr} {ta tb tc:TE} {pos:Pos}
variable {f:Value->Value->Sem Value}
theorem GS(ha:PE X a ta)(hb:PE X b tb){pins:a7}{R:V->V->Hp->Prop}(I:Inv X pins σ H s)
  (h:ta σ H λx H1=>tb σ H1 λy H2=>R x y H2) {Q:aX}
  (hf:∀v u s2 x y H2,Inv X pins σ H2 s2->RelV x v->RelV y u->R x y H2->wpAny (model X.prog X.w) X.A (f v u) Q X.xe s2) :
  wpAny (model X.prog X.w) X.A (eval a X.env) (λv s₁=>wpAny (model X.prog X.w) X.A (eval b X.env) (λu s₂=>wpAny (model X.prog X.w) X.A (f v u) Q X.xe s₂) X.xe s₁) X.xe s:=by
 refine aT (ha pins s σ H _ I h) λv s1 ⟨x,H1,I1,r1,q1⟩=>?_;refine aT (hb pins s1 σ H1 _ I1 q1) λu s2 ⟨y,H2,I2,r2,q2⟩=>?_;exact hf v u s2 x y H2 I2 r1 r2 q2
theorem aD{op:Operator}{r:R2}(ho:cC X (binaryOp op) r)(ha:PE X a ta)(hb:PE X b tb):PE X (.BinOp a op b pos) (oG r ta tb):=by intro pins s σ H Q I h;exact wpAny_BinOp (GS ha hb I h λv u s2 x y H2 I2 rx ry q=>ho pins s2 σ H2 x y v u Q I2 rx ry q)
theorem oH{op:UnaryOp}{r:V->Hp->VK->Prop}(ho:GR X (unaryOp op) r)(ha:PE X a ta):PE X (.UnaryOp op a pos) (VF r ta):=by intro pins s σ H Q I h;exact UnaryOp_ (aT (ha pins s σ H _ I h) λv s1 ⟨x,H1,I1,r1,q1⟩=>ho pins s1 σ H1 x v Q I1 r1 q1)
theorem pW{C:Int->Int->Prop}{g:Int->Int->Int}
  (rule:∀(i j:Int) (t u:Tok) (s:Shared) (Q:aX) (E:aX),C i j->Q (.int (g i j) s.toks) {s with toks:=s.toks+1}->wpAny (model X.prog X.w) X.A (f (.int i t) (.int j u)) Q E s) :
  cC X f (rI C λi j=>.int (g i j)):=by
 intro pins s σ H x y v u Q I rx ry h;intros bv10 h i j rfl rfl hc q;obtain ⟨t,rfl⟩:=rx;obtain ⟨t',rfl⟩:=ry;exact rule i j t t' s _ _ hc ⟨.int (g i j),H,I.tok _,⟨_,rfl⟩,q⟩
theorem Mz{g:Int->Int->Int}
  (rule:∀(i j:Int) (t u:Tok) (s:Shared) (Q:aX) (E:aX),Q (.int (g i j) s.toks) {s with toks:=s.toks+1}->wpAny (model X.prog X.w) X.A (f (.int i t) (.int j u)) Q E s) :
  cC X f (pV λi j=>.int (g i j)):=by
 intro pins s σ H x y v u Q I rx ry h;intros bv7 h i j rfl rfl q;obtain ⟨t,rfl⟩:=rx;obtain ⟨t',rfl⟩:=ry;exact rule i j t t' s _ _ ⟨.int (g i j),H,I.tok _,⟨_,rfl⟩,q⟩
theorem CI{g:Int->Int->Bool}
  (rule:∀(i j:Int) (t u:Tok) (s:Shared) (Q:aX) (E:aX),Q (.bool (g i j)) s->wpAny (model X.prog X.w) X.A (f (.int i t) (.int j u)) Q E s) :
  cC X f (pV λi j=>.bl (g i j)):=by
 intro pins s σ H x y v u Q I rx ry h;intros bv7 h i j rfl rfl q;obtain ⟨t,rfl⟩:=rx;obtain ⟨t',rfl⟩:=ry;exact rule i j t t' s _ _ ⟨.bl (g i j),H,I,rfl,q⟩
def VG(i j:Int):Prop:=0<j/\j<1073741824
def VH(i j:Int):Prop:=0<=j/\j<=1000000/\i.natAbs<2 ^ 64
def GU(i j:Int):Prop:=(-(2 ^ 64)<i/\i<2 ^ 64)\/(-(2 ^ 64)<j/\j<2 ^ 64)
theorem GU.ok{i j:Int}(h:GU i j):IntMulOk i j:=by
 rcases h with ⟨h1,h2⟩ | ⟨h1,h2⟩;·exact .of_left (intBits_le_64 h1 h2)
 ·exact .of_right (intBits_le_64 h1 h2)
theorem gg:cC X (binaryOp .Add) (pV λi j=>.int (i+j)):=Mz λ_ _ _ _ _ _ _ q=>add_int q
theorem pX:cC X (binaryOp .Sub) (pV λi j=>.int (i-j)):=Mz λ_ _ _ _ _ _ _ q=>sub_int q
theorem iq:cC X (binaryOp .Mult) (rI GU λi j=>.int (i*j)):=pW λ_ _ _ _ _ _ _ hc q=>mul_int q hc.ok
theorem CJ:cC X (binaryOp .FloorDiv) (rI VG λi j=>.int (i / j)):=pW λi j _ _ _ _ _ hc q=>by have h1:(0:Int)<j:=hc.1;have h2:j<1073741824:=hc.2;exact floordiv_int ⋯ (by rw [Int.fdiv_eq_ediv_of_nonneg i ⋯];exact q) (.inl (PyProof.noPylong_small ⋯))
theorem gh:cC X (binaryOp .Mod) (rI (λ_ j=>0<j) λi j=>.int (i % j)):=pW λi j _ _ _ _ _ hc q=>by have h1:(0:Int)<j:=hc;exact mod_int' ⋯ (by rw [Int.fmod_eq_emod_of_nonneg i ⋯];exact q)
theorem VI:cC X (binaryOp .Mod) (rI (λ_ j=>j≠0) λi j=>.int (i.fmod j)):=pW λ_ _ _ _ _ _ _ hc q=>mod_int' hc q
theorem VJ:cC X (binaryOp .Pow) (rI VH λi j=>.int (i ^ j.toNat)):=pW λ_ _ _ _ _ _ _ hc q=>pow_int_small hc.1 hc.2.1 hc.2.2 q
theorem VL{f:Value->Sem Value}{g:Int->Int}
  (rule:∀(i:Int) (t:Tok) (s:Shared) (Q:aX) (E:aX),Q (.int (g i) s.toks) {s with toks:=s.toks+1}->wpAny (model X.prog X.w) X.A (f (.int i t)) Q E s) :
  GR X f (rU λi=>.int (g i)):=by
 intro pins s σ H x v Q I rx h;intros bv2 h i rfl q;obtain ⟨t,rfl⟩:=rx;exact rule i t s _ _ ⟨.int (g i),H,I.tok _,⟨_,rfl⟩,q⟩
theorem oI:GR X (unaryOp .USub) (rU λi=>.int (-i)):=VL λ_ _ _ _ _ q=>neg_int q
end
def GV:V->V->Bool
 | .aO,.aO=>true | .aO,.int _=>true | .int _,.aO=>true | .aO,.bl _=>true | .bl _,.aO=>true | .aO,.str _=>true | .str _,.aO=>true
 | .int _,.int _=>true | .bl _,.bl _=>true | .str _,.str _=>true | .kH _,.kH _=>true
 | .int _,.str _=>true | .str _,.int _=>true | .bl _,.str _=>true | .str _,.bl _=>true
 | _,_=>false
def MA:R2:=λx y H Q=>GV x y=true/\Q (.bl (decide (x=y))) H
def MB:R2:=λx y H Q=>GV x y=true/\Q (.bl (!decide (x=y))) H
theorem MC{i j:Int}:decide (V.int i=V.int j)=(i == j):=by rw [qX];simp
theorem MD{i j:Bool}:decide (V.bl i=V.bl j)=(i == j):=by rw [qX];simp
theorem ME{i j:Str}:decide (V.str i=V.str j)=(i == j):=by rw [qX];simp
theorem MF{i j:Array UInt8}:decide (V.kH i=V.kH j)=(i.toList == j.toList):=by rw [qX];cases i;cases j;simp
section
variable {X:Cx} {a b c:Expr} {ta tb tc:TE} {pos:Pos}
theorem da{pins:a7}{Q:VK}{k k':Bool}(I:Inv X pins σ H s)(q:Q (.bl k) H)(e:k=k'):EP X pins σ Q (.bool k') s:=by subst e;exact ⟨.bl k,H,I,rfl,q⟩
theorem dO:cC X (compareOp .Eq) MA:=by
 intro pins s σ H x y v u Q I rx ry h;obtain ⟨hs,q⟩:=h;cases x with
 | aO=>
  cases rx;cases y with
  | aO=>cases ry;exact PySem.EqNone.eq_none_none (da I q (by simp))
  | bl j=>cases ry;exact PySem.EqNone.eq_none_bool (da I q (by simp))
  | int j=>obtain ⟨t',rfl⟩:=ry;exact PySem.EqNone.eq_none_int (da I q (by simp))
  | str j=>obtain ⟨t',rfl⟩:=ry;exact PySem.EqNone.eq_none_str (da I q (by simp))
  | _=>exact absurd (show false=true from hs) dC
 | bl i=>
  cases rx;cases y with
  | aO=>cases ry;exact PySem.EqNone.eq_bool_none (da I q (by simp))
  | bl j=>cases ry;exact eq_bool (da I q MD)
  | str j=>obtain ⟨t',rfl⟩:=ry;exact PySem.EqMixed.eq_bool_str (da I q (by simp))
  | _=>exact absurd (show false=true from hs) dC
 | int i=>
  obtain ⟨t,rfl⟩:=rx;cases y with
  | aO=>cases ry;exact PySem.EqNone.eq_int_none (da I q (by simp))
  | int j=>obtain ⟨t',rfl⟩:=ry;exact eq_int (da I q MC)
  | str j=>obtain ⟨t',rfl⟩:=ry;exact PySem.EqMixed.eq_int_str (da I q (by simp))
  | _=>exact absurd (show false=true from hs) dC
 | str i=>
  obtain ⟨t,rfl⟩:=rx;cases y with
  | aO=>cases ry;exact PySem.EqNone.eq_str_none (da I q (by simp))
  | bl j=>cases ry;exact PySem.EqMixed.eq_str_bool (da I q (by simp))
  | int j=>obtain ⟨t',rfl⟩:=ry;exact PySem.EqMixed.eq_str_int (da I q (by simp))
  | str j=>obtain ⟨t',rfl⟩:=ry;exact eq_str (da I q ME)
  | _=>exact absurd (show false=true from hs) dC
 | kH i=>
  obtain ⟨t,rfl⟩:=rx;cases y with
  | kH j=>obtain ⟨t',rfl⟩:=ry;exact PySem.W.eq_bytes (da I q MF)
  | _=>exact absurd (show false=true from hs) dC
 | _=>cases y <;> exact absurd (show false=true from hs) dC
theorem i3:cC X (compareOp .NotEq) MB:=by
 intro pins s σ H x y v u Q I rx ry h;obtain ⟨hs,q⟩:=h;cases x with
 | aO=>
  cases rx;cases y with
  | aO=>cases ry;exact PySem.EqNone.ne_none_none (da I q (by simp))
  | bl j=>cases ry;exact PySem.EqNone.ne_none_bool (da I q (by simp))
  | int j=>obtain ⟨t',rfl⟩:=ry;exact PySem.EqNone.ne_none_int (da I q (by simp))
  | str j=>obtain ⟨t',rfl⟩:=ry;exact PySem.EqNone.ne_none_str (da I q (by simp))
  | _=>exact absurd (show false=true from hs) dC
 | bl i=>
  cases rx;cases y with
  | aO=>cases ry;exact PySem.EqNone.ne_bool_none (da I q (by simp))
  | bl j=>cases ry;exact ne_bool (da I q (hV not MD))
  | str j=>obtain ⟨t',rfl⟩:=ry;exact PySem.EqMixed.ne_bool_str (da I q (by simp))
  | _=>exact absurd (show false=true from hs) dC
 | int i=>
  obtain ⟨t,rfl⟩:=rx;cases y with
  | aO=>cases ry;exact PySem.EqNone.ne_int_none (da I q (by simp))
  | int j=>obtain ⟨t',rfl⟩:=ry;exact ne_int (da I q (hV not MC))
  | str j=>obtain ⟨t',rfl⟩:=ry;exact PySem.EqMixed.ne_int_str (da I q (by simp))
  | _=>exact absurd (show false=true from hs) dC
 | str i=>
  obtain ⟨t,rfl⟩:=rx;cases y with
  | aO=>cases ry;exact PySem.EqNone.ne_str_none (da I q (by simp))
  | bl j=>cases ry;exact PySem.EqMixed.ne_str_bool (da I q (by simp))
  | int j=>obtain ⟨t',rfl⟩:=ry;exact PySem.EqMixed.ne_str_int (da I q (by simp))
  | str j=>obtain ⟨t',rfl⟩:=ry;exact ne_str (da I q (hV not ME))
  | _=>exact absurd (show false=true from hs) dC
 | kH i=>
  obtain ⟨t,rfl⟩:=rx;cases y with
  | kH j=>obtain ⟨t',rfl⟩:=ry;exact PySem.W.ne_bytes (da I q (hV not MF))
  | _=>exact absurd (show false=true from hs) dC
 | _=>cases y <;> exact absurd (show false=true from hs) dC
theorem oJ:cC X (compareOp .Lt) (pV λi j=>.bl (decide (i<j))):=CI λ_ _ _ _ _ _ _ q=>lt_int q
theorem GW:cC X (compareOp .LtE) (pV λi j=>.bl (decide (i<=j))):=CI λ_ _ _ _ _ _ _ q=>le_int q
theorem rK:cC X (compareOp .Gt) (pV λi j=>.bl (decide (j<i))):=CI λ_ _ _ _ _ _ _ q=>gt_int q
theorem VM:cC X (compareOp .GtE) (pV λi j=>.bl (decide (j<=i))):=CI λ_ _ _ _ _ _ _ q=>ge_int q
theorem rM:cC X (compareOp .Is) (λx y H Q=>y=.aO/\Q (.bl (decide (x=.aO))) H):=by
 intro pins s σ H x y v u Q I rx ry h;obtain ⟨rfl,q⟩:=h;cases ry;refine is_none_gen (da I q ?_)
 cases x <;> first
  | (cases rx;rfl)
  | (obtain ⟨t,rfl⟩:=rx;rfl)
theorem VN:cC X (compareOp .IsNot) (λx y H Q=>y=.aO/\Q (.bl (!decide (x=.aO))) H):=by
 intro pins s σ H x y v u Q I rx ry h;obtain ⟨rfl,q⟩:=h;cases ry;refine isnot_none_gen (da I q ?_)
 cases x <;> first
  | (cases rx;rfl)
  | (obtain ⟨t,rfl⟩:=rx;rfl)
variable {op:CmpOp}
theorem GX(b:Expr)(h:op≠.In:=by decide)(h2:op≠.NotIn:=by decide):behindInMarks op b=false:=by
 have e1:(op == CmpOp.In)=false:=by cases op <;> first | rfl | exact absurd rfl h
 have e2:(op == CmpOp.NotIn)=false:=by cases op <;> first | rfl | exact absurd rfl h2
 cases b <;> simp [behindInMarks,e1,e2]
theorem MG{op:CmpOp}{r:R2}(ho:cC X (compareOp op) r)(ha:PE X a ta)(hb:PE X b tb)(hm:behindInMarks op b=false):PE X (.Compare a [op] [b] pos) (oG r ta tb):=by intro pins s σ H Q I h;exact wpAny_Compare1 (GS ha hb I h λv u s2 x y H2 I2 rx ry q=>ho pins s2 σ H2 x y v u Q I2 rx ry q) hm
theorem jV{r:R2}(ho:cC X (compareOp op) r)(ha:PE X a ta)(hb:PE X b tb)(hm:behindInMarks op b=false:=by exact GX _):PE X (.Compare a [op] [b] pos) (oG r ta tb):=MG ho ha hb hm
def MH(t:TE):TT:=λσ H Q=>t σ H λx H'=>∃k,x=.bl k/\Q k H'
theorem VO{r:R2}(ho:cC X (compareOp op) r)(ha:PE X a ta)(hb:PE X b tb)(hm:behindInMarks op b=false):PT X (.Compare a [op] [b] pos) (MH (oG r ta tb)):=by intro pins s σ H Q I h;refine wpAny_isTrue_Compare1 (aT (ha pins s σ H _ I h) λv s1 ⟨x,H1,I1,r1,q1⟩=>aT (hb pins s1 σ H1 _ I1 q1) λu s2 ⟨y,H2,I2,r2,q2⟩=>aT (ho pins s2 σ H2 x y v u _ I2 r1 r2 q2) λc s3 ⟨z,H3,I3,r3,k,e,q3⟩=>?_) hm;subst e;cases r3;exact pK ⟨H3,I3,q3⟩
theorem bG{r:R2}(ho:cC X (compareOp op) r)(ha:PE X a ta)(hb:PE X b tb)(hm:behindInMarks op b=false:=by exact GX _):PT X (.Compare a [op] [b] pos) (MH (oG r ta tb)):=VO ho ha hb hm
def VP(r r':R2)(ta tb tc:TE):TE:=λσ H Q=>ta σ H λx H1=>tb σ H1 λy H2=>r x y H2 λz H3=>∃k,z=.bl k /\
 (if k=true then tc σ H3 λw' H4=>r' y w' H4 Q else Q (.bl false) H3)
theorem VQ{GY:CmpOp}{r r':R2}(ho:cC X (compareOp op) r)(kI:cC X (compareOp GY) r')(ha:PE X a ta)(hb:PE X b tb)(hc:PE X c tc)
  (hm:lastMarks [op,GY] [b,c]=false:=by with_unfolding_all rfl):PE X (.Compare a [op,GY] [b,c] pos) (VP r r' ta tb tc):=by
 intro pins s σ H Q I h;refine Compare_chain (aT (ha pins s σ H _ I h) λv s1 ⟨x,H1,I1,r1,q1⟩=>chain_link (aT (hb pins s1 σ H1 _ I1 q1) λu s2 ⟨y,H2,I2,r2,q2⟩=>aT (ho pins s2 σ H2 x y v u _ I2 r1 r2 q2) λd s3 ⟨z,H3,I3,r3,k,e,q3⟩=>?_)) hm;subst e;cases r3;refine pK ?_;cases k with
 | false=>exact ite_ff ⟨.bl false,H3,I3,rfl,q3⟩
 | true=>exact ite_tt (chain_last (aT (hc pins s3 σ H3 _ I3 q3) λw' s4 ⟨z',H4,I4,r4,q4⟩=>kI pins s4 σ H4 y z' u w' Q I4 r2 r4 q4))
theorem CK:(sizeLine:Nat)<2 ^ 63:=by rw [sizeLine_eq];decide
theorem vals1(r:Vals [x] us):∃u,us=[u]/\RelV x u:=by
 cases r with
 | cons r1 r2=>cases r2;exact (ad _ rfl r1)
theorem vals2{y:V}(r:Vals [x,y] us):∃u w',us=[u,w']/\RelV x u/\RelV y w':=by
 cases r with
 | cons r1 r2=>
  cases r2 with
  | cons r3 r4=>cases r4;exact (bi _ _ rfl r1 r3)
theorem GZ:gZ X (.builtin "abs") (λxs H Q=>∃i,xs=[.int i]/\Q (.int (if i<0 then -i else i)) H):=by intro pins s σ H xs us Q I r h;intros bv2 h i rfl q;obtain ⟨u,rfl,t,rfl⟩:=vals1 r;exact call_abs_int λu tk=>⟨.int (if i<0 then -i else i),H,I.tok _,⟨_,rfl⟩,q⟩
theorem VR(hc:X.calm=true):gZ X (.builtin "max") (λxs H Q=>∃i j,xs=[.int i,.int j]/\Q (.int (if j>i then j else i)) H):=by
 intro pins s σ H xs us Q I r h;intros bv3 h i j rfl q;obtain ⟨u,w',rfl,⟨t,rfl⟩,⟨t',rfl⟩⟩:=vals2 r;refine max_two_ints (I.ok.hd hc) λh' tk k=>(bi _ H (I.kept k) ?_ q);by_cases hj:j>i;·rw [aq hj,aq hj];exact ⟨_,rfl⟩
 ·rw [az hj,az hj];exact ⟨_,rfl⟩
theorem VS(hc:X.calm=true):gZ X (.builtin "min") (λxs H Q=>∃i j,xs=[.int i,.int j]/\Q (.int (if j<i then j else i)) H):=by
 intro pins s σ H xs us Q I r h;intros bv3 h i j rfl q;obtain ⟨u,w',rfl,⟨t,rfl⟩,⟨t',rfl⟩⟩:=vals2 r;refine min_two_ints (I.ok.hd hc) λh' tk k=>(bi _ H (I.kept k) ?_ q);by_cases hj:j<i;·rw [aq hj,aq hj];exact ⟨_,rfl⟩
 ·rw [az hj,az hj];exact ⟨_,rfl⟩
theorem G0:gZ X (.type "int") (λxs H Q=>(∃i,xs=[.int i]/\Q (.int i) H)\/∃k,xs=[.bl k]/\Q (.int (if k then 1 else 0)) H):=by
 intro pins s σ H xs us Q I r h;rcases h with ⟨i,rfl,q⟩ | ⟨k,rfl,q⟩
 ·obtain ⟨u,rfl,t,rfl⟩:=vals1 r
  exact call_int_int ⟨.int i,H,I,⟨_,rfl⟩,q⟩
 ·obtain ⟨u,rfl,r1⟩:=vals1 r
  cases r1;exact call_int_bool ⟨.int (if k then 1 else 0),H,I.tok _,⟨_,rfl⟩,q⟩
end
structure rN (h:Heap) (x dx C:Addr) (mA:cU):Prop where
 obj:h.get? x=some (PySem.W.instObj C dx)
 ns:h.Ns1 dx mA
 ne:dx≠x
variable {dx:Addr} {mA:cU}
theorem VT(n:h.Ns1 dx mA):∃od,h.get? dx=some od/\∀name,PySem.W.lookIn name od=some (mA name):=by
 intros bv26 n o es ep ho hd hk _ hm;refine ⟨o,ho,λname=>?_⟩;have e:=hm name;unfold nsFind findBy at e;rw [<-Array.find?_toList] at e;unfold PySem.W.lookIn;rw [hd];dsimp only
 split
 ·rename_i y q
  rw [q] at e;exact hV some e
 ·rename_i q
  rw [q] at e;have a:es.toList.any (·.refKey)=false:=by rw [List.any_eq_false];intro y hy;obtain ⟨z,t,VU⟩:=hk y (Array.mem_toList_iff.mp hy);simp [DictEntry.refKey,VU]
  have a':¬es.toList.any (·.refKey)=true:=by rw [a];exact dC
  rw [az a'];exact hV some e
variable {C:Addr}
theorem rN.look{x:Addr}(I:rN h x dx C mA):∃od,PySem.W.InstAt h x (PySem.W.instObj C dx) C (some od)/\∀name,PySem.W.lookIn name od=some (mA name):=
 let ⟨od,ho,hl⟩:=VT I.ns
 (ad od ⟨I.obj,rfl,rfl,ho⟩ hl)
section
variable {prog:Program} {w:World} {A:Around} {E:aX} {s:Shared} {K:aE} {x dx C f:Addr} {mA:cU} {name:Str} {v:Value}
theorem get_map{expr:Bool}{Q:aX}(X:K.In s.heap)(I:rN s.heap x dx C mA)(hg:PySem.W.plainGet K C name=true)(hh:PySem.W.hasDictIn K C=true)
  (ha:PySem.W.findIn K (.ref C) name=some none) (hv:mA name=some v) (iG:PySem.W.handedIn v=true) (h:Q v {s with toks:=s.toks+1}) :
  wpAny (model prog w) A (getAttr (.ref x) name expr) Q E s:=by
 obtain ⟨od,J,hl⟩:=I.look;exact PySem.W.get_value X J (PySem.W.plainGet_of hg).1 (PySem.W.findObj_own hh ha rfl (by rw [hl,hv])) iG h
theorem VV{pl:Sem Bool}{Q:Value×List Value->Shared->Prop}(X:K.In s.heap)(I:rN s.heap x dx C mA)(hg:PySem.W.plainGet K C name=true)
  (hf:PySem.W.findIn K (.ref C) name=some (some (.ref f))) (ht:PySem.W.isFn K (.ref f)=true) (hv:mA name=none) (h:Q (.ref f,[.ref x]) s) :
  wpAny (model prog w) A (getMethod (.ref x) name pl) Q E s:=by
 obtain ⟨od,J,hl⟩:=I.look;exact PySem.W.method_fn X J (PySem.W.plainGet_of hg).1 (PySem.W.plainGet_of hg).2 hf (mS.mp ht) (by show (PySem.W.lookIn name od).map (·.isSome)=some false;rw [hl,hv];rfl) h
theorem VW{ns:List Str}{Q:Unit->Shared->Prop}(X:K.In s.heap)(I:rN s.heap x dx C mA)
  (hs:PySem.W.findIn K (.ref C) "__setattr__"=some (some (.builtin "object.__setattr__"))) (hp:PySem.W.plainOver K C=true) (ht:PySem.W.takerIn K C name=some none) (hh:PySem.W.hasDictIn K C=true)
  (hw:PySem.Within mA ns) (hsz:ns.length<=sizeLine)
  (h:∀h',rN h' x dx C (λy=>if y=name then some v else mA y)->Heap.SameBut dx s.heap h'->Q () {s with heap:=h',toks:=s.toks+2}) :
  wpAny (model prog w) A (setAttr (.ref x) name v) Q E s:=by
 obtain ⟨od,J,hl⟩:=I.look;refine PySem.W.set_plain X J hs (PySem.W.osa_open (s:={s with toks:=s.toks+1}) (r:=none) X J hp ht λb=>?_);obtain ⟨cd,hc,GD⟩:=PySem.W.any_some hh;have hx:s.heap.get? x=some ⟨.ref C,some dx,.plain,#[]⟩:=I.obj;refine cj (dZ (cj (cj (wpAny_loadPart hx (cj (PySem.W.Looks.here (s:={s with toks:=s.toks+1}) (PySem.W.looks_clsIn X hc) ?_))))));rw [GD];refine dZ (a:=some dx) (cj (dZ (cj ?_)));refine wpAny_nsSet1 (s:={s with toks:=s.toks+1}) I.ns λh' wg jU=>?_;obtain ⟨oD,esD,epD,VX,VY,VZ⟩:=wg.count (PySem.Within.cons name v hw);refine cj (wpAny_lookBehind VX (by rw [VY];exact pastItsLine_dict (aM VZ (by rw [fO];lia))) ?_)
 exact dZ (h _ ⟨(jU.2 _ (Ne.symm I.ne)).trans I.obj,wg,I.ne⟩ jU)
theorem V0{R:Result->Shared->Prop}{vs:List Value}{kw:List (Str×Value)}(X:K.In s.heap)(hm:PySem.W.makesIn K C=true)
  (hi:PySem.W.findIn K (.ref C) "__init__"=some (some (.ref f))) (hf:PySem.W.typeIn K (.ref f)=some (.type "function"))
  (h:codeAny (model prog w) (A.under (.builtin "type.__call__" ⟨.ref C::vs,kw⟩)) (.call (.ref f) ⟨.ref (s.heap.objs.size+1)::vs,kw⟩) (PySem.W.InitBack (s.heap.objs.size+1) R)
   {s with heap:=(s.heap.push PySem.W.emptyDict).push (PySem.W.instObj C s.heap.objs.size)}) :
  codeAny (model prog w) A (.call (.ref C) ⟨vs,kw⟩) R s:=by
 obtain ⟨hh,g,d,t,os⟩:=s;exact PySem.W.make_core (PySem.W.makes_of X hm) (B8 X hi) (λself=>PySem.W.bind_fn X self hf) (.inl rfl) h
end
def iH(f:Str)(v:V):List (Str×V)->List (Str×V)
 | []=>[(f,v)]
 | (g,x)::r=>if g=f then (g,v)::r else (g,x)::iH f v r
theorem MI(f g:Str)(v:V):∀fs:List (Str×V),(iH f v fs).lookup g=if g=f then some v else fs.lookup g
 | []=>by
  show List.lookup g [(f,v)]=_;by_cases h:g=f
  ·have hb:(g == f)=true:=mS.mpr h
   simp only [List.lookup,hb,aq h]
  ·have hb:(g == f)=false:=n8.mpr h
   simp only [List.lookup,hb,az h]
 | (k,x)::r=>by
  have ih:=MI f g v r;rw [show iH f v ((k,x)::r)=(if k=f then (k,v)::r else (k,x)::iH f v r) from rfl]
  by_cases hk:k=f
  ·rw [aq hk]
   by_cases h:g=k
   ·have hb:(g == k)=true:=mS.mpr h
    simp only [List.lookup,hb,aq (h.trans hk)]
   ·have hb:(g == k)=false:=n8.mpr h
    simp only [List.lookup,hb,az (λe:g=f=>h (e.trans hk.symm))]
  ·rw [az hk]
   by_cases h:g=k
   ·have hb:(g == k)=true:=mS.mpr h
    simp only [List.lookup,hb,az (λe:g=f=>hk (h.symm.trans e))]
   ·have hb:(g == k)=false:=n8.mpr h
    simp only [List.lookup,hb];exact ih
theorem G1(f:Str)(v:V):∀fs:List (Str×V),f∈(iH f v fs).map (·.1)/\∀g,g∈fs.map (·.1)->g∈(iH f v fs).map (·.1)
 | []=>⟨by simp [iH],λg h=>by simp at h⟩
 | (k,x)::r=>by
  obtain ⟨i1,i2⟩:=G1 f v r;rw [show iH f v ((k,x)::r)=(if k=f then (k,v)::r else (k,x)::iH f v r) from rfl]
  by_cases hk:k=f
  ·rw [aq hk]
   subst hk;exact ⟨by simp,λg h=>by simpa using h⟩
  ·rw [az hk]
   refine ⟨?_,λg h=>?_⟩
   ·rw [ky]
    exact je _ i1
   ·rw [ky] at h ⊢
    rcases dB.mp h with e | e;·exact dB.mpr (.inl e)
    ·exact je _ (i2 g e)
theorem MJ(f:Str)(v:V):∀fs:List (Str×V),(iH f v fs).length<=fs.length+1
 | []=>by simp [iH]
 | (k,x)::r=>by
  have ih:=MJ f v r;rw [show iH f v ((k,x)::r)=(if k=f then (k,v)::r else (k,x)::iH f v r) from rfl]
  by_cases hk:k=f;·rw [aq hk,fO,fO];lia
  ·rw [az hk,fO,fO];lia
variable {v:V}
theorem jR.some_of{o:Option Value}(r:jR (some v) o):∃u,o=some u/\RelV v u:=by
 cases o with
 | none=>exact (show False from r).elim
 | some u=>exact ⟨u,rfl,r⟩
theorem jR.none_of{o:Option Value}(r:jR none o):o=none:=by
 cases o with
 | none=>rfl
 | some u=>exact (show False from r).elim
theorem V1(r:RelV v u):PySem.W.handedIn u=true:=by
 cases v with
 | aO=>cases (show u=Value.none from r);rfl
 | bl b=>cases (show u=Value.bool b from r);rfl
 | int i=>obtain ⟨t,e⟩:=(show ∃t,u=Value.int i t from r);cases e;rfl
 | str x=>obtain ⟨t,e⟩:=(show ∃t,u=Value.str x t from r);cases e;rfl
 | kH b=>obtain ⟨t,e⟩:=(show ∃t,u=Value.bytes b t from r);cases e;rfl
 | rn b=>obtain ⟨t,e⟩:=(show ∃t,u=Value.float b t from r);cases e;rfl
 | ref a=>cases (show u=Value.ref a from r);rfl
 | ty n=>cases (show u=Value.type n from r);rfl
section
variable {P:Program} {w:World} {H H':Hp} {h h':Heap} {a C dx:Addr} {fs GB:List (Str×V)}
theorem CL(aB:cq P w H h)(e:H a=some (.ins C dx fs)):∃mA,rN h a dx C mA/\(∀f,jR (fs.lookup f) (mA f))/\PySem.Within mA (fs.map (·.1))/\fs.length<=1000/\H dx=some (.own a):=by obtain ⟨d,z,ne,ob,mA,n,r,q⟩:=(show cN P w H h a (.ins C dx fs) from aB a _ e);exact ⟨mA,⟨ob,n,ne⟩,r,q,z,d⟩
end
structure lZ (K:aE) (C:Addr):Prop where
 pg:PySem.W.plainGet K C Str.empty=true
 hd:PySem.W.hasDictIn K C=true
 po:PySem.W.plainOver K C=true
 sa:PySem.W.findIn K (.ref C) "__setattr__"=some (some (.builtin "object.__setattr__"))
theorem lZ.get{K:aE}{C:Addr}(c:lZ K C)(f:Str):PySem.W.plainGet K C f=true:=c.pg
def rO(K:aE)(C:Addr)(f:Str):Prop:=PySem.W.findIn K (.ref C) f=some none
theorem rO.V2{f:Str}(n:rO K C f):PySem.W.takerIn K C f=some none:=by unfold PySem.W.takerIn;rw [show PySem.W.findIn K (.ref C) f=some none from n];rfl
structure Meth (K:aE) (C:Addr) (m:Str) (f:Addr):Prop where
 at_:PySem.W.findIn K (.ref C) m=some (some (.ref f))
 fn:PySem.W.isFn K (.ref f)=true
 kp:PySem.W.keepIn K (.ref f)=true
section
variable {X:Cx} {pins:a7} {σ:St} {H:Hp} {s:Shared} {a C dx:Addr} {fs:List (Str×V)} {f:Str} {v:V} {A:Around} {E:aX}
variable {Q:aX}
theorem V3{b:Bool}(I:Inv X pins σ H s)(e:H a=some (.ins C dx fs))(c:lZ X.K C)(n:rO X.K C f)(l:fs.lookup f=some v)
  (h:∀u s',Inv X pins σ H s'->RelV v u->Q u s'):wpAny (model X.prog X.w) A (getAttr (.ref a) f b) Q E s:=by
 obtain ⟨mA,O,r,_,_,_⟩:=CL I.aB e;obtain ⟨u,hu,ru⟩:=jR.some_of (v:=v) (o:=mA f) (by rw [<-l];exact r f)
 exact get_map I.dj O (c.get f) c.hd n hu (V1 ru) (h u _ (I.tok _) ru)
theorem MK{m:Str}{g:Addr}{pl:Sem Bool}{Q:Value×List Value->Shared->Prop}(I:Inv X pins σ H s)(e:H a=some (.ins C dx fs))(c:lZ X.K C)(k:Meth X.K C m g)(l:fs.lookup m=none)
  (h:Q (.ref g,[.ref a]) s):wpAny (model X.prog X.w) A (getMethod (.ref a) m pl) Q E s:=by
 obtain ⟨mA,O,r,_,_,_⟩:=CL I.aB e;have hn:mA m=none:=jR.none_of (by rw [<-l];exact r m)
 exact VV I.dj O (c.get m) k.at_ k.fn hn h
theorem V4{y:V}{Q:Unit->Shared->Prop}(I:Inv X pins σ H s)(e:H a=some (.ins C dx fs))(c:lZ X.K C)(n:rO X.K C f)(hl:fs.length<1000)(ry:RelV y u)
  (h:∀s',Inv X pins σ (upd H a (.ins C dx (iH f y fs))) s'->Q () s'):wpAny (model X.prog X.w) A (setAttr (.ref a) f u) Q E s:=by
 obtain ⟨mA,O,r,wi,_,ho⟩:=CL I.aB e;have hz:(fs.map (·.1)).length<=sizeLine:=by rw [aR,sizeLine_eq];lia
 refine VW I.dj O c.sa c.po n.V2 c.hd wi hz λh' O' sb=>h _ ?_;have hd:∃o,h'.get? dx=some o:=let ⟨o,_,_,e',_⟩:=O'.ns;⟨o,e'⟩
 refine I.write (x:=a) (e:=dx) (by rw [e];exact True.intro) (.inr ho) (λb q hb z=>(sb.2 b hb).trans z) hd ?_
 refine ⟨by rw [aH O.ne];exact ho,?_,O.ne,O'.obj,_,O'.ns,λg=>?_,λg hg=>?_⟩
 ·have:=MJ f y fs;lia
 ·show jR ((iH f y fs).lookup g) (if g=f then some u else mA g)
  rw [MI];by_cases q:g=f;·rw [aq q,aq q];exact ry
  ·rw [az q,az q];exact r g
 ·by_cases q:g=f
  ·rw [q];exact (G1 f y fs).1
  ·refine (G1 f y fs).2 g (wi g λz=>hg ?_)
   show (if g=f then some u else mA g)=none
   rw [az q];exact z
theorem Inv.made(I:Inv X pins σ H s):Inv X pins σ (upd (upd H s.heap.objs.size (.own (s.heap.objs.size+1))) (s.heap.objs.size+1) (.ins C s.heap.objs.size []))
  {s with heap:=(s.heap.push PySem.W.emptyDict).push (PySem.W.instObj C s.heap.objs.size)}:=by
 have e1:(s.heap.push PySem.W.emptyDict).get? s.heap.objs.size=some PySem.W.emptyDict:=fN s.heap rfl;have e2:((s.heap.push PySem.W.emptyDict).push (PySem.W.instObj C s.heap.objs.size)).get? (s.heap.objs.size+1)=some (PySem.W.instObj C s.heap.objs.size):=by
  have:=fN (s.heap.push PySem.W.emptyDict) (o:=PySem.W.instObj C s.heap.objs.size) rfl
  rwa [zV] at this
 have e3:(s.heap.push PySem.W.emptyDict).Ns s.heap.objs.size (λ_=>none):=⟨PySem.W.emptyDict,#[],_,e1,rfl,(λe he=>absurd he (by simp)),λ_=>rfl⟩
 have I1:=I.laid (a:=s.heap.objs.size) (o:=.own (s.heap.objs.size+1)) (h':=s.heap.push PySem.W.emptyDict) (t':=s.toks) (λb u q=>cx _ q) (aV _) ⟨_,e1⟩;refine I1.laid (a:=s.heap.objs.size+1) (o:=.ins C s.heap.objs.size []) (t':=s.toks) (λb u q=>cx _ q) (Nat.le_of_eq (zV _ _)) ?_;have ne:s.heap.objs.size≠s.heap.objs.size+1:=dY (B9 _);refine ⟨by rw [aH ne,au],cG _,ne,e2,λ_=>none,(Heap.Ns1.of_empty e3).at λo q=>cx _ q,λ_=>True.intro,λy hy=>absurd rfl hy⟩
theorem V5{prog:Program}{env:Env}{e:Expr}{pos:Pos}(hb:attributeBase e f env (eval e env)=eval e env)
  (h:wpAny (model prog w) A (eval e env) (λo s₁=>wpAny (model prog w) A (getAttr o f true) Q E s₁) E s):wpAny (model prog w) A (eval (.Attribute e f pos) env) Q E s:=
 Attribute_any_ h (by rw [arm_eval_Attribute,hb])
end
def V6(K:aE)(ta:TE)(f:Str):TE:=λσ H Q=>ta σ H λx H1=>∃a C dx fs v,x=.ref a/\H1 a=some (.ins C dx fs)/\lZ K C/\rO K C f/\fs.lookup f=some v/\Q v H1
def V7(K:aE)(ta tv:TE)(f:Str):TS:=λD σ H=>tv σ H λy H1=>ta σ H1 λx H2=>∃a C dx fs,x=.ref a/\H2 a=some (.ins C dx fs)/\lZ K C/\rO K C f/\fs.length<1000 /\
 D.nx σ (upd H2 a (.ins C dx (iH f y fs)))
section
variable {X:Cx} {o e value:Expr} {f:Str} {pos pos' wj:Pos} {ta tv:TE}
theorem l7(he:PE X e ta)(hb:attributeBase e f X.env (eval e X.env)=eval e X.env):PE X (.Attribute e f pos) (V6 X.K ta f):=by intro pins s σ H Q I h;refine V5 hb (aT (he pins s σ H _ I h) λu s1 ⟨x,H1,I1,rx,a,C,dx,fs,v,ex,ea,c,n,l,q⟩=>?_);subst ex;obtain rfl:u=Value.ref a:=rx;exact V3 I1 ea c n l λu' s2 I2 ru=>(bi v H1 I2 ru q)
theorem ML(ha:PE X o ta)(hv:PE X value tv)(hs:swapsWith value (some (.Attribute o f pos')) pos.line X.env=pure false):PS X (.Assign [.Attribute o f pos'] value pos) (V7 X.K ta tv f):=by intro pins s σ H D I h;refine plainObj_wpAny_Assign_Attribute (aT (hv pins s σ H _ I h) λu s1 ⟨y,H1,I1,ry,q⟩=>aT (ha pins s1 σ H1 _ I1 q) λov s2 ⟨x,H2,I2,rx,a,C,dx,fs,ex,ea,c,n,l,q2⟩=>?_) hs;subst ex;obtain rfl:ov=Value.ref a:=rx;exact V4 I2 ea c n l ry λs3 I3=>(ii σ _ I3 q2)
theorem amc{pl:Sem Bool}{m:Str}{apos:Pos}{args:List Expr}{pins:a7}{Q:aX}{te:TE}(he:PE X e te)(I:Inv X pins σ H s)
  (h:te σ H λx H1=>∃a C dx fs g,x=.ref a/\H1 a=some (.ins C dx fs)/\lZ X.K C/\Meth X.K C m g/\fs.lookup m=none /\
   ∀s1,Inv X pins σ H1 s1->wpAny (model X.prog X.w) X.A (callWith pos (.ref g) [.ref a] (backTo pos (starEach args X.env)) (backToKw pos (keywordEach [] X.env))) Q X.xe s1)
  (ht:eval (.Call (.Attribute e m apos) args [] pos) X.env=(do
   let ov <-eval e X.env
   standAt apos.atName
   let (f,first) <-holding [ov] (getMethod ov m pl)
   callWith pos f first (backTo pos (starEach args X.env)) (backToKw pos (keywordEach [] X.env)))) :
  wpAny (model X.prog X.w) X.A (eval (.Call (.Attribute e m apos) args [] pos) X.env) Q X.xe s:=by
 refine PySem.W.methodCall_KW (pl:=pl) (aT (he pins s σ H _ I h) λu s1 ⟨x,H1,I1,rx,a,C,dx,fs,g,ex,ea,c,k,l,q⟩=>?_) ht
 subst ex
 obtain rfl:u=Value.ref a:=rx
 exact MK I1 ea c k l (q s1 I1)
end
section
variable {X:Cx} {pins:a7} {σ:St} {H:Hp} {s:Shared} {A:Around} {E:aX} {Q:aX} {c:Value} {b:Bool}
inductive jW (K:aE) (H:Hp):V->Value->Prop where
 | aO:jW K H .aO (.type "NoneType")
 | bl (x:Bool):jW K H (.bl x) (.type "bool")
 | int (i:Int):jW K H (.int i) (.type "int")
 | str (x:Str):jW K H (.str x) (.type "str")
 | rn (x:UInt64):jW K H (.rn x) (.type "float")
 | lst {a:Addr} {xs:List V} (e:H a=some (.lst xs)):jW K H (.ref a) (.type "list")
 | cL {a:Addr} {o:Obj} {xs:List V} (e:H a=some (.cL o (.lst xs))):jW K H (.ref a) (.type "list")
 | tup {a:Addr} {xs:List V} (e:H a=some (.tup xs)):jW K H (.ref a) (.type "tuple")
 | dK {a:Addr} {ar:List (Key×V)} (e:H a=some (.dK ar)):jW K H (.ref a) (.type "dict")
 | dT {a:Addr} {ar:List (List Key×V)} (e:H a=some (.dT ar)):jW K H (.ref a) (.type "dict")
 | ins {a C dx:Addr} {fs:List (Str×V)} (e:H a=some (.ins C dx fs)) (cl:lZ K C) (ha:PySem.W.findIn K (.ref C) "__class__"=some (some (.builtin "object.__class__")))
   (hn:PySem.W.specialIn K (.builtin "object.__class__") "__get__"=some (some (.builtin "getset_descriptor.__get__"))) (MM:PySem.W.takesIn K (.builtin "object.__class__")=some true)
   (hm:PySem.W.mroIn K C (.type "object")=some true):jW K H (.ref a) (.ref C)
theorem V8{t:Value}(I:Inv X pins σ H s)(rx:RelV x u)(ty:jW X.K H x t)(e:PySem.W.kitOne X.K t c=some b)(h:∀tk,Q (.bool b) {s with toks:=tk}) :
  wpAny (model X.prog X.w) A (call (.builtin "isinstance") [u,c]) Q E s:=by
 cases ty with
 | aO=>cases (show u=Value.none from rx);exact jL PySem.W.kitx_none I.dj True.intro e (λz=>nomatch z) h
 | bl y=>cases (show u=Value.bool y from rx);exact jL PySem.W.kitx_bool I.dj True.intro e (λz=>nomatch z) h
 | int i=>obtain ⟨t,q⟩:=(show ∃t,u=Value.int i t from rx);cases q;exact jL PySem.W.kitx_int I.dj True.intro e (λz=>nomatch z) h
 | str y=>obtain ⟨t,q⟩:=(show ∃t,u=Value.str y t from rx);cases q;exact jL PySem.W.kitx_str I.dj True.intro e (λz=>nomatch z) h
 | rn y=>obtain ⟨t,q⟩:=(show ∃t,u=Value.float y t from rx);cases q;exact jL PySem.W.kitx_float I.dj True.intro e (λz=>nomatch z) h
 | @lst a xs ea=>cases (show u=Value.ref a from rx);obtain ⟨_,_,n,_,h1⟩:=(show cN X.prog X.w H s.heap a (.lst xs) from I.aB a _ ea);exact jL PySem.W.kitx_list I.dj (ad _ h1 rfl) e (λz=>nomatch z) h
 | @cL a ob xs ea=>cases (show u=Value.ref a from rx);obtain ⟨_,_,_,n,_,h1⟩:=(show cN X.prog X.w H s.heap a (.cL ob (.lst xs)) from I.aB a _ ea);exact jL PySem.W.kitx_list I.dj (ad _ h1 rfl) e (λz=>nomatch z) h
 | @tup a xs ea=>cases (show u=Value.ref a from rx);obtain ⟨_,_,_,p⟩:=(show cN X.prog X.w H s.heap a (.tup xs) from I.aB a _ ea);intros bv4 p o h1 h2 _;exact jL PySem.W.kitx_tuple I.dj (ad o h1 h2) e (λz=>nomatch z) h
 | @dK a ar ea=>cases (show u=Value.ref a from rx);obtain ⟨_,_,vs,_,p⟩:=(show cN X.prog X.w H s.heap a (.dK ar) from I.aB a _ ea);intros bv14 p o es ep h1 h2 _;exact jL PySem.W.kitx_dict I.dj (ad o h1 h2.1) e (λz=>nomatch z) h
 | @dT a ar ea=>cases (show u=Value.ref a from rx);obtain ⟨_,_,xs,_,o,es,ep,h1,h2,_⟩:=(show cN X.prog X.w H s.heap a (.dT ar) from I.aB a _ ea);exact jL PySem.W.kitx_dict I.dj (ad o h1 h2.1) e (λz=>nomatch z) h
 | @ins a C dx fs ea cl ha hn MM hm=>cases (show u=Value.ref a from rx);obtain ⟨mA,O,_⟩:=CL I.aB ea;obtain ⟨od,J,_⟩:=O.look;exact jL (PySem.W.kitx_own (cl.get _) cl.hd ha hn MM hm) I.dj J e (λz=>nomatch z) h
end
structure dc (k:Nat) (A:Around):Prop where
 hd:A.handled=none
 dp:A.depth+3*k+5<recursionLimit
 un:A.units+16*k+200<cLine
variable {k:Nat}
theorem dc.mono{j:Nat}(r:dc k A)(h:j<=k):dc j A:=⟨r.hd,by have:=r.dp;lia,by have:=r.un;lia⟩
theorem dc.deeper(r:dc (k+1) A)(env:Env):dc k (A.deeper env):=
 ⟨r.hd,by have:=r.dp;show A.depth+1+3*k+5<_;lia,by have:=r.un;show A.units+3+16*k+200<_;lia⟩
variable {kw:List (Str×Value)}
theorem V9:(A.under (.builtin "type.__call__" ⟨.ref C::us,kw⟩)).depth=A.depth+1:=by first | rfl | simp [Around.under,Code.weight,Code.isCreation,Code.isGuard,Code.isCaller,Code.frames,Code.isFrame,guardIds]
theorem V_:(A.under (.builtin "type.__call__" ⟨.ref C::us,kw⟩)).units=A.units+1:=by first | rfl | simp [Around.under,Code.cUnits,Code.frames,Code.isFrame]
theorem dc.make(r:dc (k+1) A)(C:Addr)(us:List Value)(kw:List (Str×Value)):dc k (A.under (.builtin "type.__call__" ⟨.ref C::us,kw⟩)):=
 ⟨r.hd,by have:=r.dp;rw [V9];lia,by have:=r.un;rw [V_];lia⟩
theorem dc.depth(r:dc k A):A.depth<recursionLimit:=by have:=r.dp;lia
theorem dc.units(r:dc k A):A.units+64<cLine:=by have:=r.un;lia
theorem dc.oK(r:dc k A):A.units<cLine:=by have:=r.un;lia
def pY:TA:=λ_ H Q=>Q [] H
def pZ(ta:TE)(tr:TA):TA:=λσ H Q=>ta σ H λx H1=>tr σ H1 λxs H2=>Q (x::xs) H2
section
variable {X:Cx} {e:Expr} {es:List Expr} {te:TE} {t:TA} {pos:Pos}
theorem ae:PA X [] pY:=λ_ _ _ _ H Q I h=>Calls.spliced_nil ⟨[],H,I,.nil,h⟩
theorem We(ha:PE X e te)(hr:PA X es t)(hs:starEach (e::es) X.env=(false,eval e X.env)::starEach es X.env:=by rfl):PA X (e::es) (pZ te t):=by intro pos pins s σ H Q I h;rw [hs];show wpAny _ _ (spliced ((false,eval e X.env)::backTo pos (starEach es X.env))) _ _ s;refine Calls.spliced_cons (aT (ha pins s σ H _ I h) λu s1 ⟨x,H1,I1,r1,q1⟩=>?_);exact aT (hr pos pins s1 σ H1 _ I1 q1) λus s2 ⟨xs,H2,I2,r2,q2⟩=>⟨x::xs,H2,I2,.cons r1 r2,q2⟩
def MN(t:TA):TE:=λσ H Q=>t σ H λxs H1=>xs.length<=sizeLine/\∀p,H1 p=none->Q (.ref p) (upd H1 p (.tup xs))
def Az(t:TA):TE:=λσ H Q=>t σ H λxs H1=>xs.length<=sizeLine/\∀p,H1 p=none->Q (.ref p) (upd H1 p (.lst xs))
theorem fT{x1}(h:PA X es t):PE X (.Tuple es x1 pos) (MN t):=by
 intro pins s σ H Q I hq;refine wpAny_Tuple_spliced (aT (h pos pins s σ H _ I hq) λus s1 ⟨xs,H1,I1,r,z,q⟩=>⟨by rw [<-r.length];exact z,?_⟩)
 have hf:H1 s1.heap.objs.size=none:=I1.aB.fresh (aV _);refine ⟨.ref s1.heap.objs.size,upd H1 s1.heap.objs.size (.tup xs),I1.laid (t':=s1.toks) (λb u e=>cx _ e) (aV _) ?_,rfl,q _ hf⟩;exact (ib z us r ⟨_,fN _ rfl,rfl,_,rfl⟩)
theorem cJ(h:PA X es t):PE X (.List es pos) (Az t):=by
 intro pins s σ H Q I hq;refine wpAny_List_spliced (aT (h pos pins s σ H _ I hq) λus s1 ⟨xs,H1,I1,r,z,q⟩=>⟨by rw [<-r.length];exact z,?_⟩)
 have hf:H1 s1.heap.objs.size=none:=I1.aB.fresh (aV _);refine ⟨.ref s1.heap.objs.size,upd H1 s1.heap.objs.size (.lst xs),I1.laid (t':=s1.toks) (λb u e=>cx _ e) (aV _) ?_,rfl,q _ hf⟩;exact ⟨z,us,0,r,fN _ rfl⟩
end
abbrev Sp:=List V->Hp->VK->XK->Prop
abbrev iJ:=List Env->Hp->Shared->XK->Value->Shared->Prop
structure rP (P:Program) (w:World) (K:aE) (mg:cU) (base:Heap) (A:Around) (outer:List Env) (s:Shared) (H:Hp):Prop where
 frames:A.frames=some outer
 mod:Mod K mg base
 bs:∀b o,base.get? b=some o->s.heap.get? b=some o/\H b=none
 gY:base.objs.size<=s.heap.objs.size
 jT:s.heap.FunFrames base outer
 m5:∀b∈cz outer,H b=none
 aB:cq P w H s.heap
 bare:AllBare s.gens
def CE(outer:List Env)(P:Program)(w:World)(H:Hp)(s:Shared)(Q:VK)(u:Value)(s':Shared):Prop:=
 ∃v H',s'.os=s.os/\AllBare s'.gens/\Un (cz outer) [] H H' s.heap s'.heap/\cq P w H' s'.heap/\RelV v u/\Q v H'
def CR(CX:iJ)(outer:List Env)(P:Program)(w:World)(H:Hp)(s:Shared)(Q:VK)(E:XK)(r:Result)(s':Shared):Prop:=
 match r with
 | .ok (.ret u)=>CE outer P w H s Q u s'
 | .ok _=>False
 | .error e=>CX outer H s E e s'
structure aN (P:Program) (w:World) (K:aE) (mg:cU) (base:Heap) (CX:iJ) (k:Nat) (f:Addr) (fd:FuncData) (ps:List Str) (sp:Sp):Prop where
 len:∀vs H Q E,sp vs H Q E->vs.length=ps.length
 run:∀(A:Around) (outer:List Env) (s:Shared) (H:Hp) (args:Args) (us:List Value) (vs:List V) (Q:VK) (E:XK),dc k A->rP P w K mg base A outer s H->BindsTo s fd args (ps.zip us)->Vals vs us->sp vs H Q E->
  codeAny (model P w) A (.call (.ref f) args) (CR CX outer P w H s Q E) s
variable {mg:cU} {base:Heap} {outer:List Env}
theorem rP.make(e:rP P w K mg base A outer s H)(C:Addr)(us:List Value)(kw:List (Str×Value)) :
  rP P w K mg base (A.under (.builtin "type.__call__" ⟨.ref C::us,kw⟩)) outer s H:=⟨by first | exact e.frames | (simpa [Around.under,Code.envs,Code.isFrame,pushEnvs] using e.frames),e.mod,e.bs,e.gY,e.jT,e.m5,e.aB,e.bare⟩
section
variable {X:Cx} {pins:a7} {σ:St} {H:Hp} {s s':Shared}
theorem Inv.G2(I:Inv X pins σ H s):rP X.prog X.w X.K X.mg X.base X.A X.stack s H:=
 ⟨I.ok.frames,I.ok.mod,I.bs,aM I.ok.gY I.sz,I.stack,I.rz,I.aB,I.bare⟩
theorem Inv.after{Q:VK}(I:Inv X pins σ H s)(h:CE X.stack X.prog X.w H s Q u s'):EP X pins σ Q u s':=by intros bv24 h v H' os bare un aB r q;obtain ⟨hh,g,d,t,Wf⟩:=s';obtain rfl:Wf=s.os:=os;exact ⟨v,H',I.call (h':=hh) (g':=g) (d':=d) (t':=t) (ch:=[]) un aB bare (λb z=>absurd z (by simp)),r,q⟩
end
def MO(sp:Sp)(dG:List V)(E:XK)(t:TA):TE:=λσ H Q=>t σ H λvs H1=>sp (vs++dG) H1 Q E
def Wg(C:Addr)(m:Str)(sp:Sp)(dG:List V)(E:XK)(ta:TE)(t:TA):TE:=λσ H Q=>ta σ H λx H1=>∃a dx fs,x=.ref a/\H1 a=some (.ins C dx fs)/\fs.lookup m=none /\
 t σ H1 λvs H2=>sp (x::(vs++dG)) H2 Q E
def Wh(C:Addr)(sp:Sp)(dG:List V)(E:XK)(t:TA):TE:=λσ H Q=>t σ H λvs H1=>∀x dx,H1 x=none->H1 dx=none->dx≠x->
 sp (.ref x::(vs++dG)) (upd (upd H1 dx (.own x)) x (.ins C dx [])) (λv H2=>v=.aO/\Q (.ref x) H2) E
def Binds(K:aE)(fd:FuncData)(ps:List Str)(ds:List Value):Prop:=
 ∀(s:Shared) (us:List Value),K.In s.heap->(us++ds).length=ps.length->BindsTo s fd ⟨us,[]⟩ (ps.zip (us++ds))
variable {ps:List Str}
theorem Binds.all{fd:FuncData}(h:∀us:List Value,us.length=ps.length->bindArgs fd ⟨us,[]⟩=pure (ps.zip us)):Binds K fd ps []:=λs us _ hl=>by rw [B_] at hl ⊢;exact .of_eq (h us hl)
def Passes(CX:iJ)(X:Cx)(E:XK):Prop:=∀(pins:a7) (σ:St) (H:Hp) (s:Shared) (e:Value) (s':Shared),Inv X pins σ H s->CX X.stack H s E e s'->X.xe e s'
section
variable {X:Cx} {CX:iJ} {k:Nat} {f C:Addr} {fd:FuncData} {ps:List Str} {sp:Sp} {dG:List V} {ds:List Value} {E:XK} {x m:Str} {p pos apos:Pos} {e o:Expr} {es:List Expr} {ta:TE} {t:TA}
variable {pins:a7} {Q:VK}
theorem MP{vs:List V}(F:aN X.prog X.w X.K X.mg X.base CX k f fd ps sp)(hr:dc k X.A)(hb:Binds X.K fd ps ds)(hd:Vals dG ds)(hx:Passes CX X E)
  (I:Inv X pins σ H s) (r:Vals vs us) (h:sp (vs++dG) H Q E):wpAny (model X.prog X.w) X.A (call (.ref f) us) (EP X pins σ Q) X.xe s:=by
 have r2:Vals (vs++dG) (us++ds):=r.append hd;have hl:(us++ds).length=ps.length:=by rw [<-r2.length];exact F.len _ _ _ _ h
 refine wpAny_call (zW (F.run X.A X.stack s H ⟨us,[]⟩ (us++ds) (vs++dG) Q E hr I.G2 (hb s us I.dj hl) r2 h) λr s' hq=>?_);cases r with
 | error e=>exact hx pins σ H s e s' I hq
 | ok fl=>
  cases fl with
  | ret u=>exact I.after hq
  | next=>exact False.elim hq
  | brk=>exact False.elim hq
  | cont=>exact False.elim hq
theorem G3(F:aN X.prog X.w X.K X.mg X.base CX k f fd ps sp)(hr:dc k X.A)(hg:Gl X x)(hm:X.mg x=some (.ref f))(hk:PySem.W.keepIn X.K (.ref f)=true)(hb:Binds X.K fd ps ds)(hd:Vals dG ds)(hx:Passes CX X E)
  (ha:PA X (e::es) t) (l8:(x == ("__debug__":Str))=false:=by decide) (he:starEach (e::es) X.env=(false,eval e X.env)::starEach es X.env:=by rfl) (jo:(backTo pos (starEach es X.env)).any (·.1)=false:=by rfl) :
  PE X (.Call (.Name x p) (e::es) [] pos) (MO sp dG E t):=by
 intro pins s σ H Q I h;refine zX (v_ I hg hm ?_ l8);refine Ca (h₀:=X.base) I.ok.mod.c_ hk (aT (ha pos pins s σ H _ I h) λus s1 ⟨vs,H1,I1,r,q⟩=>⟨I1.dj,?_⟩) he jo;exact MP F hr hb hd hx I1 r q
theorem ay{j:Nat}(F:aN X.prog X.w X.K X.mg X.base CX k f fd ps sp)(hr:dc j X.A)(hm:X.mg x=some (.ref f))(hk:PySem.W.keepIn X.K (.ref f)=true)(hb:Binds X.K fd ps [])(hx:Passes CX X E)
  (ha:PA X (e::es) t) (hj:k<=j:=by decide) (hg:Gl X x:=by exact rfl) (l8:(x == ("__debug__":Str))=false:=by decide) (he:starEach (e::es) X.env=(false,eval e X.env)::starEach es X.env:=by rfl) (jo:(backTo pos (starEach es X.env)).any (·.1)=false:=by rfl) :
  PE X (.Call (.Name x p) (e::es) [] pos) (MO sp [] E t):=G3 F (hr.mono hj) hg hm hk hb .nil hx ha l8 he jo
theorem l9{pl:Sem Bool}(he:PE X o ta)(c:lZ X.K C)(hm:Meth X.K C m f)(F:aN X.prog X.w X.K X.mg X.base CX k f fd ps sp)(hr:dc k X.A)(hb:Binds X.K fd ps ds)(hd:Vals dG ds)(hx:Passes CX X E)(ha:PA X (e::es) t)
  (Au:starEach (e::es) X.env=(false,eval e X.env)::starEach es X.env:=by rfl) (jo:(backTo pos (starEach es X.env)).any (·.1)=false:=by rfl)
  (ht:eval (.Call (.Attribute o m apos) (e::es) [] pos) X.env=(do
   let ov <-eval o X.env
   standAt apos.atName
   let (f,first) <-holding [ov] (getMethod ov m pl)
   callWith pos f first (backTo pos (starEach (e::es) X.env)) (backToKw pos (keywordEach [] X.env))):=by rfl) :
  PE X (.Call (.Attribute o m apos) (e::es) [] pos) (Wg C m sp dG E ta t):=by
 intro pins s σ H Q I h
 refine PySem.W.methodCall_KW (pl:=pl) (aT (he pins s σ H _ I h) λu s1 ⟨x,H1,I1,rx,a,dx,fs,ex,ea,l,q⟩=>?_) ht
 subst ex
 obtain rfl:u=Value.ref a:=rx
 refine MK I1 ea c hm l ?_
 refine Ca (first:=[.ref a]) (h₀:=X.base) I.ok.mod.c_ hm.kp (aT (ha pos pins s1 σ H1 _ I1 q) λus s2 ⟨vs,H2,I2,r,q2⟩=>⟨I2.dj,?_⟩) Au jo
 exact MP (us:=.ref a::us) (vs:=.ref a::vs) F hr hb hd hx I2 (.cons rfl r) q2
structure Mk (K:aE) (C f:Addr):Prop where
 makes:PySem.W.makesIn K C=true
 init:PySem.W.findIn K (.ref C) "__init__"=some (some (.ref f))
 fn:PySem.W.isFn K (.ref f)=true
 kp:PySem.W.keepIn K (.ref C)=true
theorem Wi{vs:List V}(M:Mk X.K C f)(F:aN X.prog X.w X.K X.mg X.base CX k f fd ps sp)(hr:dc (k+1) X.A)(hb:Binds X.K fd ps ds)(hd:Vals dG ds)
  (hx:Passes CX X E) (I:Inv X pins σ H s) (r:Vals vs us)
  (h:∀x dx,H x=none->H dx=none->dx≠x->sp (.ref x::(vs++dG)) (upd (upd H dx (.own x)) x (.ins C dx [])) (λv H2=>v=.aO/\Q (.ref x) H2) E) :
  wpAny (model X.prog X.w) X.A (call (.ref C) us) (EP X pins σ Q) X.xe s:=by
 have hq:=h (s.heap.objs.size+1) s.heap.objs.size (I.aB.fresh (og _)) (I.aB.fresh (aV _)) (dY (B9 _));have I2:=Inv.made (C:=C) I;have r2:Vals (V.ref (s.heap.objs.size+1)::(vs++dG)) (Value.ref (s.heap.objs.size+1)::(us++ds)):=.cons rfl (r.append hd);have hl:(Value.ref (s.heap.objs.size+1)::us++ds).length=ps.length:=by have e:=r2.length;rw [F.len _ _ _ _ hq] at e;exact e.symm
 refine wpAny_call (V0 (f:=f) I.dj M.makes M.init (mS.mp M.fn) (zW (F.run _ X.stack _ _ ⟨Value.ref (s.heap.objs.size+1)::us,[]⟩ (Value.ref (s.heap.objs.size+1)::(us++ds)) _ _ E (hr.make C us [])
  (I2.G2.make C us []) (hb _ (Value.ref (s.heap.objs.size+1)::us) I2.dj hl) r2 hq) λr s' eQ=>?_))
 cases r with
 | error e=>exact hx pins σ _ _ e s' I2 eQ
 | ok fl=>
  cases fl with
  | ret u=>obtain ⟨v,H',I3,rv,ev,q3⟩:=I2.after eQ;subst ev;exact ⟨rv,(bi (V.ref (s.heap.objs.size+1)) H' I3 rfl q3)⟩
  | next=>exact False.elim eQ
  | brk=>exact False.elim eQ
  | cont=>exact False.elim eQ
theorem Wj(M:Mk X.K C f)(F:aN X.prog X.w X.K X.mg X.base CX k f fd ps sp)(hr:dc (k+1) X.A)(hg:Gl X x)(hm:X.mg x=some (.ref C))(hb:Binds X.K fd ps ds)(hd:Vals dG ds)(hx:Passes CX X E)
  (ha:PA X (e::es) t) (l8:(x == ("__debug__":Str))=false:=by decide) (he:starEach (e::es) X.env=(false,eval e X.env)::starEach es X.env:=by rfl) (jo:(backTo pos (starEach es X.env)).any (·.1)=false:=by rfl) :
  PE X (.Call (.Name x p) (e::es) [] pos) (Wh C sp dG E t):=by
 intro pins s σ H Q I h;refine zX (v_ I hg hm ?_ l8);refine Ca (h₀:=X.base) I.ok.mod.c_ M.kp (aT (ha pos pins s σ H _ I h) λus s1 ⟨vs,H1,I1,r,q⟩=>⟨I1.dj,?_⟩) he jo;exact Wi M F hr hb hd hx I1 r q
end
section
variable {X:Cx} {CX:iJ} {k:Nat} {f C:Addr} {fd:FuncData} {ps ks:List Str} {sp:Sp} {E:XK} {x m:Str} {p pos apos MQ:Pos} {e o:Expr} {es:List Expr} {Wl:List Keyword} {te ta:TE} {t tk:TA} {nm:Option Str}
variable {g:List Value->List Value->List Value} {gV:List V->List V->List V}
end
structure aZ (N P:List Str) (sc:Scope):Prop where
 kind:sc.kind=.function
 co:sc.isCoroutine=false
 gen:sc.isGenerator=false
 nd:N.Nodup
 pre:N.take P.length=P
 par:∀x∈P,sc.names.lookup x=some .local\/sc.names.lookup x=some .cell
 Wm:∀y∈sc.names,y.2≠.free
variable {N:List Str} {sc:Scope}
theorem bf{P:List Str}(h1:sc.kind=.function:=by rfl)(h2:sc.isCoroutine=false:=by rfl)(h3:sc.isGenerator=false:=by rfl)(h4:N.Nodup:=by decide +kernel)(h5:N.take P.length=P:=by rfl)(h6:∀x∈P,sc.names.lookup x=some .local\/sc.names.lookup x=some .cell:=by decide +kernel)(h7:∀y∈sc.names,y.2≠.free:=by decide +kernel):aZ N P sc:=⟨h1,h2,h3,h4,h5,h6,h7⟩
theorem MR{kindOf:Str->Option NameKind}{x:Str}:∀{binds:List (Str×Value)} {m:cU},(∀v,(x,v)∉binds)->bindL kindOf binds m x=m x
 | [],_,_=>rfl
 | (n,v)::r,m,h=>by
  unfold bindL;rw [MR λw hw=>h w (je _ hw)]
  split
  ·have:x≠n:=by rintro rfl;exact h v n_
   simp [this]
  ·rfl
theorem MS{kindOf:Str->Option NameKind}{x:Str}:∀{binds:List (Str×Value)} {m:cU},(∀v,(x,v)∉binds)->bindC kindOf binds m x=m x
 | [],_,_=>rfl
 | (n,v)::r,m,h=>by
  unfold bindC;rw [MS λw hw=>h w (je _ hw)]
  split
  ·rfl
  ·have:x≠n:=by rintro rfl;exact h v n_
   simp [this]
theorem MT{kindOf:Str->Option NameKind}{x:Str}{v:Value}:∀{P:List Str} {vs:List Value} {i:Nat} {m:cU},P.Nodup->P[i]?=some x->vs[i]?=some v->kindOf x=some .local->
  bindL kindOf (P.zip vs) m x=some v
 | [],_,_,_,_,h,_,_=>by simp at h
 | _::_,[],_,_,_,_,h,_=>by simp at h
 | p::P,w::vs,0,m,nd,h1,h2,hk=>by simp at h1 h2;subst h1;subst h2;show bindL kindOf ((p,w)::P.zip vs) m p=_;unfold bindL;rw [MR λv hv=>(zY.mp nd).1 (List.of_mem_zip hv).1,aq hk];simp
 | p::P,w::vs,i+1,m,nd,h1,h2,hk=>by show bindL kindOf ((p,w)::P.zip vs) m x=_;unfold bindL;exact MT (i:=i) (zY.mp nd).2 (by simpa using h1) (by simpa using h2) hk
theorem MU{kindOf:Str->Option NameKind}{x:Str}{v:Value}:∀{P:List Str} {vs:List Value} {i:Nat} {m:cU},P.Nodup->P[i]?=some x->vs[i]?=some v->kindOf x≠some .local->
  bindC kindOf (P.zip vs) m x=some v
 | [],_,_,_,_,h,_,_=>by simp at h
 | _::_,[],_,_,_,_,h,_=>by simp at h
 | p::P,w::vs,0,m,nd,h1,h2,hk=>by simp at h1 h2;subst h1;subst h2;show bindC kindOf ((p,w)::P.zip vs) m p=_;unfold bindC;rw [MS λv hv=>(zY.mp nd).1 (List.of_mem_zip hv).1,az hk];simp
 | p::P,w::vs,i+1,m,nd,h1,h2,hk=>by show bindC kindOf ((p,w)::P.zip vs) m x=_;unfold bindC;exact MU (i:=i) (zY.mp nd).2 (by simpa using h1) (by simpa using h2) hk
def start(N:List Str)(vs:List V):St:=vs.map some++List.replicate (N.length-vs.length) none
def jX(CX:iJ)(P:Program)(w:World)(K:aE)(mg:cU)(base:Heap)(N:List Str)(qual:Str)(scope:Scope)(f:Addr)(cd:Value)(A:Around)(outer:List Env)(s:Shared)(H:Hp)(E:XK):Cx where
 prog:=P
 w:=w
 K:=K
 mg:=mg
 base:=base
 A:=A.deeper (envOfC qual scope s.heap.objs.size f cd)
 N:=N
 s₀:=s
 H₀:=H
 env:=envOfC qual scope s.heap.objs.size f cd
 outer:=outer
 stack:=envOfC qual scope s.heap.objs.size f cd::outer
 ex:=[]
 calm:=true
 fn:=λ_=>true
 pn:=[]
 xe:=λe s'=>wpAny (model P w) (A.deeper (envOfC qual scope s.heap.objs.size f cd)) (leaving (envOfC qual scope s.heap.objs.size f cd) e) (λ_ iK=>CX outer H s E e iK) (λe' iK=>CX outer H s E e' iK) s'
theorem MV{x:Str}(h:sc.names.lookup x=some .cell):∃c,(cellsFrom n sc.names []).lookup x=some c:=by have q:=PySem.W.cellsFrom_some sc.names n [] (.inl h);exact Gm.mp q
variable {CX:iJ} {qual:Str} {scope:Scope} {f:Addr}
theorem Wn{cd:Value}{s1:Shared}{E:XK}{vs:List V}
  (S:aZ N ps scope) (hd:A.handled=none) (e0:rP P w K mg base A outer s H) (hl:vs.length=ps.length) (r:Vals vs us)
  (x:InCallC s s.heap.objs.size (bindL (envOfC qual scope s.heap.objs.size f cd).kindOf (ps.zip us) λ_=>none) (cellsFrom (s.heap.objs.size+1) scope.names []) (bindC (envOfC qual scope s.heap.objs.size f cd).kindOf (ps.zip us) λ_=>none) s1) :
  Inv (jX CX P w K mg base N qual scope f cd A outer s H E) [] (start N vs) H s1:=by
 have jo:ps.length<=N.length:=by have:=hV List.length S.pre;rw [oh] at this;lia
 obtain ⟨h1,tk,rfl,hk⟩:=x.done;have AA:∀b:Addr,b∉(jX CX P w K mg base N qual scope f cd A outer s H E).ex:=λb z=>absurd (show b∈([]:List Addr) from z) (by simp)
 refine ⟨⟨e0.mod,S.kind,rfl,rfl,aV _,λy z c h1 h2=>?_,λy hy=>?_,λy c _ h=>?_,λ_=>hd,Around.frames_deeper e0.frames,.inr ⟨rfl,rfl⟩,λb z=>absurd z (AA b),e0.bs,e0.gY,λb _ _=>AA b,λb z=>absurd z (AA b),e0.jT,e0.m5⟩,
  rfl,e0.bare,Un.kept hk,(ad _ x.toInCall.ns (λi y v h1 h2 h3=>?_)),λy c h=>⟨_,x.cell y c h⟩,e0.aB.fresh (aV _),λy c h=>?_,λp hp=>absurd (show p∈([]:a7) from hp) (by simp),e0.aB.kept hk,?_⟩
 ·exact name_of_addr x.apart (kz h1) (kz h2)
 ·have hy:scope.names.lookup y=some .cell\/scope.names.lookup y=some .free:=hy
  rcases hy with hy | hy;·exact MV hy
  ·exact absurd rfl (S.Wm _ (kz hy))
 ·exact zU (x.above y c (kz h))
 ·have hi:i<vs.length:=by
   unfold start at h2;by_cases hi:i<vs.length;·exact hi
   ·rw [oi (by simpa using hi)] at h2
    rw [List.getElem?_replicate] at h2
    split at h2 <;> cases h2
  have ha:vs[i]?=some v:=by
   unfold start at h2;rw [oj (by simpa using hi),bU] at h2
   cases e:vs[i]? with
   | none=>rw [e] at h2;cases h2
   | some a=>rw [e] at h2;cases h2;rfl
  obtain ⟨u,hu,rv⟩:=r.get ha;have hp:ps[i]?=some y:=by rw [<-S.pre,List.getElem?_take_of_lt ⋯];exact h1
  have MW:ps.Nodup:=by rw [<-S.pre];exact S.nd.sublist (List.take_sublist _ _)
  refine (ad u rv ?_);rcases S.par y (kA hp) with k | k;·exact .inl ⟨k,MT MW hp hu k⟩
  ·obtain ⟨c,e⟩:=MV (n:=s.heap.objs.size+1) k
   refine .inr (ib (.inl k) c e ?_);have q:=x.cell y c e;rw [MU MW hp hu (by show scope.names.lookup y≠_;rw [k];decide)] at q
   exact q
 ·exact e0.aB.fresh (zU (x.above y c (kz h)))
 ·unfold start
  show _=N.length;rw [dD,aR,List.length_replicate];lia
theorem G4{name:Str}{params:Arguments}{body:List Stmt}{dV kV doc pm bh ct oc:Value}{an od:Option Addr}
  {gH:Array (Option Value)} {sp:Sp} (lk:K.lookup f=some ⟨oc,od,.func (PySem.W.fnOf name qual params body scope dV kV doc pm an bh ct),gH⟩) (gG:PySem.W.codeIn K bh qual=true) (S:aZ N ps scope)
  (len:∀vs H Q E,sp vs H Q E->vs.length=ps.length)
  (l_:∀(A:Around) (outer:List Env) (s:Shared) (H:Hp) (vs:List V) (Q:VK) (E:XK),dc k (A.deeper (envOfC qual scope s.heap.objs.size f bh))->sp vs H Q E->
   ∃t,fb (jX CX P w K mg base N qual scope f bh A outer s H E) body t/\t {nx:=λ_ H'=>Q .aO H',rt:=Q} (start N vs) H) :
  aN P w K mg base CX (k+1) f (PySem.W.fnOf name qual params body scope dV kV doc pm an bh ct) ps sp:=by
 refine ⟨len,λA outer s H args us vs Q E hr e0 hb r kL=>?_⟩;have hl:=len _ _ _ _ kL;have KX:K.In s.heap:=e0.mod.c_.keeps λb o e=>(e0.bs b o e).1;have lim:s.heap.NoLimit:=e0.mod.nolimit.keeps λb o e=>(e0.bs b o e).1;have Wo:∀y∈ps.zip us,scope.names.lookup y.1=some .local\/(scope.names.lookup y.1=some .cell/\((cellsFrom (s.heap.objs.size+1) scope.names []).lookup y.1).isSome=true):=fun⟨n,v⟩ hy=>by
  rcases S.par n (List.of_mem_zip hy).1 with q | q;·exact .inl q
  ·exact .inr ⟨q,PySem.W.cellsFrom_some _ _ _ (.inl q)⟩
 refine codeAny_call_function hr.depth (KX _ _ lk) rfl S.co S.gen rfl (PySem.W.codeRec_of KX gG) (hb _ _ _ _ ?_);refine wpAny_newFunctionEnv_cells S.kind Wo λenv he s1 x=>?_;subst he;refine ⟨lim.keeps x.toInCall.keep,codeAny_func ?_⟩;obtain ⟨t,ht,hq⟩:=l_ A outer s H vs Q E (hr.deeper _) kL;have I:Inv (jX CX P w K mg base N qual scope f bh A outer s H E) [] (start N vs) H s1:=Wn S hr.hd e0 hl r x;refine bT (ht [] s1 (start N vs) H _ I hq) (λfl s' hs=>?_) λe s' hs=>hs;have fin:∀{σ':St} {H':Hp} {v:V} {u:Value},Inv (jX CX P w K mg base N qual scope f bh A outer s H E) [] σ' H' s'->RelV v u->Q v H'->CE outer P w H s Q u s':=
  fun{σ' H' v u} J rv q=>⟨v,H',J.os,J.bare,J.base,J.aB,rv,q⟩
 cases fl with
 | ret u=>intros bv14 hs v σ' H' J rv q;exact fin J rv q
 | next=>intros bv3 hs σ' H' J q;exact fin (v:=V.aO) (u:=Value.none) J rfl q
 | brk=>intros bv3 hs _ _ _ q;exact False.elim q
 | cont=>intros bv3 hs _ _ _ q;exact False.elim q
section
variable {X:Cx} {x:Str} {p pos:Pos} {e:Expr} {es:List Expr} {t:TA} {id T:String} {r:List V->Hp->VK->Prop}
def G5(r:List V->Hp->VK->Prop)(t:TA):TE:=λσ H Q=>t σ H λvs H1=>r vs H1 Q
theorem bS(hc:gZ X (.builtin id) r)(hg:Gl X x)(hm:X.mg x=none)(hv:bootBuiltins x=some (.builtin id))(ha:PA X (e::es) t)(hn:x ≠ "__name__":=by decide)(l8:(x == ("__debug__":Str))=false:=by decide)
  (he:starEach (e::es) X.env=(false,eval e X.env)::starEach es X.env:=by rfl) (jo:(backTo pos (starEach es X.env)).any (·.1)=false:=by rfl):PE X (.Call (.Name x p) (e::es) [] pos) (G5 r t):=by
 intro pins s σ H Q I h;refine zX (pS I hg hm hv ?_ hn l8);exact PyProof.Rows.callWith_builtin1 (aT (ha pos pins s σ H _ I h) λus s1 ⟨vs,H1,I1,r1,q1⟩=>hc pins s1 σ H1 vs us Q I1 r1 q1) he jo
theorem jY(hc:gZ X (.type T) r)(hg:Gl X x)(hm:X.mg x=none)(hv:bootBuiltins x=some (.type T))(ha:PA X (e::es) t)(hn:x ≠ "__name__":=by decide)(l8:(x == ("__debug__":Str))=false:=by decide)
  (he:starEach (e::es) X.env=(false,eval e X.env)::starEach es X.env:=by rfl) (jo:(backTo pos (starEach es X.env)).any (·.1)=false:=by rfl):PE X (.Call (.Name x p) (e::es) [] pos) (G5 r t):=by
 intro pins s σ H Q I h;refine zX (pS I hg hm hv ?_ hn l8);exact vM (aT (ha pos pins s σ H _ I h) λus s1 ⟨vs,H1,I1,r1,q1⟩=>hc pins s1 σ H1 vs us Q I1 r1 q1) he jo
end
end L2
namespace HT
open PySem PyProof.Rows
section
open PySem.SeqAt
open PySem.AutoSeq1 (wpAny_loadPart')
open PySem.MeetsSeq PySem.MeetsSeq2 PySem.MeetsSeq3
end
section
variable {prog:Program} {w:World} {A:Around} {E:aX} {s:Shared}
def fU(n d:Nat):Option Int->Nat
 | none=>d
 | some v=>if v<0 then (v+(n:Int)).toNat else min v.toNat n
theorem MX(n d:Nat):fU n d none=d:=rfl
theorem MY(n d k:Nat):fU n d (some (k:Int))=min k n:=by
 show (if (k:Int)<0 then ((k:Int)+(n:Int)).toNat else min (k:Int).toNat n)=min k n
 rw [az ⋯,dE]
end
end HT
namespace L2
open PySem PySem.Spec PyProof.Rows
abbrev TO:=St->Hp->(Option Int->Hp->Prop)->Prop
def PO(X:Cx)(e:Option Expr)(t:TO):Prop:=
 ∀(pins:a7) (s:Shared) (σ:St) (H:Hp) (Q:Option Int->Hp->Prop),Inv X pins σ H s->t σ H Q->
  wpAny (model X.prog X.w) X.A (evalPart e X.env) (λu s'=>∃o H',Inv X pins σ H' s'/\IsPart u o/\Q o H') X.xe s
def wm:TO:=λ_ H Q=>Q none H
def Wq(t:TE):TO:=λσ H Q=>t σ H λx H1=>∃i,x=.int i/\Q (some i) H1
theorem intsAre_of{ns:List Int}:∀{us:List Value},Vals (ns.map V.int) us->IntsAre us ns:=by
 induction ns with
 | nil=>intro us r;rw [List.map_nil] at r;cases r;exact .nil
 | cons n ns ih=>
  intro us r;rw [ky] at r;cases r with
  | cons r1 r2=>obtain ⟨t,e⟩:=r1;subst e;exact .cons n t (ih r2)
section
variable {X:Cx} {e:Expr} {te:TE} {lo hi:Option Expr} {tl th:TO} {pos p2:Pos}
theorem jq:PO X none wm:=by intro pins s σ H Q I h;rw [evalPart_none];exact dZ ⟨none,H,I,.none,h⟩
theorem jr(h:PE X e te):PO X (some e) (Wq te):=by intro pins s σ H Q I hw;rw [evalPart_some];refine aT (h pins s σ H _ I hw) λu s1 ⟨x,H1,I1,r1,q1⟩=>?_;obtain ⟨i,rfl,q⟩:=q1;obtain ⟨t,rfl⟩:=r1;exact ⟨some i,H1,I1,.int i t,q⟩
def G6(X:Cx)(r:V->Option Int->Option Int->Hp->VK->Prop):Prop:=
 ∀(pins:a7) (s:Shared) (σ:St) (H:Hp) (x:V) (v vl vu:Value) (lo hi:Option Int) (sl:Addr) (Q:VK),Inv X pins σ H s->RelV x v->s.heap.IsSliceOf sl vl vu .none->IsPart vl lo->IsPart vu hi->r x lo hi H Q->
  ∃T id,typeLookup (.type T) "__getitem__"=pure (some (.builtin id))/\s.TypeIs v T/\wpAny (model X.prog X.w) X.A (getItem v (.ref sl)) (EP X pins σ Q) X.xe s
def rQ(r:V->Option Int->Option Int->Hp->VK->Prop)(te:TE)(tl th:TO):TE:=λσ H Q=>te σ H λx H1=>tl σ H1 λl H2=>th σ H2 λu H3=>r x l u H3 Q
theorem jt{r:V->Option Int->Option Int->Hp->VK->Prop}(hr:G6 X r)(he:PE X e te)(hl:PO X lo tl)(hu:PO X hi th):PE X (.Subscript e (.Slice lo hi none p2) pos) (rQ r te tl th):=by intro pins s σ H Q I h;refine Subscript_ (aT (he pins s σ H _ I h) λv s1 ⟨x,H1,I1,r1,q1⟩=>?_);refine wpAny_Slice (aT (hl pins s1 σ H1 _ I1 q1) λvl s2 ⟨l,H2,I2,pl,q2⟩=>aT (hu pins s2 σ H2 _ I2 q2) λvu s3 ⟨u,H3,I3,pu,q3⟩=>?_);rw [evalPart_none];refine dZ ?_;have I4:Inv X pins σ H3 {s3 with heap:=s3.heap.push {cls:=.type "slice",data:=.fields #[vl,vu,.none]}}:=I3.kept (t':=s3.toks) λb ob q=>cx _ q;obtain ⟨T,id,hT,ht,hg⟩:=hr pins {s3 with heap:=s3.heap.push {cls:=.type "slice",data:=.fields #[vl,vu,.none]}} σ H3 x v vl vu l u s3.heap.objs.size Q I4 r1 (Heap.IsSliceOf.new ..) pl pu q3;show wpAny (model X.prog X.w) X.A (subscriptTail e (.Slice lo hi none p2) v (.ref s3.heap.objs.size)) (EP X pins σ Q) X.xe {s3 with heap:=s3.heap.push {cls:=.type "slice",data:=.fields #[vl,vu,.none]}};exact tail_any (ops:=[.ref s3.heap.objs.size,v]) ht hT hg (by with_unfolding_all rfl)
def gI(xs:List V)(lo hi:Option Int):List V:=(xs.drop (HT.fU xs.length 0 lo)).take (HT.fU xs.length xs.length hi-HT.fU xs.length 0 lo)
theorem Wr(xs:List V)(lo hi:Option Int):(gI xs lo hi).length<=xs.length:=by unfold gI;rw [oh,vN];lia
end
def m_(n:Nat)(i:Int):Option Nat:=if 0<=i then (if i<n then some i.toNat else none) else if -(n:Int)<=i then some (i+n).toNat else none
def ir{α:Type}(xs:List α)(i:Int):Option α:=(m_ xs.length i).bind λj=>xs[j]?
variable {i:Int} {j:Nat}
theorem MZ{n:Nat}(h:m_ n i=some j):seqIndex? i n=some j/\j<n/\-(n:Int)<=i/\i<n:=by
 unfold m_ at h;by_cases h0:0<=i
 ·rw [aq h0] at h
  by_cases h1:i<n
  ·rw [aq h1] at h
   have e:i.toNat=j:=Option.some.inj h;exact ⟨by rw [seqIndex_of h0 h1,e],⋯,⋯,h1⟩
  ·rw [az h1] at h;cases h
 ·rw [az h0] at h
  by_cases h1:-(n:Int)<=i
  ·rw [aq h1] at h
   have e:(i+n).toNat=j:=Option.some.inj h;exact ⟨by rw [seqIndex_neg ⋯ h1,e],⋯,h1,⋯⟩
  ·rw [az h1] at h;cases h
theorem M0{α:Type}{xs:List α}{v:α}(h:ir xs i=some v):∃j,seqIndex? i xs.length=some j/\xs[j]?=some v/\j<xs.length/\-(xs.length:Int)<=i/\i<xs.length:=by
 unfold ir at h;cases e:m_ xs.length i with
 | none=>rw [e] at h;cases h
 | some j=>rw [e] at h;obtain ⟨h1,h2,h3,h4⟩:=MZ e;exact ⟨j,h1,h,h2,h3,h4⟩
theorem kM{α:Type}{xs:List α}{v:α}(h:xs[j]?=some v):ir xs (j:Int)=some v:=by
 have hj:j<xs.length:=(bK.mp h).1;have e:m_ xs.length (j:Int)=some j:=by unfold m_;rw [aq ⋯,aq ⋯];simp
 unfold ir;rw [e];exact h
def M1(b:Expr):Prop:=∀o i,subscripted b false o i=operate [o,i] (getItem o i)
def wo(X:Cx)(r:R2):Prop:=
 ∀(value slice:Expr) (pins:a7) (s:Shared) (σ:St) (H:Hp) (x y:V) (v u:Value) (Q:VK),Inv X pins σ H s->RelV x v->RelV y u->r x y H Q->
  subscripted slice false v u=operate [v,u] (getItem v u)->wpAny (model X.prog X.w) X.A (subscriptTail value slice v u) (EP X pins σ Q) X.xe s
def wq(X:Cx)(id:String)(r:V->List V->Hp->VK->Prop):Prop:=
 ∀(pins:a7) (s:Shared) (σ:St) (H:Hp) (x:V) (xs:List V) (v:Value) (us:List Value) (Q:VK),Inv X pins σ H s->RelV x v->Vals xs us->r x xs H Q->
  wpAny (model X.prog X.w) X.A (call (.builtin id) (v::us)) (EP X pins σ Q) X.xe s
section
variable {X:Cx} {a b:Expr} {ta tb:TE} {pos:Pos}
theorem AB{r:R2}(hr:wo X r)(ha:PE X a ta)(hb:PE X b tb)(hs:M1 b):PE X (.Subscript a b pos) (oG r ta tb):=by intro pins s σ H Q I h;exact Subscript_ (GS ha hb I h λv u s2 x y H2 I2 rx ry q=>hr a b pins s2 σ H2 x y v u Q I2 rx ry q (hs _ _))
theorem ao{r:R2}(hr:wo X r)(ha:PE X a ta)(hb:PE X b tb)(hs:M1 b:=by exact λ_ _=>rfl):PE X (.Subscript a b pos) (oG r ta tb):=AB hr ha hb hs
def M3(K:aE):R2:=λx y H Q=>∃p xs i v,x=.ref p/\y=.int i/\bM K H p xs/\ir xs i=some v/\Q v H
def M4(K:aE):R2:=λx y H Q=>∃p xs i v,x=.ref p/\y=.int i/\eF K H p xs/\ir xs i=some v/\Q v H
theorem bw:wo X (M3 X.K):=by
 intro value slice pins s σ H x y v u Q I rx ry h hs;intros bv29 h p xs i z rfl rfl hq he q;cases rx;obtain ⟨t,rfl⟩:=ry;obtain ⟨ai,r,pl,hz⟩:=I.list hq;obtain ⟨j,h1,h2,h3,h4,h5⟩:=M0 he;obtain ⟨w,ew,dM⟩:=r.get h2;have hl:=r.length;have hn:=CK;have fin:EP X pins σ Q w s:=(bi z H I dM q);by_cases h0:0<=i
 ·have hj:i.toNat=j:=by rw [seqIndex_of h0 h5] at h1;exact Option.some.inj h1
  exact item_listR pl.isList h0 ⋯ (by rw [hj];simpa using ew) fin hs
 ·have hj:(i+(ai.toArray.size:Int)).toNat=j:=by
   rw [seqIndex_neg ⋯ h4] at h1
   rw [cM,<-hl];exact Option.some.inj h1
  exact subscriptTail_builtinR (x:=w) pl.isList.typeIs slot_list_getitem.lookup
   (wpAny_getItem_list_neg (Q:=λr s'=>r=w/\EP X pins σ Q r s') pl.isList ⋯ (by rw [cM] <;> lia) ⋯ (by rw [hj];simpa using ew) ⟨rfl,fin⟩) hs
theorem aW:wo X (M4 X.K):=by
 intro value slice pins s σ H x y v u Q I rx ry h hs;intros bv29 h p xs i z rfl rfl hq he q;cases rx;obtain ⟨t,rfl⟩:=ry;obtain ⟨ai,r,pl,hz⟩:=I.tuple hq;obtain ⟨j,h1,h2,h3,h4,h5⟩:=M0 he;obtain ⟨w,ew,dM⟩:=r.get h2;have hl:=r.length;have hn:=CK;have fin:EP X pins σ Q w s:=(bi z H I dM q)
 exact subscriptTail_builtinR (x:=w) pl.typeIs slot_tuple_getitem.lookup
  (getItem_tuple (j:=j) (Q:=λr s'=>r=w/\EP X pins σ Q r s') pl ⋯ ⋯ (by rw [cM,<-hl];exact h1) (by simpa using ew) ⟨rfl,fin⟩) hs
theorem Ws(ai:List Value)(n j:Nat)(u:Value):Obj.mapSeq (·.setIfInBounds j u) {cls:=.type "list",data:=.seq ai.toArray n}={cls:=.type "list",data:=.seq (ai.set j u).toArray n}:=by simp [Obj.mapSeq]
theorem Inv.lst{pins:a7}{σ:St}{H:Hp}{s:Shared}{p:Addr}{xs:List V}(I:Inv X pins σ H s)(h:H p=some (.lst xs)) :
  ∃(ai:List Value) (n:Nat),Vals xs ai/\s.heap.get? p=some {cls:=.type "list",data:=.seq ai.toArray n}/\xs.length<=sizeLine:=by
 obtain ⟨z,ai,n,r,e⟩:=I.aB p _ h;exact (bi ai n r e z)
variable {pins:a7} {σ:St} {H:Hp} {s:Shared}
theorem Inv.Wu{p:Addr}{xs ys:List V}{ai its':List Value}{n n':Nat}{f:Obj->Obj}(I:Inv X pins σ H s)(h:H p=some (.lst xs))
  (ho:s.heap.get? p=some {cls:=.type "list",data:=.seq ai.toArray n}) (hf:f {cls:=.type "list",data:=.seq ai.toArray n}={cls:=.type "list",data:=.seq its'.toArray n'}) (r:Vals ys its') (hz:ys.length<=sizeLine) (t:Nat) :
  Inv X pins σ (upd H p (.lst ys)) {s with heap:=s.heap.update p f,toks:=t}:=by
 have e:(s.heap.update p f).get? p=some {cls:=.type "list",data:=.seq its'.toArray n'}:=by rw [Heap.get?_update_self f ho (by rw [hf] <;> rfl),hf]
 refine I.write (x:=p) (e:=p) (by rw [h];trivial) (.inl rfl) (λb u hb q=>(Heap.get?_update_other _ _ (Ne.symm hb)).trans q) ⟨_,e⟩ ?_
 exact ⟨hz,its',n',r,e⟩
def Wv:V->V->V->Hp->(Hp->Prop)->Prop:=λo i v H Q=>∃p xs k j,o=.ref p/\i=.int k/\H p=some (.lst xs)/\m_ xs.length k=some j/\Q (upd H p (.lst (xs.set j v)))
theorem set_list:Ms X Wv:=by
 intro pins s σ H o i v ov iv u Q I ro ri rv h;intros bv29 h p xs k j rfl rfl hp hj q;cases ro;obtain ⟨t,rfl⟩:=ri;obtain ⟨ai,n,r,ho,hz⟩:=I.lst hp;obtain ⟨h1,h2,h3,h4⟩:=MZ hj;have hl:=r.length;have hn:=CK;have I':Inv X pins σ (upd H p (.lst (xs.set j v))) {s with heap:=s.heap.update p (Obj.mapSeq (·.setIfInBounds j u))}:=
  I.Wu hp ho (Ws ai n j u) (r.set rv j) (by rw [List.length_set];exact hz) s.toks
 by_cases h0:0<=k
 ·have hk:k.toNat=j:=by rw [seqIndex_of h0 h4] at h1;exact Option.some.inj h1
  exact PySem.W.ki_setAt ho h0 ⋯ (by rw [cM,<-hl];exact h4) (by rw [hk];exact (ad _ I' q))
 ·have hk:(k+(ai.toArray.size:Int)).toNat=j:=by
   rw [seqIndex_neg ⋯ h3] at h1
   rw [cM,<-hl];exact Option.some.inj h1
  exact PySem.W.ki_setBack ho ⋯ (by rw [cM,<-hl];exact h3) ⋯ (by rw [hk];exact (ad _ I' q))
theorem Ww(lo hi:Option Int)(n:Nat):(sliceBounds lo hi none n).1=((HT.fU n 0 lo:Nat):Int)/\(sliceBounds lo hi none n).2.1=((HT.fU n n hi:Nat):Int)/\(sliceBounds lo hi none n).2.2=1:=by
 refine ⟨?_,?_,rfl⟩
 ·cases lo with
  | none=>simp [sliceBounds,HT.fU]
  | some i=>
   simp only [sliceBounds,HT.fU,Option.getD_none,show (1:Int)>0 by decide,if_true]
   by_cases h:i<0;·simp only [h,if_true] <;> lia
   ·simp only [h,if_false] <;> lia
 ·cases hi with
  | none=>simp [sliceBounds,HT.fU]
  | some i=>
   simp only [sliceBounds,HT.fU,Option.getD_none,show (1:Int)>0 by decide,if_true]
   by_cases h:i<0;·simp only [h,if_true] <;> lia
   ·simp only [h,if_false] <;> lia
theorem Wx(ai:List Value)(lo hi:Option Int):slicePick ai.toArray lo hi none=((ai.drop (HT.fU ai.length 0 lo)).take (HT.fU ai.length ai.length hi-HT.fU ai.length 0 lo)).toArray:=by obtain ⟨h1,h2,h3⟩:=Ww lo hi ai.toArray.size;unfold slicePick;rw [h1,h2,h3];simp only [sliceRange_one,pick_run,cM] <;> rfl
def p4(K:aE):V->Option Int->Option Int->Hp->VK->Prop:=λx lo hi H Q=>∃a xs,x=.ref a/\bM K H a xs/\∀p,H p=none->Q (.ref p) (upd H p (.lst (gI xs lo hi)))
theorem ju:G6 X (p4 X.K):=by
 intro pins s σ H x v vl vu lo hi sl Q I rx hs pl pu h;intros bv7 h a xs rfl hx q;cases rx;obtain ⟨ai,r,ht,hz⟩:=I.list hx;have hlen:=r.length;refine (bi ("list") _ slot_list_getitem.lookup ht.isList.typeIs ?_);refine wpAny_getItem_list_slice ht.isList hs pl pu .none (by simp) ?_ (by rw [cM] <;> lia)
 rw [Wx,<-hlen];refine ⟨.ref s.heap.objs.size,_,I.laid (t':=s.toks) (o:=.lst (gI xs lo hi)) (λb ob q=>cx _ q) (aV _) ?_,rfl,q _ (I.aB.fresh (aV _))⟩;exact ⟨aM (Wr xs lo hi) hz,_,0,(r.drop (HT.fU xs.length 0 lo)).take (HT.fU xs.length xs.length hi-HT.fU xs.length 0 lo),fN _ rfl⟩
def jZ:V->Bool
 | .aO=>true
 | .bl _=>true
 | .int _=>true
 | .str _=>true
 | _=>false
def kN:V->V->Bool
 | .aO,.aO=>true
 | .bl a,.bl b=>a == b
 | .bl a,.int b=>(if a then 1 else 0) == b
 | .int a,.bl b=>a == (if b then 1 else 0)
 | .int a,.int b=>a == b
 | .str a,.str b=>a == b
 | _,_=>false
variable {x:V} {v:Value}
theorem rR{A:Around}{y:V}{u:Value}(ry:RelV y u)(rx:RelV x v)(fy:jZ y=true)(fx:jZ x=true):SeqAt.EqAt A s u v (kN y x):=by
 cases y with
 | aO=>
  cases ry;cases x with
  | aO=>cases rx;exact SeqAt.EqAt.same _
  | bl b=>cases rx;exact SeqAt.EqAt.none_bool b
  | int b=>obtain ⟨t,rfl⟩:=rx;exact SeqAt.EqAt.none_int b t
  | str b=>obtain ⟨t,rfl⟩:=rx;exact SeqAt.EqAt.none_str b t
  | _=>exact absurd (show false=true from fx) dC
 | bl a=>
  cases ry;cases x with
  | aO=>cases rx;exact SeqAt.EqAt.bool_none a
  | bl b=>cases rx;exact SeqAt.EqAt.bool_bool a b
  | int b=>obtain ⟨t,rfl⟩:=rx;exact SeqAt.EqAt.bool_int a b t
  | str b=>obtain ⟨t,rfl⟩:=rx;exact SeqAt.EqAt.bool_str a b t
  | _=>exact absurd (show false=true from fx) dC
 | int a=>
  obtain ⟨t',rfl⟩:=ry;cases x with
  | aO=>cases rx;exact SeqAt.EqAt.int_none a t'
  | bl b=>cases rx;exact SeqAt.EqAt.int_bool a t' b
  | int b=>obtain ⟨t,rfl⟩:=rx;exact SeqAt.EqAt.int_int a t' b t
  | str b=>obtain ⟨t,rfl⟩:=rx;exact SeqAt.EqAt.int_str a t' b t
  | _=>exact absurd (show false=true from fx) dC
 | str a=>
  obtain ⟨t',rfl⟩:=ry;cases x with
  | aO=>cases rx;exact SeqAt.EqAt.str_none a t'
  | bl b=>cases rx;exact SeqAt.EqAt.str_bool a t' b
  | int b=>obtain ⟨t,rfl⟩:=rx;exact SeqAt.EqAt.str_int a t' b t
  | str b=>obtain ⟨t,rfl⟩:=rx;exact SeqAt.EqAt.str_str a t' b t
  | _=>exact absurd (show false=true from fx) dC
 | _=>exact absurd (show false=true from fy) dC
theorem eJ:gZ X (.builtin "len") (λxs H Q=>∃p ys,xs=[.ref p]/\(bM X.K H p ys\/eF X.K H p ys)/\Q (.int ys.length) H):=by
 intro pins s σ H xs us Q I r h;intros bv7 h p ys rfl hq q;obtain ⟨u,rfl,rx⟩:=vals1 r;cases rx;have hn:=CK;rcases hq with hq | hq
 ·obtain ⟨ai,r',pl,hz⟩:=I.list hq
  have hlen:=r'.length;exact Calls.call_len_list pl.isList (by simp only [cM] <;> lia) ⟨.int ys.length,H,I.tok _,⟨s.toks+1,by rw [cM,hlen]⟩,q⟩
 ·obtain ⟨ai,r',pl,hz⟩:=I.tuple hq
  have hlen:=r'.length;exact len_tuple pl (by simp only [cM] <;> lia) ⟨.int ys.length,H,I.tok _,⟨s.toks+1,by rw [cM,hlen]⟩,q⟩
theorem CM:gZ X (.type "list") (λxs H Q=>∃p ys,xs=[.ref p]/\(bM X.K H p ys\/eF X.K H p ys)/\∀l,H l=none->Q (.ref l) (upd H l (.lst ys))):=by
 intro pins s σ H xs us Q I r h;intros bv7 h p ys rfl hq q;obtain ⟨u,rfl,rx⟩:=vals1 r;cases rx
 have fin:∀(ai:List Value),Vals ys ai->ys.length<=sizeLine->∀(h':Heap) (c':Nat),(∀b o',s.heap.get? b=some o'->h'.get? b=some o')->
   h'.get? s.heap.objs.size=some {cls:=.type "list",dict:=none,data:=.seq ai.toArray c',slots:=#[]}->EP X pins σ Q (.ref s.heap.objs.size) {s with heap:=h'}:=λai r' hz h' c' kp e=>
  ⟨.ref s.heap.objs.size,_,I.laid (t':=s.toks) kp (aV _) (show cN X.prog X.w _ h' _ (.lst ys) from ⟨hz,ai,c',r',e⟩),rfl,q _ (I.aB.fresh (aV _))⟩
 rcases hq with hq | hq
 ·obtain ⟨ai,r',pl,hz⟩:=I.list hq
  have hlen:=r'.length;obtain ⟨o,ho,hc,n,hd⟩:=pl.isList;exact call_list_seq p (.inl rfl) ho hc hd (λh' c' kp e=>fin ai r' hz h' c' kp e) (by simp only [cM] <;> lia)
 ·obtain ⟨ai,r',pl,hz⟩:=I.tuple hq
  have hlen:=r'.length;intros bv4 pl o ho hc bvE n hd;exact call_list_seq p (.inr rfl) ho hc hd (λh' c' kp e=>fin ai r' hz h' c' kp e) (by simp only [cM] <;> lia)
theorem Wy:gZ X (.type "tuple") (λxs H Q=>∃p ys,xs=[.ref p]/\((bM X.K H p ys/\∀l,H l=none->Q (.ref l) (upd H l (.tup ys)))\/(eF X.K H p ys/\Q (.ref p) H))):=by
 intro pins s σ H xs us Q I r h;intros bv3 h p ys rfl h;obtain ⟨u,rfl,rx⟩:=vals1 r;cases rx;rcases h with ⟨hq,q⟩ | ⟨hq,q⟩
 ·obtain ⟨ai,r',pl,hz⟩:=I.list hq
  have hlen:=r'.length;refine call_tuple_list pl.isList (λh' kp=>?_) (by simp only [cM] <;> lia)
  have I1:Inv X pins σ H {s with heap:=h'}:=I.kept (t':=s.toks) kp;have I2:Inv X pins σ (upd H h'.objs.size (.tup ys)) {s with heap:=h'.push {cls:=.type "tuple",data:=.seq ai.toArray}}:=
   I1.laid (t':=s.toks) (λb o e=>cx _ e) (aV _) (show cN X.prog X.w _ _ _ (.tup ys) from (ib hz ai r' (IsTup.new _ _)))
  exact ⟨.ref h'.objs.size,_,I2,rfl,q _ (I1.aB.fresh (aV _))⟩
 ·obtain ⟨ai,r',pl,hz⟩:=I.tuple hq
  exact call_tuple_same pl ⟨.ref p,H,I,rfl,q⟩
def G7(K:aE)(T:String)(x:V)(H:Hp):Prop:=match x with
 | .str _=>T="str"
 | .int _=>T="int"
 | .ref p=>(T="list"/\∃xs,bM K H p xs)\/(T="tuple"/\∃o,K.lookup p=some o/\o.cls=.type "tuple"/\o.dict=none) \/
   (T="dict"/\((∃ar,H p=some (.dK ar))\/∃ar,H p=some (.dT ar)))\/(T="set"/\∃S n,H p=some (.set S n))
 | _=>False
theorem M5{T:String}(I:Inv X pins σ H s)(r:RelV x v)(ty:G7 X.K T x H) :
  s.TypeIs v T/\∀a,v=.ref a->∃ob,s.heap.get? a=some ob/\ob.dict=none:=by
 cases x with
 | str z=>obtain ⟨t,rfl⟩:=r;cases (show T="str" from ty);exact ⟨typeIs_str s z t,λ_ e=>nomatch e⟩
 | int i=>obtain ⟨t,rfl⟩:=r;cases (show T="int" from ty);exact ⟨typeIs_int s i t,λ_ e=>nomatch e⟩
 | ref p=>
  cases r;rcases ty with ⟨rfl,xs,hq⟩ | ⟨rfl,o,hk,hc,hd⟩ | ⟨rfl,hk⟩ | ⟨rfl,S,n,hk⟩
  ·obtain ⟨ai,_,pl,_⟩:=I.list hq
   refine ⟨pl.isList.typeIs,λa e=>?_⟩;cases e;intros bv10 pl o n e c hd _;exact (ad o e hd)
  ·refine ⟨⟨o,I.dj p o hk,hc⟩,λa e=>?_⟩
   cases e;exact ⟨o,I.dj _ o hk,hd⟩
  ·have z:∃o,s.heap.get? p=some o/\o.ExactDict:=by
    rcases hk with ⟨ar,hk⟩ | ⟨ar,hk⟩
    ·obtain ⟨_,_,_,_,o,_,_,e,ex,_⟩:=I.aB p _ hk
     exact ⟨o,e,ex⟩
    ·obtain ⟨_,_,_,_,o,_,_,e,ex,_⟩:=I.aB p _ hk
     exact ⟨o,e,ex⟩
   intros bv2 z o e ex;refine ⟨(ad o e ex.1),λa e2=>?_⟩;cases e2;exact (ad o e ex.2.1)
  ·obtain ⟨o,_,_,_,e,ex,_⟩:=I.aB p _ hk
   refine ⟨(ad o e ex.1),λa e2=>?_⟩;cases e2;exact (ad o e ex.2.1)
 | _=>exact False.elim ty
def Wz(K:aE)(T:String)(r:V->List V->Hp->VK->Prop)(to:TE):TE:=λσ H Q=>to σ H λx H1=>G7 K T x H1/\r x [] H1 Q
def M6(K:aE)(T:String)(r:V->List V->Hp->VK->Prop)(to:TE)(t:TA):TE:=λσ H Q=>to σ H λx H1=>G7 K T x H1/\t σ H1 λxs H2=>r x xs H2 Q
variable {o e:Expr} {es:List Expr} {to:TE} {t:TA} {name:Str} {apos gi:Pos} {T id:String} {r:V->List V->Hp->VK->Prop}
theorem M7(pa:PlainAttrs T)(slot:Slot T name id)(AD:typeOf (.builtin id)=pure (.type "method_descriptor"))(hm:wq X id r)(ho:PE X o to)
  (oM:attributeBase o name X.env (eval o X.env)=eval o X.env:=by rfl) (AE:(apos.endLine == gi.line)=true:=by rfl):PE X (.Call (.Attribute o name apos) [] [] gi) (Wz X.K T r to):=by
 intro pins s σ H Q I h;refine wpAny_Call_method0_late oM AE (aT (ho pins s σ H _ I h) λv s1 ⟨x,H1,I1,r1,ty,q1⟩=>?_);obtain ⟨h1,h2⟩:=M5 I1 r1 ty;exact (sB T id pa slot AD h1 ⟨h2,Calls.callWith_builtin rfl (PySem.evalArgs_none (hm pins s1 σ H1 x [] v [] Q I1 r1 .nil q1))⟩)
theorem p5(pa:PlainAttrs T)(slot:Slot T name id)(AD:typeOf (.builtin id)=pure (.type "method_descriptor"))(hm:wq X id r)(ho:PE X o to)(ha:PA X (e::es) t)
  (oM:attributeBase o name X.env (eval o X.env)=eval o X.env:=by rfl)
  (G8:((backTo gi (starEach (e::es) X.env)).all (λx=>!x.1) && (backToKw gi (keywordEach [] X.env)).all (λx=>x.1.isSome)
   && decide ((e::es).length+([]:List Keyword).length+(if ([]:List Keyword).isEmpty then 0 else 1)<30))=true:=by rfl)
  (AE:(apos.endLine == gi.line)=true:=by rfl) (hs:starEach (e::es) X.env=(false,eval e X.env)::starEach es X.env:=by rfl) (G9:(backTo gi (starEach es X.env)).any (·.1)=false:=by rfl) :
  PE X (.Call (.Attribute o name apos) (e::es) [] gi) (M6 X.K T r to t):=by
 intro pins s σ H Q I h;refine wpAny_Call_method_late oM G8 AE rfl (aT (ho pins s σ H _ I h) λv s1 ⟨x,H1,I1,r1,ty,q1⟩=>?_);obtain ⟨h1,h2⟩:=M5 I1 r1 ty;refine (sB T id pa slot AD h1 ⟨h2,?_⟩);have hA:=ha gi pins s1 σ H1 _ I1 q1;rw [hs] at hA ⊢;refine Calls.callWith_builtin (by show (false || (backTo gi (starEach es X.env)).any (·.1))=false;rw [G9] <;> rfl) (Calls.evalArgs_plain ?_)
 exact aT hA λus s2 ⟨vs,H2,I2,r2,q2⟩=>hm pins s2 σ H2 x vs v us Q I2 r1 r2 q2
end
def wt(X:Cx)(id:String)(r:V->List V->Hp->VK->Prop):Prop:=
 ∀(pins:a7) (s:Shared) (σ:St) (H:Hp) (x:V) (xs:List V) (v:Value) (us:List Value) (Q:VK),Inv X pins σ H s->RelV x v->Vals xs us->r x xs H Q->
  wpAny (model X.prog X.w) X.A (call (.builtin id) (v::us)) (EP X pins σ Q) X.xe s
theorem Vals.one:∀{x:V} {us:List Value},Vals [x] us->∃u,us=[u]/\RelV x u
 | _,_,.cons r .nil=>⟨_,rfl,r⟩
theorem Vals.two:∀{x y:V} {us:List Value},Vals [x,y] us->∃u v,us=[u,v]/\RelV x u/\RelV y v
 | _,_,_,.cons r (.cons q .nil)=>(bi _ _ rfl r q)
theorem Vals.zero:∀{us:List Value},Vals [] us->us=[]
 | _,.nil=>rfl
variable {xs:List V} {us:List Value}
theorem Vals.dropLast(h:Vals xs us):Vals xs.dropLast us.dropLast:=by
 induction h with
 | nil=>exact .nil
 | cons r t ih=>
  cases t with
  | nil=>exact .nil
  | cons q t'=>exact .cons r ih
theorem Vals.reverse(h:Vals xs us):Vals xs.reverse us.reverse:=by
 induction h with
 | nil=>exact .nil
 | cons r t ih=>rw [List.reverse_cons,List.reverse_cons];exact Vals.append ih (.cons r .nil)
theorem Vals.rep{xs:List V}{us:List Value}(h:Vals xs us):∀k:Nat,Vals (List.replicate k xs).flatten (List.replicate k us).flatten
 | 0=>.nil
 | k+1=>by rw [vO,vO,zZ,zZ];exact Vals.append h (Vals.rep h k)
variable {α:Type}
theorem WA(l:List α):l.eraseIdx (l.length-1)=l.dropLast:=by
 induction l with
 | nil=>rfl
 | cons a r ih=>
  cases r with
  | nil=>rfl
  | cons b r=>
   have e:(a::b::r).length-1=((b::r).length-1)+1:=by have h1:(a::b::r).length=r.length+2:=rfl;have h2:(b::r).length=r.length+1:=rfl;lia
   rw [e,List.eraseIdx_cons_succ,ih]
   all_goals rfl
theorem foldl_rep(ai:List Value):∀(k:Nat) (acc:List Value),
  List.foldl (λx1 x2=>x1++x2) acc.toArray (List.replicate k ai.toArray)=(acc++(List.replicate k ai).flatten).toArray
 | 0,acc=>by simp
 | k+1,acc=>by
  have e:acc.toArray++ai.toArray=(acc++ai).toArray:=by simp
  have e2:(acc++ai)++(List.replicate k ai).flatten=acc++(List.replicate (k+1) ai).flatten:=by rw [vO,zZ,List.append_assoc]
  rw [<-e2,<-foldl_rep ai k (acc++ai),<-e,vO,List.foldl_cons]
section
variable {X:Cx} {pins:a7} {σ:St} {H:Hp} {s:Shared} {l b:Addr} {xs ys zs:List V}
variable {ai:List Value} {n t':Nat}
theorem Inv.AF{its':List Value}{f:Array Value->Array Value}(I:Inv X pins σ H s)(hH:H l=some (.lst xs))
  (e:s.heap.get? l=some {cls:=.type "list",data:=.seq ai.toArray n}) (hf:f ai.toArray=its'.toArray) (hv:Vals ys its') (hz:ys.length<=sizeLine) :
  Inv X pins σ (upd H l (.lst ys)) {s with heap:=s.heap.update l (Obj.mapSeq f),toks:=t'}:=by
 have q:=PySem.IsL.update e f;rw [hf] at q;refine I.write (x:=l) (e:=l) (by rw [hH];exact trivial) (.inl rfl) (λb' u hb hu=>(Heap.get?_update_other s.heap (Obj.mapSeq f) (Ne.symm hb)).trans hu) ⟨_,q⟩ ?_
 exact ⟨hz,its',_,hv,q⟩
theorem Inv.M8(I:Inv X pins σ H s)(hv:Vals ys ai)(hz:ys.length<=sizeLine) :
  Inv X pins σ (upd H s.heap.objs.size (.lst ys)) {s with heap:=s.heap.push {cls:=.type "list",data:=.seq ai.toArray},toks:=t'}:=
 I.laid (λ_ _ q=>cx _ q) (aV _) ⟨hz,ai,0,hv,fN _ rfl⟩
theorem Inv.fresh(I:Inv X pins σ H s):H s.heap.objs.size=none:=I.aB.fresh (aV _)
theorem Inv.kO(I:Inv X pins σ H s)(hH:H l=some (.lst xs)):xs.length<=sizeLine/\∃(ai:List Value) (n:Nat),Vals xs ai/\xs.length=ai.length/\s.heap.get? l=some {cls:=.type "list",data:=.seq ai.toArray n}:=by obtain ⟨z,ai,n,r,e⟩:=I.aB l _ hH;exact ⟨z,ai,n,r,r.length,e⟩
theorem M9(h:n<=sizeLine):Builtin.List.listTooLong n=false:=by unfold Builtin.List.listTooLong;exact cZ ⋯
end
section
variable {X:Cx}
def WB:V->List V->Hp->VK->Prop:=λx vs H Q=>∃l xs y,x=.ref l/\vs=[y]/\H l=some (.lst xs)/\xs.length<sizeLine/\Q .aO (upd H l (.lst (xs++[y])))
theorem p6:wt X "list.append" WB:=by
 intro pins s σ H x vs v us Q I rx rv h;intros bv26 h l xs y rfl rfl hH hz q;cases rx;obtain ⟨u,rfl,ru⟩:=rv.one;obtain ⟨z,ai,n,r,hl,e⟩:=I.kO hH;refine mT F.slot_list_append (ad _ e rfl) F.entry_list_append (F.args_list_append_2 _ _) (PySem.list_append l ai.toArray n u (by rw [cM];lia)) ⟨e,?_⟩
 refine ⟨.aO,_,I.AF (its':=ai++[u]) hH e (by simp) (r.append (.cons ru .nil)) ?_,rfl,q⟩
 rw [dD,Gn];lia
def WC:V->List V->Hp->VK->Prop:=λx vs H Q=>∃l b xs zs,x=.ref l/\vs=[.ref b]/\H l=some (.lst xs)/\H b=some (.lst zs)/\xs.length+zs.length<=sizeLine/\Q .aO (upd H l (.lst (xs++zs)))
theorem WD:wt X "list.extend" WC:=by
 intro pins s σ H x vs v us Q I rx rv h;intros bvE h l bv27 b xs zs rfl rfl hH hB hz q;cases rx;obtain ⟨u,rfl,ru⟩:=rv.one;cases ru;obtain ⟨z,ai,n,r,hl,e⟩:=I.kO hH;obtain ⟨z2,rS,n2,r2,WE,e2⟩:=I.kO hB;have hsz:ai.toArray.size+rS.toArray.size<=sizeLine:=by rw [cM,cM];lia
 have G_:¬(!ai.toArray.isEmpty && Builtin.List.listTooLong (ai.toArray.size+rS.toArray.size))=true:=by rw [M9 hsz,Bool.and_false];exact dC
 refine mT F.slot_list_extend (ad _ e rfl) F.entry_list_extend (F.args_list_extend_2 _ _)
  (AutoSeq1.list_extend_list_list_0 l ai.toArray n b rS.toArray n2 G_ (by rw [cM];lia) ⋯) ⟨e,e2,?_⟩
 refine ⟨.aO,_,I.AF (its':=ai++rS) hH e (by simp) (r.append r2) ?_,rfl,q⟩
 rw [dD];lia
def WG:V->List V->Hp->VK->Prop:=λx vs H Q=>∃l xs y,x=.ref l/\vs=[]/\H l=some (.lst xs)/\xs[xs.length-1]?=some y/\Q y (upd H l (.lst xs.dropLast))
theorem amd:wt X "list.pop" WG:=by
 intro pins s σ H x vs v us Q I rx rv h;intros bv26 h l xs y rfl rfl hH hy q;cases rx;have ng:=rv.zero;subst ng;obtain ⟨z,ai,n,r,hl,e⟩:=I.kO hH;obtain ⟨u,hu,ru⟩:=r.get hy;have M_:ai.toArray[ai.toArray.size-1]?=some u:=by show ai.toArray[ai.length-1]?=some u;rw [<-Array.getElem?_toList,<-hl];exact hu
 refine mT F.slot_list_pop (ad _ e rfl) F.entry_list_pop (F.args_list_pop_1 _) (MeetsSeq.list_pop_last l ai.toArray n u M_ (by rw [cM];lia)) ⟨e,?_⟩
 refine (bi y _ (I.AF (its':=ai.dropLast) hH e ?_ r.dropLast ?_) ru q)
 ·show ai.toArray.eraseIdxIfInBounds (ai.toArray.size-1)=ai.dropLast.toArray
  rw [cM,List.eraseIdxIfInBounds_toArray,WA]
 ·rw [List.length_dropLast]
  lia
def WH:V->List V->Hp->VK->Prop:=λx vs H Q=>∃l xs,x=.ref l/\vs=[]/\H l=some (.lst xs)/\Q .aO (upd H l (.lst xs.reverse))
theorem WI:wt X "list.reverse" WH:=by
 intro pins s σ H x vs v us Q I rx rv h;intros bv10 h l xs rfl rfl hH q;cases rx;have ng:=rv.zero;subst ng;obtain ⟨z,ai,n,r,hl,e⟩:=I.kO hH;refine mT F.slot_list_reverse (ad _ e rfl) F.entry_list_reverse (F.args_list_reverse_1 _) (AutoSeq1.list_reverse_list_0 l ai.toArray n (by rw [cM];lia)) ⟨e,?_⟩
 refine ⟨.aO,_,I.AF (its':=ai.reverse) hH e (by simp) r.reverse ?_,rfl,q⟩
 rw [Cb];lia
def Hi:R2:=λx y H Q=>∃l b xs zs,x=.ref l/\y=.ref b/\H l=some (.lst xs)/\H b=some (.lst zs)/\xs.length+zs.length<=sizeLine/\∀p,H p=none->Q (.ref p) (upd H p (.lst (xs++zs)))
theorem iu:cC X (binaryOp .Add) Hi:=by
 intro pins s σ H x y v u Q I rx ry h;intros bvE h l bv27 b xs zs rfl rfl hH hB hz q;cases rx;cases ry;obtain ⟨z,ai,n,r,hl,e⟩:=I.kO hH;obtain ⟨z2,rS,n2,r2,WE,e2⟩:=I.kO hB;refine PySem.P.add_list e e2 ?_ (by rw [cM,cM];lia)
 have ea:ai.toArray++rS.toArray=(ai++rS).toArray:=by simp
 rw [ea];exact ⟨.ref _,_,I.M8 (t':=s.toks) (r.append r2) (by rw [dD];lia),rfl,q _ I.fresh⟩
def WJ:R2:=λx y H Q=>∃l k xs,x=.ref l/\y=.int k/\H l=some (.lst xs)/\-(2 ^ 63)<=k/\k<2 ^ 63/\xs.length*k.toNat<=sizeLine /\
 ∀p,H p=none->Q (.ref p) (upd H p (.lst (List.replicate k.toNat xs).flatten))
theorem len_rep(xs:List α)(k:Nat):(List.replicate k xs).flatten.length=k*xs.length:=by
 induction k with
 | zero=>simp
 | succ k ih=>rw [vO,zZ,dD,ih,Nat.succ_mul,Nat.add_comm]
theorem WK:cC X (binaryOp .Mult) WJ:=by
 intro pins s σ H x y v u Q I rx ry h;intros bv31 h l k xs rfl rfl hH h1 h2 hz q;cases rx;obtain ⟨t,rfl⟩:=ry;obtain ⟨z,ai,n,r,hl,e⟩:=I.kO hH;have hlen:ai.toArray.size*k.toNat<=sizeLine:=by rw [cM,<-hl];exact hz
 have WL:¬ai.toArray.size*k.toNat>(2 ^ 63-1) / 8:=by
  have:(sizeLine:Nat)<=(2 ^ 63-1) / 8:=by decide
  lia
 have WM:¬(!Builtin.List.listFitsIndex k)=true:=by rw [fitsIndex_both h1 h2];exact dC
 have G_:¬Builtin.List.listTooLong (ai.toArray.size*k.toNat)=true:=by rw [M9 hlen];exact dC
 have WN:List.foldl (λx1 x2=>x1++x2) #[] (List.replicate (if ai.toArray.isEmpty=true then 0 else k.toNat) ai.toArray)=(List.replicate k.toNat ai).flatten.toArray:=by
  have f0:∀m:Nat,List.foldl (λx1 x2=>x1++x2) #[] (List.replicate m ai.toArray)=(List.replicate m ai).flatten.toArray:=λm=>by have:=foldl_rep ai m [];rw [List.nil_append] at this;exact this
  rw [f0];cases ai with
  | nil=>simp
  | cons a r'=>rw [az (by simp)]
 refine wpAny_binaryOp_repeat_ref (T:="list") (U:="int") ∅ (ad _ e rfl) (λs'=>typeIs_int s' k t) noFill_list_mul F.fills_int_mul F.slot_int_rmul repeat_list F.slot_int_index.lookup
  (mT F.slot_int_rmul (typeIs_int s k t) F.entry_int_rmul (F.args_int_rmul_2 _ _) (int___rmul___int_list k t l ai.toArray n)
   ⟨e,rfl,(ad _ e rfl),mT F.slot_list_mul (ad _ e rfl) F.entry_list_mul (F.args_list_mul_2 _ _) (AutoListH.list___mul___list_int_3 l ai.toArray n k t WM WL G_) ⟨e,?_⟩⟩)
 rw [WN];exact ⟨.ref _,_,I.M8 (t':=s.toks) (r.rep k.toNat) (by rw [len_rep,z8];exact hz),rfl,q _ I.fresh⟩
end
section
variable {prog:Program} {w:World} {A:Around} {E:aX} {s:Shared}
end
section
variable {X:Cx}
end
end L2
namespace Att
open PySem PySem.W PySem.Calls PyProof.Rows
variable {P:Params} {h:Heap}
theorem WO:∀(ns:List Int) (vs:List Value),WellAll P h vs (ns.map WData.int)->IntsAre vs ns:=by
 intro ns
 induction ns with
 | nil=>intro vs w;rw [List.map_nil] at w;cases w;exact .nil
 | cons n ns ih=>
  intro vs w;rw [ky] at w;cases w with
  | cons a b=>cases a;exact .cons _ _ (ih _ b)
variable {l:OpenLaw} {n:Nat}
theorem WQ(hn:l.most=some n){args:List WData}{vals:List Value}
  (CN:l.row.toRowW.claim.pre args=true) (Hj:WellAll P h vals args) :
  ∃a vs ns,vals=[Value.ref a]/\args=[WData.list (ns.map WData.int)]/\h.get? a=some {cls:=.type "list",data:=.seq vs.toArray}/\IntsAre vs ns/\ns.length<=n:=by
 have WR:WShape.hasAll [] args [.list .int]=true:=(pre_splitW CN).1;have hc:l.pre.holds [] {args:=args}=true:=(pre_splitW CN).2;obtain ⟨d,r,rfl,h1,h2⟩:=hasAllW_cons WR;obtain rfl:=hasAllW_nil h2;obtain ⟨xs,rfl,h3⟩:=hasW_list h1;obtain ⟨ns,rfl⟩:=items_int h3;have hlen:ns.length<=n:=by
  unfold OpenLaw.pre at hc;have h4:(WTm.not (.lt (.lit (.int (n:Int))) (.len (.arg 0)))).holds [] {args:=[.list (ns.map .int)]}=true:=by have h4:=(holds_andW hc).1;rw [hn] at h4;exact h4
  have h5:=condW_of h4 (w_not (w_lt w_lit (w_len_list (w_arg rfl))));rw [aR] at h5;refine Nat.le_of_not_lt λq=>?_;have q':(n:Int)<((ns.length:Nat):Int):=by lia
  first
   | (rw [cK q'] at h5;exact absurd h5 ∅)
   | (simp at h5;lia)
 cases Hj with
 | cons w1 w2=>
  cases w2;cases w1 with
  | list ho WS=>exact (pi _ _ ns rfl rfl ho (WO ns _ WS) hlen)
theorem WT(l:OpenLaw)(args:List WData):l.row.toRowW.claim.post args (.bool true) args=true:=
 postW_of (r:=l.row.toRowW) (X:=(true == true))
  (show WShape.has [] (.bool true) .bool=true by first | rfl | decide | simp [WShape.has,WShape.arms,WShape.armsAll])
  (show (WTm.eq .res (.lit (.bool true))).value [] {args:=args,res:=some (.bool true),after:=args}=some (.bool (true == true)) from w_eq_bool (w_res rfl) w_lit) rfl
theorem WU{q:Program}{loose:List Str}{XP:(Str->Option Value)->Heap->Prop}{YP:World->Heap->Prop}{d:DefRec}
  (hn:l.most=some n) (AG:d.params.defaults=[])
  (call:∀(w:World) (s₀ s₁:Shared) (mg mb:cU) (fa:Addr) (o:Obj) (pm cd doc:Value) (a:Addr) (vs:List Value) (ns:List Int),
   Ground q loose [] XP w s₀ mg mb s₁.heap->YP w s₁.heap->
   s₁.heap.get? fa=some o->o.data=.func (docDef d.name d.params d.body d.scope pm cd doc)->s₁.heap.CodeRec cd d.name->mg d.name=some (.ref fa)->
   s₁.heap.get? a=some {cls:=.type "list",data:=.seq vs.toArray}->IntsAre vs ns->ns.length<=n->s₁.gens = #[]->
   codeAny (model l.prog w) callerA (.call (.ref fa) ⟨[.ref a],[]⟩) (λr s'=>r=.ok (.ret (.bool true))/\OldK s₁.heap s'.heap/\s'.os=s₁.os/\AllBare s'.gens) s₁) :
  WalkO q loose XP YP l.row.toRowW d [] (λf vs=>PySem.call f vs):=by
 intro w s₀ s₁ mg mb G Y fa o pm cd doc dV kV ho hd gG hD AH hg args vals as CN ame hrd Hj hlo;obtain rfl:dV=.none:=Dflts.none hD AG;obtain rfl:kV=.none:=Dflts.noKw hD;obtain ⟨a,vs,ns,rfl,rfl,Hk,hints,hlen⟩:=WQ hn CN Hj;refine enter_call (zW (call w s₀ s₁ mg mb fa o pm cd doc a vs ns G Y ho (fd_plain hd) gG AH Hk hints hlen hg) λr s' hq=>?_);obtain ⟨rfl,h2,h3,h4⟩:=hq;exact ⟨.inl ⟨.bool true,.bool true,[],rfl,λ_=>rfl,.bool true,WT l _,λ_=>⟨List.Pairwise.nil,λ_ hm=>(nomatch hm)⟩⟩,h2,h3,h4⟩
section
variable {prog:Program} {w:World} {A:Around} {E:aX} {s:Shared} {K:Frag}
end
end Att
namespace L2
open PySem PySem.Spec PyProof.Rows
theorem Na:∀{vs:List Value} {ns:List Int},IntsAre vs ns->Vals (ns.map V.int) vs
 | _,_,.nil=>.nil
 | _,_,.cons n t h=>.cons ⟨t,rfl⟩ (Na h)
def Hl(H:Hp):Prop:=∀b,H b=none\/∃o xs,H b=some (.cL o (.lst xs))
variable {K:aE} {k:Nat} {a:Addr} {x:Str}
theorem WV{P:Program}{w:World}{mg mb:cU}{CX:iJ}{fa:Addr}{fd:FuncData}{sp:Sp}{s₁:Shared}{vs:List Value}{ns:List Int}
  (KX:K.In s₁.heap) (Nb:s₁.heap.Ns mainGlobals mg) (hb:s₁.heap.Ns builtinsNs mb) (WW:∀x:Str,x ≠ "__name__"->mb x=bootBuiltins x) (WZ:s₁.heap.NoLimit) (hg:s₁.gens = #[])
  (ha:s₁.heap.get? a=some {cls:=.type "list",data:=.seq vs.toArray}) (hi:IntsAre vs ns) (hl:ns.length<=sizeLine) (hr:dc k callerA)
  (F:∀base:Heap,K.In base->base.Ns mainGlobals mg->aN P w K mg base CX k fa fd [x] sp) (W0:∀(s:Shared) (u:Value),BindsTo s fd ⟨[u],[]⟩ [(x,u)])
  (kL:∀H:Hp,Hl H->bM K H a (ns.map V.int)->sp [.ref a] H (λv _=>v=.bl true) λ_ _ _=>False)
  (Hm:∀H e s',CX [] H s₁ (λ_ _ _=>False) e s'->False) :
  codeAny (model P w) callerA (.call (.ref fa) ⟨[.ref a],[]⟩) (λr s'=>r=.ok (.ret (.bool true))/\OldK s₁.heap s'.heap/\s'.os=s₁.os/\AllBare s'.gens) s₁:=by
 have rv:=Na hi;have W5:=hi.length
 have core:∀H:Hp,Hl H->bM K H a (ns.map V.int)->cq P w H s₁.heap->(∀b,H b≠none->b=a)->(H a≠none->K.lookup a=none)->
   codeAny (model P w) callerA (.call (.ref fa) ⟨[.ref a],[]⟩) (λr s'=>r=.ok (.ret (.bool true))/\OldK s₁.heap s'.heap/\s'.os=s₁.os/\AllBare s'.gens) s₁:=by
  intro H hO hS aB hA hK;have Nc:∀{b:Addr} {o:Obj},s₁.heap.get? b=some o->H b=none->(ou s₁.heap H).get? b=some o:=λe n=>UZ e n;have AA:∀{b:Addr} {o:Obj} {es:Array DictEntry} {ep:Nat},s₁.heap.get? b=some o->o.data=.dict es ep->H b=none:=fun{b o es ep} e d=>by
   cases q:H b with
   | none=>rfl
   | some u=>
    have e':b=a:=hA b (by rw [q];simp)
    subst e';rw [ha] at e;cases e;have d':Data.seq vs.toArray _=Data.dict es ep:=d;cases d'
  have CO:∀{b:Addr} {m:cU},s₁.heap.Ns b m->(ou s₁.heap H).Ns b m:=fun{b m} ⟨o,es,ep,e,d,r⟩=>⟨o,es,ep,Nc e (AA e d),d,r⟩;have Nd:K.In (ou s₁.heap H):=λb o e=>Nc (KX b o e) (by
   cases q:H b with
   | none=>rfl
   | some u=>
    have e':b=a:=hA b (by rw [q];simp)
    subst e';rw [hK (by rw [q];simp)] at e;cases e)
  have hM:Mod K mg (ou s₁.heap H):=⟨Nd,CO Nb,⟨mb,CO hb,WW⟩,let ⟨mc,h1,h2⟩:=WZ;⟨mc,CO h1,h2⟩⟩
  have e0:rP P w K mg (ou s₁.heap H) callerA [] s₁ H:=⟨rfl,hM,λb o e=>U1 e,Nat.le_of_eq (UY _ _),trivial,λb hb=>absurd (show b∈([]:List Addr) from hb) (by simp),aB,.of_eq hg⟩
  refine zW ((F _ Nd (CO Nb)).run callerA [] s₁ H ⟨[.ref a],[]⟩ [.ref a] [.ref a] _ _ hr e0 (W0 s₁ (.ref a)) (.cons rfl .nil) (kL H hO hS)) λr s' h=>?_;cases r with
  | error e=>exact (Hm H e s' h).elim
  | ok fl=>
   cases fl with
   | next=>exact False.elim h
   | brk=>exact False.elim h
   | cont=>exact False.elim h
   | ret u=>
    intros bv24 h v H' os bare un W8 r' q;have q':v=.bl true:=q;subst q';obtain rfl:u=Value.bool true:=r';refine ⟨rfl,OldK.of_keep λb o e=>?_,os,bare⟩;cases q:H b with
    | none=>exact un.keep b o e q (by intro z;exact absurd (show b∈([]:List Addr) from z) (by simp)) (by simp)
    | some u=>
     rcases hO b with z | ⟨ob,xs,z⟩;·rw [q] at z;cases z
     ·have z2:=un.fE b ob _ z
      obtain ⟨e1,_⟩:=aB b _ z;obtain ⟨e2,_⟩:=W8 b _ z2;rw [e] at e1;cases e1;exact e2
 cases hk:K.lookup a with
 | some o=>have e:=KX a o hk;rw [ha] at e;cases e;refine core (λ_=>none) (λ_=>.inl rfl) (.inr ⟨_,vs.toArray,_,hk,rfl,rfl,rfl,by rw [cM,W5];exact hl,by simpa using rv⟩) (λb u z=>by have z':(none:Option HO)=some u:=z;cases z') (λb z=>absurd rfl z) λz=>absurd rfl z
 | none=>
  refine core (λb=>if b=a then some (.cL {cls:=.type "list",data:=.seq vs.toArray} (.lst (ns.map V.int))) else none) (λb=>?_) (.inl (.inr ⟨{cls:=.type "list",data:=.seq vs.toArray},aq rfl⟩)) (λb u z=>?_) (λb z=>?_) λ_=>hk
  ·by_cases hb:b=a
   ·exact .inr (wp _ _ (aq hb))
   ·exact .inl (az hb)
  ·by_cases hb:b=a
   ·have z':=(aq hb).symm.trans z
    cases z';subst hb;exact ⟨ha,by rw [aR];exact hl,vs,_,rv,ha⟩
   ·have z':=(az hb).symm.trans z
    cases z'
  ·by_cases hb:b=a
   ·exact hb
   ·exact absurd (az hb) z
abbrev Ng {K:aE} {h:Heap} (_:K.In h):PySem.W.Frag:=K
variable {n:Nat}
theorem W9{l:PySem.W.OpenLaw}{q:Program}{loose:List Str}{XP:(Str->Option Value)->Heap->Prop}{YP:World->Heap->Prop}{d:DefRec}{K:Params->PySem.W.Frag}{CX:World->iJ}{sp:World->Sp}
  (hn:l.most=some n) (wg:n<=sizeLine) (AG:d.params.defaults=[]) (hr:dc k callerA)
  (hY:∀(w:World) (h:Heap),YP w h->(K w.params).In h)
  (F:∀(w:World) (mg:cU) (fa:Addr) (h:Heap),(K w.params).In h->h.Ns mainGlobals mg->mg d.name=some (.ref fa)->
   ∃fd:FuncData,(∀(s:Shared) (u:Value),BindsTo s fd ⟨[u],[]⟩ [(x,u)]) /\
    ∀base:Heap,(K w.params).In base->base.Ns mainGlobals mg->aN l.prog w (K w.params) mg base (CX w) k fa fd [x] (sp w))
  (kL:∀(w:World) (H:Hp) (a:Addr) (ns:List Int),ns.length<=n->Hl H->bM (K w.params) H a (ns.map V.int)->sp w [.ref a] H (λv _=>v=.bl true) λ_ _ _=>False)
  (Hm:∀(w:World) (H:Hp) (s:Shared) (e:Value) (s':Shared),CX w [] H s (λ_ _ _=>False) e s'->False) :
  PySem.W.WalkO q loose XP YP l.row.toRowW d [] (λf vs=>PySem.call f vs):=by
 refine Att.WU hn AG λw s₀ s₁ mg mb fa o pm cd doc a vs ns G Y ho hd gG AH Hk hints hlen hg=>?_;have KX:=hY w _ Y;obtain ⟨fd,hb,hF⟩:=F w mg fa _ KX G.T.g AH;exact WV KX G.T.g G.T.b G.T.builtins G.T.nolimit hg Hk hints (aM hlen wg) hr hF hb (λH hO hS=>kL w H a ns hlen hO hS) λH e s'=>Hm w H s₁ e s'
def inClass(s:Stmt)(j:Nat):Stmt:=match s with
 | .ClassDef _ _ _ body _ _ _ _ _ _ _=>body.getD j (.Pass ⟨0,0,0,0⟩)
 | _=>.Pass ⟨0,0,0,0⟩
def j4(s:Stmt):Arguments:=match s with
 | .FunctionDef _ a _ _ _ _ _ _ _ _=>a
 | _=>{posonlyargs:=[],args:=[],vararg:=none,kwonlyargs:=[],kw_defaults:=[],kwarg:=none,defaults:=[]}
def g8(s:Stmt):List Stmt:=match s with
 | .FunctionDef _ _ b _ _ _ _ _ _ _=>b
 | _=>[]
def aK(s:Stmt):Scope:=match s with
 | .FunctionDef _ _ _ _ _ _ sc _ _ _=>sc
 | _=>{kind:=.function,names:=[],isGenerator:=false,isCoroutine:=false}
abbrev bH:iJ:=λ_ _ _ _ _ _=>False
abbrev E0:XK:=λ_ _ _=>False
theorem aC{X:Cx}:Passes bH X E0:=λ_ _ _ _ _ _ _ h=>h.elim
structure fg (K:aE) (x qual:Str) (st:Stmt) (f:Addr) (fd:FuncData):Prop where
 ex:∃(oc:Value) (od:Option Addr) (kV doc pm:Value) (an:Option Addr) (bh ct:Value) (gH:Array (Option Value)),
  fd=PySem.W.fnOf x qual (j4 st) (g8 st) (aK st) .none kV doc pm an bh ct/\K.lookup f=some ⟨oc,od,.func fd,gH⟩/\PySem.W.codeIn K bh qual=true
 kp:PySem.W.keepIn K (.ref f)=true
abbrev aA (K:aE) (x:Str) (st:Stmt) (f:Addr) (fd:FuncData):Prop:=fg K x x st f fd
section
variable {P:Program} {w:World} {K:aE} {mg:cU} {base:Heap}
variable {qual:Str} {st:Stmt} {f:Addr} {fd:FuncData} {N ps:List Str} {sp:Sp}
theorem fg.ok(F:fg K x qual st f fd)(S:aZ N ps (aK st))(len:∀vs H Q E,sp vs H Q E->vs.length=ps.length)
  (l_:∀(bh:Value) (A:Around) (outer:List Env) (s:Shared) (H:Hp) (vs:List V) (Q:VK) (E:XK),dc k (A.deeper (envOfC qual (aK st) s.heap.objs.size f bh))->sp vs H Q E->
   ∃t,fb (jX bH P w K mg base N qual (aK st) f bh A outer s H E).lR (g8 st) t/\t {nx:=λ_ H'=>Q .aO H',rt:=Q} (start N vs) H):aN P w K mg base bH (k+1) f fd ps sp:=by
 obtain ⟨oc,od,kV,doc,pm,an,bh,ct,gH,rfl,lk,gG⟩:=F.ex;refine G4 lk gG S len λA outer s H vs Q E hr kL=>?_;obtain ⟨t,h,q⟩:=l_ bh A outer s H vs Q E hr kL;exact (ad t h.lR q)
theorem fg.bN(F:fg K x qual st f fd)(S:aZ N ps (aK st))
  (l_:∀(bh:Value) (A:Around) (outer:List Env) (s:Shared) (H:Hp) (vs:List V) (Q:VK) (E:XK),dc k (A.deeper (envOfC qual (aK st) s.heap.objs.size f bh))->sp vs H Q E->
   ∃t,fb (jX bH P w K mg base N qual (aK st) f bh A outer s H E).lR (g8 st) t/\t {nx:=λ_ H'=>Q .aO H',rt:=Q} (start N vs) H)
  (len:∀vs H Q E,sp vs H Q E->vs.length=ps.length:=by intro vs H Q E h;repeat first | (obtain ⟨rfl,_⟩:=h;rfl) | (subst h;rfl) | obtain ⟨_,h⟩:=h):aN P w K mg base bH (k+1) f fd ps sp:=F.ok S len l_
theorem fg.binds(F:fg K x qual st f fd)
  (h:∀(kV doc pm:Value) (an:Option Addr) (bh ct:Value) (us:List Value),us.length=ps.length->bindArgs (PySem.W.fnOf x qual (j4 st) (g8 st) (aK st) .none kV doc pm an bh ct) ⟨us,[]⟩=pure (ps.zip us)):Binds K fd ps []:=by
 obtain ⟨oc,od,kV,doc,pm,an,bh,ct,gH,rfl,lk,gG⟩:=F.ex;exact .all (h kV doc pm an bh ct)
theorem fg.bj(F:fg K x qual st f fd)
  (h:∀(kV doc pm:Value) (an:Option Addr) (bh ct:Value) (us:List Value),us.length=ps.length->bindArgs (PySem.W.fnOf x qual (j4 st) (g8 st) (aK st) .none kV doc pm an bh ct) ⟨us,[]⟩=pure (ps.zip us):=by intro _ _ _ _ _ _ us hl;rcases us with _ | ⟨_,_ | ⟨_,_ | ⟨_,_ | ⟨_,_ | ⟨_,_ | ⟨_,_ | ⟨_,_⟩⟩⟩⟩⟩⟩⟩ <;> first | rfl | (simp at hl;done)):Binds K fd ps []:=F.binds h
theorem bq{oc:Value}{od an:Option Addr}{gH:Array (Option Value)}{kV doc pm bh ct:Value}(l:K.lookup f=some ⟨oc,od,.func (PySem.W.fnOf x qual (j4 st) (g8 st) (aK st) .none kV doc pm an bh ct),gH⟩)
  (c:PySem.W.codeIn K bh qual=true) (k:PySem.W.keepIn K (.ref f)=true):fg K x qual st f (PySem.W.fnOf x qual (j4 st) (g8 st) (aK st) .none kV doc pm an bh ct):=⟨⟨oc,od,kV,doc,pm,an,bh,ct,gH,rfl,l,c⟩,k⟩
end
theorem cH(h:n<=1000):n<sizeLine:=fz h ∅
section
variable {X:Cx}
theorem pv(i:Nat){pos:Pos}(hN:X.N[i]?=some x:=by rfl)(hv:oz X.env.scope x:=by first | exact Or.inl rfl | exact Or.inr (Or.inl rfl) | exact Or.inr (Or.inr rfl))(hd:(x == ("__debug__":Str))=false:=by decide)
  (gG:(x == ("__classdict__":Str))=false:=by decide):PE X (.Name x pos) (lO i):=U9 hN hv hd gG
end
variable {A B:Prop}
theorem cA(h:B):if false=true then A else B:=by rw [az dC];exact h
theorem gj(h:A):if true=true then A else B:=by rw [aq rfl];exact h
theorem b7{c:Prop}[Decidable c](h1:c->A)(h2:¬c->B):if c then A else B:=by
 by_cases h:c
 ·rw [aq h]
  exact h1 h
 ·rw [az h]
  exact h2 h
def af(H H':Hp):Prop:=∀b o,H b=some o->H' b=some o
theorem af.refl(H:Hp):af H H:=λ_ _ h=>h
variable {H:Hp}
theorem af.trans{H1 H2:Hp}(a:af H H1)(b:af H1 H2):af H H2:=λc o h=>b c o (a c o h)
theorem af.seq{H':Hp}{xs:List V}(e:af H H')(h:bM K H a xs):bM K H' a xs:=by
 rcases h with (h | ⟨o,h⟩) | h;·exact .inl (.inl (e _ _ h))
 ·exact .inl (.inr ⟨o,e _ _ h⟩)
 ·exact .inr h
end L2
set_option maxHeartbeats 4000000
namespace L2
open PySem PySem.Spec PyProof.Rows
variable {h:Heap} {a:Addr}
theorem cN.here{P:Program}{w:World}{H:Hp}{o:HO}(x:cN P w H h a o):∃ob,h.get? a=some ob:=by
 cases o with
 | lst xs=>intros bv8 x _ _ _ _ e;exact ⟨_,e⟩
 | tup xs=>obtain ⟨_,_,_,ob,e,_⟩:=x;exact ⟨_,e⟩
 | dK ar=>intros bv13 x _ _ _ _ ob bv3 _ _ e _;exact ⟨_,e⟩
 | dT ar=>intros bv13 x _ _ _ _ ob bv3 _ _ e _;exact ⟨_,e⟩
 | set S n=>intros bv0 x ob _ bv3 _ _ e _;exact ⟨_,e⟩
 | ins C dx fs=>obtain ⟨_,_,_,e,_⟩:=x;exact ⟨_,e⟩
 | own y=>exact x
 | xd fs=>obtain ⟨_,⟨_,_,_,e,_⟩,_⟩:=x;exact ⟨_,e⟩
 | pQ lo hi=>intros bv5 x _ _ _ e;exact ⟨_,e⟩
 | cL ob u=>obtain ⟨e,_⟩:=x;exact ⟨_,e⟩
 | mY ps=>exact ⟨_,x⟩
 | met f y=>exact ⟨_,x⟩
 | ext φ=>exact x.2.1
structure jv (P:Program) (w:World) (outer:List Env) (H:Hp) (s:Shared) (H':Hp) (ea C:Addr) (B:Heap) (t:Addr) (s':Shared):Prop where
 os:s'.os=s.os
 bare:AllBare s'.gens
 fl:Heap.FlyingW B outer ea (.ref C) (.ref t) s'.heap
 aB:cq P w H' B
 kb:∀b o,s.heap.get? b=some o->H b=none->b∉cz outer->B.get? b=some o
 tb:∀b o,s.heap.get? b=some o->b∉cz outer->∃o',B.get? b=some o'
 sl:∀b o,s.heap.get? b=some o->H b=none->b∈cz outer->∃l,s'.heap.get? b=some {o with slots:=l}
 W_:∀b∈cz outer,H b=none
 Nh:∀b o,s.heap.get? b=some o->H b=none->H' b=none
 fR:∀b xs,H b=some (.tup xs)->H' b=some (.tup xs)
 fE:∀b o u,H b=some (.cL o u)->H' b=some (.cL o u)
 fS:∀b ps,H b=some (.mY ps)->∃more,H' b=some (.mY (ps++more))
def df(P:Program)(w:World):iJ:=λouter H s E e s'=>∃ea C H' B t,e=.ref ea/\jv P w outer H s H' ea C B t s'/\E (.ref C) none H'
section
variable {P:Program} {w:World} {outer:List Env} {H H':Hp} {s s':Shared} {ea C t:Addr} {B:Heap}
theorem jv.Hn(f:jv P w outer H s H' ea C B t s'):H' ea=none:=by
 cases q:H' ea with
 | none=>rfl
 | some u=>obtain ⟨ob,e⟩:=(f.aB ea u q).here;rw [f.fl.2.1] at e;cases e
theorem jv.un(f:jv P w outer H s H' ea C B t s')(st:B.StaysIn h)(up:s'.heap.UpToSlots h):Un (cz outer) [] H H' s.heap h where
 keep:=λb o e n hb _=>st b o (f.kb b o e n hb)
 slot:=λb o e n hb _=>by obtain ⟨l,q⟩:=f.sl b o e n hb;obtain ⟨_,o2,q2,nf⟩:=f.fl.2.2.1.mem hb;rw [q] at q2;cases q2;obtain ⟨l2,q3⟩:=up b _ q nf;exact ⟨l2,q3⟩
 free:=λb o e n _=>f.Nh b o e n
 there:=λb o e _=>by
  by_cases hb:b∈cz outer
  ·obtain ⟨l,q⟩:=f.sl b o e (f.W_ b hb) hb
   obtain ⟨_,o2,q2,nf⟩:=f.fl.2.2.1.mem hb;rw [q] at q2;cases q2;obtain ⟨l2,q3⟩:=up b _ q nf;exact ⟨_,q3⟩
  ·obtain ⟨o',q⟩:=f.tb b o e hb
   exact ⟨o',st b o' q⟩
 fR:=f.fR
 fE:=f.fE
 fS:=f.fS
def ExcAt(ea C:Addr)(h:Heap):Prop:=∃oe,h.get? ea=some oe/\oe.cls=.ref C/\PySem.W.notCls oe=true
def oN(ea C:Addr):HO:=.ext (ExcAt ea C)
theorem Xa{l:List Env}(x:Heap.FlyingW B l ea (.ref C) (.ref t) h):ExcAt ea C h:=by obtain ⟨oe,vs,e,c,d,_⟩:=x.first;refine (bv oe e c ?_);obtain ⟨_,_,dt,_⟩:=oe;cases d;rfl
theorem cq.exc{h:Heap}(x:cq P w H' h)(n:H' ea=none)(k:ExcAt ea C h):cq P w (upd H' ea (oN ea C)) h:=λb u e=>by
 by_cases hb:b=ea
 ·subst hb
  rw [au] at e;cases e;intros bv2 k oe e1 e2;refine ⟨(ad oe e1 e2),⟨oe,e1⟩,λh1 h2 ⟨o1,a1,a2⟩ z=>⟨o1,z o1 a1,a2⟩⟩
 ·rw [aH hb] at e
  refine (x b u e).ic (λc v _ q=>q) (λc q=>?_) λc xs q=>?_
  ·rw [aH (f_ q n)]
   exact q
  ·rw [aH (f_ q n)]
   exact q
theorem Un.exc{fs ex:List Addr}{h h':Heap}(u:Un fs ex H H' h h')(n:H' ea=none)(k:∀b o,h.get? b=some o->b≠ea){o:HO}:Un fs ex H (upd H' ea o) h h' where
 keep:=u.keep
 slot:=u.slot
 free:=λb ob e z hx=>by rw [aH (k b ob e)];exact u.free b ob e z hx
 there:=u.there
 fR:=λb xs e=>by have q:=u.fR b xs e;rw [aH (f_ q n)];exact q
 fE:=λb ob xs e=>by have q:=u.fE b ob xs e;rw [aH (f_ q n)];exact q
 fS:=λb ps e=>by obtain ⟨m,q⟩:=u.fS b ps e;refine ⟨m,?_⟩;rw [aH (f_ q n)];exact q
theorem jv.apart(f:jv P w outer H s H' ea C B t s'):∀b o,s.heap.get? b=some o->b≠ea:=λb o e z=>by
 subst z;by_cases hb:b∈cz outer
 ·obtain ⟨_,o2,q2,nf⟩:=f.fl.2.2.1.mem hb
  obtain ⟨oe,vs,q3,_,d,_⟩:=f.fl.first;rw [q2] at q3;cases q3;exact nf _ d
 ·obtain ⟨o',q⟩:=f.tb b o e hb
  rw [f.fl.2.1] at q;cases q
end
section
variable {X:Cx} {pins:a7} {σ:St} {H H':Hp} {s s':Shared} {ea C t:Addr} {B:Heap}
theorem amh{P:Addr->Prop}:∀b∈([]:List Addr),P b:=λ_ z=>nomatch z
variable {tk:Nat}
theorem jv.land(I:Inv X pins σ H s)(f:jv X.prog X.w X.stack H s H' ea C B t s')(st:B.StaysIn h)(up:s'.heap.UpToSlots h):Inv X pins σ H' {s' with heap:=h,toks:=tk}:=
 I.jj (s':={s' with heap:=h,toks:=tk}) (ch:=[]) f.os (f.un st up) (f.aB.kept λb o e=>st b o e) f.bare (λ_ z=>nomatch z)
theorem jv.Xb(I:Inv X pins σ H s)(f:jv X.prog X.w X.stack H s H' ea C B t s')(x:Heap.FlyingW B X.stack ea (.ref C) (.ref t) h)(up:s'.heap.UpToSlots h):Inv X pins σ (upd H' ea (oN ea C)) {s' with heap:=h,toks:=tk}:=
 I.jj (s':={s' with heap:=h,toks:=tk}) (ch:=[]) f.os ((f.un x.1 up).exc f.Hn f.apart) ((f.aB.kept λb o e=>x.1 b o e).exc f.Hn (Xa x)) f.bare (λ_ z=>nomatch z)
structure wx (X:Cx) (E:XK):Prop where
 ie:X.stack=X.env::X.outer
 fr:X.env.frame=some X.env.locals
 ex:X.ex=[]
 xe:X.xe=λe s'=>wpAny (model X.prog X.w) X.A (leaving X.env e) (λ_ iK=>df X.prog X.w X.outer X.H₀ X.s₀ E e iK) (λe' iK=>df X.prog X.w X.outer X.H₀ X.s₀ E e' iK) s'
theorem CP{env:Env}{outer:List Env}{L:Addr}(h:env.frame=some L):cz (env::outer)=L::cz outer:=by unfold cz;rw [B4,h]
variable {E:XK}
theorem jv.leave(L:wx X E)(I:Inv X pins σ H s)(f:jv X.prog X.w X.stack H s H' ea C B t s')(x:Heap.FlyingW B X.outer ea (.ref C) (.ref t) h)(up:s'.heap.UpToSlots h):jv X.prog X.w X.outer X.H₀ X.s₀ H' ea C B t {s' with heap:=h}:=by
 have nL:∀b o,X.s₀.heap.get? b=some o->b≠X.env.locals:=λb o e=>dY (eO (bP e) I.ok.above);have ns:∀b o,X.s₀.heap.get? b=some o->b∉cz X.outer->b∉cz X.stack:=λb o e nb z=>by
  rw [L.ie,CP L.fr] at z;rcases dB.mp z with z | z;·exact nL b o e z
  ·exact nb z
 have nx:∀b:Addr,b∉X.ex:=λb z=>by rw [L.ex] at z;cases z
 refine ⟨f.os.trans I.os,f.bare,x,f.aB,λb o e n nb=>?_,λb o e nb=>?_,λb o e n hb=>?_,I.ok.m5,λb o e n=>?_,λb xs e=>f.fR b xs (I.base.fR b xs e),λb o u e=>f.fE b o u (I.base.fE b o u e),λb ps e=>?_⟩;·exact f.kb b o (I.base.keep b o e n nb (nx b)) (I.base.free b o e n (nx b)) (ns b o e nb)
 ·obtain ⟨o',e'⟩:=I.base.there b o e (nx b)
  exact f.tb b o' e' (ns b o e nb)
 ·obtain ⟨l,q⟩:=I.base.slot b o e n hb (nx b)
  have hs:b∈cz X.stack:=by rw [L.ie,CP L.fr];exact je _ hb
  obtain ⟨l2,q2⟩:=f.sl b _ q (I.base.free b o e n (nx b)) hs;obtain ⟨_,o2,q3,nf⟩:=f.fl.2.2.1.mem hs;rw [q2] at q3;cases q3;obtain ⟨l3,q4⟩:=up b _ q2 nf;exact ⟨l3,q4⟩
 ·obtain ⟨o',e'⟩:=I.base.there b o e (nx b)
  exact f.Nh b o' e' (I.base.free b o e n (nx b))
 ·obtain ⟨m1,e1⟩:=I.base.fS b ps e
  obtain ⟨m2,e2⟩:=f.fS b _ e1;exact ⟨m1++m2,by rw [e2,Array.append_assoc]⟩
theorem j6:Passes (df X.prog X.w) X (λ_ _ _=>False):=λpins σ H s e s' I h=>by intros bvE h _ bv16 _ _ _ _ _ _ q;exact q.elim
theorem kP(L:wx X E):Passes (df X.prog X.w) X E:=λpins σ H s e s' I h=>by
 intros bvE h ea bv16 C H' B t rfl f q;rw [L.xe];refine wpAny_leaves_onW (by rw [I.ok.frames,L.ie]) L.fr (by have z:=f.fl;rw [L.ie] at z;exact z) λh' x up=>?_
 exact ⟨ea,C,H',B,t,rfl,f.leave L I x up,q⟩
end
variable {K:aE}
theorem Ho{C:Addr}{j7:List Value}{newId:String}(c_:K.In h)(hq:PySem.W.excIn K C j7 newId=true) :
  ∃bm N nm qn bs hdct sn sub ab col dd k0 k1 k2 k3 k5 mN,h.get? C=some (excClassObj nm qn C N bs bm hdct sn sub ab col dd k0 k1 k2 k3 k5 newId)/\h.Ns N mN/\mN "__init__"=none/\OwnTail h j7 bm/\PySem.W.mroIn K C=λb=>some ((Value.ref C::bm).contains b):=by
 unfold PySem.W.excIn at hq
 split at hq
 ·rename_i wz cls slt look
  split at hq
  ·rename_i CC rest a0 a1 a2 a3 nn a5 em es
   simp only [Bool.and_eq_true,mS,Bool.not_eq_true'] at hq;obtain ⟨⟨⟨⟨⟨e1,e2⟩,e3⟩,e4⟩,e5⟩,e6⟩:=hq;subst e1 e2;have CQ:PySem.W.mroIn K CC=λb=>some ((Value.ref CC::rest).contains b):=by
    funext b
    unfold PySem.W.mroIn PySem.W.clsIn;rw [look];simp [em]
   obtain ⟨c1,c2,c3,c4,c5,c6,c7,c8,c9,Xc,c11⟩:=cls;dsimp only at em e3 e5 e6;subst em e3;have Xd:slt = #[a0,a1,a2,a3,some (.builtin nn),a5]:=by obtain ⟨ll⟩:=slt;simp only at es;rw [es]
   subst Xd;exact (wn rest c4 c1 (Re c5 c2 c6 c7 c8 c9 Xc wz a0 a1 (gt a2 a3 a5 _ (c_ _ _ look) (.of_isNs (PySem.W.isNs_of_in c_ e5)) (PySem.W.nsMap_none_of_in c_ e5 e6) (PySem.W.tail_of_in c_ e4) CQ)))
  ·cases hq
 ·cases hq
section
variable {X:Cx} {E:XK} {x:Str} {C:Addr} {np gi pos:Pos} {e:Expr} {es:List Expr} {ta:TA} {B newId Xe:String} {j7:List Value}
def Xf(C:Addr)(E:XK)(ta:TA):TS:=λ_ σ H=>ta σ H λvs H1=>vs.length<=sizeLine/\E (.ref C) none H1
theorem oO(L:wx X E)(hc:X.calm=true)(FB:ExcBaseFacts B newId Xe j7)(hq:PySem.W.excIn X.K C j7 newId=true)(hg:Gl X x)(hm:X.mg x=some (.ref C))(ha:PA X (e::es) ta)
  (hs:starEach (e::es) X.env=(false,eval e X.env)::starEach es X.env:=by rfl) (hp:(backTo gi (starEach es X.env)).any (·.1)=false:=by rfl) (hd:(x == ("__debug__":Str))=false:=by decide) :
  PS X (.Raise (some (.Call (.Name x np) (e::es) [] gi)) none pos) (Xf C E ta):=by
 intro pins s σ H D I h;have q'35:=Ho I.ok.mod.c_ hq;intros bv18 q'35 bm N nm qn bs hdct bv30 sn sub ab col dd k0 k1 k2 bv26 k3 k5 mN hC hN Ni T _
 refine wpAny_Raise_call_subT (C:=C) (nm:=nm) (q:=qn) (N:=N) (bs:=bs) (bm:=bm) (hdct:=hdct) (sn:=sn) (sub:=sub) (ab:=ab) (col:=col) (dd:=dd) (k0:=k0) (k1:=k1) (k2:=k2) (k3:=k3) (k5:=k5) FB (mN:=mN) (T.hasType FB.hasBase) (I.ok.hd hc)
  (by rw [hs];show (false || (backTo gi (starEach es X.env)).any (·.1))=false;rw [hp];rfl) Ni (v_ I hg hm ⟨rfl,?_⟩ hd)
 have h1:=ha gi pins s σ H _ I h;rw [hs] at h1 ⊢;refine Calls.evalArgs_plain (aT h1 λus s2 ⟨vs,H1,I1,r,hl,q⟩=>⟨rfl,by rw [<-r.length];exact hl,I1.bk _ _ hC,hN.keeps I1.bk,T.keeps I1.bk,λh' ea mk=>?_⟩)
 rw [L.xe];have nL:∀b o,X.s₀.heap.get? b=some o->b≠X.env.locals:=λb o q=>dY (eO (bP q) I1.ok.above);have ns:∀b o,X.s₀.heap.get? b=some o->b∉cz X.outer->b∉cz X.stack:=λb o q nb z=>by
  rw [L.ie,CP L.fr] at z;rcases dB.mp z with z | z;·exact nL b o q z
  ·exact nb z
 have nx:∀b:Addr,b∉X.ex:=λb z=>by rw [L.ex] at z;cases z
 have ff:s2.heap.FunFrames (PySem.W.hideAll s2.heap (cz X.stack)) (X.env::X.outer):=by have z:=I1.stack;rw [<-L.ie];exact PySem.W.funFrames_hide z λenv he a hf=>List.mem_filterMap.mpr (ad env he hf)
 refine wpAny_leaves_madeW (base:=PySem.W.hideAll s2.heap (cz X.stack)) (h:=s2.heap) (by rw [I1.ok.frames,L.ie]) L.fr (λb o q=>PySem.W.of_hideAll _ q) ff mk λh2 t fl _ _ up=>?_
 refine (wn ea C H1 (bi _ t rfl ⟨I1.os,I1.bare,fl,λa o e1=>?_,λb o e1 n nb=>?_,λb o e1 nb=>?_,λb o e1 n hb=>?_,I1.ok.m5,λb o e1 n=>?_,I1.base.fR,I1.base.fE,I1.base.fS⟩ q))
 ·refine (I1.aB a o e1).ic (λb u hb e2=>B3 _ e2 λz=>?_) (λ_ z=>z) λ_ _ z=>z
  have n0:=I1.rz b z;rcases hb with hb | hb
  ·subst hb
   rw [e1] at n0;cases n0
  ·rw [hb] at n0
   cases n0
 ·exact B3 _ (I1.base.keep b o e1 n nb (nx b)) (ns b o e1 nb)
 ·obtain ⟨o',e2⟩:=I1.base.there b o e1 (nx b)
  exact ⟨o',B3 _ e2 (ns b o e1 nb)⟩
 ·obtain ⟨l,e2⟩:=I1.base.slot b o e1 n hb (nx b)
  have jU:b∈cz X.stack:=by rw [L.ie,CP L.fr];exact je _ hb
  obtain ⟨_,o2,e3,nf⟩:=I1.stack.mem jU;rw [e2] at e3;cases e3;obtain ⟨l2,e4⟩:=up b _ (mk.keeps _ _ e2) nf;exact ⟨l2,e4⟩
 ·obtain ⟨o',e2⟩:=I1.base.there b o e1 (nx b)
  exact I1.base.free b o e1 n (nx b)
end
def Hq(X:Cx)(pins:a7)(σ:St)(E:XK)(e:Value)(s':Shared):Prop:=∃s₁ H₁,Inv X pins σ H₁ s₁/\df X.prog X.w X.stack H₁ s₁ E e s'
abbrev TX:=St->Hp->VK->XK->Prop
def Nj(X:Cx)(e:Expr)(t:TX):Prop:=
 ∀(pins:a7) (s:Shared) (σ:St) (H:Hp) (Q:VK) (E:XK),Inv X pins σ H s->t σ H Q E->wpAny (model X.prog X.w) X.A (eval e X.env) (EP X pins σ Q) (Hq X pins σ E) s
abbrev CS:=Ends->XK->St->Hp->Prop
def Nk(X:Cx)(st:List Stmt)(t:CS):Prop:=
 ∀(pins:a7) (s:Shared) (σ:St) (H:Hp) (D:Ends) (E:XK),Inv X pins σ H s->t D E σ H->wpAny (model X.prog X.w) X.A (execs st X.env) (SP X pins D) (Hq X pins σ E) s
section
variable {X:Cx} {k:Nat} {f C:Addr} {fd:FuncData} {ps:List Str} {sp:Sp} {dG:List V} {ds:List Value} {x m:Str} {p pos apos:Pos} {e o:Expr} {es:List Expr} {ta:TE} {t:TA}
theorem Xg{pins:a7}{σ:St}{H:Hp}{s:Shared}{Q:VK}{E:XK}{us:List Value}{vs:List V}(F:aN X.prog X.w X.K X.mg X.base (df X.prog X.w) k f fd ps sp)(hr:dc k X.A)(hb:Binds X.K fd ps ds)(hd:Vals dG ds)
  (I:Inv X pins σ H s) (r:Vals vs us) (h:sp (vs++dG) H Q E):wpAny (model X.prog X.w) X.A (call (.ref f) us) (EP X pins σ Q) (Hq X pins σ E) s:=by
 have r2:Vals (vs++dG) (us++ds):=r.append hd;have hl:(us++ds).length=ps.length:=by rw [<-r2.length];exact F.len _ _ _ _ h
 refine wpAny_call (zW (F.run X.A X.stack s H ⟨us,[]⟩ (us++ds) (vs++dG) Q E hr I.G2 (hb s us I.dj hl) r2 h) λr s' hq=>?_);cases r with
 | error e=>exact (ii s H I hq)
 | ok fl=>
  cases fl with
  | ret u=>exact I.after hq
  | next=>exact False.elim hq
  | brk=>exact False.elim hq
  | cont=>exact False.elim hq
def Xh(sp:Sp)(dG:List V)(t:TA):TX:=λσ H Q E=>t σ H λvs H1=>sp (vs++dG) H1 Q E
theorem Xi(F:aN X.prog X.w X.K X.mg X.base (df X.prog X.w) k f fd ps sp)(hr:dc k X.A)(hg:Gl X x)(hm:X.mg x=some (.ref f))(hk:PySem.W.keepIn X.K (.ref f)=true)(hb:Binds X.K fd ps ds)(hd:Vals dG ds)
  (ha:PA X.lR (e::es) t) (l8:(x == ("__debug__":Str))=false:=by decide) (he:starEach (e::es) X.env=(false,eval e X.env)::starEach es X.env:=by rfl) (jo:(backTo pos (starEach es X.env)).any (·.1)=false:=by rfl) :
  Nj X (.Call (.Name x p) (e::es) [] pos) (Xh sp dG t):=by
 intro pins s σ H Q E I h;refine zX (v_ I hg hm ?_ l8);refine Ca (h₀:=X.base) I.ok.mod.c_ hk (bT (ha pos pins s σ H _ (I.lQ _) h) (λus s1 ⟨vs,H1,I1,r,q⟩=>⟨I1.dj,?_⟩) λ_ _ z=>z.elim) he jo;exact Xg F hr hb hd I1.oA r q
variable {te:TX} {i:Nat} {pos':Pos}
def Xj(te:TX):CS:=λD E σ H=>te σ H (λ_ H1=>D.nx σ H1) E
theorem Xk(he:Nj X e te)(hs:swapsWith e none pos.line X.env=pure false:=by rfl):Nk X [.Expr e pos] (Xj te):=by intro pins s σ H D E I h;refine wpAny_execs_cons (bT (Q:=λf s'=>f=.next/\SP X pins D .next s') (wpAny_Expr_any (bT (he pins s σ H _ E I h) (λv s1 ⟨y,H1,I1,r1,q1⟩=>⟨rfl,σ,H1,I1,q1⟩) λ_ _ z=>z) I.quiet hs) (λf s1 q=>?_) λ_ _ z=>z);obtain ⟨rfl,q⟩:=q;exact vJ q
end
abbrev Cx.kT (X:Cx) (ea:Addr):Cx:={X with A:=X.A.mark (some (.ref ea)),calm:=false,xe:=λ_ _=>False}
section
variable {X:Cx} {pins:a7} {σ:St} {H:Hp} {s:Shared} {ea:Addr}
theorem Cx.Ok.kT(ok:X.Ok):(X.kT ea).Ok:=
 ⟨ok.mod,ok.kind,ok.glob,ok.blt,ok.above,ok.inj,ok.has,ok.pR,(λz=>nomatch z),ok.frames,ok.ie,ok.GC,ok.bs,ok.gY,ok.mZ,ok.m4,ok.jT,ok.m5⟩
theorem Inv.kT(I:Inv X pins σ H s):Inv (X.kT ea) pins σ H s:=⟨I.ok.kT,I.os,I.bare,I.base,I.loc,I.cell,I.free,I.ig,I.pin,I.aB,I.len⟩
theorem Inv.wA(ok:X.Ok)(I:Inv (X.kT ea) pins σ H s):Inv X pins σ H s:=⟨ok,I.os,I.bare,I.base,I.loc,I.cell,I.free,I.ig,I.pin,I.aB,I.len⟩
theorem SP.wA(ok:X.Ok){D:Ends}{f:Flow}(h:SP (X.kT ea) pins D f s):SP X pins D f s:=by
 cases f with
 | next=>obtain ⟨a,b,I,q⟩:=h;exact ⟨a,b,I.wA ok,q⟩
 | brk=>obtain ⟨a,b,I,q⟩:=h;exact ⟨a,b,I.wA ok,q⟩
 | cont=>obtain ⟨a,b,I,q⟩:=h;exact ⟨a,b,I.wA ok,q⟩
 | ret u=>intros bv14 h v a b I r q;exact ⟨v,a,b,I.wA ok,r,q⟩
theorem CT{M:Model}{A:Around}{E:aX}{i:Nat}{n:Str}{pos:Pos}{Q:Unit->Shared->Prop}(I:Inv X pins σ H s)(hN:X.N.Nodup)(hi:X.N[i]?=some n)(hk:X.env.scope.names.lookup n=some .local)
  (h:∀s',Inv X pins (σ.set i none) H s'->Q () s'):wpAny M A (do bindName X.env n .none;unbindBehindTheSuite X.env n pos) Q E s:=by
 obtain ⟨m,hn,hl⟩:=id I.loc
 refine wpAny_nameGoes_keeps hk hn (by rw [I.ok.kind];rfl) λh' v GJ hs=>h _ ?_
 have lN:=I.lN
 have Cy:i<σ.length:=by rw [I.len];exact (bK.mp hi).1
 have old:∀b o,X.s₀.heap.get? b=some o->b≠X.env.locals:=λb o e=>dY (eO (bP e) I.ok.above)
 refine ⟨I.ok,I.os,I.bare,⟨λb o e z hb hx=>?_,λb o e z hb hx=>?_,I.base.free,λb o e hx=>?_,I.base.fR,I.base.fE,I.base.fS⟩,(ad _ GJ (λj y v' e1 e2 e3=>?_)),λy c e=>?_,I.free,I.ig,λp hp=>?_,λb ob e=>?_,by simpa using I.len⟩
 ·exact (hs.2 b (old b o e)).trans (I.base.keep b o e z hb hx)
 ·obtain ⟨sl,q⟩:=I.base.slot b o e z hb hx
  exact ⟨sl,(hs.2 b (old b o e)).trans q⟩
 ·obtain ⟨o',q⟩:=I.base.there b o e hx
  exact ⟨o',(hs.2 b (old b o e)).trans q⟩
 ·by_cases hj:j=i
  ·subst hj
   rw [Gk Cy] at e2
   cases e2
  ·rw [List.getElem?_set_ne (Ne.symm hj)] at e2
   obtain ⟨u',r',q⟩:=hl j y v' e1 e2 e3
   refine (ad u' r' ?_)
   rcases q with ⟨k,z⟩ | ⟨k,c,z1,z2⟩
   ·refine .inl ⟨k,?_⟩
    have ne:y≠n:=λz=>hj (GH hN e1 (z▸hi))
    simp [ne,z]
   ·exact .inr (ib k c z1 (z2.sameBut hs (lN y c z1)))
 ·obtain ⟨w',z⟩:=I.cell y c e
  exact ⟨w',z.sameBut hs (lN y c e)⟩
 ·obtain ⟨a1,a2,a3,a4⟩:=I.pin p hp
  exact ⟨(hs.2 _ a3).trans a1,a2,a3,a4⟩
 ·refine (I.aB b ob e).ic (λc w' hc q=>(hs.2 c ?_).trans q) (λ_ q=>q) λ_ _ q=>q
  intro z
  have z':c=X.env.locals:=z
  have fr:=I.free
  rcases hc with hc | hc
  ·rw [<-z',hc,e] at fr
   cases fr
  ·rw [<-z',hc] at fr
   cases fr
end
section
variable {M:Model} {A:Around} {E:aX} {h:Heap} {g:Array GenState} {d:Drawn} {t:Nat} {os:OsState} {e:Addr} {oe:Obj} {Q:Bool->Shared->Prop}
variable {nm q Nl q':Str} {C N D N':Addr} {bs bm Nm p7:List Value} {hdct Nn:Bool} {sn Np:List Str} {sub Nq:List Value} {ab Nr:Bool} {col Nt:Option Bool} {dd rV:Option Addr} {k0 k1 k2 k3 k5 j0 j1 j2 j3 j5:Option Value} {newId Xl:String}
theorem Xm(hC:h.get? C=some (excClassObj nm q C N bs bm hdct sn sub ab col dd k0 k1 k2 k3 k5 newId))(hD:h.get? D=some (excClassObj Nl q' D N' Nm p7 Nn Np Nq Nr Nt rV j0 j1 j2 j3 j5 Xl))(he:h.get? e=some oe)(GI:oe.cls=.ref C)
  (oM:p7.contains (.type "BaseException")=true) (Xn:(Value.ref C::bm).contains (.ref D)=true) (hq:Q true ⟨h,g,d,t,os⟩):wpAny M A (excMatches (.ref e) (.ref D)) Q E ⟨h,g,d,t,os⟩:=by
 have Xo:(Value.ref D::p7).contains (.type "BaseException")=true:=by rw [List.contains_cons,oM,Bool.or_true]
 have f:=tc_notTuple;unfold excMatches
 repeat (first | (with_reducible refine qY he ?_;rw [GI]) | with_reducible refine qY hD ?_ | (with_reducible refine wpAny_isSubtype_exc hD ?_;rw [Xo]) | (with_reducible refine wpAny_isSubtype_exc hC ?_;rw [Xn]) | wp_step)
 exact hq
end
def Xp(K:aE)(j7:List Value)(newId:String)(C D:Addr):Prop:=PySem.W.excIn K C j7 newId=true/\PySem.W.mroIn K C (.ref D)=some true
section
variable {X:Cx} {body:List Stmt} {b₀:Stmt} {Nu:List Stmt} {np Xq pos:Pos} {x n:Str} {D:Addr} {tb:CS} {ts:TS} {j7:List Value} {newId:String} {i:Nat}
def Ends.Nv(En:Ends)(i:Nat):Ends:={nx:=λσ H=>En.nx (σ.set i none) H,rt:=En.rt,bk:=λσ H=>En.bk (σ.set i none) H,ct:=λσ H=>En.ct (σ.set i none) H}
def Xr(K:aE)(j7:List Value)(newId:String)(D:Addr)(i:Nat)(tb:CS)(ts:TS):TS:=λEn σ H=>
 tb En (λc _ H'=>∃C,c=.ref C/\Xp K j7 newId C D/\∀ea,H' ea=none->ts (En.Nv i) (σ.set i (some (.ref ea))) (upd H' ea (oN ea C))) σ H
theorem Xs(Hr:X.stack=X.env::X.outer)(rW:X.env.frame=some X.env.locals)(hN:X.N.Nodup)(hi:X.N[i]?=some n)(hk:X.env.scope.names.lookup n=some .local)(hb:Nk X body tb)(hs:∀ea,fb (X.kT ea) (b₀::Nu) ts)(hg:Gl X x)(hm:X.mg x=some (.ref D))
  (hq:PySem.W.excIn X.K D j7 newId=true) (oM:j7.contains (.type "BaseException")=true) (hd:(x == ("__debug__":Str))=false:=by decide) :
  PS X (.Try body [.ExceptHandler (some (.Name x np)) (some n) (b₀::Nu) Xq] [] [] pos) (Xr X.K j7 newId D i tb ts):=by
 intro pins s σ H En I h;refine wpAny_Try_except (bT (hb pins s σ H En _ I h) (λf s1 q=>?_) λe s1 q=>?_)
 ·cases f with
  | next=>exact vJ q
  | brk=>exact q
  | cont=>exact q
  | ret u=>exact q
 ·intros bv0 q s₁ H₁ bv6 I₁ ea C' H' bv7 B t rfl f bv4 C eC q'39 Xu;obtain ⟨Xt,CQ⟩:=q'39
  cases eC;have fl:=f.fl;rw [Hr] at fl;refine wpAny_looks_onW (by rw [I.ok.frames,Hr]) rW fl λh₄ held Xv=>?_
  refine wpAny_landsW held λh₅ Hs Xw=>?_;have up:=Xv.trans Xw;have I₅:Inv X pins σ H' {s1 with heap:=h₅}:=f.land (tk:=s1.toks) I₁ Hs.1 up;obtain ⟨ob,Xx,Xy⟩:=Hs.there;refine wpAny_handleBy_cons (codeAny_handlers_test ?_) (by intro z;cases z)
  refine v_ (X:=X.kT ea) I₅.kT hg hm ?_ hd;have q'41:=Ho I₅.dj Xt;intros bv18 q'41 bm N nm qn bs hdct bv30 sn sub ab col dd k0 k1 k2 bv26 k3 k5 mN hC hN1 Ni T eM;have q'42:=Ho I₅.dj hq;intros bv18 q'42 p7 N' Nl qn' Nm Nn bv30 Np Nq Nr Nt rV j0 j1 j2 bv26 j3 j5 mN' hD hN' amn T' _;rw [eM] at CQ;refine Xm hC hD Xx Xy (T'.hasType oM) (Option.some.inj CQ) (codeAny_handlers_suite_as ?_);refine lands_againW Hs λh₆ Xz XA=>?_;have Nw:=Xz;rw [<-Hr] at Nw;have I₆:Inv X pins σ (upd H' ea (oN ea C')) {s1 with heap:=h₆}:=f.Xb (tk:=s1.toks) I₁ Nw (up.trans XA);refine v9 (X:=X.kT ea) (v:=.ref ea) I₆.kT hN hi (.inl hk) rfl (λs2 I2=>?_) (.inr hk);refine bT (hs ea pins _ _ _ (En.Nv i) I2 (Xu ea f.Hn)) (λf s' q=>?_) λ_ _ z=>z.elim;have q:=q.wA I.ok;cases f with
  | next=>intros bv3 q a b J q;exact CT J hN hi hk λs3 J3=>(ii _ _ J3 q)
  | brk=>intros bv3 q a b J q;exact CT J hN hi hk λs3 J3=>(ii _ _ J3 q)
  | cont=>intros bv3 q a b J q;exact CT J hN hi hk λs3 J3=>(ii _ _ J3 q)
  | ret u=>intros bv14 q v a b J r q;exact CT J hN hi hk λs3 J3=>⟨v,_,_,J3,r,q⟩
end
section
variable {P:Program} {w:World} {K:aE} {mg:cU} {base:Heap}
variable {x qual:Str} {st:Stmt} {f:Addr} {fd:FuncData} {N ps:List Str} {k:Nat} {sp:Sp}
theorem fg.CU(F:fg K x qual st f fd)(S:aZ N ps (aK st))(len:∀vs H Q E,sp vs H Q E->vs.length=ps.length)
  (l_:∀(bh:Value) (A:Around) (outer:List Env) (s:Shared) (H:Hp) (vs:List V) (Q:VK) (E:XK),dc k (A.deeper (envOfC qual (aK st) s.heap.objs.size f bh))->sp vs H Q E->
   wx (jX (df P w) P w K mg base N qual (aK st) f bh A outer s H E) E->
   ∃t,fb (jX (df P w) P w K mg base N qual (aK st) f bh A outer s H E) (g8 st) t/\t {nx:=λ_ H'=>Q .aO H',rt:=Q} (start N vs) H):aN P w K mg base (df P w) (k+1) f fd ps sp:=by
 obtain ⟨oc,od,kV,doc,pm,an,bh,ct,gH,rfl,lk,gG⟩:=F.ex;exact G4 lk gG S len λA outer s H vs Q E hr kL=>l_ bh A outer s H vs Q E hr kL ⟨rfl,rfl,rfl,rfl⟩
theorem fg.dQ(F:fg K x qual st f fd)(S:aZ N ps (aK st))
  (l_:∀(bh:Value) (A:Around) (outer:List Env) (s:Shared) (H:Hp) (vs:List V) (Q:VK) (E:XK),dc k (A.deeper (envOfC qual (aK st) s.heap.objs.size f bh))->sp vs H Q E->
   wx (jX (df P w) P w K mg base N qual (aK st) f bh A outer s H E) E->
   ∃t,fb (jX (df P w) P w K mg base N qual (aK st) f bh A outer s H E) (g8 st) t/\t {nx:=λ_ H'=>Q .aO H',rt:=Q} (start N vs) H)
  (len:∀vs H Q E,sp vs H Q E->vs.length=ps.length:=by intro vs H Q E h;repeat first | (obtain ⟨rfl,_⟩:=h;rfl) | (subst h;rfl) | obtain ⟨_,h⟩:=h):aN P w K mg base (df P w) (k+1) f fd ps sp:=F.CU S len l_
end
structure oP (K:aE) (C:Addr):Prop where
 ci:PySem.W.hasDictIn K C=true
 ga:PySem.W.findIn K (.ref C) "__getattribute__"=some (some (.builtin "BaseException.__getattribute__"))
 gn:PySem.W.findIn K (.ref C) "__getattr__"=some none
 ca:PySem.W.findIn K (.ref C) "__class__"=some (some (.builtin "object.__class__"))
 mo:PySem.W.mroIn K C (.type "object")=some true
 mb:PySem.W.mroIn K C (.type "BaseException")=some true
section
variable {prog:Program} {w:World} {A:Around} {E:aX} {h:Heap} {g:Array GenState} {d:Drawn} {t:Nat} {os:OsState} {K:aE} {a C:Addr} {o:Obj}
theorem XB{R:Result->Shared->Prop}(c_:K.In h)(c:oP K C)(hx:h.get? a=some o)(hc:o.cls=.ref C)(hq:R (.ok (.ret (.ref C))) ⟨h,g,d,t,os⟩) :
  codeAny (model prog w) A (.call (.builtin "getset_descriptor.__get__") ⟨[.builtin "object.__class__",.ref a,.ref C],[]⟩) R ⟨h,g,d,t,os⟩:=by
 have Nx:(⟨h,g,d,t,os⟩:Shared).TypeIs (.builtin "object.__class__") "getset_descriptor":=Gp;have L1:=PySem.W.looks_mroIn (M:=model prog w) c_ c.mo;have ow:=F.owner_object_class;refine codeAny_call_builtin F.slot_gs_get.plain F.entry_gs_get (F.slot_gs_get.check _ _ _ _ _ _ _ _ Nx (F.args_gs_get _ _ _) ?_)
 repeat (any_goals (first | assumption | (with_reducible refine qY hx ?_;rw [hc]) | (rw [ow];with_reducible refine L1.at ?_) | wp_step))
 refine ⟨Code.quiet_builtin _ (by decide +kernel),codeAny_builtin F.entry_object_class ?_⟩
 repeat (any_goals (first | assumption | (with_reducible refine qY hx ?_;rw [hc]) | wp_step))
variable {tk:Tok}
theorem XC{Q:Fin->Shared->Prop}(c_:K.In h)(c:oP K C)(hx:h.get? a=some o)(hc:o.cls=.ref C)(hq:Q (.done (.ret (.ref C))) ⟨h,g,d,t,os⟩) :
  wpAny (model prog w) A (Builtin.«object.__getattribute__» ⟨[.ref a,.str "__class__" tk],[]⟩) Q E ⟨h,g,d,t,os⟩:=by
 have Nx:(⟨h,g,d,t,os⟩:Shared).TypeIs (.builtin "object.__class__") "getset_descriptor":=Gp;have L1:=B8 (M:=model prog w) c_ c.ca;have f5:=Gp;have f6:=F.slot_gs_get.lookup;have f7:=F.slot_gs_set.lookup
 repeat (any_goals (first | assumption | (with_reducible refine qY hx ?_;rw [hc]) | with_reducible refine L1.at ?_ | wp_step))
 refine XB c_ c hx hc ?_
 repeat (any_goals (first | assumption | wp_step))
theorem XD{M:Model}{nv:Value}{Q:Unit->Shared->Prop}(c_:K.In h)(c:oP K C)(hx:h.get? a=some o)(hc:o.cls=.ref C)(hq:Q () ⟨h,g,d,t,os⟩) :
  wpAny M A (checkBuiltinCall "BaseException.__getattribute__" ⟨[.ref a,nv],[]⟩) Q E ⟨h,g,d,t,os⟩:=by
 have hk:builtinKind "BaseException.__getattribute__"=some .slot:=by decide +kernel
 have hs:splitId "BaseException.__getattribute__"=some ("BaseException","__getattribute__"):=by decide +kernel
 have L1:=PySem.W.looks_mroIn (M:=M) c_ c.mb;have ha:=F.args_bexc_ga (.ref a) nv;simp only [checkBuiltinCall,hk,hs];refine cj ?_;unfold isInstance
 repeat (first | (with_reducible refine qY hx ?_;rw [hc]) | with_reducible refine L1.at ?_ | wp_step)
 exact hq
theorem XE{fill expr:Bool}{Q:aX}(c_:K.In h)(c:oP K C)(hx:h.get? a=some o)(hc:o.cls=.ref C)(hq:Q (.ref C) ⟨h,g,d,t,os⟩) :
  wpAny (model prog w) A (getAttrBy (.ref a) (.str "__class__" tk) fill expr) Q E ⟨h,g,d,t,os⟩:=by
 have f3:=F.attrBase_ValueError.ga.bind (.ref a);have z0:(expr && onTheHeap (Value.builtin "BaseException.__getattribute__"))=false:=by cases expr <;> rfl
 have z2:(Value.builtin "BaseException.__getattribute__" == Value.builtin "object.__getattribute__")=false:=by decide +kernel
 have z1:(onTheHeap (Value.ref C) && Value.builtin "BaseException.__getattribute__" == Value.builtin "object.__getattribute__")=false:=by rw [z2];rfl
 have L1:=B8 (M:=model prog w) c_ c.ga;have L2:=B8 (M:=model prog w) c_ c.gn
 repeat (any_goals (first | assumption | (with_reducible refine qY hx ?_;rw [hc]) | with_reducible refine L1.at ?_ | with_reducible refine L2.at ?_ | wp_step))
 refine codeAny_call_builtin F.attrBase_ValueError.ga.plain F.entry_bexc_ga (XD c_ c hx hc (XC c_ c hx hc ?_))
 repeat (any_goals (first | assumption | wp_step))
theorem XF{Q:Option Value->Shared->Prop}(c_:K.In h)(c:oP K C)(hx:h.get? a=some o)(hc:o.cls=.ref C)(hq:Q (some (.ref C)) ⟨h,g,d,t+1,os⟩) :
  wpAny (model prog w) A (getAttr? (.ref a) "__class__") Q E ⟨h,g,d,t,os⟩:=by
 unfold getAttr? getAttrBy?
 repeat (any_goals (first | assumption | with_reducible apply XE c_ c hx hc | wp_step))
theorem XG(c:oP K C):PySem.W.KitX K (.ref a) (.ref C) (ExcAt a C) where
 ty:=λM h _ k=>by intros bv4 k oe e1 e2 _;exact e2▸(PySem.W.Looks.ld e1).andThen .now
 it:=λM h c_ _=>by
  obtain ⟨cd,hc,_⟩:=PySem.W.any_some c.ci;unfold PySem.W.clsIn at hc
  split at hc
  ·rename_i look
   intro A' Q' E' s' k q;unfold isType loadHead;exact cj (wpAny_loadPart (k _ _ (c_ _ _ look)) (dZ q))
  ·cases hc
 ne:=λh tp dd ai n sl c_ XH=>by
  obtain ⟨cd,hc,_⟩:=PySem.W.any_some c.ci;refine Bool.eq_false_iff.mpr λq=>?_;have e:C=tp:=Value.ref.inj (mS.mp q);subst e;unfold PySem.W.clsIn at hc
  split at hc
  ·rename_i look
   have z:=(c_ _ _ look).symm.trans XH;cases z
  ·cases hc
 ca:=fun{prog w A E Q s} c_ k z=>by intros bv4 k oe e1 e2 _;obtain ⟨h,g,d,t,os⟩:=s;exact XF c_ c e1 e2 z
end
def CV(a:Addr)(h:Heap):Prop:=∃o ep,h.get? a=some o/\o.ExactDict/\o.data=.dict #[] ep/\(a == sysModules)=false
theorem CV.Ht(e:CV a h):PySem.W.KitAt a "dict" h:=by intros bv7 e o _ e c _;exact (ad o e c.1)
def Ny(a:Addr):HO:=.ext (CV a)
inductive rY (K:aE) (H:Hp):V->Value->Prop where
 | of {x:V} {t:Value} (h:jW K H x t):rY K H x t
 | exc {a C:Addr} (e:H a=some (oN a C)) (c:oP K C):rY K H (.ref a) (.ref C)
 | wz {a:Addr} (e:H a=some (Ny a)):rY K H (.ref a) (.type "dict")
def Nz:V->Value
 | .ty n=>.type n
 | .ref a=>.ref a
 | _=>.none
def XI:V->Bool
 | .ty _=>true
 | .ref _=>true
 | _=>false
def XJ(K:aE):List V->Hp->VK->Prop:=λxs H Q=>∃x c t b,xs=[x,c]/\XI c=true/\rY K H x t/\PySem.W.kitOne K t (Nz c)=some b/\Q (.bl b) H
variable {X:Cx}
theorem i4(hK:X.K=K:=by rfl):gZ X (.builtin "isinstance") (XJ K):=by
 intro pins s σ H xs us Q I r h;subst hK;intros bv29 h x c t b rfl hc ty e q;obtain ⟨u,cv,rfl,rx,rc⟩:=vals2 r;have ec:cv=Nz c:=by
  cases c with
  | ty n=>exact rc
  | ref a=>exact rc
  | _=>cases hc
 subst ec;cases ty with
 | of ty=>exact V8 I rx ty e λtk=>⟨.bl b,H,I.tok tk,rfl,q⟩
 | @wz a ea=>cases rx;obtain ⟨k,_,_⟩:=(show cN X.prog X.w H s.heap a (.ext (CV a)) from I.aB a _ ea);exact jL PySem.W.kitx_dict I.dj k.Ht e (λz=>nomatch z) λtk=>⟨.bl b,H,I.tok tk,rfl,q⟩
 | @exc a C ea cc=>cases rx;obtain ⟨k,_,_⟩:=(show cN X.prog X.w H s.heap a (.ext (ExcAt a C)) from I.aB a _ ea);exact jL (XG cc) I.dj k e (λz=>nomatch z) λtk=>⟨.bl b,H,I.tok tk,rfl,q⟩
def iL:List V->List V->Bool
 | [],[]=>true
 | x::xs,y::ys=>kN x y && iL xs ys
 | _,_=>false
def CW(K:aE)(neg:Bool):R2:=λx y H Q=>∃a b xs ys,x=.ref a/\y=.ref b/\eF K H a xs/\eF K H b ys/\xs.all jZ=true/\ys.all jZ=true/\Q (.bl (if neg then !iL xs ys else iL xs ys)) H
theorem Hu{A:Around}{s:Shared}:∀{xs ys:List V} {us vs:List Value},Vals xs us->Vals ys vs->xs.all jZ=true->ys.all jZ=true->
  ∃e:Nat->Bool,(∀j (h1:j<us.length) (h2:j<vs.length),SeqAt.EqAt A s us[j] vs[j] (e j))/\((List.range (min us.length vs.length)).all e && us.length == vs.length)=iL xs ys
 | [],[],_,_,.nil,.nil,_,_=>⟨λ_=>true,λj h1=>absurd h1 (pL _),by simp [iL]⟩
 | [],_::_,_,_,.nil,.cons _ _,_,_=>⟨λ_=>true,λj h1=>absurd h1 (pL _),by simp [iL]⟩
 | _::_,[],_,_,.cons _ _,.nil,_,_=>⟨λ_=>true,λj _ h2=>absurd h2 (pL _),by simp [iL]⟩
 | x::xs,y::ys,u::us,v::vs,.cons r1 t1,.cons r2 t2,f1,f2=>by
  rw [List.all_cons,Bool.and_eq_true] at f1 f2;obtain ⟨e,h,q⟩:=Hu (A:=A) (s:=s) t1 t2 f1.2 f2.2;refine ⟨λj=>match j with | 0=>kN x y | k+1=>e k,λj h1 h2=>?_,?_⟩
  ·cases j with
   | zero=>exact rR r1 r2 f1.1 f2.1
   | succ k=>exact h k (by simpa using h1) (by simpa using h2)
  ·have em:min (u::us).length (v::vs).length=min us.length vs.length+1:=by simp only [fO];lia
   rw [em,Gq,List.all_cons,List.all_map];show (kN x y && (List.range (min us.length vs.length)).all e && ((us.length+1) == (vs.length+1)))=(kN x y && iL xs ys);rw [<-q];have eb:((us.length+1) == (vs.length+1))=(us.length == vs.length):=by rw [qX,mS,mS];lia
   rw [eb,Bool.and_assoc]
theorem XM(hu:X.A.units<cLine):cC X (compareOp .Eq) (CW X.K false):=by
 intro pins s σ H x y v u Q I rx ry h;intros bv33 h a b xs ys rfl rfl h1 h2 f1 f2 q;cases rx;cases ry;obtain ⟨us,r1,t1,_⟩:=I.tuple h1;obtain ⟨vs,r2,t2,_⟩:=I.tuple h2;obtain ⟨e,he,eq⟩:=Hu (A:=X.A.in1) (s:=s) r1 r2 f1 f2;refine SeqAt.eq_tupleAt (e:=e) t1 t2 hu (λj z1 z2=>by simpa using he j (by simpa using z1) (by simpa using z2)) (bi (.bl (iL xs ys)) H I ?_ q)
 show _=Value.bool (iL xs ys);rw [<-eq];simp
theorem XN(hu:X.A.units<cLine):cC X (compareOp .NotEq) (CW X.K true):=by
 intro pins s σ H x y v u Q I rx ry h;intros bv33 h a b xs ys rfl rfl h1 h2 f1 f2 q;cases rx;cases ry;obtain ⟨us,r1,t1,_⟩:=I.tuple h1;obtain ⟨vs,r2,t2,_⟩:=I.tuple h2;obtain ⟨e,he,eq⟩:=Hu (A:=X.A.in1) (s:=s) r1 r2 f1 f2;refine SeqAt.RcNeAt.tuples (e:=e) t1 t2 hu (λj z1 z2=>by simpa using he j (by simpa using z1) (by simpa using z2)) _ _ _ _ (bi (.bl (!iL xs ys)) H I ?_ q)
 show _=Value.bool (!iL xs ys);rw [<-eq];simp
theorem boot_isinstance:bootBuiltins "isinstance"=some (.builtin "isinstance"):=by decide +kernel
theorem boot_abs:bootBuiltins "abs"=some (.builtin "abs"):=by decide +kernel
theorem boot_min:bootBuiltins "min"=some (.builtin "min"):=by decide +kernel
theorem boot_max:bootBuiltins "max"=some (.builtin "max"):=by decide +kernel
theorem boot_int:bootBuiltins "int"=some (.type "int"):=by decide +kernel
theorem boot_bool:bootBuiltins "bool"=some (.type "bool"):=by decide +kernel
theorem boot_tuple:bootBuiltins "tuple"=some (.type "tuple"):=by decide +kernel
theorem boot_list:bootBuiltins "list"=some (.type "list"):=by decide +kernel
theorem XO:bootBuiltins "ValueError"=some (.type "ValueError"):=by decide +kernel
end L2
namespace My
open PySem L2
def g9(n:Int):Bool:=(List.range 32).all λe=>decide (e<2) || decide (n<(e:Int)*(e:Int)) || decide (n % (e:Int)≠0)
variable {n d:Int}
theorem NA(h2:n<=997)(hd:2<=d)(hq:d*d<=n)(hm:n % d=0):g9 n=false:=by
 have hd2:d<32:=by
  by_cases h:d<32;·exact h
  ·have:32*32<=d*d:=Int.mul_le_mul ⋯ ⋯ ⋯ ⋯
   lia
 obtain ⟨k,rfl⟩:∃k:Nat,d=(k:Int):=⟨d.toNat,⋯⟩
 cases e:g9 n with
 | false=>rfl
 | true=>
  have z:=mU.mp e k (dA.mpr ⋯)
  simp only [Bool.or_eq_true,Cc] at z;rcases z with (z | z) | z;·lia
  ·lia
  ·exact absurd hm z
theorem XQ(hq:n<d*d)(hd:2<=d)(hm:∀e:Int,2<=e->e<d->n % e≠0):g9 n=true:=by
 refine mU.mpr λk _=>?_;simp only [Bool.or_eq_true,Cc];by_cases h1:k<2;·exact .inl (.inl h1)
 ·by_cases h2:n<(k:Int)*(k:Int)
  ·exact .inl (.inr h2)
  ·refine .inr (hm k ⋯ ?_)
   by_cases h3:(k:Int)<d;·exact h3
   ·have:d*d<=(k:Int)*(k:Int):=Int.mul_le_mul ⋯ ⋯ ⋯ ⋯
    lia
inductive Td where
 | a (w:Str)
 | b (w:Str) (n:Int)
def Td.vs:Td->List V
 | .a w=>[.str w]
 | .b w n=>[.str w,.int n]
def Td.AI:Td->Bool
 | .a w=>decide (w="fractions")
 | .b _ _=>false
def Td.kU:Td->Bool
 | .a _=>false
 | .b w n=>decide (w="wheel") && (decide (2<=n) && decide (n<=997) && g9 n)
def Td.good(d:Td):Bool:=d.AI || d.kU
def Td.prime:Td->V
 | .a _=>.aO
 | .b _ n=>.int n
end My
namespace L2
open PySem PySem.Spec PyProof.Rows
abbrev Cx.bL (X:Cx) (N:List Str) (scope:Scope) (cl:List (Str×Addr)) (s₃:Shared) (H₃:Hp) (fp:List Addr):Cx:=
 {X with N:=N,s₀:=s₃,H₀:=H₃,env:=compEnvC scope cl s₃.heap.objs.size X.env,outer:=X.stack,stack:=X.stack,ex:=fp,fn:=λ_=>false,pn:=[],xe:=λ_ _=>False}
inductive kW (X:Cx):List Expr->TT->Prop where
 | nil:kW X [] (λ_ H Q=>Q true H)
 | one {c:Expr} {t:TT} (h:PT X c t):kW X [c] t
def j8(wi:TI)(ρ:St->St)(tt:TT)(te:TE):TE:=λσ H Q=>wi σ H λJ H1=>∀D,H1 D=none->∃W:Nat->Nat->List V->Hp->Prop,(∃m,W 0 m [] (upd H1 D (.lst []))) /\
 ∀i m ys Hc,W i m ys Hc->Hc D=some (.lst ys)/\((J.stop i Hc/\Q (.ref D) Hc)\/(J.go i Hc/\∀x H',J.fc i Hc x H'->tt (some x::ρ σ) H' λb H2=>
  if b=true then te (some x::ρ σ) H2 λy H3=>H3 D=some (.lst ys)/\ys.length<sizeLine/\∃m',m'<m/\W (i+1) m' (ys++[y]) (upd H3 D (.lst (ys++[y]))) else ∃m',m'<m/\W (i+1) m' ys H2))
section
variable {X:Cx} {N:List Str} {scope:Scope} {cl:List (Str×Addr)} {x:Str} {px pos:Pos} {iter elt:Expr} {ifs:List Expr} {wi:TI} {ρ:St->St} {tt:TT} {te:TE}
structure Hv (X:Cx) (N:List Str) (scope:Scope) (cl:List (Str×Addr)) (x:Str) (ρ:St->St):Prop where
 rZ:closureFor scope X.env=pure cl
 kind:scope.kind=.function
 AJ:∀y∈scope.names,y.2≠.cell
 names:∀y∈scope.names,y.2=.local->scope.names.lookup y.1=some .local
 sub:∀p∈cl,X.env.cells.lookup p.1=some p.2
 has:∀y,((relabel scope X.env).names.lookup y=some .cell\/(relabel scope X.env).names.lookup y=some .free)->∃c,cl.lookup y=some c
 n0:N[0]?=some x
 nd:N.Nodup
 hx:scope.names.lookup x=some .local
 r6:∀(σ:St) (j:Nat) (v:V),(ρ σ)[j]?=some (some v)->∃(i:Nat) (y:Str),N[j+1]?=some y/\X.N[i]?=some y/\σ[i]?=some (some v)/\oz X.env.scope y/\(X.env.kindOf y=some .cell\/X.env.kindOf y=some .free)/\((relabel scope X.env).names.lookup y=some .cell\/(relabel scope X.env).names.lookup y=some .free)
 len:∀σ:St,σ.length=X.N.length->(ρ σ).length+1=N.length
theorem NB{names:List (Str×NameKind)}(h:(names.all λq=>(q.2 != .cell && q.2 != .free) || (cl.lookup q.1).isSome)=true) :
  ∀y,(names.lookup y=some .cell\/names.lookup y=some .free)->∃c,cl.lookup y=some c:=λy hy=>by
 have key:∀k:NameKind,(k != .cell && k != .free)=false->names.lookup y=some k->∃c,cl.lookup y=some c:=λk hk e=>by have z:=mU.mp h (y,k) (kz e);rw [hk,vP] at z;exact Gm.mp z
 rcases hy with e | e;·exact key .cell rfl e
 ·exact key .free rfl e
theorem join_some{o:Option (Option V)}{v:V}(h:some o.join=some (some v)):o=some (some v):=by
 cases o with
 | none=>cases h
 | some o=>cases h;rfl
def CY(X:Cx)(sc:Scope):List Str->List Nat->Prop
 | n::ns,i::is=>(X.N[i]?=some n/\oz X.env.scope n/\(X.env.kindOf n=some .cell\/X.env.kindOf n=some .free)/\((relabel sc X.env).names.lookup n=some .cell\/(relabel sc X.env).names.lookup n=some .free))/\CY X sc ns is
 | _,[]=>True
 | [],_::_=>False
theorem Hw{X:Cx}{sc:Scope}:∀{ns:List Str} {is:List Nat},CY X sc ns is->∀(σ:St) (j:Nat) (v:V),(is.map λi=>σ[i]?.join)[j]?=some (some v)->∃(i:Nat) (n:Str),ns[j]?=some n/\X.N[i]?=some n/\σ[i]?=some (some v)/\oz X.env.scope n/\(X.env.kindOf n=some .cell\/X.env.kindOf n=some .free)/\((relabel sc X.env).names.lookup n=some .cell\/(relabel sc X.env).names.lookup n=some .free)
 | _,[],_,_,_,_,e=>by cases e
 | [],_::_,h,_,_,_,_=>h.elim
 | n::_,i::_,h,_,0,_,e=>(f8 i n rfl h.1.1 (join_some e) h.1.2)
 | _::_,_::_,h,σ,j+1,v,e=>Hw h.2 σ j v e
theorem du(is:List Nat)(h1:closureFor scope X.env=pure cl)(h:CY X scope N.tail is:=by repeat' first | exact True.intro | refine And.intro ⟨rfl,Or.inr (Or.inl rfl),.inl rfl,.inl rfl⟩ ?_)(h2:scope.kind=.function:=by rfl)(h3:∀y∈scope.names,y.2≠.cell:=by decide +kernel)(h4:∀y∈scope.names,y.2=.local->scope.names.lookup y.1=some .local:=by decide +kernel)(h5:∀p∈cl,X.env.cells.lookup p.1=some p.2:=by repeat' first | exact Cd _ | refine vQ.mpr ⟨rfl,?_⟩)(h6:((relabel scope X.env).names.all λq=>(q.2 != .cell && q.2 != .free) || (cl.lookup q.1).isSome)=true:=by rfl)(h7:N[0]?=some x:=by rfl)(h8:N.Nodup:=by decide +kernel)(h9:scope.names.lookup x=some .local:=by rfl)(hr:∀σ:St,ρ σ=is.map λi=>σ[i]?.join:=by exact λ_=>rfl)(hl:is.length+1=N.length:=by rfl):Hv X N scope cl x ρ:=
 ⟨h1,h2,h3,h4,h5,NB h6,h7,h8,h9,λσ j v e=>by rw [hr] at e;rw [<-List.getElem?_tail];exact Hw h σ j v e,λσ _=>by rw [hr,aR];exact hl⟩
theorem fH(B:Hv X N scope cl x ρ)(hc:X.calm=true)(hi:PI X (.Name x px) iter wi)(ht:∀s₃ H₃ fp,kW (X.bL N scope cl s₃ H₃ fp) ifs tt)(he:∀s₃ H₃ fp,PE (X.bL N scope cl s₃ H₃ fp) elt te)
  (hs:∀x,foldedSetIterable iter X.env x=pure x:=by intro _;rfl):PE X (.ListComp elt [⟨.Name x px,iter,ifs,0⟩] scope pos) (j8 wi ρ tt te):=by
 intro pins s σ H Q I h
 rw [eval_ListComp]
 refine z9 (use:=none) rfl hs B.rZ B.kind B.names (aT (hi pins s σ H _ I h) λv s1 h1=>aT h1 λrJ s2 h2=>?_)
 intros bv32 h2 it fp tn J H2 rfl I2 T gf f2 q2
 have nD:H2 s2.heap.objs.size=none:=I2.aB.fresh (aV _)
 obtain ⟨W,⟨m0,w0⟩,turn⟩:=q2 _ nD
 refine vL (Ce B.AJ (by intro y hy;simp at hy) (λh₁ gk gJ=>?_) B.kind)
 dsimp only at gk gJ ⊢
 generalize hD:s2.heap.objs.size=D at nD w0 turn gk gJ ⊢
 generalize gK:({s2 with heap:=s2.heap.push {cls:=.type "list",dict:=none,data:=.seq ([]:List Value).toArray}}:Shared)=s3
 have I3:Inv X pins σ (upd H2 D (.lst [])) s3:=by
  subst hD gK
  exact I2.laid (t':=s2.toks) (λb u e=>cx _ e) (aV _) ⟨cG _,[],_,.nil,fN _ rfl⟩
 have e3:s3.heap=s2.heap.push {cls:=.type "list",dict:=none,data:=.seq ([]:List Value).toArray}:=by rw [<-gK]
 have eR:∀b o,s2.heap.get? b=some o->s3.heap.get? b=some o:=λb o e=>by rw [e3];exact cx _ e
 rw [<-e3] at gk gJ ⊢
 have below:∀b o,s3.heap.get? b=some o->b≠s3.heap.objs.size:=λb o e=>dY (bP e)
 have cQ:∀b o,s3.heap.get? b=some o->h₁.get? b=some o:=λb o e=>gJ.extBut b o (below b o e) (cx _ e)
 have gw:∀b∈fp,∃o,s2.heap.get? b=some o/\∀v,o.data≠.cell v:=T.obj _ _ gf
 have oQ:∀b∈fp,b≠D:=λb hb z=>by
  obtain ⟨o,e,_⟩:=gw b hb
  rw [z,<-hD] at e
  exact absurd (bP e) (fM _)
 have cE:∀y c,cl.lookup y=some c->X.env.cells.lookup y=some c:=λy c e=>B.sub (y,c) (kz e)
 have oR:=I3.rz
 have dQ:(X.bL N scope cl s3 (upd H2 D (.lst [])) fp).Ok:=by
  refine ⟨I.ok.mod,B.kind,I.ok.glob,I.ok.blt,aV _,λa b c e1 e2=>I.ok.inj a b c (cE a c e1) (cE b c e2),λy hy=>B.has y hy,(λ_ _ z _=>absurd z dC),(λ_=>I.ok.hd hc),I.ok.frames,.inl rfl,λb hb=>⟨?_,λy c e z=>?_⟩,λb o e=>?_,aM I.ok.gY I3.sz,λb o e hb=>?_,λb hb z=>?_,I3.stack,oR⟩
  ·obtain ⟨o,e,_⟩:=gw b hb
   exact below b o (eR b o e)
  ·exact (f2 b hb).2.2.2.2.1 y c (cE y c e) z
  ·exact I3.bs b o e
  ·rcases (f2 b hb).2.2.2.1 with z | z
   ·exact I.ok.mZ b o e z
   ·exact absurd (eO (bP e) (aM I.ok.gY z)) (fM _)
  ·rcases dB.mp (I3.rq b z) with z | z
   ·exact (f2 b hb).2.1 z
   ·exact (f2 b hb).2.2.1 z
 have IB:∀tk:Nat,Inv (X.bL N scope cl s3 (upd H2 D (.lst [])) fp) [] (none::ρ σ) (upd H2 D (.lst [])) {s3 with heap:=h₁,toks:=tk}:=λtk=>by
  refine ⟨dQ,rfl,I3.bare,Un.kept cQ,(ad _ gk (λj y v e1 e2 e3=>?_)),λy c e=>?_,?_,λy c e=>I3.ig y c (cE y c e),(λp hp=>nomatch hp),I3.aB.kept cQ,?_⟩
  ·cases j with
   | zero=>cases e2
   | succ j=>
    obtain ⟨i,y',a1,a2,a3,a4,a5,a6⟩:=B.r6 σ j v e2
    have j9:N[j+1]?=some y:=e1
    rw [j9] at a1
    cases a1
    obtain ⟨m,hn,hl⟩:=I3.loc
    obtain ⟨u,r,l⟩:=hl i y v a2 a3 a4
    refine (ad u r (.inr ⟨a6,?_⟩))
    obtain ⟨c,ec⟩:=B.has y a6
    rcases l with ⟨k,_⟩ | ⟨_,c',jw,z⟩
    ·rcases a5 with q | q <;> (rw [k] at q;cases q)
    ·have:=cE y c ec
     rw [this] at jw
     cases jw
     intros bv2 z o ho hd
     exact (u8 c ec o (cQ _ _ ho) hd)
  ·obtain ⟨v,o,ho,hd⟩:=I3.cell y c (cE y c e)
   exact ⟨v,o,cQ _ _ ho,hd⟩
  ·exact I3.aB.fresh (aV _)
  ·show (none::ρ σ).length=N.length
   rw [fO]
   exact B.len σ I.len
 have fin:∀{σ':St} {H':Hp} {s':Shared},Inv (X.bL N scope cl s3 (upd H2 D (.lst [])) fp) [] σ' H' s'->Q (.ref D) H'->compPost (model X.prog X.w) X.A X.xe none (EP X pins σ Q) (.ref D) s3.heap.objs.size (.ok .next) s':=fun{σ' H' s'} J q=>by
  obtain ⟨m,hn,_⟩:=J.loc
  refine (ad m hn (λh' fh=>(bi (.ref D) H' ?_ rfl q)))
  have old:∀b o,s3.heap.get? b=some o->b≠s3.heap.objs.size:=below
  have u1:Un (cz X.stack) fp (upd H2 D (.lst [])) H' s3.heap h':=by
   refine ⟨λb o e n hb hx=>?_,λb o e n hb hx=>?_,J.base.free,λb o e hx=>?_,J.base.fR,J.base.fE,J.base.fS⟩
   ·exact (fh.2 b (old b o e)).trans (J.base.keep b o e n hb hx)
   ·obtain ⟨sl,z⟩:=J.base.slot b o e n hb hx
    exact ⟨sl,(fh.2 b (old b o e)).trans z⟩
   ·obtain ⟨o',z⟩:=J.base.there b o e hx
    exact ⟨o',(fh.2 b (old b o e)).trans z⟩
  have oS:cq X.prog X.w H' h':=λb u e=>by
   refine (J.aB b u e).ic (λc v hc z=>(fh.2 c λy=>?_).trans z) (λ_ z=>z) λ_ _ z=>z
   have fr:=J.free
   have y':c=s3.heap.objs.size:=y
   rcases hc with hc | hc
   ·rw [<-hc,y'] at e
    exact absurd (fr.symm.trans e) (by simp)
   ·rw [y'] at hc
    exact absurd (fr.symm.trans hc) (by simp)
  refine I3.jj (s':={s' with heap:=h'}) (ch:=fp) (J.os) u1 oS J.bare λb hb=>?_
  obtain ⟨g0,g1,g2,g3,g4,g5⟩:=f2 b hb
  exact ⟨g3,g1,g4,g5⟩
 have fF:∀{H':Hp},(∀b∈fp,H' b=none)->∀b∈fp,lS (X.bL N scope cl s3 (upd H2 D (.lst [])) fp) [] H' b:=λhn b hb=>by
  refine ⟨hn b hb,?_,?_,.inl hb,λy c e z=>(f2 b hb).2.2.2.2.1 y c (cE y c e) z,λp hp=>nomatch hp⟩
  ·obtain ⟨o,e,_⟩:=gw b hb
   exact below b o (eR b o e)
  ·exact dQ.m4 b hb
 have loop:∀tk:Nat,codeAny (model X.prog X.w) X.A (.compLoop (.ListComp elt [⟨.Name x px,iter,ifs,0⟩] scope pos) 0 (.ref it) (.ref D) (compEnvC scope cl s3.heap.objs.size X.env))
   (compPost (model X.prog X.w) X.A X.xe none (EP X pins σ Q) (.ref D) s3.heap.objs.size) {s3 with heap:=h₁,toks:=tk}:=λtk=>by
  refine Gr (λn s'=>∃i ys o H',Inv (X.bL N scope cl s3 (upd H2 D (.lst [])) fp) [] (o::ρ σ) H' s'/\tn i s'.heap/\(∀b∈fp,H' b=none)/\W i n ys H') ?_ m0
   ⟨0,[],none,_,IB tk,T.keep _ _ _ gf λb hb o e=>cQ _ _ (eR _ _ e),λb hb=>by rw [aH (oQ b hb)];exact (f2 b hb).1,w0⟩
  intro n s4;intros bv22 _ i ys o H4 I4 jx jy w4
  obtain ⟨CZ,oU⟩:=turn i n ys H4 w4
  rcases oU with ⟨stop,qn⟩ | ⟨go,step⟩
  ·refine bT (T.done (X.bL N scope cl s3 (upd H2 D (.lst [])) fp) rfl rfl rfl hc i [] s4 _ H4 (λ_ _=>False) I4 (fF jy) jx stop) (λr s5 ⟨hr,I5⟩=>?_) λ_ _ z=>z.elim
   subst hr
   exact fin I5 qn
  ·refine bT (T.item (X.bL N scope cl s3 (upd H2 D (.lst [])) fp) rfl rfl rfl hc i [] s4 _ H4 (λ_ _=>False) I4 (fF jy) jx go) (λr s5 ⟨u,hr,h5⟩=>?_) λ_ _ z=>z.elim
   subst hr
   have z:letOwnedTupleGo (.Name x px) (.ref it) u=pure ():=rfl
   rw [z] at h5
   show wpAny _ _ ((pure ():Sem Unit) >>= λ_=>assign (.Name x px) (compEnvC scope cl s3.heap.objs.size X.env) u) _ _ s5
   refine cj (bT h5 (λ_ s5 ⟨y,H5,I5,r5,y5,fG,lV⟩=>?_) λ_ _ z=>z.elim)
   have lW:=I5.pinned (fF lV) (T.obj _ _ fG)
   have pg:PG (X.bL N scope cl s3 (upd H2 D (.lst [])) fp) (.Name x px) (ck 0):=b_ (i:=0) B.nd B.n0 (.inl (kB B.hx)) (.inr (kB B.hx))
   have again:∀{σ7:St} {H7:Hp} {s7:Shared},Inv (X.bL N scope cl s3 (upd H2 D (.lst [])) fp) ([]++jn fp s5.heap) σ7 H7 s7->Inv (X.bL N scope cl s3 (upd H2 D (.lst [])) fp) [] σ7 H7 s7/\tn (i+1) s7.heap/\∀b∈fp,H7 b=none:=fun{σ7 H7 s7} I7=>by
    refine ⟨I7.pU,T.keep _ _ _ fG λb hb o e=>(I7.pin (b,o) (d5 _ (d5 _ (kK hb e)))).1,λb hb=>?_⟩
    obtain ⟨o,e,d⟩:=T.obj _ _ fG b hb
    exact (I7.pin (b,o) (d5 _ (d5 _ (kK hb e)))).2.1
   refine bT (pg _ s5 _ H5 y u (λσ2 H6=>σ2=some y::ρ σ/\H6=H5) lW r5 ⟨rfl,rfl⟩) (λ_ s6 ⟨σ6,H6,I6,q6⟩=>?_) λ_ _ z=>z.elim
   obtain ⟨rfl,rfl⟩:=q6
   have oV:=step y _ y5
   have tests:∀{fI:TT},kW (X.bL N scope cl s3 (upd H2 D (.lst [])) fp) ifs fI->∀{R:Bool->Hp->Prop},fI (some y::ρ σ) H6 R->wpAny (model X.prog X.w) X.A
     (forIn ifs true λc r=>if r=true then do let ok <-isTrue c (compEnvC scope cl s3.heap.objs.size X.env) (eval c (compEnvC scope cl s3.heap.objs.size X.env));pure (ForInStep.yield ok) else pure (ForInStep.yield r))
     (λok s7=>∃H7,Inv (X.bL N scope cl s3 (upd H2 D (.lst [])) fp) ([]++jn fp s5.heap) (some y::ρ σ) H7 s7/\R ok H7) (λ_ _=>False) s6:=fun{fI} p {R} hR=>by
    cases p with
    | nil=>exact z_ (ad _ I6 hR)
    | one p=>exact Aa (p _ s6 _ _ _ I6 hR)
   refine bT (tests (ht s3 _ fp) oV) (λok s7 ⟨H7,I7,q7⟩=>?_) λ_ _ z=>z.elim
   cases ok with
   | false=>
    intros bv2 q7 m' dH w7
    obtain ⟨a1,a2,a3⟩:=again I7
    exact (ww m' dH (i+1) (re ys _ H7 a1 a2 a3 w7))
   | true=>
    refine bT (he s3 _ fp _ s7 _ H7 _ I7 q7) (λev s8 ⟨z,H8,I8,r8,oW,hz,m',dH,w8⟩=>?_) λ_ _ z=>z.elim
    refine bT (p6 (X:=X.bL N scope cl s3 (upd H2 D (.lst [])) fp) _ s8 _ H8 (.ref D) [z] (.ref D) [ev] (λ_ H9=>H9=upd H8 D (.lst (ys++[z]))) I8 rfl (.cons r8 .nil) (pi D ys z rfl rfl oW hz rfl)) (λ_ s9 ⟨_,H9,I9,_,q9⟩=>?_) λ_ _ z=>z.elim
    subst q9
    obtain ⟨a1,a2,a3⟩:=again I9
    exact ⟨m',dH,i+1,ys++[z],_,_,a1,a2,a3,w8⟩
 have start:=loop (s3.toks+([]:List (Str×Value)).length)
 have es:({s3 with heap:=h₁,toks:=s3.toks+([]:List (Str×Value)).length}:Shared)={s2 with heap:=h₁,toks:=s2.toks+([]:List (Str×Value)).length}:=by rw [<-gK]
 rw [es] at start
 exact Ab start (T.self _ 0 _ _ _ (T.keep _ _ _ gf λb hb o e=>cQ _ _ (eR _ _ e)) start)
end
def cV(i:Int):Prop:=i.natAbs<2 ^ 2048
variable {i:Int}
theorem cV.log(h:cV i):i.natAbs.log2<2048:=by
 by_cases z:i.natAbs=0;·rw [z];decide
 ·exact (Nat.log2_lt z).mpr h
def Hz(i j:Int):Prop:=j≠0/\cV j
def HA(i j:Int):Prop:=cV i/\cV j
theorem HA.ok{j:Int}(h:HA i j):IntMulOk i j:=by
 have b:∀{k:Int},cV k->Builtin.Int.intBits k<=2048:=fun{k} hk=>by
  have z:=hk.log;unfold Builtin.Int.intBits
  split <;> lia
 unfold IntMulOk;have e:Builtin.Int.intTooBig ((Builtin.Int.intBits i:Int)+(Builtin.Int.intBits j:Int))=false:=by
  unfold Builtin.Int.intTooBig;have h1:=b h.1;have h2:=b h.2;have h3:(4096:Int)<=bitsLine:=by decide +kernel
  exact cZ ⋯
 intro z;rw [Bool.and_eq_true] at z;have z2:=z.2;rw [show Builtin.Int.intTooBig ((Builtin.Int.intBits i:Int)+(Builtin.Int.intBits j:Int))=false from e] at z2;cases z2
theorem HB:∀{xs:List V} {us:List Value},xs.length=us.length->(∀(i:Nat) (x:V) (u:Value),xs[i]?=some x->us[i]?=some u->RelV x u)->Vals xs us
 | [],[],_,_=>.nil
 | [],_::_,h,_=>by simp at h
 | _::_,[],h,_=>by simp at h
 | x::xs,u::us,h,k=>.cons (k 0 x u rfl rfl) (HB (by simpa using h) λi a b h1 h2=>k (i+1) a b (by simpa using h1) (by simpa using h2))
section
variable {X:Cx}
theorem C1:cC X (binaryOp .FloorDiv) (rI Hz λi j=>.int (i.fdiv j)):=pW λ_ _ _ _ _ _ _ hc q=>floordiv_int hc.1 q (.inl (PyProof.noPylong_of_log2 (eO hc.2.log ∅)))
theorem iw:cC X (binaryOp .Mult) (rI HA λi j=>.int (i*j)):=pW λ_ _ _ _ _ _ _ hc q=>mul_int q hc.ok
def XR(i j:Int):Prop:=0<j/\cV j
theorem ma:cC X (binaryOp .FloorDiv) (rI XR λi j=>.int (i / j)):=pW λi j _ _ _ _ _ hc q=>floordiv_int (Int.ne_of_gt hc.1) (by rw [Int.fdiv_eq_ediv_of_nonneg i (Int.le_of_lt hc.1)];exact q) (.inl (PyProof.noPylong_of_log2 (eO hc.2.log ∅)))
def allR(K:aE):List V->Hp->VK->Prop:=λxs H Q=>∃(p:Addr) (bs:List Bool),xs=[.ref p]/\bM K H p (bs.map V.bl)/\Q (.bl (bs.all id)) H
theorem NC{K:aE}(hc:X.calm=true)(hK:X.K=K:=by rfl):gZ X (.builtin "all") (allR K):=by
 intro pins s σ H xs us Q I r h;subst hK;intros bv7 h p bs rfl hq q;obtain ⟨u,rfl,ru⟩:=vals1 r;cases ru;obtain ⟨ai,rv,pl,hz⟩:=I.list hq;have jz:p≠s.heap.objs.size:=by obtain ⟨o,e,_⟩:=pl.isList;exact dY (bP e)
 have hl:ai.length=bs.length:=by rw [<-rv.length,aR]
 refine call_all_walk (B7 pl.isList ?_);refine (wn s.heap.objs.size _ _ (gt _ _ _ (λi=>bs.getD i true) rfl (Walks.list (A:=X.A.in1) (show X.A.in1.handled=none from I.ok.hd hc) s.heap.objs.size p jz ai.toArray) ⟨(bv _ (fN _ rfl) rfl rfl),pl.isList.push _⟩ (λi v s' Q' E' hv eQ=>?_) (λh' tk hk=>?_)))
 ·have iG:ai[i]?=some v:=by simpa using hv
  cases eb:bs[i]? with
  | none=>
   have:=rv.none_of (i:=i) (by rw [bU,eb];rfl)
   rw [this] at iG;cases iG
  | some b=>
   obtain ⟨u,hu,ru⟩:=rv.get (i:=i) (x:=V.bl b) (by rw [bU,eb];rfl)
   rw [hu] at iG;cases iG;cases ru;have e:bs.getD i true=b:=by rw [gE,eb];rfl
   have jA:Q' (bs.getD i true) s':=eQ;rw [e] at jA;exact pK jA
 ·refine (bi (.bl (bs.all id)) H (I.kept λb o e=>hk b o (λz=>?_) (cx _ e)) ?_ q)
  ·exact absurd (bP e) (by rw [jM.mp z];exact fM _)
  ·show Value.bool _=Value.bool _
   congr 1
   rw [cM,hl];clear hk q rv pl hz hl hq
   induction bs with
   | nil=>rfl
   | cons b bs ih=>rw [fO,Gq,List.all_cons,List.all_map,List.all_cons];show (b && (List.range bs.length).all λi=>bs.getD i true)=(b && bs.all id);rw [ih]
def XS:List V->Hp->VK->Prop:=λxs H Q=>∃j:Int,xs=[.int j]/\∀p,H p=none->Q (.ref p) (upd H p (.pQ 0 j))
theorem XT:gZ X (.type "range") XS:=by intro pins s σ H xs us Q I r h;intros bv2 h j rfl q;obtain ⟨u,rfl,ru⟩:=vals1 r;obtain ⟨t,rfl⟩:=ru;refine call_range_1 ⟨.ref s.heap.objs.size,_,I.laid (o:=.pQ 0 j) (λb o e=>cx _ e) (aV _) (wn _ _ _ (fN _ rfl)),rfl,q _ (I.aB.fresh (aV _))⟩
def wB(n:Nat):List V:=(List.range n).map λi:Nat=>V.int (i:Int)
def XU:List V->Hp->VK->Prop:=λxs H Q=>∃p n,xs=[.ref p]/\H p=some (.pQ 0 (n:Nat))/\n<=10000/\∀l,H l=none->Q (.ref l) (upd H l (.lst (wB n)))
theorem XW(hc:X.calm=true):gZ X (.type "list") XU:=by
 intro pins s σ H xs us Q I r h;intros bv10 h p n rfl hp hn q;obtain ⟨u,rfl,ru⟩:=vals1 r;cases ru;obtain ⟨t,u,v,e⟩:=(show cN X.prog X.w H s.heap p (.pQ 0 n) from I.aB p _ hp);refine call_list_range (n:=n) (I.ok.hd hc) e (small_one ⋯ ⋯ ⋯ ⋯) (by rw [rangeSize_one];split <;> lia) ⋯ λh' tk acc c hk hD hit=>?_
 refine ⟨.ref s.heap.objs.size,_,I.laid (o:=.lst (wB n)) (λb o e=>hk b o e) (aV _) ⟨?_,acc.toList,c,?_,?_⟩,rfl,q _ (I.aB.fresh (aV _))⟩
 ·unfold wB
  rw [aR,cy];exact aM hn ∅
 ·refine HB ?_ λi x u h1 h2=>?_
  ·unfold wB
   rw [aR,cy,Array.length_toList,hit.1]
  ·have r9:acc[i]?=some u:=by simpa using h2
   obtain ⟨wC,e'⟩:=hit.2 i u r9;unfold wB at h1;rw [bU] at h1;have hi:i<n:=by have z:=(Array.getElem?_eq_some_iff.mp r9).1;rw [hit.1] at z;exact z
   rw [jN hi] at h1;cases h1;exact ⟨wC,by rw [e'];simp⟩
 ·rw [hD]
end
theorem boot_all:bootBuiltins "all"=some (.builtin "all"):=by decide +kernel
theorem XZ:bootBuiltins "range"=some (.type "range"):=by decide +kernel
def HC:Expr->Bool
 | .Starred _ _=>false
 | _=>true
variable {e:Expr} {es:List Expr}
theorem X0{env:Env}(h:HC e=true):starEach (e::es) env=(false,eval e env)::starEach es env:=by cases e <;> first | rfl | cases h
theorem fV{X:Cx}{e:Expr}{es:List Expr}{te:TE}{t:TA}(hs:HC e=true)(ha:PE X e te)(hr:PA X es t):PA X (e::es) (pZ te t):=
 We ha hr (X0 hs)
variable {X:Cx} {te:TE}
theorem aa{t:TA}(ha:PE X e te)(hr:PA X es t)(hs:HC e=true:=by rfl):PA X (e::es) (pZ te t):=fV hs ha hr
theorem C2{X:Cx}{pos:Pos}{i:Nat}{x:Str}{e:Expr}{te:TE}{pos':Pos}(hs:swapsWith e (some (.Name x pos')) pos.line X.env=pure false)(hf:X.fn x=true\/X.env.scope.names.lookup x=some .local)(hN:X.N.Nodup)(hi:X.N[i]?=some x)(hx:Loc X.env.scope x)(he:PE X e te) :
  PS X (.Assign [.Name x pos'] e pos) (oE te (ck i)):=Vm hN hi hx he hs hf
variable {pos pos':Pos} {x:Str}
theorem putL(i:Nat)(hN:X.N.Nodup)(he:PE X e te)(hs:swapsWith e (some (.Name x pos')) pos.line X.env=pure false:=by rfl)(hi:X.N[i]?=some x:=by rfl)(hx:X.env.scope.names.lookup x=some .local:=by rfl) :
  PS X (.Assign [.Name x pos'] e pos) (oE te (ck i)):=C2 hs (.inr hx) hN hi (.inl hx) he
theorem oX(i:Nat)(hN:X.N.Nodup)(he:PE X e te)(hs:swapsWith e (some (.Name x pos')) pos.line X.env=pure false:=by rfl)(hf:X.fn x=true\/X.env.scope.names.lookup x=some .local:=by first | exact .inl rfl | exact .inr rfl | assumption)(hi:X.N[i]?=some x:=by rfl)(hx:X.env.scope.names.lookup x=some .cell:=by rfl) :
  PS X (.Assign [.Name x pos'] e pos) (oE te (ck i)):=C2 hs hf hN hi (.inr hx) he
def X2:V->List V->Hp->VK->Prop:=λx xs H Q=>∃i:Int,x=.int i/\xs=[]/\Q (.int ((Builtin.Int.intBits i:Nat):Int)) H
theorem X3:wq X "int.bit_length" X2:=by intro pins s σ H x xs v us Q I rx rv h;intros bv4 h i rfl rfl q;have ng:=rv.zero;subst ng;obtain ⟨t,rfl⟩:=rx;exact call_int_bit_length ⟨.int ((Builtin.Int.intBits i:Nat):Int),H,I.tok _,⟨_,rfl⟩,q⟩
theorem X4(h:cV i):Builtin.Int.intBits i<=2048:=by
 have z:=h.log;unfold Builtin.Int.intBits
 split <;> lia
end L2
namespace My
open PySem L2
theorem HE(a b:Str):decide (V.str a=V.str b)=decide (a=b):=by
 by_cases h:a=b;·subst h;simp
 ·rw [cZ h];exact cZ λe=>h (V.str.inj e)
theorem i5(a b:Int):decide (V.int a=V.int b)=decide (a=b):=by
 by_cases h:a=b;·subst h;simp
 ·rw [cZ h];exact cZ λe=>h (V.int.inj e)
variable {K:aE}
theorem C3{T:String}:PySem.W.kitOne K (.type T) (.type T)=some true:=by unfold PySem.W.kitOne;rw [aq (Cf _)]
variable {H:Hp}
theorem aG{p:Addr}{o:HO}(h:H p=none):af H (upd H p o):=λb u e=>by rw [aH (f_ e h)];exact e
theorem me(v:V):([(("prime":Str),v)]:List (Str×V)).lookup ("prime":Str)=some v:=by simp [List.lookup]
inductive Any (H:Hp):V->Prop where
 | aO:Any H .aO
 | bl (b:Bool):Any H (.bl b)
 | int (i:Int):Any H (.int i)
 | str (x:Str):Any H (.str x)
 | lst {a:Addr} {xs:List V} (e:H a=some (.lst xs)):Any H (.ref a)
 | tup {a:Addr} {xs:List V} (e:H a=some (.tup xs)):Any H (.ref a)
 | wz {a:Addr} (e:H a=some (Ny a)):Any H (.ref a)
def wD:V->Bool
 | .int _=>true
 | _=>false
def wF:V->Bool
 | .bl _=>true
 | _=>false
def C4(H:Hp):V->Bool
 | .ref a=>(match H a with | some (.tup _)=>true | _=>false)
 | _=>false
variable {v:V}
theorem Any.Ht(h:Any H v):∃T:String,rY K H v (.type T)/\PySem.W.kitOne K (.type T) (.type "int")=some (wD v || wF v)/\PySem.W.kitOne K (.type T) (.type "bool")=some (wF v) /\
  PySem.W.kitOne K (.type T) (.type "tuple")=some (C4 H v):=by
 cases h with
 | aO=>exact ⟨"NoneType",.of .aO,rfl,rfl,rfl⟩
 | bl b=>exact ⟨"bool",.of (.bl b),rfl,rfl,rfl⟩
 | int i=>exact ⟨"int",.of (.int i),rfl,rfl,rfl⟩
 | str x=>exact ⟨"str",.of (.str x),rfl,rfl,rfl⟩
 | lst e=>exact ⟨"list",.of (.lst e),rfl,rfl,by unfold C4;dsimp only;rw [e];rfl⟩
 | tup e=>exact ⟨"tuple",.of (.tup e),rfl,rfl,by unfold C4;dsimp only;rw [e];rfl⟩
 | wz e=>exact ⟨"dict",.wz e,rfl,rfl,by unfold C4;dsimp only;rw [e];rfl⟩
theorem X5(h:wF v=true):wD v=false:=by cases v <;> first | rfl | cases h
theorem mf{m:Str}(e:(m == ("prime":Str))=false):([(("prime":Str),v)]:List (Str×V)).lookup m=none:=by simp [List.lookup,e]
theorem X6(m n:Nat):Nat.gcd n (m % n)=Nat.gcd m n:=by rw [Nat.gcd_comm n,<-Nat.gcd_rec,Nat.gcd_comm]
theorem HF(a:Int):(if a<0 then -a else a)=(a.natAbs:Int):=by split <;> lia
def lowG(a b:Int):Int:=if b<0 then 0-(Int.gcd a b:Int) else (Int.gcd a b:Int)
variable {a b:Int}
theorem wG(h:b≠0):0<Int.gcd a b:=qZ _ (lJ.mpr h)
theorem X7(h:b≠0)(m:cV b):Int.gcd a b<2 ^ 2048:=fz (Nat.gcd_le_right _ (lJ.mpr h)) m
theorem X8(h:b≠0)(m:cV b):Hz 0 (lowG a b):=by
 have h1:=wG (a:=a) h;have h2:=X7 (a:=a) h m;unfold lowG;refine ⟨by split <;> lia,?_⟩
 unfold cV
 split
 ·rw [show (0-(Int.gcd a b:Int)).natAbs=Int.gcd a b by lia];exact h2
 ·rw [vR];exact h2
theorem cV.of_lt{i:Int}(h1:-(10 ^ 70)<i)(h2:i<10 ^ 70):cV i:=by
 have h3:i.natAbs<2 ^ 240:=by lia
 exact eO h3 (Nat.pow_le_pow_right ∅ ∅)
def X9:Sp:=λvs H Q _=>∃v:V,vs=[v]/\Any H v/\Q (.bl (wD v)) H
def X_:Sp:=λvs H Q _=>∃a b:Int,vs=[.int a,.int b]/\cV b/\Q (.int (Int.gcd a b:Int)) H
def Ya:Sp:=λvs H Q _=>∃n:Int,vs=[.int n]/\2<=n/\n<=997/\Q (.bl (g9 n)) H
def Yb:Sp:=λvs H Q _=>∃(p:Addr) (d:Td),vs=[.ref p]/\H p=some (.tup d.vs)/\Q (.bl d.AI) H
def Yc:Sp:=λvs H Q _=>∃(p:Addr) (d:Td),vs=[.ref p]/\H p=some (.tup d.vs)/\Q (.bl d.kU) H
def Yd(C N:Addr):Sp:=λvs H Q E=>∃(x dx p:Addr) (d:Td),vs=[.ref x,.ref p]/\H x=some (.ins C dx [])/\H p=some (.tup d.vs) /\
 (d.good=true->Q .aO (upd H x (.ins C dx [("prime",d.prime)])))/\(d.good=false->E (.ref N) none H)
def cP(C:Addr)(H:Hp)(x:Addr)(q:Int):Prop:=∃dx,H x=some (.ins C dx [("prime",if q=0 then .aO else .int q)])
variable {H':Hp} {q:Int}
theorem cP.mono{C:Addr}{x:Addr}(h:cP C H x q)(s:af H H'):cP C H' x q:=by obtain ⟨dx,e⟩:=h;exact ⟨dx,s _ _ e⟩
def C5(K:aE):Sp:=λvs H Q _=>∃(a:Addr) (ns:List Int),vs=[.ref a]/\bM K H a (ns.map V.int)/\ns.length<=63/\∀H',Q (.bl true) H'
theorem ND(xs:List V)(k:Nat):gI xs none (some (k:Int))=xs.take k:=by unfold gI;rw [HT.MX,HT.MY,List.drop_zero,Nat.sub_zero];rw [List.take_eq_take_iff];lia
variable {u:Int}
theorem r_{v:Int}(hu:0<u)(h:0<u*v):0<v:=by
 by_cases z:0<v;·exact z
 ·have y:=vS (show v<=0 by lia) (show 0<=u by lia)
  rw [lK] at y;lia
theorem p8(h:∀d:Nat,(d:Int)∣a->(d:Int)∣b->d=1):Int.gcd a b=1:=h _ (jO ..) (jf ..)
variable {d:Nat}
theorem p9(h:Int.gcd a b=1)(h1:(d:Int)∣a)(h2:(d:Int)∣b):d=1:=by have z:(d:Int)∣((Int.gcd a b:Nat):Int):=Int.dvd_coe_gcd h1 h2;rw [h] at z;exact Nat.dvd_one.mp (Int.natCast_dvd_natCast.mp z)
variable {c:Int}
theorem si(h:Int.gcd b c=1)(h1:(d:Int)∣b)(h2:(d:Int)∣a*c):(d:Int)∣a:=by
 have hc:Nat.Coprime d c.natAbs:=by have z:Nat.Coprime b.natAbs c.natAbs:=h;exact Nat.Coprime.coprime_dvd_left (Int.ofNat_dvd_left.mp h1) z
 have z:d∣a.natAbs*c.natAbs:=by rw [<-cS];exact Int.ofNat_dvd_left.mp h2
 exact Int.ofNat_dvd_left.mpr (hc.dvd_of_dvd_mul_right z)
theorem wH(h1:Int.gcd a b=1)(h2:Int.gcd a c=1):Int.gcd a (b*c)=1:=by refine p8 λd x y=>?_;exact p9 h1 x (si (a:=b) (b:=a) (c:=c) h2 x y)
theorem i6(h:Int.gcd a b=1):Int.gcd b a=1:=by rw [Int.gcd_comm];exact h
theorem wI(h:Int.gcd a b=1)(h1:c∣a):Int.gcd c b=1:=p8 λd x y=>p9 h (h_ x h1) y
theorem AK(h:b≠0):Int.gcd (a / (Int.gcd a b:Int)) (b / (Int.gcd a b:Int))=1:=by have z:0<Int.gcd a b:=qZ _ (lJ.mpr h);exact Int.gcd_ediv_gcd_ediv_gcd z
structure cb (x m:Int):Prop where
 pos:1<=m
 g_:Int.gcd x m=1
variable {x m y n:Int}
theorem Ye(a:cb x m)(b:cb y n) :
  cb ((x / (Int.gcd x n:Int))*(y / (Int.gcd y m:Int))) ((m / (Int.gcd y m:Int))*(n / (Int.gcd x n:Int))) /\
   (x / (Int.gcd x n:Int))*(y / (Int.gcd y m:Int))*(m*n)=x*y*((m / (Int.gcd y m:Int))*(n / (Int.gcd x n:Int))):=by
 have m0:=a.pos;have n0:=b.pos;have p1:0<Int.gcd x n:=qZ _ (lJ.mpr ⋯)
 have p2:0<Int.gcd y m:=qZ _ (lJ.mpr ⋯)
 have c1:=AK (a:=x) (b:=n) ⋯
 have c2:=AK (a:=y) (b:=m) ⋯
 obtain ⟨x',ex⟩:=jO (a:=x) (b:=n);obtain ⟨n',en⟩:=jf (a:=x) (b:=n);obtain ⟨y',ey⟩:=jO (a:=y) (b:=m);obtain ⟨m',em⟩:=jf (a:=y) (b:=m);have ac:=a.g_;have bc:=b.g_;generalize Int.gcd x n=g at *;generalize Int.gcd y m=k at *;have g0:(g:Int)≠0:=by lia
 have k0:(k:Int)≠0:=by lia
 have gx:x / (g:Int)=x':=by rw [ex];exact gT _ g0
 have gn:n / (g:Int)=n':=by rw [en];exact gT _ g0
 have gy:y / (k:Int)=y':=by rw [ey];exact gT _ k0
 have gm:m / (k:Int)=m':=by rw [em];exact gT _ k0
 rw [gx,gn] at c1;rw [gy,gm] at c2;rw [gx,gn,gy,gm];have mp:0<m':=by
  have z:0<(k:Int)*m':=by rw [<-em];lia
  exact r_ ⋯ z
 have np:0<n':=by
  have z:0<(g:Int)*n':=by rw [<-en];lia
  exact r_ ⋯ z
 have xm:Int.gcd x' m'=1:=wI (i6 (wI (i6 ac) ⟨k,by rw [em,eE]⟩)) ⟨g,by rw [ex,eE]⟩
 have yn:Int.gcd y' n'=1:=wI (i6 (wI (i6 bc) ⟨g,by rw [en,eE]⟩)) ⟨k,by rw [ey,eE]⟩
 refine ⟨⟨lL mp np,?_⟩,?_⟩;·exact wH (i6 (wH (i6 xm) (i6 c2))) (i6 (wH (i6 c1) (i6 yn)))
 ·rw [ex,en,ey,em]
  simp only [mV,eE,Ac]
theorem Yf(a:cb x m)(b:cb y n)(h:Int.gcd m n=1):cb (x*n+y*m) (m*n):=by
 have m0:=a.pos;have n0:=b.pos;refine ⟨lL ⋯ ⋯,wH (p8 λd h1 h2=>?_) (p8 λd h1 h2=>?_)⟩
 ·have z:(d:Int)∣x*n:=(Int.dvd_add_left (h_ h2 (Ad ..))).mp h1
  exact p9 a.g_ (si h h2 z) h2
 ·have z:(d:Int)∣y*m:=(Int.dvd_add_right (h_ h2 (Ad ..))).mp h1
  exact p9 b.g_ (si (i6 h) h2 z) h2
theorem Yg(a:cb x m)(b:cb y n)(g k:Nat)(eg:g=Int.gcd m n)(top:Int)(et:top=x*(n / (g:Int))+y*(m / (g:Int)))(ek:k=Int.gcd top (g:Int)) :
  cb (top / (k:Int)) (m / (g:Int)*(n / (k:Int)))/\top / (k:Int)*(m*n)=(x*n+y*m)*(m / (g:Int)*(n / (k:Int))):=by
 have m0:=a.pos
 have n0:=b.pos
 have gp:0<g:=by rw [eg];exact qZ _ (lJ.mpr ⋯)
 have kp:0<k:=by rw [ek];exact qZ _ (lJ.mpr ⋯)
 have c1:=AK (a:=m) (b:=n) ⋯
 have c2:=AK (a:=top) (b:=(g:Int)) ⋯
 rw [<-eg] at c1
 rw [<-ek] at c2
 obtain ⟨m',em⟩:=jO (a:=m) (b:=n)
 obtain ⟨n',en⟩:=jf (a:=m) (b:=n)
 obtain ⟨t',e1⟩:=jO (a:=top) (b:=(g:Int))
 obtain ⟨g',e2⟩:=jf (a:=top) (b:=(g:Int))
 rw [<-eg] at em en
 rw [<-ek] at e1 e2
 have g0:(g:Int)≠0:=by lia
 have k0:(k:Int)≠0:=by lia
 have dm:m / (g:Int)=m':=by rw [em];exact gT _ g0
 have dn:n / (g:Int)=n':=by rw [en];exact gT _ g0
 have dt:top / (k:Int)=t':=by rw [e1];exact gT _ k0
 have dg:(g:Int) / (k:Int)=g':=by rw [e2];exact gT _ k0
 have dk:n / (k:Int)=g'*n':=by rw [en,e2,mV];exact gT _ k0
 rw [dm,dn] at c1 et
 rw [dt,dg] at c2
 rw [dt,dm,dk]
 have pos:∀{u v:Int},0<u->0<u*v->0<v:=λhu hz=>r_ hu hz
 have mp:0<m':=pos (u:=(g:Int)) ⋯ (by rw [<-em];lia)
 have np:0<n':=pos (u:=(g:Int)) ⋯ (by rw [<-en];lia)
 have Yh:0<g':=pos (u:=(k:Int)) ⋯ (by rw [<-e2];lia)
 have tm:Int.gcd top m'=1:=p8 λd h1 h2=>by
  rw [et] at h1
  have z:(d:Int)∣x*n':=(Int.dvd_add_left (h_ h2 (Ad ..))).mp h1
  exact p9 a.g_ (si c1 h2 z) (h_ h2 ⟨g,by rw [em,eE]⟩)
 have tn:Int.gcd top n'=1:=p8 λd h1 h2=>by
  rw [et] at h1
  have z:(d:Int)∣y*m':=(Int.dvd_add_right (h_ h2 (Ad ..))).mp h1
  exact p9 b.g_ (si (i6 c1) h2 z) (h_ h2 ⟨g,by rw [en,eE]⟩)
 have tt:t'∣top:=⟨k,by rw [e1,eE]⟩
 refine ⟨⟨lL mp (lL Yh np),wH (wI tm tt) (wH c2 (wI tn tt))⟩,?_⟩
 have q:(k:Int)*t'=x*n'+y*m':=by rw [<-e1,et]
 have l:t'*(m*n)=(k:Int)*t'*(m'*(g'*n')*(g:Int)):=by
  rw [em,en]
  conv=>lhs;rw [show (g:Int)*n'=(k:Int)*g'*n' by rw [<-e2]]
  simp only [mV,eE,Ac]
 rw [l,q,em,en]
 simp only [Int.add_mul,mV,eE,Ac]
def cn(x:Int):Prop:=x.natAbs<=10 ^ 300
theorem Yi:(10:Nat) ^ 300<2 ^ 2048:=by decide +kernel
theorem cn.mid(h:cn x):cV x:=fz h Yi
theorem cn.over{g:Int}(h:cn x):cn (x / g):=aM (om x g) h
theorem cn.neg(h:cn x):cn (-x):=by unfold cn;rw [Ae];exact h
theorem cn.gcd(h:cn y)(z:y≠0):cn (Int.gcd x y:Int):=by unfold cn;rw [vR];exact aM (Nat.gcd_le_right _ (lJ.mpr z)) h
theorem C7(z:y≠0):(0:Int)<(Int.gcd x y:Int):=by have:=wG (a:=x) z;lia
def Yj:Sp:=λvs H Q _=>∃(p q:Addr) (x m y n:Int),vs=[.ref p,.ref q]/\H p=some (.tup [.int x,.int m])/\H q=some (.tup [.int y,.int n])/\cb x m/\cb y n/\cn x/\cn m/\cn y/\cn n /\
 ∀(r:Addr) (H':Hp) (u d:Int),af H H'->H' r=some (.tup [.int u,.int d])->cb u d->u*(m*n)=(x*n+y*m)*d->Q (.ref r) H'
def Yk:Sp:=λvs H Q _=>∃(p q:Addr) (x m y n:Int),vs=[.ref p,.ref q]/\H p=some (.tup [.int x,.int m])/\H q=some (.tup [.int y,.int n])/\cb x m/\cb y n/\cn x/\cn m/\cn y/\cn n /\
 ∀(r:Addr) (H':Hp) (u d:Int),af H H'->H' r=some (.tup [.int u,.int d])->cb u d->u*(m*n)=(x*n-y*m)*d->Q (.ref r) H'
def Yl:Sp:=λvs H Q _=>∃(p q:Addr) (x m y n:Int),vs=[.ref p,.ref q]/\H p=some (.tup [.int x,.int m])/\H q=some (.tup [.int y,.int n])/\cb x m/\cb y n/\cn x/\cn m/\cn y/\cn n /\
 ∀(r:Addr) (H':Hp) (u d:Int),af H H'->H' r=some (.tup [.int u,.int d])->cb u d->u*(m*n)=x*y*d->Q (.ref r) H'
theorem cb.neg(h:cb x m):cb (-x) m:=⟨h.pos,by rw [Int.neg_gcd];exact h.g_⟩
def sj(C:Addr)(fr:Int->Int->Int->Int->Int)(rm:Int->Int->Int):Sp:=λvs H Q _=>∃(z:Addr) (q:Int) (v u:V),vs=[.ref z,v,u]/\cP C H z q /\
  ((q=0/\∃(p r:Addr) (x m y n:Int),v=.ref p/\u=.ref r/\H p=some (.tup [.int x,.int m])/\H r=some (.tup [.int y,.int n])/\cb x m/\cb y n/\cn x/\cn m/\cn y/\cn n /\
    ∀(r':Addr) (H':Hp) (a d:Int),af H H'->H' r'=some (.tup [.int a,.int d])->cb a d->a*(m*n)=fr x m y n*d->Q (.ref r') H') \/
   (2<=q/\∃i j:Int,v=.int i/\u=.int j/\0<=i/\i<1000/\Q (.int (rm i j % q)) H))
def aS(p:Int):Prop:=p=0\/(2<=p/\p<=997/\g9 p=true)
inductive aw (B:Nat) (H:Hp):Int->V->Int->Int->Prop where
 | aU {p:Addr} {x m:Int} (e:H p=some (.tup [.int x,.int m])) (l:cb x m) (bx:x.natAbs<=B) (bm:m.natAbs<=B):aw B H 0 (.ref p) x m
 | rem {q i:Int} (h0:0<=i) (h1:i<q) (h2:q<=997):aw B H q (.int i) i 1
theorem aw.mono{B:Nat}(h:aw B H q v x m)(s:af H H'):aw B H' q v x m:=by
 cases h with
 | aU e l bx bm=>exact .aU (s _ _ e) l bx bm
 | rem h0 h1 h2=>exact .rem h0 h1 h2
theorem p_{d T B:Int}(l:cb u d)(hB:0<B)(e:u*B=T*d):d<=B/\u.natAbs<=T.natAbs:=by
 have h0:=l.pos;have hd:d∣B:=by
  have z:((d.natAbs:Nat):Int)∣B:=si (a:=B) (b:=d) (c:=u) (i6 l.g_) (Int.natAbs_dvd.mpr (iW d)) ⟨T*(d / (d.natAbs:Int)),by
   have q:(d.natAbs:Int)=d:=by lia
   rw [q,Int.ediv_self ⋯,gD,eE B u,e,eE]⟩
  exact Int.natAbs_dvd.mp z
 have hle:=Int.le_of_dvd hB hd;refine ⟨hle,?_⟩;have z:u.natAbs*B.natAbs=T.natAbs*d.natAbs:=by rw [<-cS,e,cS]
 have z2:T.natAbs*d.natAbs<=T.natAbs*B.natAbs:=Af _ ⋯
 rw [<-z] at z2;exact Nat.le_of_mul_le_mul_right z2 ⋯
theorem C8(h1:2<=q)(h2:q<=997)(hp:g9 q=true)(b1:1<=b)(b2:b<q):Int.gcd q b=1:=by
 have gp:0<Int.gcd q b:=qZ _ (lJ.mpr ⋯)
 by_cases g1:Int.gcd q b=1;·exact g1
 exfalso
 obtain ⟨k,ek⟩:=jO (a:=q) (b:=b);have hb:=Int.le_of_dvd ⋯ (jf (a:=q) (b:=b))
 generalize Int.gcd q b=g at *;have kp:0<k:=r_ (u:=(g:Int)) ⋯ (by rw [<-ek];lia)
 have k2:k≠1:=λz=>by rw [z,gD] at ek;lia
 have no:∀d:Int,2<=d->d*d<=q->q % d=0->False:=λd x y z=>by rw [NA h2 x y z] at hp;cases hp
 by_cases c:(g:Int)<=k;·exact no g ⋯ (by rw [ek];exact vS c ⋯) (by rw [ek];exact Int.mul_emod_right ..)
 ·exact no k ⋯ (by rw [ek];exact Int.mul_le_mul_of_nonneg_right ⋯ ⋯) (by rw [ek];exact Int.mul_emod_left ..)
structure oY (q b last lt now nt:Int):Prop where
 l:∃s,last=lt*b+s*q
 n:∃s,now=nt*b+s*q
 g_:Int.gcd last now=1
 pos:1<=now
 less:now<=last
variable {last nt:Int}
theorem oY.step{lt now:Int}(h:oY q b last lt now nt)(h1:1<now):oY q b now nt (last-last / now*now) (lt-last / now*nt)/\last-last / now*now<now:=by
 obtain ⟨⟨s,es⟩,⟨r,er⟩,c,p,le⟩:=h;have e:last-last / now*now=last % now:=by have z:=Gs last now;rw [eE] at z;lia
 have Ym:=gF last (show 0<now by lia)
 have ge:=gu last (show now≠0 by lia)
 have c':Int.gcd now (last % now)=1:=p8 λd x y=>p9 c (by have z:=Gs last now;rw [<-z];exact Int.dvd_add y (h_ x (Int.dvd_mul_right ..))) x
 have nz:last % now≠0:=λz=>by rw [z,Int.gcd_zero_right] at c';lia
 refine ⟨⟨⟨r,er⟩,⟨s-last / now*r,?_⟩,by rw [e];exact c',⋯,⋯⟩,⋯⟩
 generalize last / now=f;rw [es,er,Int.sub_mul,Int.sub_mul,Int.mul_add,mV,mV];lia
theorem oY.done{lt:Int}(h:oY q b last lt 1 nt)(hq:2<=q):(nt % q*b) % q=1:=by
 obtain ⟨s,e⟩:=h.n;have z:nt*b=1+(-s)*q:=by rw [q5];lia
 have y:nt % q*b % q=nt*b % q:=by rw [q8 (nt % q) b,Int.emod_emod,<-q8]
 rw [y,z,Int.add_mul_emod_self_right];exact q_ ⋯ ⋯
theorem oY.start(h1:2<=q)(h2:q<=997)(hp:g9 q=true)(b1:1<=b)(b2:b<q):oY q b q 0 b 1:=
 ⟨⟨1,⋯⟩,⟨0,⋯⟩,C8 h1 h2 hp b1 b2,b1,⋯⟩
end My
namespace L2
open PySem PySem.Spec PyProof.Rows
def NF(K:aE):R2:=λx y H Q=>(∃a xs i,x=.ref a/\y=.int i/\eF K H a xs/\Q (.bl false) H)\/(∃a xs i,x=.int i/\y=.ref a/\eF K H a xs/\Q (.bl false) H)\/CW K false x y H Q\/MA x y H Q
theorem NG{X:Cx}(hu:X.A.units<cLine):cC X (compareOp .Eq) (NF X.K):=by
 intro pins s σ H x y v u Q I rx ry h;rcases h with ⟨a,xs,i,rfl,rfl,h1,q⟩ | ⟨a,xs,i,rfl,rfl,h1,q⟩ | h | h
 ·cases rx
  obtain ⟨t,rfl⟩:=ry;obtain ⟨us,r1,t1,_⟩:=I.tuple h1;exact SeqAt.RcAt.tuple_int i t t1 hu _ _ _ _ ⟨.bl false,H,I,rfl,q⟩
 ·cases ry
  obtain ⟨t,rfl⟩:=rx;obtain ⟨us,r1,t1,_⟩:=I.tuple h1;exact SeqAt.RcAt.int_tuple i t t1 hu _ _ _ _ ⟨.bl false,H,I,rfl,q⟩
 ·exact XM hu pins s σ H x y v u Q I rx ry h
 ·exact dO pins s σ H x y v u Q I rx ry h
end L2
namespace My
open PySem L2
def Yn(N:Addr):Sp:=λvs H Q E=>∃q b:Int,vs=[.int q,.int b]/\2<=q/\q<=997/\g9 q=true/\0<=b/\b<q/\(b=0->E (.ref N) none H)/\(b≠0->∀r:Int,0<=r->r<q->(r*b) % q=1->Q (.int r) H)
def Yo(N:Addr):Sp:=λvs H Q E=>∃(p q:Addr) (x m y n:Int),vs=[.ref p,.ref q]/\H p=some (.tup [.int x,.int m])/\H q=some (.tup [.int y,.int n])/\cb x m/\cb y n/\cn x/\cn m/\cn y/\cn n /\
 (y=0->E (.ref N) none H)/\(y≠0->∀(r:Addr) (H':Hp) (u d:Int),af H H'->H' r=some (.tup [.int u,.int d])->cb u d->u*(m*y)=x*n*d->Q (.ref r) H')
def Yp(N:Addr):Sp:=λvs H Q E=>∃q i j:Int,vs=[.int q,.int i,.int j]/\2<=q/\q<=997/\g9 q=true/\0<=i/\i<q/\0<=j/\j<q/\(j=0->E (.ref N) none H)/\(j≠0->∀r:Int,0<=r->r<q->(r*j) % q=i->Q (.int r) H)
variable {y n:Int}
theorem Yq(l:cb y n)(h:0<y):cb n y:=⟨h,i6 l.g_⟩
theorem Yr(l:cb y n)(h:y<0):cb (-n) (-y):=⟨⋯,by rw [Int.neg_gcd,Int.gcd_neg];exact i6 l.g_⟩
theorem Ys{q i j r:Int}(hq:2<=q)(i0:0<=i)(i1:i<q)(h:(r*j) % q=1):(i*r % q*j) % q=i:=by
 have y:i*r % q*j % q=i*(r*j) % q:=by rw [q8 (i*r % q) j,Int.emod_emod,<-q8,mV]
 rw [y,q8,h,q_ i0 i1,gD,q_ i0 i1]
def HG(C N:Addr):Sp:=λvs H Q E=>∃(z:Addr) (q:Int) (v u:V),vs=[.ref z,v,u]/\cP C H z q /\
  ((q=0/\∃(p r:Addr) (x m y n:Int),v=.ref p/\u=.ref r/\H p=some (.tup [.int x,.int m])/\H r=some (.tup [.int y,.int n])/\cb x m/\cb y n/\cn x/\cn m/\cn y/\cn n /\
    (y=0->E (.ref N) none H)/\(y≠0->∀(r':Addr) (H':Hp) (a d:Int),af H H'->H' r'=some (.tup [.int a,.int d])->cb a d->a*(m*y)=x*n*d->Q (.ref r') H')) \/
   (2<=q/\∃i j:Int,v=.int i/\u=.int j/\q<=997/\g9 q=true/\0<=i/\i<q/\0<=j/\j<q/\(j=0->E (.ref N) none H)/\(j≠0->∀r:Int,0<=r->r<q->(r*j) % q=i->Q (.int r) H)))
end My
namespace L2
open PySem PySem.Spec PyProof.Rows
structure j_ (K:aE) (x qual:Str) (st:Stmt) (i:Int) (f:Addr) (fd:FuncData):Prop where
 ex:∃(oc:Value) (od:Option Addr) (kV doc pm:Value) (an:Option Addr) (bh ct:Value) (gH:Array (Option Value)) (dT:Addr) (tk:Tok) (kX:Value) (eK:Option Addr) (n:Nat) (qa:Array (Option Value)),
  fd=PySem.W.fnOf x qual (j4 st) (g8 st) (aK st) (.ref dT) kV doc pm an bh ct/\K.lookup f=some ⟨oc,od,.func fd,gH⟩/\PySem.W.codeIn K bh qual=true/\K.lookup dT=some ⟨kX,eK,.seq #[.int i tk] n,qa⟩
 kp:PySem.W.keepIn K (.ref f)=true
section
variable {P:Program} {w:World} {K:aE} {mg:cU} {base:Heap}
variable {x qual:Str} {st:Stmt} {i:Int} {f:Addr} {fd:FuncData} {ps:List Str}
theorem j_.CU{N:List Str}{k:Nat}{sp:Sp}(F:j_ K x qual st i f fd)(S:aZ N ps (aK st))(len:∀vs H Q E,sp vs H Q E->vs.length=ps.length)
  (l_:∀(bh:Value) (A:Around) (outer:List Env) (s:Shared) (H:Hp) (vs:List V) (Q:VK) (E:XK),dc k (A.deeper (envOfC qual (aK st) s.heap.objs.size f bh))->sp vs H Q E->
   wx (jX (df P w) P w K mg base N qual (aK st) f bh A outer s H E) E->
   ∃t,fb (jX (df P w) P w K mg base N qual (aK st) f bh A outer s H E) (g8 st) t/\t {nx:=λ_ H'=>Q .aO H',rt:=Q} (start N vs) H):aN P w K mg base (df P w) (k+1) f fd ps sp:=by
 have q'70:=F.ex;intros bv5 q'70 oc od kV bv30 doc pm an bh ct gH dT tk bv22 kX eK n qa rfl lk gG ld;exact G4 lk gG S len λA outer s H vs Q E hr kL=>l_ bh A outer s H vs Q E hr kL ⟨rfl,rfl,rfl,rfl⟩
theorem C9{dT:Addr}{oc:Value}{od an:Option Addr}{gH:Array (Option Value)}{kV doc pm bh ct:Value}{tk:Tok}{kX:Value}{eK:Option Addr}{n:Nat}{qa:Array (Option Value)}
  (l:K.lookup f=some ⟨oc,od,.func (PySem.W.fnOf x qual (j4 st) (g8 st) (aK st) (.ref dT) kV doc pm an bh ct),gH⟩)
  (c:PySem.W.codeIn K bh qual=true) (k:PySem.W.keepIn K (.ref f)=true) (ld:K.lookup dT=some ⟨kX,eK,.seq #[.int i tk] n,qa⟩):j_ K x qual st i f (PySem.W.fnOf x qual (j4 st) (g8 st) (aK st) (.ref dT) kV doc pm an bh ct):=
 ⟨(wp oc od (Re kV doc pm an bh ct gH dT tk kX (re eK n qa rfl l c ld))),k⟩
theorem j_.binds(F:j_ K x qual st i f fd)
  (h:∀(s:Shared) (dT:Addr) (kV doc pm:Value) (an:Option Addr) (bh ct:Value) (tk:Tok) (o:Obj) (n:Nat) (us:List Value),s.heap.get? dT=some o->o.data=.seq #[.int i tk] n->us.length=ps.length->
   BindsTo s (PySem.W.fnOf x qual (j4 st) (g8 st) (aK st) (.ref dT) kV doc pm an bh ct) ⟨us,[]⟩ (ps.zip us)):Binds K fd ps []:=by
 have q'71:=F.ex;intros bv5 q'71 oc od kV bv30 doc pm an bh ct gH dT tk bv22 kX eK n qa rfl lk gG ld;intro s us X hl;rw [B_] at hl ⊢;exact h s dT kV doc pm an bh ct tk _ n us (X _ _ ld) rfl hl
theorem j_.Yt(F:j_ K x qual st i f fd)
  (h:∀(s:Shared) (dT:Addr) (kV doc pm:Value) (an:Option Addr) (bh ct:Value) (tk:Tok) (o:Obj) (n:Nat) (us:List Value),s.heap.get? dT=some o->o.data=.seq #[.int i tk] n->us.length+1=ps.length->
   BindsTo s (PySem.W.fnOf x qual (j4 st) (g8 st) (aK st) (.ref dT) kV doc pm an bh ct) ⟨us,[]⟩ (ps.zip (us++[.int i tk]))):∃v,Vals [V.int i] [v]/\Binds K fd ps [v]:=by
 have q'72:=F.ex;intros bv5 q'72 oc od kV bv30 doc pm an bh ct gH dT tk bv22 kX eK n qa rfl lk gG ld;refine ⟨.int i tk,.cons ⟨tk,rfl⟩ .nil,λs us X hl=>?_⟩;exact h s dT kV doc pm an bh ct tk _ n us (X _ _ ld) rfl (by simpa using hl)
theorem j_.Yu{y:Str}(F:j_ K x qual st i f fd)
  (h:∀(s:Shared) (dT:Addr) (kV doc pm:Value) (an:Option Addr) (bh ct:Value) (tk:Tok) (o:Obj) (n:Nat) (us ws:List Value),s.heap.get? dT=some o->o.data=.seq #[.int i tk] n->ws.length=1->us.length+1=ps.length->
   BindsTo s (PySem.W.fnOf x qual (j4 st) (g8 st) (aK st) (.ref dT) kV doc pm an bh ct) ⟨us,[y].zip ws⟩ (ps.zip (us++ws))) :
  ∀(s:Shared) (us ws:List Value),K.In s.heap->ws.length=1->us.length+1=ps.length->BindsTo s fd ⟨us,[y].zip ws⟩ (ps.zip (us++ws)):=by
 have q'73:=F.ex;intros bv5 q'73 oc od kV bv30 doc pm an bh ct gH dT tk bv22 kX eK n qa rfl lk gG ld;intro s us ws X hw hl;exact h s dT kV doc pm an bh ct tk _ n us ws (X _ _ ld) rfl hw hl
end
section
variable {X:Cx} {CX:iJ} {k:Nat} {f C:Addr} {fd:FuncData} {ps:List Str} {y:Str} {sp:Sp} {E:XK} {m:Str} {pos apos MQ:Pos} {e e' o:Expr} {ta:TE} {t tk:TA}
def C_(K:aE):R2:=λx y H Q=>CW K true x y H Q\/MB x y H Q
theorem Dc(hu:X.A.units<cLine):cC X (compareOp .NotEq) (C_ X.K):=by
 intro pins s σ H x y v u Q I rx ry h;rcases h with h | h;·exact XN hu pins s σ H x y v u Q I rx ry h
 ·exact i3 pins s σ H x y v u Q I rx ry h
end
end L2
namespace My
open PySem L2
def nh(a b:Int):Int:=a.fdiv (lowG a b)
def ni(a b:Int):Int:=b.fdiv (lowG a b)
variable {a b:Int}
theorem NH(hb:b≠0):cb (nh a b) (ni a b)/\nh a b*b=a*ni a b/\(nh a b).natAbs<=a.natAbs/\(ni a b).natAbs<=b.natAbs:=by
 have gp:=wG (a:=a) hb;have c:=AK (a:=a) hb;obtain ⟨a',ea⟩:=jO (a:=a) (b:=b);obtain ⟨b',eb⟩:=jf (a:=a) (b:=b);unfold nh ni lowG;generalize Int.gcd a b=g at *;have g0:(g:Int)≠0:=by lia
 have ga:a / (g:Int)=a':=by rw [ea];exact gT _ g0
 have gb:b / (g:Int)=b':=by rw [eb];exact gT _ g0
 rw [ga,gb] at c;have la:a'.natAbs<=a.natAbs:=by rw [<-ga];exact om ..
 have lb:b'.natAbs<=b.natAbs:=by rw [<-gb];exact om ..
 have cr:a'*b=a*b':=by rw [ea,eb];simp only [mV,eE,Ac]
 by_cases h:b<0
 ·have d1:(0-(g:Int))∣a:=⟨-a',by rw [ea,vT,Int.neg_mul_neg]⟩
  have d2:(0-(g:Int))∣b:=⟨-b',by rw [eb,vT,Int.neg_mul_neg]⟩
  rw [aq h,Ci d1,Ci d2,vT,Int.ediv_neg,Int.ediv_neg,ga,gb];refine ⟨⟨?_,by rw [Int.neg_gcd,Int.gcd_neg];exact c⟩,?_,?_,?_⟩
  ·have z:0 < -b':=r_ (u:=(g:Int)) ⋯ (by rw [kC,<-eb];lia)
   lia
  ·rw [q5,kC,cr]
  ·rw [Ae];exact la
  ·rw [Ae];exact lb
 ·rw [az h,Ci ⟨a',ea⟩,Ci ⟨b',eb⟩,ga,gb]
  have z:0<b':=r_ (u:=(g:Int)) ⋯ (by rw [<-eb];lia)
  exact ⟨⟨⋯,c⟩,cr,la,lb⟩
theorem NI(a:Int):nh a 1=a/\ni a 1=1:=by
 unfold nh ni lowG;rw [Cj,az ∅]
 exact ⟨Int.fdiv_one a,Int.fdiv_one 1⟩
def Yv(N:Addr):Sp:=λvs H Q E=>∃a b:Int,vs=[.int a,.int b]/\cV b/\(b=0->E (.ref N) none H)/\(b≠0->∀(r:Addr) (H':Hp),af H H'->H' r=some (.tup [.int (nh a b),.int (ni a b)])->Q (.ref r) H')
def nj(q b:Int):Prop:=if q=0 then b=0 else b % q=0
def HH(H:Hp)(q:Int)(v:V)(a b:Int):Prop:=
 (q=0/\∃r:Addr,v=.ref r/\H r=some (.tup [.int (nh a b),.int (ni a b)]))\/(2<=q/\∃r:Int,v=.int r/\0<=r/\r<q/\(r*(b % q)) % q=a % q)
def Yw(C N:Addr):Sp:=λvs H Q E=>∃(z:Addr) (q a b:Int),vs=[.ref z,.int a,.int b]/\cP C H z q/\aS q/\cV b /\
 (nj q b->E (.ref N) none H)/\(¬nj q b->∀(v:V) (H':Hp),af H H'->HH H' q v a b->Q v H')
theorem Yx{q r:Int}(h:2<=q)(e:(r*(b % q)) % q=a % q):(r*b-a) % q=0:=by
 have z:(r*b) % q=a % q:=by rw [<-e,q8 r b,q8 r (b % q),Int.emod_emod]
 exact Int.emod_eq_emod_iff_emod_sub_eq_zero.mp z
end My
namespace L2
open PySem PySem.Spec PyProof.Rows
section
variable {X:Cx}
end
end L2
namespace My
open PySem L2
inductive iy (H:Hp):Int->V->Int->Int->Prop where
 | aU {p:Addr} {u d t b:Int} (e:H p=some (.tup [.int u,.int d])) (l:cb u d) (hb:b≠0) (h:u*b=t*d):iy H 0 (.ref p) t b
 | rem {q r t b:Int} (q2:2<=q) (h0:0<=r) (h1:r<q) (g:Int.gcd q b=1) (h:q∣r*b-t):iy H q (.int r) t b
variable {t b:Int}
theorem Yy{u d:Int}(l:cb u d)(hb:b≠0)(e:u*b=t*d):u.natAbs<=t.natAbs/\d.natAbs<=b.natAbs:=by
 have h3:=l.pos;by_cases c:0<b
 ·obtain ⟨z1,z2⟩:=p_ l c e
  lia
 ·have e':u*(-b)=(-t)*d:=by rw [kC,e,q5]
  obtain ⟨z1,z2⟩:=p_ l (show 0 < -b by lia) e'
  lia
variable {a c:Int}
theorem Dd(h:c≠0)(e:a*c=b*c):a=b:=Gu h e
variable {q:Int}
theorem NJ(h:Int.gcd q c=1)(d:q∣c-t):Int.gcd q t=1:=by
 refine p8 λe h1 h2=>p9 h h1 ?_;have z:=Int.dvd_add (h_ h1 d) h2;rw [show c-t+t=c by lia] at z
 exact z
theorem HI(q2:2<=q)(g:Int.gcd q c=1)(d:q∣a*c):q∣a:=by
 have qq:((q.natAbs:Nat):Int)=q:=by lia
 have z:=si (a:=a) (b:=q) (c:=c) (d:=q.natAbs) g (by rw [qq];exact iW q) (by rw [qq];exact d)
 rw [qq] at z;exact z
theorem NK(a q:Int):∃w,a % q+q*w=a:=⟨a / q,Gs a q⟩
section
variable {C N z:Addr} {q:Int} {v u:V} {t b t' b':Int} {H:Hp} {Q:VK} {E:XK}
theorem Yz(nz:¬q∣b):¬nj q b:=λh=>nz (by
  unfold nj at h;by_cases z:q=0;·rw [aq z] at h;rw [h];exact jg q
  ·rw [az z] at h;exact vU h)
theorem YA(ho:HH H q v a b)(hq:aS q)(nz:¬q∣b):iy H q v a b:=by
 rcases ho with ⟨rfl,r,rfl,e⟩ | ⟨q2,r,rfl,r0,r1,er⟩
 ·have b0:b≠0:=λz=>nz (by rw [z];exact iW 0)
  have lw:=NH (a:=a) b0;exact .aU e lw.1 b0 lw.2.1
 ·obtain ⟨_,q3,q4⟩:=hq.resolve_left ⋯
  have h1:=gu b (show q≠0 by lia)
  have h2:=gF b (show 0<q by lia)
  have h3:b % q≠0:=λz=>nz (vU z);have g:=C8 q2 q3 q4 (show 1<=b % q by lia) h2
  obtain ⟨w,ew⟩:=NK b q;exact .rem q2 r0 r1 (NJ g ⟨-w,by rw [kC];lia⟩) (vU (Yx q2 er))
theorem YB{u d u' d':Int}(l:cb u d)(l':cb u' d')(e:u*d'=u'*d):u=u'/\d=d':=by
 have h1:=l.pos;have h2:=l'.pos;have a:=(p_ l (show 0<d' by lia) e).1
 have c:=(p_ l' (show 0<d by lia) e.symm).1
 have dd:d=d':=by lia
 subst dd;exact ⟨Dd (show d≠0 by lia) e,rfl⟩
end
theorem aw.bE{B:Nat}{H H':Hp}{v:V}{x m:Int}{D:Addr}{ys:List V}(h:aw B H q v x m)(eD:H D=some (.lst ys))(k:∀b o,b≠D->H b=some o->H' b=some o):aw B H' q v x m:=by
 cases h with
 | aU e l bx bm=>refine .aU (k _ _ (λz=>?_) e) l bx bm;rw [z,eD] at e;cases e
 | rem h0 h1 h2=>exact .rem h0 h1 h2
end My
namespace L2
open PySem PySem.Spec PyProof.Rows
structure qb (J:It) (xs:List V) (H1:Hp):Prop where
 go:∀i Hc,af H1 Hc->i<xs.length->J.go i Hc
 fc:∀i Hc x H',af H1 Hc->J.fc i Hc x H'->H'=Hc/\(i<xs.length->xs[i]?=some x)
 stop:∀i Hc,af H1 Hc->xs.length<=i->J.stop i Hc
variable {K:aE} {a:Addr} {xs:List V} {H1:Hp}
theorem iz(h:bM K H1 a xs):qb (we K a) xs H1 where
 go:=λi Hc s hi=>⟨xs,xs[i],s.seq h,by simp [hi]⟩
 fc:=λi Hc x H' s y=>⟨y.1,λ_=>y.2 xs (s.seq h)⟩
 stop:=λi Hc s hi=>⟨xs,s.seq h,hi⟩
theorem ke{lo:Int}{n:Nat}:qb (oF lo n) ((List.range n).map λi:Nat=>V.int (lo+(i:Int))) H1 where
 go:=λi Hc s hi=>by
  have hi:i<n:=by simpa using hi
  exact hi
 fc:=λi Hc x H' s y=>⟨y.1,λhi=>by
  have hi:i<n:=by simpa using hi
  rw [y.2];simp [hi]⟩
 stop:=λi Hc s hi=>by
  have hi:n<=i:=by simpa using hi
  exact hi
variable {H:Hp} {D:Addr}
theorem iM{H':Hp}{o:HO}(s:af H H')(n:H D=none):af H (upd H' D o):=λb u e=>by rw [aH (f_ e n)];exact s b u e
variable {te:TE} {Q:VK}
theorem NL{J:It}{ρσ:St}(js:qb J xs H1)(nD:H1 D=none)(hn:xs.length<sizeLine)
  (P:Nat->V->Hp->Prop) (mono:∀i y H H' ys,P i y H->H D=some (.lst ys)->(∀b o,b≠D->H b=some o->H' b=some o)->P i y H')
  (step:∀i x,xs[i]?=some x->∀(Hc:Hp) (R:VK),af H1 Hc->(∃ys,Hc D=some (.lst ys))->(∀y H3,af Hc H3->P i y H3->R y H3)->te (some x::ρσ) Hc R)
  (fin:∀ys Hc,af H1 Hc->ys.length=xs.length->(∀i y,ys[i]?=some y->P i y Hc)->Hc D=some (.lst ys)->Q (.ref D) Hc) :
  ∃W:Nat->Nat->List V->Hp->Prop,(∃m,W 0 m [] (upd H1 D (.lst []))) /\
   ∀i m ys Hc,W i m ys Hc->Hc D=some (.lst ys)/\((J.stop i Hc/\Q (.ref D) Hc)\/(J.go i Hc/\∀x H',J.fc i Hc x H'->
    if true=true then te (some x::ρσ) H' λy H3=>H3 D=some (.lst ys)/\ys.length<sizeLine/\∃m',m'<m/\W (i+1) m' (ys++[y]) (upd H3 D (.lst (ys++[y]))) else ∃m',m'<m/\W (i+1) m' ys H')):=by
 refine (ad (λi m ys Hc=>m=xs.length-i/\i<=xs.length/\Hc D=some (.lst ys)/\af H1 Hc/\ys.length=i/\∀j y,ys[j]?=some y->P j y Hc) ⟨_,rfl,cG _,au,iM (af.refl H1) nD,rfl,λj y e=>by simp at e⟩ ?_)
 rintro i m ys Hc ⟨rfl,hi,eD,sH,el,hP⟩;refine ⟨eD,?_⟩;by_cases cm:i<xs.length
 ·refine .inr ⟨js.go i Hc sH cm,λx H' hy=>?_⟩
  obtain ⟨rfl,hx⟩:=js.fc i Hc x H' sH hy;rw [aq rfl];refine step i x (hx cm) _ _ sH ⟨ys,eD⟩ λy H3 s3 hp=>?_;have e3:=s3 _ _ eD;refine ⟨e3,⋯,xs.length-(i+1),⋯,rfl,cm,au,iM (sH.trans s3) nD,by simp [el],λj y' e=>?_⟩
  have bE:∀b o,b≠D->H3 b=some o->upd H3 D (.lst (ys++[y])) b=some o:=λb o nb e=>by rw [aH nb];exact e
  by_cases hj:j<i
  ·have e':ys[j]?=some y':=by rw [oj ⋯] at e;exact e
   refine mono j y' H' _ ys (hP j y' e') eD λb o nb e=>?_;exact bE b o nb (s3 _ _ e)
  ·have hj:j=i:=by have:=(bK.mp e).1;simp at this;lia
   subst hj;have e':y'=y:=by rw [oi ⋯,el,Ag] at e;simpa using e.symm
   subst e';exact mono _ _ H3 _ ys hp e3 bE
 ·have e:i=xs.length:=by lia
  subst e;exact .inl ⟨js.stop _ Hc sH (aV _),fin ys Hc sH el hP eD⟩
variable {wi:TI} {ρ:St->St} {σ:St}
theorem HJ(kf:∀R:It->Hp->Prop,(∀J H1,af H H1->qb J xs H1->R J H1)->wi σ H R)(hn:xs.length<sizeLine)
  (P:Addr->Nat->V->Hp->Prop) (mono:∀D i y H H' ys,P D i y H->H D=some (.lst ys)->(∀b o,b≠D->H b=some o->H' b=some o)->P D i y H')
  (step:∀D i x,xs[i]?=some x->∀(Hc:Hp) (R:VK),af H Hc->(∃ys,Hc D=some (.lst ys))->(∀y H3,af Hc H3->P D i y H3->R y H3)->te (some x::ρ σ) Hc R)
  (fin:∀D ys Hc,af H Hc->ys.length=xs.length->(∀i y,ys[i]?=some y->P D i y Hc)->Hc D=some (.lst ys)->Q (.ref D) Hc):j8 wi ρ (λ_ H Q=>Q true H) te σ H Q:=by
 refine kf _ λJ H1 s1 js=>?_;intro D nD;exact NL (ρσ:=ρ σ) (te:=te) (Q:=Q) js nD hn (P D) (mono D) (λi x hx Hc R sc=>step D i x hx Hc R (s1.trans sc)) (λys Hc sc=>fin D ys Hc (s1.trans sc))
theorem aP{g:TG}{D:Ends}(h:te σ H λx H1=>g x σ H1 D.nx):oE te g D σ H:=h
theorem oZ{a b:TS}{D:Ends}(h:a {D with nx:=λσ H=>b D σ H} σ H):GL a b D σ H:=h
section
variable {X:Cx} {N:List Str} {scope:Scope} {cl:List (Str×Addr)} {x:Str} {px pos:Pos} {iter elt:Expr} {ifs:List Expr} {wi:TI} {ρ:St->St} {tt:TT} {te:TE}
theorem sk{y:Str}{py qc:Pos}{i0:Nat}(B:Hv X N scope cl x ρ)(hc:X.calm=true)(hN:X.N.Nodup)(AL:X.N[i0]?=some y)(hy:Loc X.env.scope y)(hi:PI X (.Name x px) iter wi)(ht:∀s₃ H₃ fp,kW (X.bL N scope cl s₃ H₃ fp) ifs tt)(he:∀s₃ H₃ fp,PE (X.bL N scope cl s₃ H₃ fp) elt te)
  (AM:swapsWith (.ListComp elt [⟨.Name x px,iter,ifs,0⟩] scope pos) (some (.Name y py)) qc.line X.env=pure true:=by rfl) (hf:X.fn y=true\/X.env.scope.names.lookup y=some .local:=by first | exact .inl rfl | exact .inr rfl | assumption)
  (hs:∀x,foldedSetIterable iter X.env x=pure x:=by intro _;rfl):PS X (.Assign [.Name y py] (.ListComp elt [⟨.Name x px,iter,ifs,0⟩] scope pos) qc) (oE (j8 wi ρ tt te) (ck i0)):=by
 intro pins s σ H D0 I h
 have h:j8 wi ρ tt te σ H (λv H1=>D0.nx (σ.set i0 (some v)) H1):=h
 rw [Gv _ _ _ _ AM]
 refine cj (vK (cj ?_))
 show wpAny _ X.A (do let _ <-comprehension (.ListComp elt [⟨.Name x px,iter,ifs,0⟩] scope pos) scope X.env _ (newList []) false (eval iter X.env) (some (assign (.Name y py) X.env))) _ _ s
 refine cj (bT (Q:=λ_ s'=>SP X pins D0 .next s') ?_ (λ_ s' hq=>dZ (dZ hq)) λ_ _ e=>e)
 refine z9 (use:=some (assign (.Name y py) X.env)) rfl hs B.rZ B.kind B.names (aT (hi pins s σ H _ I h) λv s1 h1=>aT h1 λrJ s2 h2=>?_)
 intros bv32 h2 it fp tn J H2 rfl I2 T gf f2 q2
 have nD:H2 s2.heap.objs.size=none:=I2.aB.fresh (aV _)
 obtain ⟨W,⟨m0,w0⟩,turn⟩:=q2 _ nD
 refine vL (Ce B.AJ (by intro y hy;simp at hy) (λh₁ gk gJ=>?_) B.kind)
 dsimp only at gk gJ ⊢
 generalize hD:s2.heap.objs.size=D at nD w0 turn gk gJ ⊢
 generalize gK:({s2 with heap:=s2.heap.push {cls:=.type "list",dict:=none,data:=.seq ([]:List Value).toArray}}:Shared)=s3
 have I3:Inv X pins σ (upd H2 D (.lst [])) s3:=by
  subst hD gK
  exact I2.laid (t':=s2.toks) (λb u e=>cx _ e) (aV _) ⟨cG _,[],_,.nil,fN _ rfl⟩
 have e3:s3.heap=s2.heap.push {cls:=.type "list",dict:=none,data:=.seq ([]:List Value).toArray}:=by rw [<-gK]
 have eR:∀b o,s2.heap.get? b=some o->s3.heap.get? b=some o:=λb o e=>by rw [e3];exact cx _ e
 rw [<-e3] at gk gJ ⊢
 have below:∀b o,s3.heap.get? b=some o->b≠s3.heap.objs.size:=λb o e=>dY (bP e)
 have cQ:∀b o,s3.heap.get? b=some o->h₁.get? b=some o:=λb o e=>gJ.extBut b o (below b o e) (cx _ e)
 have gw:∀b∈fp,∃o,s2.heap.get? b=some o/\∀v,o.data≠.cell v:=T.obj _ _ gf
 have oQ:∀b∈fp,b≠D:=λb hb z=>by
  obtain ⟨o,e,_⟩:=gw b hb
  rw [z,<-hD] at e
  exact absurd (bP e) (fM _)
 have cE:∀y c,cl.lookup y=some c->X.env.cells.lookup y=some c:=λy c e=>B.sub (y,c) (kz e)
 have oR:=I3.rz
 have dQ:(X.bL N scope cl s3 (upd H2 D (.lst [])) fp).Ok:=by
  refine ⟨I.ok.mod,B.kind,I.ok.glob,I.ok.blt,aV _,λa b c e1 e2=>I.ok.inj a b c (cE a c e1) (cE b c e2),λy hy=>B.has y hy,(λ_ _ z _=>absurd z dC),(λ_=>I.ok.hd hc),I.ok.frames,.inl rfl,λb hb=>⟨?_,λy c e z=>?_⟩,λb o e=>?_,aM I.ok.gY I3.sz,λb o e hb=>?_,λb hb z=>?_,I3.stack,oR⟩
  ·obtain ⟨o,e,_⟩:=gw b hb
   exact below b o (eR b o e)
  ·exact (f2 b hb).2.2.2.2.1 y c (cE y c e) z
  ·exact I3.bs b o e
  ·rcases (f2 b hb).2.2.2.1 with z | z
   ·exact I.ok.mZ b o e z
   ·exact absurd (eO (bP e) (aM I.ok.gY z)) (fM _)
  ·rcases dB.mp (I3.rq b z) with z | z
   ·exact (f2 b hb).2.1 z
   ·exact (f2 b hb).2.2.1 z
 have IB:∀tk:Nat,Inv (X.bL N scope cl s3 (upd H2 D (.lst [])) fp) [] (none::ρ σ) (upd H2 D (.lst [])) {s3 with heap:=h₁,toks:=tk}:=λtk=>by
  refine ⟨dQ,rfl,I3.bare,Un.kept cQ,(ad _ gk (λj y v e1 e2 e3=>?_)),λy c e=>?_,?_,λy c e=>I3.ig y c (cE y c e),(λp hp=>nomatch hp),I3.aB.kept cQ,?_⟩
  ·cases j with
   | zero=>cases e2
   | succ j=>
    obtain ⟨i,y',a1,a2,a3,a4,a5,a6⟩:=B.r6 σ j v e2
    have j9:N[j+1]?=some y:=e1
    rw [j9] at a1
    cases a1
    obtain ⟨m,hn,hl⟩:=I3.loc
    obtain ⟨u,r,l⟩:=hl i y v a2 a3 a4
    refine (ad u r (.inr ⟨a6,?_⟩))
    obtain ⟨c,ec⟩:=B.has y a6
    rcases l with ⟨k,_⟩ | ⟨_,c',jw,z⟩
    ·rcases a5 with q | q <;> (rw [k] at q;cases q)
    ·have:=cE y c ec
     rw [this] at jw
     cases jw
     intros bv2 z o ho hd
     exact (u8 c ec o (cQ _ _ ho) hd)
  ·obtain ⟨v,o,ho,hd⟩:=I3.cell y c (cE y c e)
   exact ⟨v,o,cQ _ _ ho,hd⟩
  ·exact I3.aB.fresh (aV _)
  ·show (none::ρ σ).length=N.length
   rw [fO]
   exact B.len σ I.len
 have mh:∀b o,s3.heap.get? b=some o->b≠s3.heap.objs.size:=below
 have fin:∀{σ':St} {H':Hp} {s':Shared},Inv (X.bL N scope cl s3 (upd H2 D (.lst [])) fp) [] σ' H' s'->D0.nx (σ.set i0 (some (.ref D))) H'->compPost (model X.prog X.w) X.A X.xe (some (assign (.Name y py) X.env)) (λ_ s'=>SP X pins D0 .next s') (.ref D) s3.heap.objs.size (.ok .next) s':=fun{σ' H' s'} J q=>by
  obtain ⟨m,hn,_⟩:=J.loc
  have hn:s'.heap.Ns s3.heap.objs.size m:=hn
  have JC:H' s3.heap.objs.size=none:=J.free
  have u1:Un (cz X.stack) fp (upd H2 D (.lst [])) H' s3.heap s'.heap:=by
   refine ⟨λb o e n hb hx=>J.base.keep b o e n hb hx,λb o e n hb hx=>J.base.slot b o e n hb hx,J.base.free,λb o e hx=>J.base.there b o e hx,J.base.fR,J.base.fE,J.base.fS⟩
  have IX:Inv X pins σ H' s':=I3.jj (ch:=fp) (J.os) u1 J.aB J.bare λb hb=>by
   obtain ⟨g0,g1,g2,g3,g4,g5⟩:=f2 b hb
   exact ⟨g3,g1,g4,g5⟩
  have nl:X.env.locals≠s3.heap.objs.size:=by
   obtain ⟨m3,⟨o3,_,_,e3,_⟩,_⟩:=I3.loc
   exact mh _ _ e3
  have nc:∀z c,X.env.cells.lookup z=some c->c≠s3.heap.objs.size:=λz c e=>by
   obtain ⟨v3,o3,e3,_⟩:=I3.cell z c e
   exact mh _ _ e3
  refine B6 (Cw (v:=.ref D) IX hN AL hy rfl (λiK mi mj=>?_) hf)
  intros bv2 mj a mj ha
  have na:s3.heap.objs.size≠a:=by
   rcases ha with rfl | e
   ·exact λz=>nl z.symm
   ·exact λz=>nc _ _ e z.symm
  refine ⟨m,hn.sameBut mj na,λh' fh=>⟨σ.set i0 (some (.ref D)),H',?_,q⟩⟩
  have u2:Un (cz X.stack) [s3.heap.objs.size] H' H' iK.heap h':=by
   refine ⟨λb o e n hb hx=>(fh.2 b (by simpa using hx)).trans e,λb o e n hb hx=>⟨o.slots,(fh.2 b (by simpa using hx)).trans e⟩,λb o e n hx=>n,λb o e hx=>⟨o,(fh.2 b (by simpa using hx)).trans e⟩,λb xs z=>z,λb o u z=>z,λb ps z=>⟨#[],by simpa using z⟩⟩
  have oS:cq X.prog X.w H' h':=λb u e=>by
   refine (mi.aB b u e).ic (λc v hc z=>(fh.2 c λy=>?_).trans z) (λ_ z=>z) λ_ _ z=>z
   have y':c=s3.heap.objs.size:=y
   rcases hc with hc | hc
   ·rw [<-hc,y',JC] at e
    cases e
   ·rw [y',JC] at hc
    cases hc
  refine mi.jj (s':={iK with heap:=h'}) (ch:=[s3.heap.objs.size]) rfl u2 oS mi.bare λb hb=>?_
  have eb:b=s3.heap.objs.size:=by simpa using hb
  subst eb
  refine ⟨.inr I3.sz,λz=>nl z.symm,λz c e=>nc z c e,λp hp=>?_⟩
  exact mh _ _ (I3.pin p hp).1
 have fF:∀{H':Hp},(∀b∈fp,H' b=none)->∀b∈fp,lS (X.bL N scope cl s3 (upd H2 D (.lst [])) fp) [] H' b:=λhn b hb=>by
  refine ⟨hn b hb,?_,?_,.inl hb,λy c e z=>(f2 b hb).2.2.2.2.1 y c (cE y c e) z,λp hp=>nomatch hp⟩
  ·obtain ⟨o,e,_⟩:=gw b hb
   exact below b o (eR b o e)
  ·exact dQ.m4 b hb
 have loop:∀tk:Nat,codeAny (model X.prog X.w) X.A (.compLoop (.ListComp elt [⟨.Name x px,iter,ifs,0⟩] scope pos) 0 (.ref it) (.ref D) (compEnvC scope cl s3.heap.objs.size X.env))
   (compPost (model X.prog X.w) X.A X.xe (some (assign (.Name y py) X.env)) (λ_ s'=>SP X pins D0 .next s') (.ref D) s3.heap.objs.size) {s3 with heap:=h₁,toks:=tk}:=λtk=>by
  refine Gr (λn s'=>∃i ys o H',Inv (X.bL N scope cl s3 (upd H2 D (.lst [])) fp) [] (o::ρ σ) H' s'/\tn i s'.heap/\(∀b∈fp,H' b=none)/\W i n ys H') ?_ m0
   ⟨0,[],none,_,IB tk,T.keep _ _ _ gf λb hb o e=>cQ _ _ (eR _ _ e),λb hb=>by rw [aH (oQ b hb)];exact (f2 b hb).1,w0⟩
  intro n s4;intros bv22 _ i ys o H4 I4 jx jy w4
  obtain ⟨CZ,oU⟩:=turn i n ys H4 w4
  rcases oU with ⟨stop,qn⟩ | ⟨go,step⟩
  ·refine bT (T.done (X.bL N scope cl s3 (upd H2 D (.lst [])) fp) rfl rfl rfl hc i [] s4 _ H4 (λ_ _=>False) I4 (fF jy) jx stop) (λr s5 ⟨hr,I5⟩=>?_) λ_ _ z=>z.elim
   subst hr
   exact fin I5 qn
  ·refine bT (T.item (X.bL N scope cl s3 (upd H2 D (.lst [])) fp) rfl rfl rfl hc i [] s4 _ H4 (λ_ _=>False) I4 (fF jy) jx go) (λr s5 ⟨u,hr,h5⟩=>?_) λ_ _ z=>z.elim
   subst hr
   have z:letOwnedTupleGo (.Name x px) (.ref it) u=pure ():=rfl
   rw [z] at h5
   show wpAny _ _ ((pure ():Sem Unit) >>= λ_=>assign (.Name x px) (compEnvC scope cl s3.heap.objs.size X.env) u) _ _ s5
   refine cj (bT h5 (λ_ s5 ⟨y,H5,I5,r5,y5,fG,lV⟩=>?_) λ_ _ z=>z.elim)
   have lW:=I5.pinned (fF lV) (T.obj _ _ fG)
   have pg:PG (X.bL N scope cl s3 (upd H2 D (.lst [])) fp) (.Name x px) (ck 0):=b_ (i:=0) B.nd B.n0 (.inl (kB B.hx)) (.inr (kB B.hx))
   have again:∀{σ7:St} {H7:Hp} {s7:Shared},Inv (X.bL N scope cl s3 (upd H2 D (.lst [])) fp) ([]++jn fp s5.heap) σ7 H7 s7->Inv (X.bL N scope cl s3 (upd H2 D (.lst [])) fp) [] σ7 H7 s7/\tn (i+1) s7.heap/\∀b∈fp,H7 b=none:=fun{σ7 H7 s7} I7=>by
    refine ⟨I7.pU,T.keep _ _ _ fG λb hb o e=>(I7.pin (b,o) (d5 _ (d5 _ (kK hb e)))).1,λb hb=>?_⟩
    obtain ⟨o,e,d⟩:=T.obj _ _ fG b hb
    exact (I7.pin (b,o) (d5 _ (d5 _ (kK hb e)))).2.1
   refine bT (pg _ s5 _ H5 y u (λσ2 H6=>σ2=some y::ρ σ/\H6=H5) lW r5 ⟨rfl,rfl⟩) (λ_ s6 ⟨σ6,H6,I6,q6⟩=>?_) λ_ _ z=>z.elim
   obtain ⟨rfl,rfl⟩:=q6
   have oV:=step y _ y5
   have tests:∀{fI:TT},kW (X.bL N scope cl s3 (upd H2 D (.lst [])) fp) ifs fI->∀{R:Bool->Hp->Prop},fI (some y::ρ σ) H6 R->wpAny (model X.prog X.w) X.A
     (forIn ifs true λc r=>if r=true then do let ok <-isTrue c (compEnvC scope cl s3.heap.objs.size X.env) (eval c (compEnvC scope cl s3.heap.objs.size X.env));pure (ForInStep.yield ok) else pure (ForInStep.yield r))
     (λok s7=>∃H7,Inv (X.bL N scope cl s3 (upd H2 D (.lst [])) fp) ([]++jn fp s5.heap) (some y::ρ σ) H7 s7/\R ok H7) (λ_ _=>False) s6:=fun{fI} p {R} hR=>by
    cases p with
    | nil=>exact z_ (ad _ I6 hR)
    | one p=>exact Aa (p _ s6 _ _ _ I6 hR)
   refine bT (tests (ht s3 _ fp) oV) (λok s7 ⟨H7,I7,q7⟩=>?_) λ_ _ z=>z.elim
   cases ok with
   | false=>
    intros bv2 q7 m' dH w7
    obtain ⟨a1,a2,a3⟩:=again I7
    exact (ww m' dH (i+1) (re ys _ H7 a1 a2 a3 w7))
   | true=>
    refine bT (he s3 _ fp _ s7 _ H7 _ I7 q7) (λev s8 ⟨z,H8,I8,r8,oW,hz,m',dH,w8⟩=>?_) λ_ _ z=>z.elim
    refine bT (p6 (X:=X.bL N scope cl s3 (upd H2 D (.lst [])) fp) _ s8 _ H8 (.ref D) [z] (.ref D) [ev] (λ_ H9=>H9=upd H8 D (.lst (ys++[z]))) I8 rfl (.cons r8 .nil) (pi D ys z rfl rfl oW hz rfl)) (λ_ s9 ⟨_,H9,I9,_,q9⟩=>?_) λ_ _ z=>z.elim
    subst q9
    obtain ⟨a1,a2,a3⟩:=again I9
    exact ⟨m',dH,i+1,ys++[z],_,_,a1,a2,a3,w8⟩
 have start:=loop (s3.toks+([]:List (Str×Value)).length)
 have es:({s3 with heap:=h₁,toks:=s3.toks+([]:List (Str×Value)).length}:Shared)={s2 with heap:=h₁,toks:=s2.toks+([]:List (Str×Value)).length}:=by rw [<-gK]
 rw [es] at start
 exact Ab start (T.self _ 0 _ _ _ (T.keep _ _ _ gf λb hb o e=>cQ _ _ (eR _ _ e)) start)
end
def HK(K:aE)(l1 l2:Addr):It:=
  ⟨λi H=>∃xs ys x y,bM K H l1 xs/\bM K H l2 ys/\xs[i]?=some x/\ys[i]?=some y,
   λi H v H'=>∃T x y,H T=none/\v=.ref T/\H'=upd H T (.tup [x,y])/\∀xs ys,bM K H l1 xs->bM K H l2 ys->xs[i]?=some x/\ys[i]?=some y,
   λi H=>∃xs ys,bM K H l1 xs/\bM K H l2 ys/\(xs.length<=i\/ys.length<=i)⟩
theorem YC{P:Program}{w:World}{elts:List Expr}{k:Nat}{pos:Pos}{z TI TO i1 i2 l1 l2:Addr}(D:ZipApart z TI TO i1 i2 l1 l2):Turn P w K (.Tuple elts k pos) (HK K l1 l2) [z,TI,TO,i1,i2] z
  (λi h=>IsZip h z TI TO .none/\IsPair h TI (.ref i1) (.ref i2)/\(∃a b,IsPair h TO a b)/\h.IsListIter i1 l1 i/\h.IsListIter i2 l2 i) where
 mem:=by simp
 obj:=λi h st b hb=>by
  obtain ⟨hz,o_,⟨a,c,qd⟩,h1,h2⟩:=st;simp only [dB,jP,jQ] at hb;rcases hb with rfl | rfl | rfl | rfl | rfl;·exact ⟨_,hz,λv z=>by cases z⟩
  ·exact ⟨_,o_,λv z=>by cases z⟩
  ·exact ⟨_,qd,λv z=>by cases z⟩
  ·intros bv4 h1 o e c d
   exact ⟨o,e,λv z=>by rw [d] at z;cases z⟩
  ·intros bv4 h2 o e c d
   exact ⟨o,e,λv z=>by rw [d] at z;cases z⟩
 keep:=λi h h' st k=>by obtain ⟨hz,o_,⟨a,c,qd⟩,h1,h2⟩:=st;exact ⟨k _ (by simp) _ hz,k _ (by simp) _ o_,⟨a,c,k _ (by simp) _ qd⟩,h1.at λo e=>k _ (by simp) o e,h2.at λo e=>k _ (by simp) o e⟩
 item:=by
  intro X hP hw hK hc i pins s σ H E I hf st hg;subst hP hw hK;obtain ⟨hz,o_,⟨a,c,qd⟩,h1,h2⟩:=st;intros bv22 hg xs ys x y kg jA hx hy;obtain ⟨ai,rv,p,_⟩:=I.list kg;obtain ⟨NM,De,p',_⟩:=I.list jA;obtain ⟨u,hu,ru⟩:=rv.get hx;obtain ⟨u',NN,HL⟩:=De.get hy;refine wpAny_pyNext_zip_item D hz o_ qd h1 h2 p.isList p'.isList (x:=u) (y:=u') (by simpa using hu) (by simpa using NN) λh' g1 g2 g3 g4 g5 g6 g7=>(ad _ rfl ?_)
  refine wpAny_letOwnedTupleGo_zip g1 λnk q1 sb=>?_;have rW:H s.heap.objs.size=none:=I.aB.fresh (aV _);have lt:∀b o,s.heap.get? b=some o->b≠s.heap.objs.size:=λb o e=>dY (bP e);have keep:∀b o,b∉[z,TI,TO,i1,i2]->s.heap.get? b=some o->nk.get? b=some o:=λb o nb e=>by simp only [dB,jP,jQ,not_or] at nb;exact sb.extBut _ _ nb.1 (g7 b o nb.1 nb.2.2.1 nb.2.2.2.1 nb.2.2.2.2 e)
  have YD:z≠s.heap.objs.size:=lt _ _ hz;have pT:IsPair nk s.heap.objs.size u u':=sb.extBut _ _ YD.symm g5;have mq:∀{b:Addr} {o:HO} (e:H b=some o),upd H s.heap.objs.size (.tup [x,y]) b=some o:=λe=>by rw [aH (f_ e rW)];exact e
  have aB:cq X.prog X.w (upd H s.heap.objs.size (.tup [x,y])) nk:=λb o e=>by
   by_cases hb:b=s.heap.objs.size
   ·subst hb
    rw [au] at e;cases e;exact ⟨by show 2<=sizeLine;decide,[u,u'],.cons ru (.cons HL .nil),⟨_,pT,rfl,_,rfl⟩⟩
   ·rw [aH hb] at e
    refine (I.aB b o e).ic (λc v dF q=>keep c v (λm=>?_) q) (λc q=>mq q) λc xs q=>mq q;have nn:=(hf c m).1;rcases dF with rfl | dF;·rw [nn] at e;cases e
    ·rw [nn] at dF;cases dF
  have u1:Un (cz X.stack) [z,TI,TO,i1,i2] H (upd H s.heap.objs.size (.tup [x,y])) s.heap nk:=
   ⟨λb o e n _ hx=>keep b o hx e,λb o e n _ hx=>⟨o.slots,keep b o hx e⟩,λb o e n hx=>by rw [aH (lt b o e)];exact n,λb o e hx=>⟨o,keep b o hx e⟩,λb xs e=>mq e,λb o u e=>mq e,λb ps e=>⟨#[],by rw [mq e];simp⟩⟩
  refine (sB (.ref s.heap.objs.size) (upd H s.heap.objs.size (.tup [x,y])) (I.jj (s':={s with heap:=nk}) (ch:=[z,TI,TO,i1,i2]) rfl u1 aB I.bare (λb hb=>?_)) rfl (re _ x y rW rfl rfl (λas bs ha hb=>⟨by rw [I.CB ha kg];exact hx,by rw [I.CB hb jA];exact hy⟩)) ?_ (λb hb=>?_))
  ·obtain ⟨f0,f1,f2,f3,f4,f5⟩:=hf b hb
   exact ⟨f3,f1,f4,f5⟩
  ·exact ⟨q1,sb.extBut _ _ D.TIz (g7 _ _ D.TIz D.TITO D.TIi1 D.TIi2 o_),⟨_,_,sb.extBut _ _ D.TOz g2⟩,g3.extBut sb.extBut D.i1z,g4.extBut sb.extBut D.i2z⟩
  ·have nb:b≠s.heap.objs.size:=by
    simp only [dB,jP,jQ] at hb;rcases hb with rfl | rfl | rfl | rfl | rfl;·exact lt _ _ hz
    ·exact lt _ _ o_
    ·exact lt _ _ qd
    ·intros bv2 h1 o e _;exact lt _ _ e
    ·intros bv2 h2 o e _;exact lt _ _ e
   rw [aH nb];exact (hf b hb).1
 done:=by
  intro X hP hw hK hc i pins s σ H E I hf st hg;subst hP hw hK;obtain ⟨hz,o_,⟨a,c,qd⟩,h1,h2⟩:=st;intros bv7 hg xs ys kg jA hx;obtain ⟨ai,rv,p,_⟩:=I.list kg;obtain ⟨NM,De,p',_⟩:=I.list jA;have hl:=rv.length;have AN:=De.length;refine wpAny_pyNext_zip_end (I.ok.hd hc) D hz o_ qd h1 h2 p.isList p'.isList (hx.imp (λh=>by simp;lia) λh=>by simp;lia) λh' g=>⟨rfl,?_⟩
  have keep:∀b o,b∉[z,TI,TO,i1,i2]->s.heap.get? b=some o->h'.get? b=some o:=λb o nb e=>by simp only [dB,jP,jQ,not_or] at nb;exact g b o nb.1 nb.2.2.1 nb.2.2.2.1 nb.2.2.2.2 e
  have aB:cq X.prog X.w H h':=λb o e=>by
   refine (I.aB b o e).ic (λc v dF q=>keep c v (λm=>?_) q) (λc q=>q) λc xs q=>q;have nn:=(hf c m).1;rcases dF with rfl | dF;·rw [nn] at e;cases e
   ·rw [nn] at dF;cases dF
  have u1:Un (cz X.stack) [z,TI,TO,i1,i2] H H s.heap h':=
   ⟨λb o e n _ hx=>keep b o hx e,λb o e n _ hx=>⟨o.slots,keep b o hx e⟩,λb o e n hx=>n,λb o e hx=>⟨o,keep b o hx e⟩,λb xs e=>e,λb o u e=>e,λb ps e=>⟨#[],by rw [e];simp⟩⟩
  refine I.jj (s':={s with heap:=h'}) (ch:=[z,TI,TO,i1,i2]) rfl u1 aB I.bare λb hb=>?_;obtain ⟨f0,f1,f2,f3,f4,f5⟩:=hf b hb;exact ⟨f3,f1,f4,f5⟩
 self:=λ_ _ _ _ _ st h=>wpAny_pyIter_zip st.1 h
theorem boot_zip:bootBuiltins "zip"=some (.type "zip"):=by decide +kernel
def YE(K:aE)(ta:TA):TI:=λσ H R=>ta σ H λvs H1=>∃l1 l2,vs=[.ref l1,.ref l2]/\(∃xs,bM K H1 l1 xs)/\(∃ys,bM K H1 l2 ys)/\R (HK K l1 l2) H1
section
variable {X:Cx}
theorem YF{elts:List Expr}{k:Nat}{wj:Pos}{a b:Expr}{ta:TA}{p pos:Pos}(hg:Gl X "zip")(hm:X.mg "zip"=none)(ha:PA X [a,b] ta)(hs:starEach [a,b] X.env=[(false,eval a X.env),(false,eval b X.env)]:=by rfl)(jU:starEach [b] X.env=[(false,eval b X.env)]:=by rfl) :
  PI X (.Tuple elts k wj) (.Call (.Name "zip" p) [a,b] [] pos) (YE X.K ta):=by
 intro pins s σ H R I h;refine Call_ (pS I hg hm boot_zip (vM (aT (ha pos pins s σ H _ I h) λus s1 ⟨vs,H1,I1,r1,q1⟩=>?_) (by rw [hs,jU]) (by rw [jU];rfl)))
 obtain ⟨l1,l2,e,⟨xs,kg⟩,⟨ys,jA⟩,q⟩:=q1;subst e;cases r1 with
 | cons r rr=>
  cases rr with
  | cons r' rr=>
   cases rr;cases r;cases r';obtain ⟨ai,rv,p1,_⟩:=I1.list kg;obtain ⟨NM,De,p2,_⟩:=I1.list jA;have b1:l1<s1.heap.objs.size:=by obtain ⟨o,e,_⟩:=p1.isList;exact bP e
   have b2:l2<s1.heap.objs.size:=by obtain ⟨o,e,_⟩:=p2.isList;exact bP e
   refine call_zip_2 p1.isList p2.isList λh' z1 z2 z3 z4 z5 z6 z7=>?_;refine wpAny_pyIter_zip (s:={s1 with heap:=h'}) z1 ?_;have D:ZipApart (s1.heap.objs.size+4) (s1.heap.objs.size+2) (s1.heap.objs.size+3) s1.heap.objs.size (s1.heap.objs.size+1) l1 l2:=by constructor <;> (intro h;have h:@Eq Nat _ _:=h;have b1:@LT.lt Nat _ l1 s1.heap.objs.size:=b1;have b2:@LT.lt Nat _ l2 s1.heap.objs.size:=b2;lia)
   refine ⟨_,_,_,_,H1,rfl,I1.kept (t':=s1.toks) z7,YC D,⟨z1,z2,(wp _ _ z3),z4,z5⟩,λb hb=>?_,q⟩;have le:s1.heap.objs.size<=b:=by
    simp only [dB,jP,jQ] at hb;rcases hb with rfl | rfl | rfl | rfl | rfl;·exact rf ..
    ·exact rf ..
    ·exact rf ..
    ·exact aV _
    ·exact rf ..
   exact I1.rH le (I1.aB.fresh le)
end
section
variable {prog:Program} {w:World} {A:Around} {R:Result->Shared->Prop} {s:Shared}
theorem NO{elt target iter:Expr}{ifs:List Expr}{scope:Scope}{pos:Pos}{it acc:Value}{env:Env}(I:Nat->Shared->Prop)
  (turn:∀n s,I n s->wpAny (model prog w) A (pyNext it) (λr s₁=>match r with
   | none=>R (.ok .next) s₁
   | some v=>wpAny (model prog w) A (letOwnedTupleGo target it v) (λ_ s₁=>wpAny (model prog w) A (assign target env v) (λ_ s₂=>
     wpAny (model prog w) A (forIn ifs true λc r=>if r=true then do let ok <-isTrue c env (eval c env);pure (ForInStep.yield ok) else pure (ForInStep.yield r)) (λok s₃=>
      if ok=true then wpAny (model prog w) A (eval elt env) (λx s₄=>
       wpAny (model prog w) A (call (.builtin "list.append") [acc,x]) (λ_ s₅=>∃m,m<n/\I m s₅) (notedBy (model prog w) A env λe s'=>R (.error e) s') s₄) (notedBy (model prog w) A env λe s'=>R (.error e) s') s₃
      else ∃m,m<n/\I m s₃) (notedBy (model prog w) A env λe s'=>R (.error e) s') s₂) (notedBy (model prog w) A env λe s'=>R (.error e) s') s₁) (notedBy (model prog w) A env λe s'=>R (.error e) s') s₁) (notedBy (model prog w) A env λe s'=>R (.error e) s') s)
  (n:Nat) (h:I n s):codeAny (model prog w) A (.compLoop (.ListComp elt [⟨target,iter,ifs,0⟩] scope pos) 0 it acc env) R s:=by
 refine codeAny_loop rfl I (λn s hI=>?_) n h
 show wpAny _ A ((compTurn (.ListComp elt [⟨target,iter,ifs,0⟩] scope pos) 0 it acc env).onRaise (λx=>do noteFrame x env;theTreesLotGoes x)) _ _ s
 refine wpAny_noted ?_
 rw [compTurn_list]
 refine cj (vK (cj (bT (turn n s hI) (λr s₁ h₁=>?_) λ_ _ h'=>h')))
 cases r with
 | none=>exact dZ h₁
 | some v=>
  refine cj (bT h₁ (λ_ s₁ h₁=>?_) λ_ _ h'=>h')
  refine cj (bT h₁ (λ_ s₂ h₂=>cj (bT h₂ (λok s₃ h₃=>?_) λ_ _ h'=>h')) λ_ _ h'=>h')
  cases ok with
  | false=>exact dZ ⟨rfl,h₃⟩
  | true=>
   exact cj (cj (bT h₃ (λx s₄ h₄=>cj (bT h₄ (λ_ s₅ h₅=>dZ (dZ ⟨rfl,h₅⟩)) λ_ _ h'=>h')) λ_ _ h'=>h'))
end
def AO(K:aE)(wi:TI)(ρ:St->St)(tt:TT)(te:TE):TE:=λσ H Q=>wi σ H λJ H1=>∀D,H1 D=none->∃W:Nat->Nat->List V->Hp->Prop,(∃m,W 0 m [] (upd H1 D (.lst []))) /\
 ∀i m ys Hc,W i m ys Hc->Hc D=some (.lst ys)/\((J.stop i Hc/\Q (.ref D) Hc)\/(J.go i Hc/\∀v H',J.fc i Hc v H'->∃T x1 x2,v=.ref T/\eF K H' T [x1,x2]/\tt (some x1::some x2::ρ σ) H' λb H2=>
  if b=true then te (some x1::some x2::ρ σ) H2 λy H3=>H3 D=some (.lst ys)/\ys.length<sizeLine/\∃m',m'<m/\W (i+1) m' (ys++[y]) (upd H3 D (.lst (ys++[y]))) else ∃m',m'<m/\W (i+1) m' ys H2))
section
variable {X:Cx} {N:List Str} {scope:Scope} {cl:List (Str×Addr)} {x y:Str} {px py pos tp:Pos} {mr:Nat} {iter elt:Expr} {ifs:List Expr} {wi:TI} {ρ:St->St} {tt:TT} {te:TE}
structure HM (X:Cx) (N:List Str) (scope:Scope) (cl:List (Str×Addr)) (x y:Str) (ρ:St->St):Prop where
 rZ:closureFor scope X.env=pure cl
 kind:scope.kind=.function
 AJ:∀y∈scope.names,y.2≠.cell
 names:∀y∈scope.names,y.2=.local->scope.names.lookup y.1=some .local
 sub:∀p∈cl,X.env.cells.lookup p.1=some p.2
 has:∀y,((relabel scope X.env).names.lookup y=some .cell\/(relabel scope X.env).names.lookup y=some .free)->∃c,cl.lookup y=some c
 n0:N[0]?=some x
 n1:N[1]?=some y
 nd:N.Nodup
 hx:scope.names.lookup x=some .local
 hy:scope.names.lookup y=some .local
 r6:∀(σ:St) (j:Nat) (v:V),(ρ σ)[j]?=some (some v)->∃(i:Nat) (y:Str),N[j+1+1]?=some y/\X.N[i]?=some y/\σ[i]?=some (some v)/\oz X.env.scope y/\(X.env.kindOf y=some .cell\/X.env.kindOf y=some .free)/\((relabel scope X.env).names.lookup y=some .cell\/(relabel scope X.env).names.lookup y=some .free)
 len:∀σ:St,σ.length=X.N.length->(ρ σ).length+1+1=N.length
theorem AQ(is:List Nat)(h1:closureFor scope X.env=pure cl)(h:CY X scope N.tail.tail is:=by repeat' first | exact True.intro | refine And.intro ⟨rfl,Or.inr (Or.inl rfl),.inl rfl,.inl rfl⟩ ?_)(h2:scope.kind=.function:=by rfl)(h3:∀y∈scope.names,y.2≠.cell:=by decide +kernel)(h4:∀y∈scope.names,y.2=.local->scope.names.lookup y.1=some .local:=by decide +kernel)(h5:∀p∈cl,X.env.cells.lookup p.1=some p.2:=by repeat' first | exact Cd _ | refine vQ.mpr ⟨rfl,?_⟩)(h6:((relabel scope X.env).names.all λq=>(q.2 != .cell && q.2 != .free) || (cl.lookup q.1).isSome)=true:=by rfl)(h7:N[0]?=some x:=by rfl)(YG:N[1]?=some y:=by rfl)(h8:N.Nodup:=by decide +kernel)(h9:scope.names.lookup x=some .local:=by rfl)(YH:scope.names.lookup y=some .local:=by rfl)(hr:∀σ:St,ρ σ=is.map λi=>σ[i]?.join:=by exact λ_=>rfl)(hl:is.length+1+1=N.length:=by rfl):HM X N scope cl x y ρ:=
 ⟨h1,h2,h3,h4,h5,NB h6,h7,YG,h8,h9,YH,λσ j v e=>by rw [hr] at e;rw [<-List.getElem?_tail,<-List.getElem?_tail];exact Hw h σ j v e,λσ _=>by rw [hr,aR];exact hl⟩
theorem Df(B:HM X N scope cl x y ρ)(hc:X.calm=true)(hi:PI X (.Tuple [.Name x px,.Name y py] mr tp) iter wi)(ht:∀s₃ H₃ fp,kW (X.bL N scope cl s₃ H₃ fp) ifs tt)(he:∀s₃ H₃ fp,PE (X.bL N scope cl s₃ H₃ fp) elt te)
  (hs:∀x,foldedSetIterable iter X.env x=pure x:=by intro _;rfl):PE X (.ListComp elt [⟨.Tuple [.Name x px,.Name y py] mr tp,iter,ifs,0⟩] scope pos) (AO X.K wi ρ tt te):=by
 intro pins s σ H Q I h
 rw [eval_ListComp]
 refine z9 (use:=none) rfl hs B.rZ B.kind B.names (aT (hi pins s σ H _ I h) λv s1 h1=>aT h1 λrJ s2 h2=>?_)
 intros bv32 h2 it fp tn J H2 rfl I2 T gf f2 q2
 have nD:H2 s2.heap.objs.size=none:=I2.aB.fresh (aV _)
 obtain ⟨W,⟨m0,w0⟩,turn⟩:=q2 _ nD
 refine vL (Ce B.AJ (by intro y hy;simp at hy) (λh₁ gk gJ=>?_) B.kind)
 dsimp only at gk gJ ⊢
 generalize hD:s2.heap.objs.size=D at nD w0 turn gk gJ ⊢
 generalize gK:({s2 with heap:=s2.heap.push {cls:=.type "list",dict:=none,data:=.seq ([]:List Value).toArray}}:Shared)=s3
 have I3:Inv X pins σ (upd H2 D (.lst [])) s3:=by
  subst hD gK
  exact I2.laid (t':=s2.toks) (λb u e=>cx _ e) (aV _) ⟨cG _,[],_,.nil,fN _ rfl⟩
 have e3:s3.heap=s2.heap.push {cls:=.type "list",dict:=none,data:=.seq ([]:List Value).toArray}:=by rw [<-gK]
 have eR:∀b o,s2.heap.get? b=some o->s3.heap.get? b=some o:=λb o e=>by rw [e3];exact cx _ e
 rw [<-e3] at gk gJ ⊢
 have below:∀b o,s3.heap.get? b=some o->b≠s3.heap.objs.size:=λb o e=>dY (bP e)
 have cQ:∀b o,s3.heap.get? b=some o->h₁.get? b=some o:=λb o e=>gJ.extBut b o (below b o e) (cx _ e)
 have gw:∀b∈fp,∃o,s2.heap.get? b=some o/\∀v,o.data≠.cell v:=T.obj _ _ gf
 have oQ:∀b∈fp,b≠D:=λb hb z=>by
  obtain ⟨o,e,_⟩:=gw b hb
  rw [z,<-hD] at e
  exact absurd (bP e) (fM _)
 have cE:∀y c,cl.lookup y=some c->X.env.cells.lookup y=some c:=λy c e=>B.sub (y,c) (kz e)
 have oR:=I3.rz
 have dQ:(X.bL N scope cl s3 (upd H2 D (.lst [])) fp).Ok:=by
  refine ⟨I.ok.mod,B.kind,I.ok.glob,I.ok.blt,aV _,λa b c e1 e2=>I.ok.inj a b c (cE a c e1) (cE b c e2),λy hy=>B.has y hy,(λ_ _ z _=>absurd z dC),(λ_=>I.ok.hd hc),I.ok.frames,.inl rfl,λb hb=>⟨?_,λy c e z=>?_⟩,λb o e=>?_,aM I.ok.gY I3.sz,λb o e hb=>?_,λb hb z=>?_,I3.stack,oR⟩
  ·obtain ⟨o,e,_⟩:=gw b hb
   exact below b o (eR b o e)
  ·exact (f2 b hb).2.2.2.2.1 y c (cE y c e) z
  ·exact I3.bs b o e
  ·rcases (f2 b hb).2.2.2.1 with z | z
   ·exact I.ok.mZ b o e z
   ·exact absurd (eO (bP e) (aM I.ok.gY z)) (fM _)
  ·rcases dB.mp (I3.rq b z) with z | z
   ·exact (f2 b hb).2.1 z
   ·exact (f2 b hb).2.2.1 z
 have IB:∀tk:Nat,Inv (X.bL N scope cl s3 (upd H2 D (.lst [])) fp) [] (none::none::ρ σ) (upd H2 D (.lst [])) {s3 with heap:=h₁,toks:=tk}:=λtk=>by
  refine ⟨dQ,rfl,I3.bare,Un.kept cQ,(ad _ gk (λj y v e1 e2 e3=>?_)),λy c e=>?_,?_,λy c e=>I3.ig y c (cE y c e),(λp hp=>nomatch hp),I3.aB.kept cQ,?_⟩
  ·cases j with
   | zero=>cases e2
   | succ j=>
   cases j with
   | zero=>cases e2
   | succ j=>
    have q'3:=B.r6 σ j v e2;intros bv24 q'3 i y' a1 a2 a3 a4 a5 a6
    have j9:N[j+1+1]?=some y:=e1
    rw [j9] at a1
    cases a1
    obtain ⟨m,hn,hl⟩:=I3.loc
    obtain ⟨u,r,l⟩:=hl i y v a2 a3 a4
    refine (ad u r (.inr ⟨a6,?_⟩))
    obtain ⟨c,ec⟩:=B.has y a6
    rcases l with ⟨k,_⟩ | ⟨_,c',jw,z⟩
    ·rcases a5 with q | q <;> (rw [k] at q;cases q)
    ·have:=cE y c ec
     rw [this] at jw
     cases jw
     intros bv2 z o ho hd
     exact (u8 c ec o (cQ _ _ ho) hd)
  ·obtain ⟨v,o,ho,hd⟩:=I3.cell y c (cE y c e)
   exact ⟨v,o,cQ _ _ ho,hd⟩
  ·exact I3.aB.fresh (aV _)
  ·show (none::none::ρ σ).length=N.length
   rw [fO,fO]
   exact B.len σ I.len
 have fin:∀{σ':St} {H':Hp} {s':Shared},Inv (X.bL N scope cl s3 (upd H2 D (.lst [])) fp) [] σ' H' s'->Q (.ref D) H'->compPost (model X.prog X.w) X.A X.xe none (EP X pins σ Q) (.ref D) s3.heap.objs.size (.ok .next) s':=fun{σ' H' s'} J q=>by
  obtain ⟨m,hn,_⟩:=J.loc
  refine (ad m hn (λh' fh=>(bi (.ref D) H' ?_ rfl q)))
  have old:∀b o,s3.heap.get? b=some o->b≠s3.heap.objs.size:=below
  have u1:Un (cz X.stack) fp (upd H2 D (.lst [])) H' s3.heap h':=by
   refine ⟨λb o e n hb hx=>?_,λb o e n hb hx=>?_,J.base.free,λb o e hx=>?_,J.base.fR,J.base.fE,J.base.fS⟩
   ·exact (fh.2 b (old b o e)).trans (J.base.keep b o e n hb hx)
   ·obtain ⟨sl,z⟩:=J.base.slot b o e n hb hx
    exact ⟨sl,(fh.2 b (old b o e)).trans z⟩
   ·obtain ⟨o',z⟩:=J.base.there b o e hx
    exact ⟨o',(fh.2 b (old b o e)).trans z⟩
  have oS:cq X.prog X.w H' h':=λb u e=>by
   refine (J.aB b u e).ic (λc v hc z=>(fh.2 c λy=>?_).trans z) (λ_ z=>z) λ_ _ z=>z
   have fr:=J.free
   have y':c=s3.heap.objs.size:=y
   rcases hc with hc | hc
   ·rw [<-hc,y'] at e
    exact absurd (fr.symm.trans e) (by simp)
   ·rw [y'] at hc
    exact absurd (fr.symm.trans hc) (by simp)
  refine I3.jj (s':={s' with heap:=h'}) (ch:=fp) (J.os) u1 oS J.bare λb hb=>?_
  obtain ⟨g0,g1,g2,g3,g4,g5⟩:=f2 b hb
  exact ⟨g3,g1,g4,g5⟩
 have fF:∀{H':Hp},(∀b∈fp,H' b=none)->∀b∈fp,lS (X.bL N scope cl s3 (upd H2 D (.lst [])) fp) [] H' b:=λhn b hb=>by
  refine ⟨hn b hb,?_,?_,.inl hb,λy c e z=>(f2 b hb).2.2.2.2.1 y c (cE y c e) z,λp hp=>nomatch hp⟩
  ·obtain ⟨o,e,_⟩:=gw b hb
   exact below b o (eR b o e)
  ·exact dQ.m4 b hb
 have loop:∀tk:Nat,codeAny (model X.prog X.w) X.A (.compLoop (.ListComp elt [⟨.Tuple [.Name x px,.Name y py] mr tp,iter,ifs,0⟩] scope pos) 0 (.ref it) (.ref D) (compEnvC scope cl s3.heap.objs.size X.env))
   (compPost (model X.prog X.w) X.A X.xe none (EP X pins σ Q) (.ref D) s3.heap.objs.size) {s3 with heap:=h₁,toks:=tk}:=λtk=>by
  refine NO (λn s'=>∃i ys o o2 H',Inv (X.bL N scope cl s3 (upd H2 D (.lst [])) fp) [] (o::o2::ρ σ) H' s'/\tn i s'.heap/\(∀b∈fp,H' b=none)/\W i n ys H') ?_ m0
   ⟨0,[],none,none,_,IB tk,T.keep _ _ _ gf λb hb o e=>cQ _ _ (eR _ _ e),λb hb=>by rw [aH (oQ b hb)];exact (f2 b hb).1,w0⟩
  intro n s4;intros bvE _ i bv22 ys o o2 H4 I4 jx jy w4
  obtain ⟨CZ,oU⟩:=turn i n ys H4 w4
  rcases oU with ⟨stop,qn⟩ | ⟨go,step⟩
  ·refine bT (T.done (X.bL N scope cl s3 (upd H2 D (.lst [])) fp) rfl rfl rfl hc i [] s4 _ H4 (λ_ _=>False) I4 (fF jy) jx stop) (λr s5 ⟨hr,I5⟩=>?_) λ_ _ z=>z.elim
   subst hr
   exact fin I5 qn
  ·refine bT (T.item (X.bL N scope cl s3 (upd H2 D (.lst [])) fp) rfl rfl rfl hc i [] s4 _ H4 (λ_ _=>False) I4 (fF jy) jx go) (λr s5 ⟨u,hr,h5⟩=>?_) λ_ _ z=>z.elim
   subst hr
   refine bT h5 (λ_ s5 ⟨y0,H5,I5,r5,y5,fG,lV⟩=>?_) λ_ _ z=>z.elim
   have q'9:=step y0 _ y5;intros bv14 q'9 Tt x1 x2 e0 HN oV
   subst e0
   have lW:=I5.pinned (fF lV) (T.obj _ _ fG)
   have pg:PG (X.bL N scope cl s3 (upd H2 D (.lst [])) fp) (.Tuple [.Name x px,.Name y py] mr tp) (GP X.K 2 (As (ck 0) (As (ck 1) GO))):=
    oC (X:=X.bL N scope cl s3 (upd H2 D (.lst [])) fp) hc (gc (b_ (i:=0) B.nd B.n0 (.inl (kB B.hx)) (.inr (kB B.hx))) (gc (b_ (i:=1) B.nd B.n1 (.inl (kB B.hy)) (.inr (kB B.hy))) oB))
   have again:∀{σ7:St} {H7:Hp} {s7:Shared},Inv (X.bL N scope cl s3 (upd H2 D (.lst [])) fp) ([]++jn fp s5.heap) σ7 H7 s7->Inv (X.bL N scope cl s3 (upd H2 D (.lst [])) fp) [] σ7 H7 s7/\tn (i+1) s7.heap/\∀b∈fp,H7 b=none:=fun{σ7 H7 s7} I7=>by
    refine ⟨I7.pU,T.keep _ _ _ fG λb hb o e=>(I7.pin (b,o) (d5 _ (d5 _ (kK hb e)))).1,λb hb=>?_⟩
    obtain ⟨o,e,d⟩:=T.obj _ _ fG b hb
    exact (I7.pin (b,o) (d5 _ (d5 _ (kK hb e)))).2.1
   refine bT (pg _ s5 _ H5 (.ref Tt) u (λσ2 H6=>σ2=some x1::some x2::ρ σ/\H6=H5) lW r5 (zn Tt _ rfl HN rfl _ (sK _ rfl _ _ rfl rfl rfl rfl))) (λ_ s6 ⟨σ6,H6,I6,q6⟩=>?_) λ_ _ z=>z.elim
   obtain ⟨rfl,rfl⟩:=q6
   have tests:∀{fI:TT},kW (X.bL N scope cl s3 (upd H2 D (.lst [])) fp) ifs fI->∀{R:Bool->Hp->Prop},fI (some x1::some x2::ρ σ) H6 R->wpAny (model X.prog X.w) X.A
     (forIn ifs true λc r=>if r=true then do let ok <-isTrue c (compEnvC scope cl s3.heap.objs.size X.env) (eval c (compEnvC scope cl s3.heap.objs.size X.env));pure (ForInStep.yield ok) else pure (ForInStep.yield r))
     (λok s7=>∃H7,Inv (X.bL N scope cl s3 (upd H2 D (.lst [])) fp) ([]++jn fp s5.heap) (some x1::some x2::ρ σ) H7 s7/\R ok H7) (λ_ _=>False) s6:=fun{fI} p {R} hR=>by
    cases p with
    | nil=>exact z_ (ad _ I6 hR)
    | one p=>exact Aa (p _ s6 _ _ _ I6 hR)
   refine bT (tests (ht s3 _ fp) oV) (λok s7 ⟨H7,I7,q7⟩=>?_) λ_ _ z=>z.elim
   cases ok with
   | false=>
    intros bv2 q7 m' dH w7
    obtain ⟨a1,a2,a3⟩:=again I7
    exact ⟨m',dH,i+1,ys,_,_,H7,a1,a2,a3,w7⟩
   | true=>
    refine bT (he s3 _ fp _ s7 _ H7 _ I7 q7) (λev s8 ⟨z,H8,I8,r8,oW,hz,m',dH,w8⟩=>?_) λ_ _ z=>z.elim
    refine bT (p6 (X:=X.bL N scope cl s3 (upd H2 D (.lst [])) fp) _ s8 _ H8 (.ref D) [z] (.ref D) [ev] (λ_ H9=>H9=upd H8 D (.lst (ys++[z]))) I8 rfl (.cons r8 .nil) (pi D ys z rfl rfl oW hz rfl)) (λ_ s9 ⟨_,H9,I9,_,q9⟩=>?_) λ_ _ z=>z.elim
    subst q9
    obtain ⟨a1,a2,a3⟩:=again I9
    exact ⟨m',dH,i+1,ys++[z],_,_,_,a1,a2,a3,w8⟩
 have start:=loop (s3.toks+([]:List (Str×Value)).length)
 have es:({s3 with heap:=h₁,toks:=s3.toks+([]:List (Str×Value)).length}:Shared)={s2 with heap:=h₁,toks:=s2.toks+([]:List (Str×Value)).length}:=by rw [<-gK]
 rw [es] at start
 exact Ab start (T.self _ 0 _ _ _ (T.keep _ _ _ gf λb hb o e=>cQ _ _ (eR _ _ e)) start)
end
section
variable {X:Cx}
def anyR(K:aE):List V->Hp->VK->Prop:=λxs H Q=>∃(p:Addr) (bs:List Bool),xs=[.ref p]/\bM K H p (bs.map V.bl)/\Q (.bl (bs.any id)) H
theorem NP(hc:X.calm=true)(hK:X.K=K:=by rfl):gZ X (.builtin "any") (anyR K):=by
 intro pins s σ H xs us Q I r h;subst hK;intros bv7 h p bs rfl hq q;obtain ⟨u,rfl,ru⟩:=vals1 r;cases ru;obtain ⟨ai,rv,pl,hz⟩:=I.list hq;have jz:p≠s.heap.objs.size:=by obtain ⟨o,e,_⟩:=pl.isList;exact dY (bP e)
 have hl:ai.length=bs.length:=by rw [<-rv.length,aR]
 refine call_any_walk (B7 pl.isList ?_);refine (wn s.heap.objs.size _ _ (gt _ _ _ (λi=>bs.getD i false) rfl (Walks.list (A:=X.A.in1) (show X.A.in1.handled=none from I.ok.hd hc) s.heap.objs.size p jz ai.toArray) ⟨(bv _ (fN _ rfl) rfl rfl),pl.isList.push _⟩ (λi v s' Q' E' hv eQ=>?_) (λh' tk hk=>?_)))
 ·have iG:ai[i]?=some v:=by simpa using hv
  cases eb:bs[i]? with
  | none=>
   have:=rv.none_of (i:=i) (by rw [bU,eb];rfl)
   rw [this] at iG;cases iG
  | some b=>
   obtain ⟨u,hu,ru⟩:=rv.get (i:=i) (x:=V.bl b) (by rw [bU,eb];rfl)
   rw [hu] at iG;cases iG;cases ru;have e:bs.getD i false=b:=by rw [gE,eb];rfl
   have jA:Q' (bs.getD i false) s':=eQ;rw [e] at jA;exact pK jA
 ·refine (bi (.bl (bs.any id)) H (I.kept λb o e=>hk b o (λz=>?_) (cx _ e)) ?_ q)
  ·exact absurd (bP e) (by rw [jM.mp z];exact fM _)
  ·show Value.bool _=Value.bool _
   congr 1
   rw [cM,hl];clear hk q rv pl hz hl hq
   induction bs with
   | nil=>rfl
   | cons b bs ih=>rw [fO,Gq,Ah,List.any_map,Ah];show (b || (List.range bs.length).any λi=>bs.getD i false)=(b || bs.any id);rw [ih]
def YI(K:aE):List V->Hp->VK->Prop:=λxs H Q=>∃(p:Addr) (ns:List Int),xs=[.ref p]/\bM K H p (ns.map V.int)/\Q (.int ns.sum) H
theorem YJ:∀(ns:List Int),preSum (λi=>ns.getD i 0) ns.length=ns.sum:=by
 intro ns;have key:∀k,k<=ns.length->preSum (λi=>ns.getD i 0) k=(ns.take k).sum:=by
  intro k
  induction k with
  | zero=>intro _;rfl
  | succ k ih=>
   intro hk;show preSum (λi=>ns.getD i 0) k+ns.getD k 0=_;rw [ih ⋯,List.take_add_one,List.sum_append]
   have e:ns[k]?=some ns[k]:=by simp [show k<ns.length by lia]
   rw [gE,e];simp
 rw [key ns.length (aV _),vV]
theorem YK(hc:X.calm=true)(hK:X.K=K:=by rfl):gZ X (.builtin "sum") (YI K):=by
 intro pins s σ H xs us Q I r h;subst hK;intros bv7 h p ns rfl hq q;obtain ⟨u,rfl,ru⟩:=vals1 r;cases ru;obtain ⟨ai,rv,pl,hz⟩:=I.list hq;have jz:p≠s.heap.objs.size:=by obtain ⟨o,e,_⟩:=pl.isList;exact dY (bP e)
 have hl:ai.length=ns.length:=by rw [<-rv.length,aR]
 refine call_sum_walkG (B7 pl.isList ?_);refine (wn s.heap.objs.size _ _ (ia _ _ _ (λi=>ns.getD i 0) rfl (Walks.list (A:=X.A.in1) (show X.A.in1.handled=none from I.ok.hd hc) s.heap.objs.size p jz ai.toArray) ⟨(bv _ (fN _ rfl) rfl rfl),pl.isList.push _⟩ ?_ (λi v hv=>?_) (λh' tk t' hk=>?_)))
 ·intro b hb
  rw [zV];simp only [dB,jP,jQ] at hb;rcases hb with rfl | rfl;·exact B9 _
  ·obtain ⟨o,e,_⟩:=pl.isList
   exact Nat.lt_succ_of_lt (bP e)
 ·have iG:ai[i]?=some v:=by simpa using hv
  cases eb:ns[i]? with
  | none=>
   have:=rv.none_of (i:=i) (by rw [bU,eb];rfl)
   rw [this] at iG;cases iG
  | some b=>
   obtain ⟨u,hu,ru⟩:=rv.get (i:=i) (x:=V.int b) (by rw [bU,eb];rfl)
   rw [hu] at iG;cases iG;obtain ⟨t,rfl⟩:=ru;exact ⟨t,by show Value.int b t=Value.int (ns.getD i 0) t;rw [gE,eb];rfl⟩
 ·refine (bi (.int ns.sum) H (I.kept λb o e=>hk b o (λz=>?_) (cx _ e)) ⟨t',?_⟩ q)
  ·exact absurd (bP e) (by rw [jM.mp z];exact fM _)
  ·congr 1
   rw [cM,hl];exact YJ ns
end
theorem boot_any:bootBuiltins "any"=some (.builtin "any"):=by decide +kernel
theorem boot_sum:bootBuiltins "sum"=some (.builtin "sum"):=by decide +kernel
abbrev Cx.i7 (X:Cx) (N:List Str) (scope:Scope) (cl:List (Str×Addr)) (x:Str) (s₃:Shared) (H₃:Hp) (fp:List Addr):Cx:=
 {X with N:=N,s₀:=s₃,H₀:=H₃,env:=compEnvC scope ((x,s₃.heap.objs.size+1)::cl) s₃.heap.objs.size X.env,outer:=X.stack,stack:=X.stack,ex:=fp,fn:=λy=>y == x,pn:=[],xe:=λ_ _=>False}
section
variable {M:Model} {A:Around} {E:aX} {s:Shared}
theorem YL{scope:Scope}{globals:Addr}{cl:List (Str×Addr)}{qual x:Str}{env:Env}{Q:Env->Shared->Prop}
  (c1:∀n,cellsFrom n scope.names cl=(x,n)::cl) (p1:∀h:Heap,pushCells h scope.names=h.push {cls:=.type "cell",data:=.cell none})
  (hQ:Q (newEnv scope s.heap.objs.size globals ((x,s.heap.objs.size+1)::cl) qual none .none (some env) builtinsNs) {s with heap:=(s.heap.push {cls:=.type "dict",data:=.dict #[]}).push {cls:=.type "cell",data:=.cell none}}) :
  wpAny M A (newFunctionEnv scope globals cl [] qual none .none (some env)) Q E s:=by
 simp only [newFunctionEnv,Option.isSome_some,if_true];refine cj (wpAny_alloc ?_);refine cj (wpAny_layCells _ (λname kind cells=>by cases YM:kind == NameKind.cell <;> simp [YM]) _ _ _ _ ?_)
 rw [show ({s with heap:=s.heap.push {cls:=.type "dict",data:=.dict #[]}}:Shared).heap.objs.size=s.heap.objs.size+1 from zV ..,c1,p1];exact cj (dZ (dZ hQ))
end
section
variable {X:Cx} {N:List Str} {scope:Scope} {cl:List (Str×Addr)} {x:Str} {px pos:Pos} {iter elt:Expr} {ifs:List Expr} {wi:TI} {ρ:St->St} {tt:TT} {te:TE}
theorem NQ{names:List (Str×NameKind)}(h:(names.all λq=>(q.2 != .cell && q.2 != .free) || ((cl.lookup q.1).isSome || q.1 == x))=true) :
  ∀y,y≠x->(names.lookup y=some .cell\/names.lookup y=some .free)->∃c,cl.lookup y=some c:=λy hx hy=>by
 have key:∀k:NameKind,(k != .cell && k != .free)=false->names.lookup y=some k->∃c,cl.lookup y=some c:=λk hk e=>by have z:=mU.mp h (y,k) (kz e);rw [hk,vP,show ((y,k).1 == x)=false from n8.mpr hx,Bool.or_false] at z;exact Gm.mp z
 rcases hy with e | e;·exact key .cell rfl e
 ·exact key .free rfl e
structure YN (X:Cx) (N:List Str) (scope:Scope) (cl:List (Str×Addr)) (x:Str) (ρ:St->St):Prop where
 rZ:closureFor scope X.env=pure cl
 kind:scope.kind=.function
 YO:∀n,cellsFrom n scope.names cl=(x,n)::cl
 YQ:∀h:Heap,pushCells h scope.names=h.push {cls:=.type "cell",data:=.cell none}
 names:∀y∈scope.names,y.2=.local->scope.names.lookup y.1=some .local
 sub:∀p∈cl,X.env.cells.lookup p.1=some p.2
 has:∀y,y≠x->((relabel scope X.env).names.lookup y=some .cell\/(relabel scope X.env).names.lookup y=some .free)->∃c,cl.lookup y=some c
 n0:N[0]?=some x
 nd:N.Nodup
 YR:(relabel scope X.env).names.lookup x=some .cell
 r6:∀(σ:St) (j:Nat) (v:V),(ρ σ)[j]?=some (some v)->∃(i:Nat) (y:Str),N[j+1]?=some y/\X.N[i]?=some y/\σ[i]?=some (some v)/\oz X.env.scope y/\(X.env.kindOf y=some .cell\/X.env.kindOf y=some .free)/\((relabel scope X.env).names.lookup y=some .cell\/(relabel scope X.env).names.lookup y=some .free)
 len:∀σ:St,σ.length=X.N.length->(ρ σ).length+1=N.length
end
def qe(K:aE)(H:Hp):Nat->V->V->Prop
 | 0,v,u=>v=u/\jZ v=true
 | n+1,v,u=>(v=u/\jZ v=true)\/∃a b xs ys,v=.ref a/\u=.ref b/\((bM K H a xs/\bM K H b ys)\/(eF K H a xs/\eF K H b ys))/\xs.length=ys.length/\∀(j:Nat) (x y:V),xs[j]?=some x->ys[j]?=some y->qe K H n x y
theorem HP{v:V}(h:jZ v=true):kN v v=true:=by
 cases v with
 | aO=>rfl
 | bl b=>show (b == b)=true;simp
 | int i=>show (i == i)=true;simp
 | str x=>show (x == x)=true;simp
 | _=>cases h
theorem all_range(n:Nat):(List.range n).all (λ_=>true)=true:=by simp
section
variable {X:Cx} {pins:a7} {σ:St} {H:Hp} {s:Shared}
theorem Dg(I:Inv X pins σ H s):∀(n:Nat) (A:Around) (v u:V) (a b:Value),qe X.K H n v u->RelV v a->RelV u b->A.units+n<cLine->SeqAt.EqAt A s a b true
 | 0,A,v,u,a,b,h,ra,rb,hu=>by obtain ⟨rfl,hf⟩:=h;have z:=rR (A:=A) (s:=s) ra rb hf hf;rw [HP hf] at z;exact z
 | n+1,A,v,u,a,b,h,ra,rb,hu=>by
  rcases h with ⟨rfl,hf⟩ | ⟨p,q,xs,ys,rfl,rfl,hs,hl,hi⟩
  ·have z:=rR (A:=A) (s:=s) ra rb hf hf
   rw [HP hf] at z;exact z
  ·cases ra
   cases rb;by_cases pq:p=q
   ·subst pq
    exact SeqAt.EqAt.same _
   rcases hs with ⟨h1,h2⟩ | ⟨h1,h2⟩
   ·obtain ⟨us,r1,t1,_⟩:=I.list h1
    obtain ⟨vs,r2,t2,_⟩:=I.list h2;have l1:=r1.length;have l2:=r2.length;have z:=SeqAt.RcAt.lists (A:=A) (e:=λ_=>true) t1.isList t2.isList (by simp;lia) ⋯ (λj z1 z2=>by
     have AR:j<us.length:=by simpa using z1
     have AS:j<vs.length:=by simpa using z2
     obtain ⟨x,ex⟩:∃x,xs[j]?=some x:=⟨xs[j],by simp [show j<xs.length by lia]⟩
     obtain ⟨y,ey⟩:∃y,ys[j]?=some y:=⟨ys[j],by simp [show j<ys.length by lia]⟩
     obtain ⟨x',jS,rx⟩:=r1.get ex;obtain ⟨y',mv,ry⟩:=r2.get ey;have e1:us.toArray[j]=x':=by simpa using (bK.mp jS).2
     have e2:vs.toArray[j]=y':=by simpa using (bK.mp mv).2
     rw [e1,e2];exact Dg I n A.in1 x y x' y' (hi j x y ex ey) rx ry (by rw [pM];lia))
    rw [all_range] at z;exact Ck pq z
   ·obtain ⟨us,r1,t1,_⟩:=I.tuple h1
    obtain ⟨vs,r2,t2,_⟩:=I.tuple h2;have l1:=r1.length;have l2:=r2.length;have z:=SeqAt.RcAt.tuples (A:=A) (e:=λ_=>true) t1 t2 ⋯ (λj z1 z2=>by
     have AR:j<us.length:=by simpa using z1
     have AS:j<vs.length:=by simpa using z2
     obtain ⟨x,ex⟩:∃x,xs[j]?=some x:=⟨xs[j],by simp [show j<xs.length by lia]⟩
     obtain ⟨y,ey⟩:∃y,ys[j]?=some y:=⟨ys[j],by simp [show j<ys.length by lia]⟩
     obtain ⟨x',jS,rx⟩:=r1.get ex;obtain ⟨y',mv,ry⟩:=r2.get ey;have e1:us.toArray[j]=x':=by simpa using (bK.mp jS).2
     have e2:vs.toArray[j]=y':=by simpa using (bK.mp mv).2
     rw [e1,e2];exact Dg I n A.in1 x y x' y' (hi j x y ex ey) rx ry (by rw [pM];lia))
    have e3:(us.toArray.size == vs.toArray.size)=true:=by simp;lia
    rw [all_range,e3] at z;exact Ck pq z
end
section
variable {X:Cx}
def NR(K:aE)(n:Nat)(r:Bool):R2:=λx y H Q=>∃a b xs ys,x=.ref a/\y=.ref b/\bM K H a xs/\bM K H b ys/\xs.length=ys.length/\(∀(j:Nat) (x y:V),xs[j]?=some x->ys[j]?=some y->qe K H n x y)/\Q (.bl r) H
variable {n:Nat}
theorem amo(hu:X.A.units+64<cLine)(hn:n<60:=by decide):cC X (compareOp .Eq) (NR X.K n true):=by
 intro pins s σ H x y v u Q I rx ry h;intros bv33 h a b xs ys rfl rfl h1 h2 hl hi q;cases rx;cases ry;obtain ⟨us,r1,t1,_⟩:=I.list h1;obtain ⟨vs,r2,t2,_⟩:=I.list h2;have l1:=r1.length;have l2:=r2.length;refine SeqAt.eq_listAt (e:=λ_=>true) t1.isList t2.isList (by simp;lia) ⋯ (λj z1 z2=>?_) ?_
 ·have AR:j<us.length:=by simpa using z1
  have AS:j<vs.length:=by simpa using z2
  obtain ⟨x,ex⟩:∃x,xs[j]?=some x:=⟨xs[j],by simp [show j<xs.length by lia]⟩
  obtain ⟨y,ey⟩:∃y,ys[j]?=some y:=⟨ys[j],by simp [show j<ys.length by lia]⟩
  obtain ⟨x',jS,rx⟩:=r1.get ex;obtain ⟨y',mv,ry⟩:=r2.get ey;have e1:us.toArray[j]=x':=by simpa using (bK.mp jS).2
  have e2:vs.toArray[j]=y':=by simpa using (bK.mp mv).2
  rw [e1,e2];exact Dg I n X.A.in1 x y x' y' (hi j x y ex ey) rx ry (by rw [pM];lia)
 ·rw [all_range]
  exact ⟨.bl true,H,I,rfl,q⟩
theorem NS(hu:X.A.units+64<cLine)(hn:n<60:=by decide):cC X (compareOp .NotEq) (NR X.K n false):=by
 intro pins s σ H x y v u Q I rx ry h;intros bv33 h a b xs ys rfl rfl h1 h2 hl hi q;cases rx;cases ry;obtain ⟨us,r1,t1,_⟩:=I.list h1;obtain ⟨vs,r2,t2,_⟩:=I.list h2;have l1:=r1.length;have l2:=r2.length;refine SeqAt.RcNeAt.lists (e:=λ_=>true) t1.isList t2.isList (by simp;lia) ⋯ (λj z1 z2=>?_) _ _ _ _ ?_
 ·have AR:j<us.length:=by simpa using z1
  have AS:j<vs.length:=by simpa using z2
  obtain ⟨x,ex⟩:∃x,xs[j]?=some x:=⟨xs[j],by simp [show j<xs.length by lia]⟩
  obtain ⟨y,ey⟩:∃y,ys[j]?=some y:=⟨ys[j],by simp [show j<ys.length by lia]⟩
  obtain ⟨x',jS,rx⟩:=r1.get ex;obtain ⟨y',mv,ry⟩:=r2.get ey;have e1:us.toArray[j]=x':=by simpa using (bK.mp jS).2
  have e2:vs.toArray[j]=y':=by simpa using (bK.mp mv).2
  rw [e1,e2];exact Dg I n X.A.in1 x y x' y' (hi j x y ex ey) rx ry (by rw [pM];lia)
 ·rw [all_range]
  exact ⟨.bl false,H,I,rfl,q⟩
end
section
variable {X:Cx} {N:List Str} {scope:Scope} {cl:List (Str×Addr)} {x:Str} {px pos:Pos} {iter elt:Expr} {ifs:List Expr} {wi:TI} {ρ:St->St} {tt:TT} {te:TE}
theorem NT{y:Str}{py qc:Pos}{i0:Nat}(B:YN X N scope cl x ρ)(hc:X.calm=true)(hN:X.N.Nodup)(AL:X.N[i0]?=some y)(hy:Loc X.env.scope y)(hi:PI X (.Name x px) iter wi)(ht:∀s₃ H₃ fp,kW (X.i7 N scope cl x s₃ H₃ fp) ifs tt)(he:∀s₃ H₃ fp,PE (X.i7 N scope cl x s₃ H₃ fp) elt te)
  (AM:swapsWith (.ListComp elt [⟨.Name x px,iter,ifs,0⟩] scope pos) (some (.Name y py)) qc.line X.env=pure true:=by rfl) (hf:X.fn y=true\/X.env.scope.names.lookup y=some .local:=by first | exact .inl rfl | exact .inr rfl | assumption)
  (hs:∀x,foldedSetIterable iter X.env x=pure x:=by intro _;rfl):PS X (.Assign [.Name y py] (.ListComp elt [⟨.Name x px,iter,ifs,0⟩] scope pos) qc) (oE (j8 wi ρ tt te) (ck i0)):=by
 intro pins s σ H D0 I h
 have h:j8 wi ρ tt te σ H (λv H1=>D0.nx (σ.set i0 (some v)) H1):=h
 rw [Gv _ _ _ _ AM]
 refine cj (vK (cj ?_))
 show wpAny _ X.A (do let _ <-comprehension (.ListComp elt [⟨.Name x px,iter,ifs,0⟩] scope pos) scope X.env _ (newList []) false (eval iter X.env) (some (assign (.Name y py) X.env))) _ _ s
 refine cj (bT (Q:=λ_ s'=>SP X pins D0 .next s') ?_ (λ_ s' hq=>dZ (dZ hq)) λ_ _ e=>e)
 refine z9 (use:=some (assign (.Name y py) X.env)) rfl hs B.rZ B.kind B.names (aT (hi pins s σ H _ I h) λv s1 h1=>aT h1 λrJ s2 h2=>?_)
 intros bv32 h2 it fp tn J H2 rfl I2 T gf f2 q2
 have nD:H2 s2.heap.objs.size=none:=I2.aB.fresh (aV _)
 obtain ⟨W,⟨m0,w0⟩,turn⟩:=q2 _ nD
 refine vL (YL B.YO B.YQ ?_)
 dsimp only
 generalize hD:s2.heap.objs.size=D at nD w0 turn ⊢
 generalize gK:({s2 with heap:=s2.heap.push {cls:=.type "list",dict:=none,data:=.seq ([]:List Value).toArray}}:Shared)=s3
 have I3:Inv X pins σ (upd H2 D (.lst [])) s3:=by
  subst hD gK
  exact I2.laid (t':=s2.toks) (λb u e=>cx _ e) (aV _) ⟨cG _,[],_,.nil,fN _ rfl⟩
 have e3:s3.heap=s2.heap.push {cls:=.type "list",dict:=none,data:=.seq ([]:List Value).toArray}:=by rw [<-gK]
 have eR:∀b o,s2.heap.get? b=some o->s3.heap.get? b=some o:=λb o e=>by rw [e3];exact cx _ e
 rw [<-e3]
 obtain ⟨h₁,eh⟩:∃h₁,h₁=(s3.heap.push {cls:=.type "dict",data:=.dict #[]}).push {cls:=.type "cell",data:=.cell none}:=⟨_,rfl⟩
 rw [<-eh]
 have gk:h₁.Ns s3.heap.objs.size (λ_=>none):=by
  rw [eh]
  exact (Heap.Ns.new s3.heap (.type "dict")).keeps λb o e=>cx _ e
 have YS:(s3.heap.push {cls:=.type "dict",data:=.dict #[]}).objs.size=s3.heap.objs.size+1:=zV ..
 have YT:h₁.IsCell (s3.heap.objs.size+1) none:=by
  rw [eh,<-YS]
  exact (ad _ (fN _ rfl) rfl)
 have below:∀b o,s3.heap.get? b=some o->b≠s3.heap.objs.size:=λb o e=>dY (bP e)
 have cQ:∀b o,s3.heap.get? b=some o->h₁.get? b=some o:=λb o e=>by rw [eh];exact cx _ (cx _ e)
 have gw:∀b∈fp,∃o,s2.heap.get? b=some o/\∀v,o.data≠.cell v:=T.obj _ _ gf
 have oQ:∀b∈fp,b≠D:=λb hb z=>by
  obtain ⟨o,e,_⟩:=gw b hb
  rw [z,<-hD] at e
  exact absurd (bP e) (fM _)
 have cE:∀y c,cl.lookup y=some c->X.env.cells.lookup y=some c:=λy c e=>B.sub (y,c) (kz e)
 have NU:∀y c,cl.lookup y=some c->c<s3.heap.objs.size:=λy c e=>by
  obtain ⟨v,o,eo,_⟩:=I3.cell y c (cE y c e)
  exact bP eo
 have lk:∀y c,((x,s3.heap.objs.size+1)::cl).lookup y=some c->(y=x/\c=s3.heap.objs.size+1)\/(y≠x/\cl.lookup y=some c):=λy c e=>by
  by_cases z:y=x
  ·subst z
   rw [Cm,Cf] at e
   exact .inl ⟨rfl,(Option.some.inj e).symm⟩
  ·rw [Cm,n8.mpr z] at e
   exact .inr ⟨z,e⟩
 have NV:∀y c,y≠x->cl.lookup y=some c->((x,s3.heap.objs.size+1)::cl).lookup y=some c:=λy c z e=>by
  rw [Cm,n8.mpr z]
  exact e
 have NW:∀b∈fp,b<s3.heap.objs.size:=λb hb=>by
  obtain ⟨o,e,_⟩:=gw b hb
  exact bP (eR b o e)
 have oR:=I3.rz
 have dQ:(X.i7 N scope cl x s3 (upd H2 D (.lst [])) fp).Ok:=by
  refine ⟨I.ok.mod,B.kind,I.ok.glob,I.ok.blt,aV _,λa b c e1 e2=>?inj,λy hy=>?has,(λy c z e=>?pR),(λ_=>I.ok.hd hc),I.ok.frames,.inl rfl,λb hb=>⟨?_,λy c e z=>?_⟩,λb o e=>?_,aM I.ok.gY I3.sz,λb o e hb=>?_,λb hb z=>?_,I3.stack,oR⟩
  case inj=>
   rcases lk a c e1 with ⟨z1,YU⟩ | ⟨_,f1⟩ <;> rcases lk b _ e2 with ⟨z2,ec⟩ | ⟨_,NY⟩
   ·rw [z1,z2]
   ·have:=NU _ _ NY
    rw [YU] at this
    exact absurd this (Nat.not_lt.mpr (og _))
   ·have:=NU _ _ f1
    rw [ec] at this
    exact absurd this (Nat.not_lt.mpr (og _))
   ·exact I.ok.inj a b c (cE a c f1) (cE b c NY)
  case has=>
   by_cases z:y=x
   ·subst z
    exact ⟨_,by rw [show (compEnvC scope ((y,s3.heap.objs.size+1)::cl) s3.heap.objs.size X.env).cells=(y,s3.heap.objs.size+1)::cl from rfl,Cm,Cf]⟩
   ·obtain ⟨c,ec⟩:=B.has y z hy
    exact ⟨c,NV y c z ec⟩
  case pR=>
   have z:y=x:=by simpa using z
   rcases lk y c e with ⟨_,rfl⟩ | ⟨z',_⟩
   ·exact og _
   ·exact absurd z z'
  ·obtain ⟨o,e,_⟩:=gw b hb
   exact below b o (eR b o e)
  ·rcases lk y c e with ⟨rfl,rfl⟩ | ⟨_,e⟩
   ·rw [<-z] at hb
    exact absurd (NW _ hb) (Nat.not_lt.mpr (og _))
   ·exact (f2 b hb).2.2.2.2.1 y c (cE y c e) z
  ·exact I3.bs b o e
  ·rcases (f2 b hb).2.2.2.1 with z | z
   ·exact I.ok.mZ b o e z
   ·exact absurd (eO (bP e) (aM I.ok.gY z)) (fM _)
  ·rcases dB.mp (I3.rq b z) with z | z
   ·exact (f2 b hb).2.1 z
   ·exact (f2 b hb).2.2.1 z
 have IB:∀tk:Nat,Inv (X.i7 N scope cl x s3 (upd H2 D (.lst [])) fp) [] (none::ρ σ) (upd H2 D (.lst [])) {s3 with heap:=h₁,toks:=tk}:=λtk=>by
  refine ⟨dQ,rfl,I3.bare,Un.kept cQ,(ad _ gk (λj y v e1 e2 e3=>?_)),λy c e=>?_,?_,λy c e=>?fC,(λp hp=>nomatch hp),I3.aB.kept cQ,?_⟩
  ·cases j with
   | zero=>cases e2
   | succ j=>
    obtain ⟨i,y',a1,a2,a3,a4,a5,a6⟩:=B.r6 σ j v e2
    have j9:N[j+1]?=some y:=e1
    rw [j9] at a1
    cases a1
    obtain ⟨m,hn,hl⟩:=I3.loc
    obtain ⟨u,r,l⟩:=hl i y v a2 a3 a4
    refine (ad u r (.inr ⟨a6,?_⟩))
    have yx:y≠x:=λz=>by
     have n0:=B.n0
     rw [<-z] at n0
     have:=(List.getElem?_inj (bK.mp n0).1 B.nd).mp (n0.trans j9.symm)
     lia
    obtain ⟨c,ec⟩:=B.has y yx a6
    rcases l with ⟨k,_⟩ | ⟨_,c',jw,z⟩
    ·rcases a5 with q | q <;> (rw [k] at q;cases q)
    ·have:=cE y c ec
     rw [this] at jw
     cases jw
     intros bv2 z o ho hd
     exact ⟨c,NV y c yx ec,o,cQ _ _ ho,hd⟩
  case fC=>
   rcases lk y c e with ⟨rfl,rfl⟩ | ⟨_,e⟩
   ·exact I3.aB.fresh (og _)
   ·exact I3.ig y c (cE y c e)
  ·rcases lk y c e with ⟨rfl,rfl⟩ | ⟨_,e⟩
   ·exact ⟨none,YT⟩
   ·obtain ⟨v,o,ho,hd⟩:=I3.cell y c (cE y c e)
    exact ⟨v,o,cQ _ _ ho,hd⟩
  ·exact I3.aB.fresh (aV _)
  ·show (none::ρ σ).length=N.length
   rw [fO]
   exact B.len σ I.len
 have mh:∀b o,s3.heap.get? b=some o->b≠s3.heap.objs.size:=below
 have fin:∀{σ':St} {H':Hp} {s':Shared},Inv (X.i7 N scope cl x s3 (upd H2 D (.lst [])) fp) [] σ' H' s'->D0.nx (σ.set i0 (some (.ref D))) H'->compPost (model X.prog X.w) X.A X.xe (some (assign (.Name y py) X.env)) (λ_ s'=>SP X pins D0 .next s') (.ref D) s3.heap.objs.size (.ok .next) s':=fun{σ' H' s'} J q=>by
  obtain ⟨m,hn,_⟩:=J.loc
  have hn:s'.heap.Ns s3.heap.objs.size m:=hn
  have JC:H' s3.heap.objs.size=none:=J.free
  have u1:Un (cz X.stack) fp (upd H2 D (.lst [])) H' s3.heap s'.heap:=by
   refine ⟨λb o e n hb hx=>J.base.keep b o e n hb hx,λb o e n hb hx=>J.base.slot b o e n hb hx,J.base.free,λb o e hx=>J.base.there b o e hx,J.base.fR,J.base.fE,J.base.fS⟩
  have IX:Inv X pins σ H' s':=I3.jj (ch:=fp) (J.os) u1 J.aB J.bare λb hb=>by
   obtain ⟨g0,g1,g2,g3,g4,g5⟩:=f2 b hb
   exact ⟨g3,g1,g4,g5⟩
  have nl:X.env.locals≠s3.heap.objs.size:=by
   obtain ⟨m3,⟨o3,_,_,e3,_⟩,_⟩:=I3.loc
   exact mh _ _ e3
  have nc:∀z c,X.env.cells.lookup z=some c->c≠s3.heap.objs.size:=λz c e=>by
   obtain ⟨v3,o3,e3,_⟩:=I3.cell z c e
   exact mh _ _ e3
  refine B6 (Cw (v:=.ref D) IX hN AL hy rfl (λiK mi mj=>?_) hf)
  intros bv2 mj a mj ha
  have na:s3.heap.objs.size≠a:=by
   rcases ha with rfl | e
   ·exact λz=>nl z.symm
   ·exact λz=>nc _ _ e z.symm
  refine ⟨m,hn.sameBut mj na,λh' fh=>⟨σ.set i0 (some (.ref D)),H',?_,q⟩⟩
  have u2:Un (cz X.stack) [s3.heap.objs.size] H' H' iK.heap h':=by
   refine ⟨λb o e n hb hx=>(fh.2 b (by simpa using hx)).trans e,λb o e n hb hx=>⟨o.slots,(fh.2 b (by simpa using hx)).trans e⟩,λb o e n hx=>n,λb o e hx=>⟨o,(fh.2 b (by simpa using hx)).trans e⟩,λb xs z=>z,λb o u z=>z,λb ps z=>⟨#[],by simpa using z⟩⟩
  have oS:cq X.prog X.w H' h':=λb u e=>by
   refine (mi.aB b u e).ic (λc v hc z=>(fh.2 c λy=>?_).trans z) (λ_ z=>z) λ_ _ z=>z
   have y':c=s3.heap.objs.size:=y
   rcases hc with hc | hc
   ·rw [<-hc,y',JC] at e
    cases e
   ·rw [y',JC] at hc
    cases hc
  refine mi.jj (s':={iK with heap:=h'}) (ch:=[s3.heap.objs.size]) rfl u2 oS mi.bare λb hb=>?_
  have eb:b=s3.heap.objs.size:=by simpa using hb
  subst eb
  refine ⟨.inr I3.sz,λz=>nl z.symm,λz c e=>nc z c e,λp hp=>?_⟩
  exact mh _ _ (I3.pin p hp).1
 have fF:∀{H':Hp},(∀b∈fp,H' b=none)->∀b∈fp,lS (X.i7 N scope cl x s3 (upd H2 D (.lst [])) fp) [] H' b:=λhn b hb=>by
  refine ⟨hn b hb,?_,?_,.inl hb,λy c e z=>?sc,λp hp=>nomatch hp⟩
  case sc=>
   rcases lk y c e with ⟨rfl,rfl⟩ | ⟨_,e⟩
   ·rw [<-z] at hb
    exact absurd (NW _ hb) (Nat.not_lt.mpr (og _))
   ·exact (f2 b hb).2.2.2.2.1 y c (cE y c e) z
  ·obtain ⟨o,e,_⟩:=gw b hb
   exact below b o (eR b o e)
  ·exact dQ.m4 b hb
 have loop:∀tk:Nat,codeAny (model X.prog X.w) X.A (.compLoop (.ListComp elt [⟨.Name x px,iter,ifs,0⟩] scope pos) 0 (.ref it) (.ref D) (compEnvC scope ((x,s3.heap.objs.size+1)::cl) s3.heap.objs.size X.env))
   (compPost (model X.prog X.w) X.A X.xe (some (assign (.Name y py) X.env)) (λ_ s'=>SP X pins D0 .next s') (.ref D) s3.heap.objs.size) {s3 with heap:=h₁,toks:=tk}:=λtk=>by
  refine Gr (λn s'=>∃i ys o H',Inv (X.i7 N scope cl x s3 (upd H2 D (.lst [])) fp) [] (o::ρ σ) H' s'/\tn i s'.heap/\(∀b∈fp,H' b=none)/\W i n ys H') ?_ m0
   ⟨0,[],none,_,IB tk,T.keep _ _ _ gf λb hb o e=>cQ _ _ (eR _ _ e),λb hb=>by rw [aH (oQ b hb)];exact (f2 b hb).1,w0⟩
  intro n s4;intros bv22 _ i ys o H4 I4 jx jy w4
  obtain ⟨CZ,oU⟩:=turn i n ys H4 w4
  rcases oU with ⟨stop,qn⟩ | ⟨go,step⟩
  ·refine bT (T.done (X.i7 N scope cl x s3 (upd H2 D (.lst [])) fp) rfl rfl rfl hc i [] s4 _ H4 (λ_ _=>False) I4 (fF jy) jx stop) (λr s5 ⟨hr,I5⟩=>?_) λ_ _ z=>z.elim
   subst hr
   exact fin I5 qn
  ·refine bT (T.item (X.i7 N scope cl x s3 (upd H2 D (.lst [])) fp) rfl rfl rfl hc i [] s4 _ H4 (λ_ _=>False) I4 (fF jy) jx go) (λr s5 ⟨u,hr,h5⟩=>?_) λ_ _ z=>z.elim
   subst hr
   have z:letOwnedTupleGo (.Name x px) (.ref it) u=pure ():=rfl
   rw [z] at h5
   show wpAny _ _ ((pure ():Sem Unit) >>= λ_=>assign (.Name x px) (compEnvC scope ((x,s3.heap.objs.size+1)::cl) s3.heap.objs.size X.env) u) _ _ s5
   refine cj (bT h5 (λ_ s5 ⟨y,H5,I5,r5,y5,fG,lV⟩=>?_) λ_ _ z=>z.elim)
   have lW:=I5.pinned (fF lV) (T.obj _ _ fG)
   have pg:PG (X.i7 N scope cl x s3 (upd H2 D (.lst [])) fp) (.Name x px) (ck 0):=b_ (i:=0) B.nd B.n0 (.inr B.YR) (.inl (by show (x == x)=true;simp))
   have again:∀{σ7:St} {H7:Hp} {s7:Shared},Inv (X.i7 N scope cl x s3 (upd H2 D (.lst [])) fp) ([]++jn fp s5.heap) σ7 H7 s7->Inv (X.i7 N scope cl x s3 (upd H2 D (.lst [])) fp) [] σ7 H7 s7/\tn (i+1) s7.heap/\∀b∈fp,H7 b=none:=fun{σ7 H7 s7} I7=>by
    refine ⟨I7.pU,T.keep _ _ _ fG λb hb o e=>(I7.pin (b,o) (d5 _ (d5 _ (kK hb e)))).1,λb hb=>?_⟩
    obtain ⟨o,e,d⟩:=T.obj _ _ fG b hb
    exact (I7.pin (b,o) (d5 _ (d5 _ (kK hb e)))).2.1
   refine bT (pg _ s5 _ H5 y u (λσ2 H6=>σ2=some y::ρ σ/\H6=H5) lW r5 ⟨rfl,rfl⟩) (λ_ s6 ⟨σ6,H6,I6,q6⟩=>?_) λ_ _ z=>z.elim
   obtain ⟨rfl,rfl⟩:=q6
   have oV:=step y _ y5
   have tests:∀{fI:TT},kW (X.i7 N scope cl x s3 (upd H2 D (.lst [])) fp) ifs fI->∀{R:Bool->Hp->Prop},fI (some y::ρ σ) H6 R->wpAny (model X.prog X.w) X.A
     (forIn ifs true λc r=>if r=true then do let ok <-isTrue c (compEnvC scope ((x,s3.heap.objs.size+1)::cl) s3.heap.objs.size X.env) (eval c (compEnvC scope ((x,s3.heap.objs.size+1)::cl) s3.heap.objs.size X.env));pure (ForInStep.yield ok) else pure (ForInStep.yield r))
     (λok s7=>∃H7,Inv (X.i7 N scope cl x s3 (upd H2 D (.lst [])) fp) ([]++jn fp s5.heap) (some y::ρ σ) H7 s7/\R ok H7) (λ_ _=>False) s6:=fun{fI} p {R} hR=>by
    cases p with
    | nil=>exact z_ (ad _ I6 hR)
    | one p=>exact Aa (p _ s6 _ _ _ I6 hR)
   refine bT (tests (ht s3 _ fp) oV) (λok s7 ⟨H7,I7,q7⟩=>?_) λ_ _ z=>z.elim
   cases ok with
   | false=>
    intros bv2 q7 m' dH w7
    obtain ⟨a1,a2,a3⟩:=again I7
    exact (ww m' dH (i+1) (re ys _ H7 a1 a2 a3 w7))
   | true=>
    refine bT (he s3 _ fp _ s7 _ H7 _ I7 q7) (λev s8 ⟨z,H8,I8,r8,oW,hz,m',dH,w8⟩=>?_) λ_ _ z=>z.elim
    refine bT (p6 (X:=X.i7 N scope cl x s3 (upd H2 D (.lst [])) fp) _ s8 _ H8 (.ref D) [z] (.ref D) [ev] (λ_ H9=>H9=upd H8 D (.lst (ys++[z]))) I8 rfl (.cons r8 .nil) (pi D ys z rfl rfl oW hz rfl)) (λ_ s9 ⟨_,H9,I9,_,q9⟩=>?_) λ_ _ z=>z.elim
    subst q9
    obtain ⟨a1,a2,a3⟩:=again I9
    exact ⟨m',dH,i+1,ys++[z],_,_,a1,a2,a3,w8⟩
 have start:=loop s3.toks
 have es:({s3 with heap:=h₁,toks:=s3.toks}:Shared)={s2 with heap:=h₁}:=by rw [<-gK]
 rw [es] at start
 exact Ab start (T.self _ 0 _ _ _ (T.keep _ _ _ gf λb hb o e=>cQ _ _ (eR _ _ e)) start)
end
structure Dh (J:It) (zs:List (V×V)) (H1:Hp):Prop where
 go:∀i Hc,af H1 Hc->i<zs.length->J.go i Hc
 fc:∀i Hc v H',af H1 Hc->J.fc i Hc v H'->∃T x y,v=.ref T/\Hc T=none/\H'=upd Hc T (.tup [x,y])/\(i<zs.length->zs[i]?=some (x,y))
 stop:∀i Hc,af H1 Hc->zs.length<=i->J.stop i Hc
theorem YV{b:Addr}{ys:List V}(h1:bM K H1 a xs)(h2:bM K H1 b ys):Dh (HK K a b) (xs.zip ys) H1 where
 go:=λi Hc s hi=>by
  have hi:i<min xs.length ys.length:=by simpa using hi
  exact ⟨xs,ys,xs[i],ys[i],s.seq h1,s.seq h2,by simp [show i<xs.length by lia],by simp [show i<ys.length by lia]⟩
 fc:=λi Hc v H' s y=>by intros bv17 y T x y nT ev eH hx;obtain ⟨e1,e2⟩:=hx xs ys (s.seq h1) (s.seq h2);exact (re T x y ev nT eH (λ_=>by rw [Cn];exact ⟨e1,e2⟩))
 stop:=λi Hc s hi=>by
  have hi:min xs.length ys.length<=i:=by simpa using hi
  exact ⟨xs,ys,s.seq h1,s.seq h2,⋯⟩
theorem YW{zs:List (V×V)}(kf:∀R:It->Hp->Prop,(∀J H1,af H H1->Dh J zs H1->R J H1)->wi σ H R)(hn:zs.length<sizeLine)
  (P:Nat->V->Prop)
  (step:∀i x y,zs[i]?=some (x,y)->∀(Hc:Hp) (R:VK),af H Hc->(∀v H3,af Hc H3->P i v->R v H3)->te (some x::some y::ρ σ) Hc R)
  (fin:∀D vs Hc,af H Hc->vs.length=zs.length->(∀(i:Nat) (v:V),vs[i]?=some v->P i v)->Hc D=some (.lst vs)->Q (.ref D) Hc):AO K wi ρ (λ_ H Q=>Q true H) te σ H Q:=by
 refine kf _ λJ H1 s1 js=>?_;intro D nD;refine (ad (λi m vs Hc=>m=zs.length-i/\i<=zs.length/\Hc D=some (.lst vs)/\af H1 Hc/\vs.length=i/\∀(j:Nat) (v:V),vs[j]?=some v->P j v) ⟨_,rfl,cG _,au,iM (af.refl H1) nD,rfl,λj y e=>by simp at e⟩ ?_)
 rintro i m vs Hc ⟨rfl,hi,eD,sH,el,hP⟩;refine ⟨eD,?_⟩;by_cases cm:i<zs.length
 ·refine .inr ⟨js.go i Hc sH cm,λv H' hy=>?_⟩
  have q'47:=js.fc i Hc v H' sH hy;intros bv17 q'47 T x y ev nT eH hx;subst ev eH;refine (Exists.intro T (bi x y rfl (.of au) ?_));dsimp only;rw [aq rfl];have sT:af Hc (upd Hc T (.tup [x,y])):=λb o e=>by rw [aH (f_ e nT)];exact e
  refine step i x y (hx cm) _ _ (s1.trans (sH.trans sT)) λw H3 s3 hp=>?_;have e3:=s3 _ _ (sT _ _ eD);refine ⟨e3,⋯,zs.length-(i+1),⋯,rfl,cm,au,iM (sH.trans (sT.trans s3)) nD,by simp [el],λj v' e=>?_⟩
  by_cases hj:j<i;·exact hP j v' (by rw [oj ⋯] at e;exact e)
  ·have hj:j=i:=by have:=(bK.mp e).1;simp at this;lia
   subst hj;have e':v'=w:=by rw [oi ⋯,el,Ag] at e;simpa using e.symm
   subst e';exact hp
 ·have e:i=zs.length:=by lia
  subst e;exact .inl ⟨js.stop _ Hc sH (aV _),fin D vs Hc (s1.trans sH) el hP eD⟩
theorem kY(kf:∀R:It->Hp->Prop,(∀J H1,af H H1->qb J xs H1->R J H1)->wi σ H R)(hn:xs.length<sizeLine)
  (P:Addr->Nat->V->Hp->Prop) (mono:∀D i y H H' ys,P D i y H->H D=some (.lst ys)->(∀b o,b≠D->H b=some o->H' b=some o)->P D i y H')
  (step:∀D i x,xs[i]?=some x->∀(Hc:Hp) (R:VK),af H Hc->(∃ys,Hc D=some (.lst ys))->(∀y H3,af Hc H3->P D i y H3->R y H3)->te (some x::ρ σ) Hc R)
  (fin:∀D ys Hc,H D=none->af H Hc->ys.length=xs.length->(∀(i:Nat) (y:V),ys[i]?=some y->P D i y Hc)->Hc D=some (.lst ys)->Q (.ref D) Hc):j8 wi ρ (λ_ H Q=>Q true H) te σ H Q:=by
 refine kf _ λJ H1 s1 js=>?_;intro D nD;have hD:H D=none:=by
  cases e:H D with
  | none=>rfl
  | some o=>rw [s1 _ _ e] at nD;cases nD
 exact NL (ρσ:=ρ σ) (te:=te) (Q:=Q) js nD hn (P D) (mono D) (λi x hx Hc R sc=>step D i x hx Hc R (s1.trans sc)) (λys Hc sc=>fin D ys Hc hD (s1.trans sc))
section
variable {X:Cx} {K:aE}
theorem NZ(hK:X.K=K:=by rfl):wo X (M4 K):=by subst hK;exact aW
theorem kh(hK:X.K=K:=by rfl):wo X (M3 K):=by subst hK;exact bw
def YX(K:aE):List V->Hp->VK->Prop:=λxs H Q=>∃p ys,xs=[.ref p]/\(bM K H p ys\/eF K H p ys)/\Q (.int (ys.length:Int)) H
theorem HQ(hK:X.K=K:=by rfl):gZ X (.builtin "len") (YX K):=by subst hK;exact eJ
theorem YY{tg l:Expr}{tl:TE}(hl:PE X l tl)(hK:X.K=K:=by rfl):PI X tg l (Mu K tl):=by subst hK;exact dN hl
def YZ(K:aE):List V->Hp->VK->Prop:=λxs H Q=>∃p ys,xs=[.ref p]/\(bM K H p ys\/eF K H p ys)/\∀l,H l=none->Q (.ref l) (upd H l (.lst ys))
theorem Di(hK:X.K=K:=by rfl):gZ X (.type "list") (YZ K):=by subst hK;exact CM
end
end L2
namespace My
open PySem L2
variable {te:TE} {σ:St} {H:Hp} {Q:VK}
theorem AU{r:List V->Hp->VK->Prop}(h:te σ H λx H1=>r [x] H1 Q):G5 r (pZ te pY) σ H Q:=h
theorem eL{D:Ends}(h:te σ H D.rt):Mq te D σ H:=h
theorem Y0{t:TA}(h:te σ H λx H1=>t σ H1 λxs H2=>(x::xs).length<=sizeLine/\∀p,H2 p=none->Q (.ref p) (upd H2 p (.tup (x::xs)))):MN (pZ te t) σ H Q:=h
def pd(H:Hp)(v:V)(ts:List Int)(B:Int):Prop:=∃tp l:Addr,v=.ref tp/\H tp=some (.tup [.ref l,.int B])/\H l=some (.lst (ts.map V.int))
variable {H':Hp} {v:V} {ts:List Int} {B:Int}
theorem pd.mono(h:pd H v ts B)(s:af H H'):pd H' v ts B:=by intros bv7 h tp l e e1 e2;exact ⟨tp,l,e,s _ _ e1,s _ _ e2⟩
def kZ(ts us:List Int):Int:=(List.zipWith (· * ·) ts us).sum
def Y1(C:Addr):Sp:=λvs H Q _=>∃(z:Addr) (q:Int) (v u:V) (ts us:List Int) (b c:Int),vs=[.ref z,v,u]/\cP C H z q/\aS q/\pd H v ts b/\pd H u us c/\ts.length<=1000/\us.length<=1000/\(∀t∈ts,cV t)/\(∀t∈us,cV t)/\cV b/\cV c/\cV (b*c)/\¬q∣b*c /\
 ∀(v':V) (H':Hp),af H H'->iy H' q v' (kZ ts us) (b*c)->Q v' H'
variable {i:Nat}
theorem Y2{us:List Int}{x y:V}(h:((ts.map V.int).zip (us.map V.int))[i]?=some (x,y)):∃t u:Int,x=.int t/\y=.int u/\ts[i]?=some t/\us[i]?=some u:=by rw [Cn] at h;obtain ⟨h1,h2⟩:=h;rw [bU] at h1 h2;obtain ⟨t,e1,e2⟩:=Option.map_eq_some_iff.mp h1;obtain ⟨u,e3,e4⟩:=Option.map_eq_some_iff.mp h2;exact (f8 t u e2.symm e4.symm e1 e3)
theorem HR{vs:List V}{ws:List Int}(hl:vs.length=ws.length)(h:∀(i:Nat) (v:V),vs[i]?=some v->∃w,ws[i]?=some w/\v=.int w):vs=ws.map V.int:=by
 refine List.ext_getElem? λi=>?_;rw [bU];by_cases hi:i<vs.length
 ·obtain ⟨w,e1,e2⟩:=h i vs[i] (by simp [hi])
  rw [e1,show vs[i]?=some vs[i] by simp [hi],e2]
  rfl
 ·rw [Ai ⋯,Ai ⋯]
  rfl
def wJ(H0 H:Hp)(v:V)(ts:List Int)(B:Int):Prop:=∃tp l:Addr,v=.ref tp/\H tp=some (.tup [.ref l,.int B])/\H l=some (.lst (ts.map V.int))/\H0 l=none
variable {b m:Int}
theorem Y3(hb:1<=b)(hm:1<=m):1<=b / (Int.gcd b m:Int)*m/\m∣b / (Int.gcd b m:Int)*m/\b∣b / (Int.gcd b m:Int)*m/\(b / (Int.gcd b m:Int)*m).natAbs<=b.natAbs*m.natAbs:=by
 have gp:=wG (a:=b) (b:=m) ⋯
 obtain ⟨b',eb⟩:=jO (a:=b) (b:=m);obtain ⟨m',em⟩:=jf (a:=b) (b:=m);generalize Int.gcd b m=g at *;have g0:(g:Int)≠0:=by lia
 have gb:b / (g:Int)=b':=by rw [eb];exact gT _ g0
 rw [gb];have b0:0<b':=r_ (u:=(g:Int)) ⋯ (by rw [<-eb];lia)
 have mp:0<b'*m:=lL b0 ⋯
 refine ⟨⋯,Ad ..,⟨m',?_⟩,?_⟩
 ·rw [em,eb]
  simp only [mV,eE,Ac]
 ·rw [cS]
  refine Nat.mul_le_mul_right _ ?_;rw [<-gb];exact om ..
variable {H0:Hp}
theorem wJ.at(h:wJ H0 H v ts B):pd H v ts B:=by intros bv10 h tp l e e1 e2 _;exact (bi tp l e e1 e2)
def qf(D:Addr)(H:Hp)(v:V)(ts:List Int)(B:Int):Prop:=∃tp l:Addr,v=.ref tp/\H tp=some (.tup [.ref l,.int B])/\H l=some (.lst (ts.map V.int))/\l≠D
variable {zs:List V} {D:Addr}
theorem wJ.bE(h:wJ H0 H v ts B)(e:H0 D=some (.lst zs)):qf D H v ts B:=by intros bv10 h tp l e0 e1 e2 n;exact (f8 tp l e0 e1 e2 (λz=>by rw [z,e] at n;cases n))
theorem qf.keep(h:qf D H v ts B)(eD:H D=some (.lst zs))(k:∀b o,b≠D->H b=some o->H' b=some o):qf D H' v ts B:=by intros bv10 h tp l e0 e1 e2 n;exact ⟨tp,l,e0,k _ _ (λz=>by rw [z,eD] at e1;cases e1) e1,k _ _ n e2,n⟩
theorem qf.at(h:qf D H v ts B):pd H v ts B:=by intros bv10 h tp l e e1 e2 _;exact (bi tp l e e1 e2)
structure AV (H:Hp) (a:Addr) (ws:List (List Int×Int)):Prop where
 ex:∃vs:List V,H a=some (.lst vs)/\vs.length=ws.length/\∀(i:Nat) (v:V) (w:List Int×Int),vs[i]?=some v->ws[i]?=some w->pd H v w.1 w.2
variable {a:Addr}
theorem AV.mono{ws:List (List Int×Int)}(h:AV H a ws)(s:af H H'):AV H' a ws:=by obtain ⟨vs,e,l,k⟩:=h.ex;exact ⟨(bv vs (s _ _ e) l (λi v w h1 h2=>(k i v w h1 h2).mono s))⟩
variable {α:Type}
theorem pick{β:Type}{xs:List α}{R:Nat->α->β->Prop}(h:∀(i:Nat) (x:α),xs[i]?=some x->∃w,R i x w):∃ws:List β,ws.length=xs.length/\∀(i:Nat) (x:α) (w:β),xs[i]?=some x->ws[i]?=some w->R i x w:=by
 refine ⟨List.ofFn λi:Fin xs.length=>Classical.choose (h i.1 xs[i.1] (by simp)),by simp,λi x w hx hw=>?_⟩
 have hi:i<xs.length:=(bK.mp hx).1;have ex:xs[i]=x:=(bK.mp hx).2;rw [List.getElem?_ofFn,fP hi] at hw;have hw:=Option.some.inj hw;rw [<-hw];have z:=Classical.choose_spec (h i xs[i] (by simp [hi]))
 rw [<-ex];exact z
variable {q:Int}
theorem N1{c:Int}(hq:aS q)(h1:¬q∣b)(h2:¬q∣c):¬q∣b*c:=λh=>by
 rcases hq with rfl | ⟨q2,q3,q4⟩
 ·have z:=e9.mp h
  rcases pN.mp z with z | z;·exact h1 (by rw [z];exact iW 0)
  ·exact h2 (by rw [z];exact iW 0)
 ·have k1:=gu c (show q≠0 by lia)
  have k2:=gF c (show 0<q by lia)
  have k3:c % q≠0:=λz=>h2 (vU z);have g:=C8 q2 q3 q4 (show 1<=c % q by lia) k2
  obtain ⟨w,ew⟩:=NK c q;exact h1 (HI q2 (NJ g ⟨-w,by rw [kC];lia⟩) h)
variable {t:Int}
theorem iy.bE{ys:List V}(h:iy H q v t b)(eD:H D=some (.lst ys))(k:∀b o,b≠D->H b=some o->H' b=some o):iy H' q v t b:=by
 cases h with
 | aU e l hb h=>refine .aU (k _ _ (λz=>?_) e) l hb h;rw [z,eD] at e;cases e
 | rem q2 h0 h1 g h=>exact .rem q2 h0 h1 g h
def Dj(H:Hp)(q:Int)(a:Addr)(tb:bR):Prop:=∃vs:List V,H a=some (.lst vs)/\vs.length=tb.length/\∀(i:Nat) (v:V) (p:Int×Int),vs[i]?=some v->tb[i]?=some p->iy H q v p.1 p.2
def fJ:List (Int×Int)->List (Int×Int)->Int×Int->Int×Int
 | p::ps,r::rs,acc=>fJ ps rs (acc.1*p.2*r.2+p.1*r.1*acc.2,acc.2*p.2*r.2)
 | _,_,acc=>acc
theorem N2{B C:Int}:∀{ps rs:bR} {ts us:List Int} {S:Int} {acc:Int×Int},ts.length=ps.length->us.length=rs.length->
  (∀(i:Nat) (p:Int×Int) (t:Int),ps[i]?=some p->ts[i]?=some t->t*p.2=p.1*B)->(∀(i:Nat) (p:Int×Int) (t:Int),rs[i]?=some p->us[i]?=some t->t*p.2=p.1*C)->
  S*acc.2=acc.1*(B*C)->(S+kZ ts us)*(fJ ps rs acc).2=(fJ ps rs acc).1*(B*C)
 | p::ps,r::rs,t::ts,u::us,S,acc,hl,AN,h1,h2,e=>by
  have a:=h1 0 p t rfl rfl;have b:=h2 0 r u rfl rfl
  have z:=N2 (ps:=ps) (rs:=rs) (ts:=ts) (us:=us) (S:=S+t*u) (acc:=(acc.1*p.2*r.2+p.1*r.1*acc.2,acc.2*p.2*r.2)) (by simpa using hl) (by simpa using AN)
   (λi q v x y=>h1 (i+1) q v (by simpa using x) (by simpa using y)) (λi q v x y=>h2 (i+1) q v (by simpa using x) (by simpa using y)) (by dsimp only;obtain ⟨a1,a2⟩:=acc;dsimp only at e ⊢;grind)
  have d:kZ (t::ts) (u::us)=t*u+kZ ts us:=by unfold kZ;simp
  rw [d,<-Int.add_assoc];exact z
 | [],rs,ts,us,S,acc,hl,AN,h1,h2,e=>by
  have:ts=[]:=vW.mp (by simpa using hl)
  subst this;have d:kZ [] us=0:=by unfold kZ;simp
  have f:fJ [] rs acc=acc:=by unfold fJ;rfl
  rw [d,Int.add_zero,f];exact e
 | p::ps,[],ts,us,S,acc,hl,AN,h1,h2,e=>by
  have:us=[]:=vW.mp (by simpa using AN)
  subst this;have d:kZ ts []=0:=by unfold kZ;simp
  have f:fJ (p::ps) [] acc=acc:=by unfold fJ;rfl
  rw [d,Int.add_zero,f];exact e
def cW(q:Int)(b:Int):Prop:=(q=0->1<=b)/\(q≠0->b=1)
theorem N3{q:Int}:∀{ps rs:bR} {acc:Int×Int},(∀p∈ps,cW q p.2)->(∀p∈rs,cW q p.2)->cW q acc.2->cW q (fJ ps rs acc).2
 | p::ps,r::rs,acc,h1,h2,h3=>by
  unfold fJ;refine N3 (λx hx=>h1 x (je _ hx)) (λx hx=>h2 x (je _ hx)) ?_;have a:=h1 p n_;have b:=h2 r n_;refine ⟨λz=>?_,λz=>?_⟩
  ·have x1:=a.1 z
   have x2:=b.1 z;have x3:=h3.1 z;have:=lL (lL (show 0<acc.2 by lia) (show 0<p.2 by lia)) (show 0<r.2 by lia)
   dsimp only;lia
  ·dsimp only
   rw [h3.2 z,a.2 z,b.2 z];rfl
 | [],rs,acc,h1,h2,h3=>by rw [show fJ [] rs acc=acc by unfold fJ;rfl];exact h3
 | p::ps,[],acc,h1,h2,h3=>by rw [show fJ (p::ps) [] acc=acc by unfold fJ;rfl];exact h3
variable {t' b':Int}
theorem iy.to(h:iy H q v t b)(hq:aS q)(e:t*b'=t'*b)(ok:cW q b'):iy H q v t' b':=by
 cases h with
 | aU e1 l hb h=>
  rename_i p x m
  have b0:=ok.1 rfl;refine .aU e1 l ⋯ (Dd (c:=b) hb ?_)
  grind
 | rem q2 h0 h1 g h=>
  rename_i r
  have b0:=ok.2 ⋯
  subst b0;refine .rem q2 h0 h1 (by rw [Cj]) (HI q2 g ?_)
  obtain ⟨k,ek⟩:=h;exact ⟨k,by grind⟩
variable {x:Int}
theorem aw.bot{B:Nat}(h:aw B H q v x m)(hq:aS q):cW q m:=by
 cases h with
 | aU e l bx bm=>exact ⟨λ_=>l.pos,λz=>absurd rfl z⟩
 | rem h0 h1 h2=>exact ⟨λ_=>by lia,λ_=>rfl⟩
def Dk(D:Addr)(H:Hp)(q:Int)(a:Addr)(tb:bR):Prop:=a≠D/\Dj H q a tb
theorem Dk.keep{tb:bR}(h:Dk D H q a tb)(eD:H D=some (.lst zs))(k:∀b o,b≠D->H b=some o->H' b=some o):Dk D H' q a tb:=by intros bvA h n bv4 vs e l f;exact ⟨n,vs,k _ _ n e,l,λi v p h1 h2=>(f i v p h1 h2).bE eD k⟩
theorem Y4{c:TT}{t u:TS}{D:Ends}(h:c σ H λb H1=>if b=true then t D σ H1 else u D σ H1):Mr c t u D σ H:=h
theorem Y5{Q:Bool->Hp->Prop}(h:te σ H λx H1=>∃c,x=.bl c/\Q c H1):tB te σ H Q:=h
theorem HS{vs:List V}{b:Bool}(h:∀(i:Nat) (v:V),vs[i]?=some v->v=.bl b):vs=(List.replicate vs.length b).map V.bl:=by
 refine List.ext_getElem? λi=>?_;rw [bU];by_cases hi:i<vs.length
 ·rw [show vs[i]?=some vs[i] by simp [hi],h i vs[i] (by simp [hi])]
  simp [hi]
 ·rw [Ai ⋯,Ai (by simp;lia)]
  rfl
theorem Y6(n:Nat):(List.replicate n false).any id=false:=by simp
theorem N4(n:Nat):(List.replicate n true).all id=true:=by simp
theorem none_of{b:Addr}(s:af H H')(h:H' b=none):H b=none:=by
 cases e:H b with
 | none=>rfl
 | some o=>rw [s _ _ e] at h;cases h
def o1:Int×Int:=(0,1)
theorem getD_at{α:Type}{xs:List α}{d:α}(hi:i<xs.length):xs.getD i d=xs[i]:=by
 rw [gE,show xs[i]?=some xs[i] by simp [hi]]
 rfl
def mw(q:Int)(p t:Int×Int):Prop:=q∣p.1*t.2-t.1*p.2
def bI:Nat->(Nat->Int)->Int
 | 0,_=>0
 | n+1,f=>f 0+bI n λi=>f (i+1)
theorem nq:∀{n:Nat} {f g:Nat->Int},(∀i,i<n->f i=g i)->bI n f=bI n g
 | 0,f,g,_=>rfl
 | n+1,f,g,h=>by unfold bI;rw [h 0 ⋯,nq λi hi=>h (i+1) ⋯]
theorem AW:∀(n:Nat) (f g:Nat->Int),bI n (λi=>f i+g i)=bI n f+bI n g
 | 0,f,g=>rfl
 | n+1,f,g=>by show f 0+g 0+bI n (λi=>f (i+1)+g (i+1))=(f 0+bI n λi=>f (i+1))+(g 0+bI n λi=>g (i+1));rw [AW n];lia
theorem qg(c:Int):∀(n:Nat) (f:Nat->Int),c*bI n f=bI n λi=>c*f i
 | 0,f=>by unfold bI;rw [lK]
 | n+1,f=>by unfold bI;rw [Int.mul_add,qg c n]
theorem N5:∀(n:Nat),bI n (λ_=>0)=0
 | 0=>rfl
 | n+1=>by unfold bI;rw [N5 n];rfl
theorem N6{q D1 D2:Int}:∀(n:Nat) (ps rs:bR) (f g:Nat->Int) (acc:Int×Int) (S:Int),ps.length=n->rs.length=n->(∀i,i<n->mw q (ps.getD i o1) (f i,D1))->(∀i,i<n->mw q (rs.getD i o1) (g i,D2))->
  mw q acc (S,D1*D2)->mw q (fJ ps rs acc) (S+bI n (λi=>f i*g i),D1*D2)
 | 0,ps,rs,f,g,acc,S,h1,h2,_,_,h=>by
  have:ps=[]:=vW.mp h1;subst this;rw [show fJ [] rs acc=acc by unfold fJ;rfl]
  show mw q acc (S+0,_);rw [Int.add_zero];exact h
 | n+1,p::ps,r::rs,f,g,acc,S,h1,h2,hp,hr,h=>by
  have a:=hp 0 ⋯
  have b:=hr 0 ⋯
  have z:=N6 (D1:=D1) (D2:=D2) n ps rs (λi=>f (i+1)) (λi=>g (i+1)) (acc.1*p.2*r.2+p.1*r.1*acc.2,acc.2*p.2*r.2) (S+f 0*g 0) (by simpa using h1) (by simpa using h2)
   (λi hi=>by simpa using hp (i+1) ⋯) (λi hi=>by simpa using hr (i+1) ⋯) (by obtain ⟨k1,e1⟩:=a;obtain ⟨k2,e2⟩:=b;obtain ⟨k3,e3⟩:=h;simp only [List.getD_cons_zero] at e1 e2;refine ⟨p.2*r.2*k3+acc.2*(p.1*D1*k2+g 0*r.2*k1),?_⟩;dsimp only at e1 e2 e3 ⊢;grind)
  unfold fJ;show mw q _ (S+(f 0*g 0+bI n λi=>f (i+1)*g (i+1)),_);rw [<-Int.add_assoc];exact z
theorem iy.Y7(h:iy H q v t b)(e:mw q (t,b) (t',b'))(ok:cW q b'):iy H q v t' b':=by
 cases h with
 | aU e1 l hb h=>
  rename_i p x m
  have b0:=ok.1 rfl;have e:=e9.mp e;refine .aU e1 l ⋯ (Dd (c:=b) hb ?_)
  dsimp only at e;grind
 | rem q2 h0 h1 g h=>
  rename_i r
  have b0:=ok.2 ⋯
  subst b0;refine .rem q2 h0 h1 (by rw [Cj]) (HI q2 g ?_)
  obtain ⟨k,ek⟩:=h;obtain ⟨k2,Y8⟩:=e;dsimp only at Y8;exact ⟨k+k2,by grind⟩
theorem Y9{B:Nat}(h:iy H q v t b)(hq:aS q)(bt:t.natAbs<=B)(bb:b.natAbs<=B):∃xm:Int×Int,aw B H q v xm.1 xm.2/\mw q xm (t,b):=by
 cases h with
 | aU e l hb h=>
  rename_i p x m
  obtain ⟨c1,c2⟩:=Yy l hb h;exact ⟨(x,m),.aU e l (aM c1 bt) (aM c2 bb),⟨0,by dsimp only;rw [h];lia⟩⟩
 | rem q2 h0 h1 g h=>
  rename_i r
  obtain ⟨k,ek⟩:=h;have q3:q<=997:=by rcases hq with z | ⟨_,z,_⟩ <;> lia
  exact ⟨(r,1),.rem h0 h1 q3,⟨k,by dsimp only;rw [gD];exact ek⟩⟩
theorem AX{B:Nat}(hB:1<=B){a:Int}(h:HH H q v a 1)(hq:aS q)(ha:a=0\/a=1):aw B H q v a 1:=by
 rcases h with ⟨rfl,r,rfl,e⟩ | ⟨q2,r,rfl,r0,r1,er⟩
 ·rw [(NI a).1,(NI a).2] at e
  exact .aU e ⟨∅,Cj ..⟩ (by rcases ha with rfl | rfl <;> simp [hB]) (by simpa using hB)
 ·have q3:q<=997:=by rcases hq with z | ⟨_,z,_⟩ <;> lia
  rw [q_ (show (0:Int)<=1 by decide) (show (1:Int)<q by lia),gD,q_ r0 r1] at er
  have ea:a % q=a:=q_ ⋯ ⋯
  rw [ea] at er;subst er;exact .rem r0 r1 q3
theorem Dl(hq:aS q):¬nj q 1:=λh=>by
 unfold nj at h;rcases hq with rfl | ⟨q2,q3,q4⟩;·rw [aq rfl] at h;lia
 ·rw [az ⋯,q_ ⋯ ⋯] at h;lia
theorem cW.one:cW q 1:=⟨λ_=>by decide,λ_=>rfl⟩
def i8(B:Nat)(H:Hp)(q:Int)(a:Addr)(ps:bR):Prop:=∃vs:List V,H a=some (.lst vs)/\vs.length=ps.length/\∀(i:Nat) (v:V) (p:Int×Int),vs[i]?=some v->ps[i]?=some p->aw B H q v p.1 p.2
theorem i8.mono{B:Nat}{ps:bR}(h:i8 B H q a ps)(s:af H H'):i8 B H' q a ps:=by intros bv4 h vs e l k;exact (bv vs (s _ _ e) l (λi v p h1 h2=>(k i v p h1 h2).mono s))
theorem N7{K:aE}{B B':Nat}{u:V}{R:VK}(hv:aw B H q v x m)(hu:aw B' H q u 0 1)(k:R (.bl (decide (x=0))) H):NF K v u H R:=by
 cases hv with
 | aU e l bx bm=>
  cases hu with
  | aU e' l' _ _=>
   refine .inr (.inr (.inl (sw _ _ _ _ rfl rfl (.of e) (.of e') rfl rfl ?_)));have z:(iL [V.int x,V.int m] [V.int 0,V.int 1])=decide (x=0):=by
    show ((x == 0) && ((m == 1) && true))=_;by_cases hx:x=0
    ·subst hx
     have:=l.g_;rw [Int.gcd_zero_left] at this;have:=l.pos;have:m=1:=by lia
     subst this;rfl
    ·rw [cZ hx,show (x == 0)=false from n8.mpr hx]
     rfl
   show R (.bl (iL [V.int x,V.int m] [V.int 0,V.int 1])) H;rw [z];exact k
  | rem h0 h1 h2=>lia
 | rem h0 h1 h2=>
  cases hu with
  | aU=>lia
  | rem h0' wK r9=>
   refine .inr (.inr (.inr ⟨by simp [GV],?_⟩))
   rw [i5];exact k
end My
namespace L2
open PySem PySem.Spec PyProof.Rows
end L2
namespace My
open PySem L2
def nC(q:Int):Td:=if q=0 then .a "fractions" else .b "wheel" q
theorem Y_{q:Int}(hq:aS q):(nC q).good=true:=by
 unfold nC;rcases hq with rfl | ⟨h1,h2,h3⟩;·rw [aq rfl];simp [Td.good,Td.AI]
 ·rw [az ⋯];simp [Td.good,Td.AI,Td.kU,h1,h2,h3]
def N8(H:Hp)(td:Addr)(q:Int):Prop:=H td=some (.tup (nC q).vs)
end My
namespace L2
open PySem PySem.Spec PyProof.Rows
theorem Dm{K:aE}{wi:TI}{ρ:St->St}{te:TE}{σ:St}{H:Hp}{Q:VK}{Z:List (V×V)->Hp->Prop}(kf:∀R:It->Hp->Prop,(∀J H1 zs,af H H1->Dh J zs H1->zs.length<sizeLine->Z zs H1->R J H1)->wi σ H R)
  (P:Addr->Nat->V->Hp->Prop) (mono:∀D i y H H' ys,P D i y H->H D=some (.lst ys)->(∀b o,b≠D->H b=some o->H' b=some o)->P D i y H')
  (step:∀zs H1,Z zs H1->af H H1->∀D i x y,zs[i]?=some (x,y)->∀(Hc:Hp) (R:VK),af H1 Hc->(∃ys,Hc D=some (.lst ys))->(∀v H3,af Hc H3->P D i v H3->R v H3)->te (some x::some y::ρ σ) Hc R)
  (fin:∀zs H1,Z zs H1->af H H1->∀D vs Hc,H D=none->af H1 Hc->vs.length=zs.length->(∀(i:Nat) (v:V),vs[i]?=some v->P D i v Hc)->Hc D=some (.lst vs)->Q (.ref D) Hc):AO K wi ρ (λ_ H Q=>Q true H) te σ H Q:=by
 refine kf _ λJ H1 zs s1 js hn hZ=>?_;intro D nD;have hD:H D=none:=by
  cases e:H D with
  | none=>rfl
  | some o=>rw [s1 _ _ e] at nD;cases nD
 refine (ad (λi m vs Hc=>m=zs.length-i/\i<=zs.length/\Hc D=some (.lst vs)/\af H1 Hc/\vs.length=i/\∀(j:Nat) (v:V),vs[j]?=some v->P D j v Hc) ⟨_,rfl,cG _,au,iM (af.refl H1) nD,rfl,λj y e=>by simp at e⟩ ?_)
 rintro i m vs Hc ⟨rfl,hi,eD,sH,el,hP⟩;refine ⟨eD,?_⟩;by_cases cm:i<zs.length
 ·refine .inr ⟨js.go i Hc sH cm,λv H' hy=>?_⟩
  have q'52:=js.fc i Hc v H' sH hy;intros bv17 q'52 T x y ev nT eH hx;subst ev eH;refine (Exists.intro T (bi x y rfl (.of au) ?_));dsimp only;rw [aq rfl];have sT:af Hc (upd Hc T (.tup [x,y])):=λb o e=>by rw [aH (f_ e nT)];exact e
  refine step zs H1 hZ s1 D i x y (hx cm) _ _ (sH.trans sT) ⟨vs,sT _ _ eD⟩ λw H3 s3 hp=>?_;have e3:=s3 _ _ (sT _ _ eD);have bE:∀b o,b≠D->H3 b=some o->upd H3 D (.lst (vs++[w])) b=some o:=λb o nb e=>by rw [aH nb];exact e
  refine ⟨e3,⋯,zs.length-(i+1),⋯,rfl,cm,au,iM (sH.trans (sT.trans s3)) nD,by simp [el],λj v' e=>?_⟩
  by_cases hj:j<i;·exact mono D j v' Hc _ vs (hP j v' (by rw [oj ⋯] at e;exact e)) eD λb o nb e=>bE b o nb (s3 _ _ (sT _ _ e))
  ·have hj:j=i:=by have:=(bK.mp e).1;simp at this;lia
   subst hj;have e':v'=w:=by rw [oi ⋯,el,Ag] at e;simpa using e.symm
   subst e';exact mono D _ _ H3 _ vs hp e3 bE
 ·have e:i=zs.length:=by lia
  subst e;exact .inl ⟨js.stop _ Hc sH (aV _),fin zs H1 hZ s1 D vs Hc hD sH el hP eD⟩
end L2
namespace My
open PySem L2
theorem N9{a d t b:Int}(l:cb a d)(hb:1<=b)(e:a*b=t*d):a=nh t b/\d=ni t b:=by
 have z:=NH (a:=t) (show b≠0 by lia)
 have hd:=l.pos;have hd2:=z.1.pos;refine YB l z.1 ?_;refine Dd (c:=b) ⋯ ?_
 have z2:=z.2.1;grind
end My
namespace L2
open PySem PySem.Spec PyProof.Rows
def wL(K:aE)(l:Addr):It:=
  ⟨λi H=>∃xs x,bM K H l xs/\xs[i]?=some x,
   λi H v H'=>∃T x,H T=none/\v=.ref T/\H'=upd H T (.tup [.int (i:Int),x])/\∀xs,bM K H l xs->xs[i]?=some x,
   λi H=>∃xs,bM K H l xs/\xs.length<=i⟩
variable {K:aE} {l:Addr}
theorem Za{P:Program}{w:World}{elts:List Expr}{k:Nat}{pos:Pos}{e it:Addr}(N_:e≠it):Turn P w K (.Tuple elts k pos) (wL K l) [e,it] e
  (λi h=>(∃old,IsEnum h e it (i:Int) old)/\h.IsListIter it l i) where
 mem:=by simp
 obj:=λi h st b hb=>by
  obtain ⟨⟨old,he⟩,h1⟩:=st;simp only [dB,jP,jQ] at hb;rcases hb with rfl | rfl;·exact ⟨_,he,λv z=>by cases z⟩
  ·intros bv4 h1 o e c d
   exact ⟨o,e,λv z=>by rw [d] at z;cases z⟩
 keep:=λi h h' st k=>by obtain ⟨⟨old,he⟩,h1⟩:=st;exact ⟨⟨old,k _ (by simp) _ he⟩,h1.at λo e=>k _ (by simp) o e⟩
 item:=by
  intro X hP hw hK hc i pins s σ H E I hf st hg;subst hP hw hK;obtain ⟨⟨old,he⟩,h1⟩:=st;intros bv3 hg xs x kg hx;obtain ⟨ai,rv,p,_⟩:=I.list kg;obtain ⟨u,hu,ru⟩:=rv.get hx;refine wpAny_pyNext_enum_item he h1 p.isList (x:=u) (by simpa using hu) N_ λh' g1 g2 g3 g4 g5=>(ad _ rfl ?_)
  refine wpAny_letOwnedTupleGo_enum g1 λnk q1 sb=>?_;have rW:H s.heap.objs.size=none:=I.aB.fresh (aV _);have lt:∀b o,s.heap.get? b=some o->b≠s.heap.objs.size:=λb o e=>dY (bP e);have keep:∀b o,b∉[e,it]->s.heap.get? b=some o->nk.get? b=some o:=λb o nb e=>by simp only [dB,jP,jQ,not_or] at nb;exact sb.extBut _ _ nb.1 (g5 b o nb.1 nb.2 e)
  have elt:e≠s.heap.objs.size:=lt _ _ he;have pT:=sb.extBut _ _ elt.symm g3;have mq:∀{b:Addr} {o:HO} (e:H b=some o),upd H s.heap.objs.size (.tup [.int (i:Int),x]) b=some o:=λe=>by rw [aH (f_ e rW)];exact e
  have aB:cq X.prog X.w (upd H s.heap.objs.size (.tup [.int (i:Int),x])) nk:=λb o e=>by
   by_cases hb:b=s.heap.objs.size
   ·subst hb
    rw [au] at e;cases e;exact ⟨by show 2<=sizeLine;decide,[.int i s.toks,u],.cons ⟨_,rfl⟩ (.cons ru .nil),⟨_,pT,rfl,_,rfl⟩⟩
   ·rw [aH hb] at e
    refine (I.aB b o e).ic (λc v dF q=>keep c v (λm=>?_) q) (λc q=>mq q) λc xs q=>mq q;have nn:=(hf c m).1;rcases dF with rfl | dF;·rw [nn] at e;cases e
    ·rw [nn] at dF;cases dF
  have u1:Un (cz X.stack) [e,it] H (upd H s.heap.objs.size (.tup [.int (i:Int),x])) s.heap nk:=
   ⟨λb o e n _ hx=>keep b o hx e,λb o e n _ hx=>⟨o.slots,keep b o hx e⟩,λb o e n hx=>by rw [aH (lt b o e)];exact n,λb o e hx=>⟨o,keep b o hx e⟩,λb xs e=>mq e,λb o u e=>mq e,λb ps e=>⟨#[],by rw [mq e];simp⟩⟩
  refine (sB (.ref s.heap.objs.size) (upd H s.heap.objs.size (.tup [.int (i:Int),x])) (I.jj (s':={s with heap:=nk,toks:=s.toks+1}) (ch:=[e,it]) rfl u1 aB I.bare (λb hb=>?_)) rfl (f8 _ x rW rfl rfl (λas ha=>by rw [I.CB ha kg];exact hx)) ?_ (λb hb=>?_))
  ·obtain ⟨f0,f1,f2,f3,f4,f5⟩:=hf b hb
   exact ⟨f3,f1,f4,f5⟩
  ·refine ⟨⟨u,?_⟩,g2.extBut sb.extBut N_.symm⟩
   have z:((i+1:Nat):Int)=(i:Int)+1:=by lia
   rw [z];exact q1
  ·have nb:b≠s.heap.objs.size:=by
    simp only [dB,jP,jQ] at hb;rcases hb with rfl | rfl;·exact lt _ _ he
    ·intros bv2 h1 o e _;exact lt _ _ e
   rw [aH nb];exact (hf b hb).1
 done:=by
  intro X hP hw hK hc i pins s σ H E I hf st hg;subst hP hw hK;obtain ⟨⟨old,he⟩,h1⟩:=st;intros bv2 hg xs kg hx;obtain ⟨ai,rv,p,_⟩:=I.list kg;have hl:=rv.length;refine wpAny_pyNext_enum_end (I.ok.hd hc) he h1 p.isList (by simp;lia) λh' g=>⟨rfl,?_⟩
  have keep:∀b o,b∉[e,it]->s.heap.get? b=some o->h'.get? b=some o:=λb o nb e=>by simp only [dB,jP,jQ,not_or] at nb;exact g b o nb.2 e
  have aB:cq X.prog X.w H h':=λb o e=>by
   refine (I.aB b o e).ic (λc v dF q=>keep c v (λm=>?_) q) (λc q=>q) λc xs q=>q;have nn:=(hf c m).1;rcases dF with rfl | dF;·rw [nn] at e;cases e
   ·rw [nn] at dF;cases dF
  have u1:Un (cz X.stack) [e,it] H H s.heap h':=
   ⟨λb o e n _ hx=>keep b o hx e,λb o e n _ hx=>⟨o.slots,keep b o hx e⟩,λb o e n hx=>n,λb o e hx=>⟨o,keep b o hx e⟩,λb xs e=>e,λb o u e=>e,λb ps e=>⟨#[],by rw [e];simp⟩⟩
  refine I.jj (s':={s with heap:=h'}) (ch:=[e,it]) rfl u1 aB I.bare λb hb=>?_;obtain ⟨f0,f1,f2,f3,f4,f5⟩:=hf b hb;exact ⟨f3,f1,f4,f5⟩
 self:=λ_ _ _ _ _ st h=>by obtain ⟨⟨old,he⟩,_⟩:=st;exact wpAny_pyIter_enum he h
theorem boot_enumerate:bootBuiltins "enumerate"=some (.type "enumerate"):=by decide +kernel
def Zb(K:aE)(ta:TA):TI:=λσ H R=>ta σ H λvs H1=>∃l,vs=[.ref l]/\(∃xs,bM K H1 l xs)/\R (wL K l) H1
section
variable {X:Cx}
theorem wM{elts:List Expr}{k:Nat}{wj:Pos}{a:Expr}{ta:TA}{p pos:Pos}(hg:Gl X "enumerate")(hm:X.mg "enumerate"=none)(ha:PA X [a] ta)(hs:starEach [a] X.env=[(false,eval a X.env)]:=by rfl) :
  PI X (.Tuple elts k wj) (.Call (.Name "enumerate" p) [a] [] pos) (Zb X.K ta):=by
 intro pins s σ H R I h;refine Call_ (pS I hg hm boot_enumerate (vM (aT (ha pos pins s σ H _ I h) λus s1 ⟨vs,H1,I1,r1,q1⟩=>?_) hs rfl));obtain ⟨l,e,⟨xs,kg⟩,q⟩:=q1;subst e;obtain ⟨u,rfl,ru⟩:=vals1 r1;cases ru;obtain ⟨ai,rv,p1,_⟩:=I1.list kg;refine call_enumerate_list p1.isList λh' z1 z2 z3 z4=>?_;refine wpAny_pyIter_enum (s:={s1 with heap:=h'}) z1 ?_;refine ⟨_,_,_,_,H1,rfl,I1.kept (t':=s1.toks) z4,Za (Nat.succ_ne_self _),⟨⟨_,z1⟩,z2⟩,λb hb=>?_,q⟩;have le:s1.heap.objs.size<=b:=by
  simp only [dB,jP,jQ] at hb;rcases hb with rfl | rfl;·exact rf ..
  ·exact aV _
 exact I1.rH le (I1.aB.fresh le)
end
theorem Oa{xs:List V}{g:TG}{tb:TS}{D:Ends}{σ:St}{H:Hp}(Pv:Nat->St->Hp->Prop)(h0:Pv 0 σ H)(hl:∀i σ H,Pv i σ H->bM K H l xs)
  (hs:∀(i:Nat) (x:V) σ H T,xs[i]?=some x->Pv i σ H->H T=none->g (.ref T) σ (upd H T (.tup [.int (i:Int),x])) λσ2 H2=>tb {D with nx:=Pv (i+1),ct:=Pv (i+1),bk:=D.nx} σ2 H2) (hd:∀σ H,Pv xs.length σ H->D.nx σ H) :
  ∃W:Nat->Nat->St->Hp->Prop,(∃m,W 0 m σ H)/\∀i m σ H,W i m σ H->
   ((wL K l).stop i H/\D.nx σ H)\/((wL K l).go i H/\∃N:St->Hp->Prop,(∀σ' H',N σ' H'->∃m',m'<m/\W (i+1) m' σ' H')/\∀x H',(wL K l).fc i H x H'->g x σ H' λσ2 H2=>tb {D with nx:=N,ct:=N,bk:=D.nx} σ2 H2):=by
 refine (ad (λi m σ H=>m=xs.length-i/\i<=xs.length/\Pv i σ H) ⟨xs.length,by simp,cG _,h0⟩ ?_)
 rintro i m σ H ⟨rfl,hi,p⟩;have q1:=hl i σ H p;by_cases cm:i<xs.length
 ·refine .inr ⟨⟨xs,xs[i],q1,by simp [cm]⟩,Pv (i+1),λσ' H' p'=>⟨xs.length-(i+1),⋯,rfl,cm,p'⟩,λv H' hy=>?_⟩
  intros bv10 hy T x nT rfl rfl hx;exact hs i x σ H T (hx xs q1) p nT
 ·have e:i=xs.length:=by lia
  subst e;exact .inl ⟨⟨xs,q1,aV _⟩,hd σ H p⟩
end L2
namespace My
open PySem L2
theorem sq:∀(n:Nat) (f:Nat->Int),bI (n+1) f=bI n f+f n
 | 0,f=>by show f 0+0=0+f 0;lia
 | n+1,f=>by show f 0+bI (n+1) (λi=>f (i+1))=(f 0+bI n λi=>f (i+1))+f (n+1);rw [sq n];lia
def Canon(q:Int)(p:Int×Int):Prop:=(q=0->cb p.1 p.2)/\(q≠0->p.2=1/\0<=p.1/\p.1<q)
variable {q m:Int}
theorem aw.canon{B:Nat}{H:Hp}{v:V}{x:Int}(h:aw B H q v x m):Canon q (x,m):=by
 cases h with
 | aU e l bx bm=>exact ⟨λ_=>l,λz=>absurd rfl z⟩
 | rem h0 h1 h2=>exact ⟨λz=>by lia,λ_=>⟨rfl,h0,h1⟩⟩
variable {b:Int}
theorem cW.nz(hq:aS q)(h:cW q b):¬q∣b:=λhd=>by
 by_cases z:q=0
 ·subst z
  have:=h.1 rfl;have:=e9.mp hd;lia
 ·rw [h.2 z] at hd
  have q2:2<=q:=by rcases hq with h | h <;> lia
  have:=Int.le_of_dvd ∅ hd
  lia
variable {D:Int}
theorem lcm_dvd(hb:1<=b)(hm:1<=m)(h1:b∣D)(h2:m∣D):b / (Int.gcd b m:Int)*m∣D:=by
 have gp:=wG (a:=b) (b:=m) ⋯
 obtain ⟨b',eb⟩:=jO (a:=b) (b:=m)
 have g0:(Int.gcd b m:Int)≠0:=by lia
 have gb:b / (Int.gcd b m:Int)=b':=by
  conv=>lhs;lhs;rw [eb]
  exact gT _ g0
 have z:((Int.lcm b m:Nat):Int)∣D:=Int.coe_lcm_dvd h1 h2
 have e:((Int.lcm b m:Nat):Int)=b'*m:=by
  have h:=Int.gcd_mul_lcm b m
  have h2:((Int.gcd b m:Nat):Int)*((Int.lcm b m:Nat):Int)=((b*m).natAbs:Int):=by
   rw [<-Int.natCast_mul,h,cS]
  have bm:0<b*m:=lL ⋯ ⋯
  have h3:((b*m).natAbs:Int)=b*m:=by lia
  rw [h3] at h2
  refine Co g0 ?_
  rw [h2,<-mV,<-eb]
 rw [gb,<-e]
 exact z
structure Dn (q:Int) (ps:bR) (ts:List Int) (b D:Int) (B:Nat):Prop where
 len:ts.length=ps.length
 ok:cW q b
 dvd:b∣D
 each:∀i,i<ps.length->ts.getD i 0*(ps.getD i o1).2=(ps.getD i o1).1*b/\(ts.getD i 0).natAbs<=B*D.natAbs
theorem HU(h:b∣D)(hD:D≠0):b.natAbs<=D.natAbs:=Nat.le_of_dvd (lJ.mpr hD) (Cp.mpr h)
end My
namespace L2
open PySem PySem.Spec PyProof.Rows
section
variable {X:Cx} {tg:Expr}
end
end L2
namespace My
open PySem L2
def Cg(q a b:Int):Prop:=q∣a-b
variable {q:Int}
theorem Cg.refl(a:Int):Cg q a a:=⟨0,⋯⟩
variable {a b:Int}
theorem Cg.of_eq(h:a=b):Cg q a b:=h▸Cg.refl a
theorem Cg.symm(h:Cg q a b):Cg q b a:=by obtain ⟨k,e⟩:=h;exact ⟨-k,by rw [kC];lia⟩
variable {c:Int}
theorem Cg.trans(h1:Cg q a b)(h2:Cg q b c):Cg q a c:=by obtain ⟨k,e⟩:=h1;obtain ⟨l,e'⟩:=h2;exact ⟨k+l,by rw [Int.mul_add];lia⟩
theorem Cg.sub{d:Int}(h1:Cg q a b)(h2:Cg q c d):Cg q (a-c) (b-d):=by obtain ⟨k,e⟩:=h1;obtain ⟨l,e'⟩:=h2;exact ⟨k-l,by rw [Int.mul_sub];lia⟩
theorem Cg.mulL(c:Int)(h:Cg q a b):Cg q (c*a) (c*b):=by obtain ⟨k,e⟩:=h;exact ⟨c*k,by rw [<-Int.mul_sub,e];grind⟩
theorem Cg.mulR(c:Int)(h:Cg q a b):Cg q (a*c) (b*c):=by rw [eE a,eE b];exact h.mulL c
theorem AY(q a:Int):Cg q (a % q) a:=⟨-(a / q),by have:=Aj a q;rw [kC];lia⟩
theorem Zc{α:Type}{xs:List α}{k:Nat}{d:α}(h:xs.length<=k):xs.getD k d=d:=by rw [gE,Ai h];rfl
theorem Zd(xs:List V):gI xs none (some (-1))=xs.dropLast:=by
 have e:HT.fU xs.length xs.length (some (-1))=xs.length-1:=by unfold HT.fU;simp;lia
 unfold gI;rw [e,show HT.fU xs.length 0 none=0 from rfl,List.drop_zero,Nat.sub_zero,List.dropLast_eq_take]
def b8(j:Nat)(v:a_):Nat->Nat->Int:=λi=>if i<j then v i else v (i+1)
def sgn(j:Nat):Int:=if j % 2=0 then 1 else -1
theorem HV(j:Nat):sgn (j+1)=-sgn j:=by
 unfold sgn;by_cases h:j % 2=0;·rw [aq h,az ⋯]
 ·rw [az h,aq ⋯];rfl
def ba:List Nat->(Nat->Nat->Int)->Int
 | [],_=>1
 | c::cs,v=>bI (cs.length+1) λj=>sgn j*v j c*ba cs (b8 j v)
theorem AZ(c:Nat)(cs:List Nat)(v:a_):ba (c::cs) v=bI (cs.length+1) λj=>sgn j*v j c*ba cs (b8 j v):=rfl
theorem Ze{l j:Nat}(h:l<=j)(v:a_):b8 l (b8 (j+1) v)=b8 j (b8 l v):=by
 funext i
 unfold b8;by_cases h1:i<l;·rw [aq h1,aq ⋯,aq ⋯,aq h1]
 ·rw [az h1]
  by_cases h2:i<j;·rw [aq h2,az h1,aq ⋯]
  ·rw [az h2,az ⋯,az ⋯]
theorem Ob(n:Nat)(f:Nat->Int):bI n (λi=>-f i)=-bI n f:=by
 have:=qg (-1) n f;rw [show (λi=>-f i)=λi=>-1*f i from funext λi=>by lia,<-this]
 lia
theorem Zf(n:Nat)(F:a_):(bI (n+1) λj=>bI n λl=>F j l)=(bI n λj=>bI (j+1) λl=>F (j+1) l)+bI n λl=>bI (l+1) λj=>F j l:=by
 induction n with
 | zero=>rfl
 | succ n ih=>
  rw [sq (n+1) λj=>bI (n+1) λl=>F j l];have e1:(bI (n+1) λj=>bI (n+1) λl=>F j l)=(bI (n+1) λj=>bI n λl=>F j l)+bI (n+1) λj=>F j n:=by rw [<-AW];exact nq λj _=>sq n _
  rw [e1,ih,sq n λj=>bI (j+1) λl=>F (j+1) l,sq n λl=>bI (l+1) λj=>F j l];lia
theorem Oc(a b:Nat)(cs:List Nat)(v:a_):ba (a::b::cs) v=-ba (b::a::cs) v:=by
 have ex:∀x y:Nat,ba (x::y::cs) v=(bI (cs.length+1) λj=>bI (j+1) λl=>sgn (j+1)*sgn l*(v (j+1) x*v l y)*ba cs (b8 j (b8 l v)))-bI (cs.length+1) λj=>bI (j+1) λl=>sgn (j+1)*sgn l*(v l x*v (j+1) y)*ba cs (b8 j (b8 l v)):=λx y=>by
  have e0:ba (x::y::cs) v=bI (cs.length+2) λj=>bI (cs.length+1) λl=>sgn j*v j x*(sgn l*b8 j v l y*ba cs (b8 l (b8 j v))):=by rw [AZ,fO];refine nq λj _=>?_;rw [AZ,qg]
  rw [e0,Zf (cs.length+1)];rw [Int.sub_eq_add_neg,<-Ob]
  congr 1
  ·refine nq λj _=>nq λl hl=>?_
   rw [Ze ⋯,show b8 (j+1) v l y=v l y by unfold b8;rw [aq ⋯]]
   grind
  ·refine nq λl _=>?_
   rw [<-Ob];refine nq λj hj=>?_;rw [show b8 j v l y=v (l+1) y by unfold b8;rw [az ⋯],HV]
   grind
 rw [ex a b,ex b a];have f:∀x y:Nat,(bI (cs.length+1) λj=>bI (j+1) λl=>sgn (j+1)*sgn l*(v l x*v (j+1) y)*ba cs (b8 j (b8 l v)))=bI (cs.length+1) λj=>bI (j+1) λl=>sgn (j+1)*sgn l*(v (j+1) y*v l x)*ba cs (b8 j (b8 l v)):=λx y=>nq λj _=>nq λl _=>by rw [eE (v l x)]
 rw [f a b,f b a];lia
theorem wN(c:Nat):∀(cs:List Nat) (v:a_),c∈cs->ba (c::cs) v=0
 | b::cs,v,h=>by
  by_cases e:c=b
  ·subst e
   have:=Oc c c cs v;lia
  ·have h':c∈cs:=by
    rcases dB.mp h with z | z;·exact absurd z e
    ·exact z
   rw [Oc,AZ];rw [show (λj=>sgn j*v j b*ba (c::cs) (b8 j v))=λ_=>0 from funext λj=>by rw [wN c cs _ h',lK],N5]
   rfl
def bJ(e:Nat->Int)(R:a_):Nat->Nat->Int
 | 0=>e
 | i+1=>R i
theorem Od(e:Nat->Int)(R:a_):b8 0 (bJ e R)=R:=by
 funext i
 unfold b8;rw [az ⋯]
 rfl
theorem Oe(i:Nat)(e:Nat->Int)(R:a_):b8 (i+1) (bJ e R)=bJ e (b8 i R):=by
 funext j
 unfold b8;cases j with
 | zero=>rw [aq ⋯];rfl
 | succ j=>
  by_cases h:j<i
  ·rw [aq ⋯]
   show R j=if j<i then R j else R (j+1)
   rw [aq h]
  ·rw [az ⋯]
   show R (j+1)=if j<i then R j else R (j+1)
   rw [az h]
theorem A0(k:Nat)(C:List Nat)(e:Nat->Int)(R:a_):ba (k::C) (bJ e R)=ba C R*e k+bI C.length λi=>R i k*(-(sgn i)*ba C (bJ e (b8 i R))):=by
 rw [AZ,bI];have e0:sgn 0*bJ e R 0 k*ba C (b8 0 (bJ e R))=ba C R*e k:=by rw [Od];show 1*e k*ba C R=_;rw [Int.one_mul,eE]
 rw [e0]
 congr 1
 refine nq λi _=>?_;rw [Oe,HV];show -sgn i*R i k*_=_;grind
def wO(C:List Nat)(R:a_):Prop:=∀x:Nat->Int,(∀c∈C,(bI C.length λi=>R i c*x i)=0)->∀k,(bI C.length λi=>R i k*x i)=0
theorem Zg(R:a_):wO [] R:=λ_ _ _=>rfl
variable {C:List Nat} {R:a_}
theorem Zh{h:Nat->Int}{c:Nat}(sp:wO C R)(d0:ba C R≠0)(p0:ba (c::C) (bJ h R)≠0):wO (c::C) (bJ h R):=by
 intro x hx k;have ex:∀k,(bI (c::C).length λi=>bJ h R i k*x i)=h k*x 0+bI C.length λi=>R i k*x (i+1):=λk=>rfl;have hz:∀k,ba C R*(h k*x 0+bI C.length λi=>R i k*x (i+1))-x 0*ba (k::C) (bJ h R)=bI C.length λi=>R i k*(ba C R*x (i+1)-x 0*(-(sgn i)*ba C (bJ h (b8 i R)))):=λk=>by
  rw [A0,show (λi=>R i k*(ba C R*x (i+1)-x 0*(-(sgn i)*ba C (bJ h (b8 i R)))))=λi=>ba C R*(R i k*x (i+1)) + -(x 0)*(R i k*(-(sgn i)*ba C (bJ h (b8 i R)))) from funext λi=>by grind,AW,<-qg,<-qg]
  grind
 have z:=sp _ λc' dF=>by rw [<-hz c',<-ex c',hx c' (je _ dF),wN c' C _ dF];simp
 have z1:∀k,ba C R*(h k*x 0+bI C.length λi=>R i k*x (i+1))=x 0*ba (k::C) (bJ h R):=λk=>by have:=hz k;rw [z k] at this;omega
 have x0:x 0=0:=by
  have e:=z1 c;rw [<-ex c,hx c n_,lK] at e;rcases pN.mp e.symm with h | h;·exact h
  ·exact absurd h p0
 have e:=z1 k;rw [x0,iX] at e;rw [ex k,x0];rcases pN.mp e with h | h;·exact absurd h d0
 ·exact h
theorem Zi(sp:wO C R)(e h:Nat->Int)(c k:Nat) :
  ba C R*ba (k::c::C) (bJ e (bJ h R))=ba (c::C) (bJ h R)*ba (k::C) (bJ e R)-ba (c::C) (bJ e R)*ba (k::C) (bJ h R):=by
 have two:∀k,ba (k::c::C) (bJ e (bJ h R))=ba (c::C) (bJ h R)*e k-ba (c::C) (bJ e R)*h k+bI C.length λi=>R i k*(sgn i*ba (c::C) (bJ e (bJ h (b8 i R)))):=λk=>by
  rw [A0,fO,bI];have e0:bJ h R 0 k*(-(sgn 0)*ba (c::C) (bJ e (b8 0 (bJ h R))))=-(ba (c::C) (bJ e R)*h k):=by rw [Od];show h k*(-1*_)=_;grind
  rw [e0,show (λi=>bJ h R (i+1) k*(-(sgn (i+1))*ba (c::C) (bJ e (b8 (i+1) (bJ h R)))))=λi=>R i k*(sgn i*ba (c::C) (bJ e (bJ h (b8 i R)))) from funext λi=>by rw [Oe,HV,Int.neg_neg];rfl]
  lia
 have hz:∀k,ba C R*ba (k::c::C) (bJ e (bJ h R))-(ba (c::C) (bJ h R)*ba (k::C) (bJ e R)-ba (c::C) (bJ e R)*ba (k::C) (bJ h R))=bI C.length λi=>R i k*(ba C R*(sgn i*ba (c::C) (bJ e (bJ h (b8 i R))))-ba (c::C) (bJ h R)*(-(sgn i)*ba C (bJ e (b8 i R)))+ba (c::C) (bJ e R)*(-(sgn i)*ba C (bJ h (b8 i R)))):=λk=>by
  rw [two k,A0 k C e R,A0 k C h R];rw [show (λi=>R i k*(ba C R*(sgn i*ba (c::C) (bJ e (bJ h (b8 i R))))-ba (c::C) (bJ h R)*(-(sgn i)*ba C (bJ e (b8 i R)))+ba (c::C) (bJ e R)*(-(sgn i)*ba C (bJ h (b8 i R)))))=λi=>(ba C R*(R i k*(sgn i*ba (c::C) (bJ e (bJ h (b8 i R))))) + -(ba (c::C) (bJ h R))*(R i k*(-(sgn i)*ba C (bJ e (b8 i R)))))+ba (c::C) (bJ e R)*(R i k*(-(sgn i)*ba C (bJ h (b8 i R)))) from funext λi=>by grind,AW,AW,<-qg,<-qg,<-qg]
  grind
 have z:=sp _ λc' dF=>by rw [<-hz c',wN c' (c::C) _ (je _ dF),wN c' C _ dF,wN c' C _ dF];simp
 have:=hz k;rw [z k] at this;omega
def qh(C:List Nat)(R:a_)(f:Nat->Int):Nat->Int:=λk=>ba (k::C) (bJ f R)
theorem Zj(R:a_)(f:Nat->Int)(k:Nat):qh [] R f k=f k:=by show ba [k] (bJ f R)=f k;rw [A0];show 1*f k+0=f k;lia
theorem Zk(R:a_)(f:Nat->Int){c:Nat}(h:c∈C):qh C R f c=0:=wN c C _ h
theorem Zl(sp:wO C R)(f h:Nat->Int)(c k:Nat):qh C R h c*qh C R f k-qh C R f c*qh C R h k=ba C R*qh (c::C) (bJ h R) f k:=(Zi sp f h c k).symm
def iO:Nat->Nat
 | 0=>1
 | n+1=>(n+1)*iO n
theorem Of{M:Nat}:∀(n:Nat) (f:Nat->Int),(∀i,i<n->(f i).natAbs<=M)->(bI n f).natAbs<=n*M
 | 0,_,_=>by show (0:Int).natAbs<=_;simp
 | n+1,f,h=>by rw [sq,Nat.succ_mul];exact aM (Int.natAbs_add_le ..) (Nat.add_le_add (Of n f λi hi=>h i ⋯) (h n ⋯))
theorem HW{B:Nat}:∀(C:List Nat) (v:a_),(∀i c,(v i c).natAbs<=B)->(ba C v).natAbs<=iO C.length*B ^ C.length
 | [],_,_=>by show (1:Int).natAbs<=1*B ^ 0;simp
 | c::C,v,h=>by
  rw [AZ];refine aM (Of (M:=B*(iO C.length*B ^ C.length)) _ _ λj _=>?_) (Nat.le_of_eq ?_)
  ·rw [cS,cS]
   have s1:(sgn j).natAbs=1:=by unfold sgn;split <;> rfl
   rw [s1,Nat.one_mul];refine fQ (h j c) (HW C _ λi c'=>?_);unfold b8
   split
   ·exact h _ _
   ·exact h _ _
  ·rw [fO,iO,Nat.pow_succ]
   rw [Nat.mul_assoc,Nat.mul_left_comm B,z8 B]
theorem ki(hq:aS q):¬q∣1:=λh=>by
 rcases hq with rfl | ⟨h2,_⟩
 ·have:=e9.mp h
  lia
 ·have:=Int.le_of_dvd ∅ h
  lia
theorem Dp{u x:Int}(hq:aS q)(nu:¬q∣u)(h:Cg q (u*x) 0):Cg q x 0:=by unfold Cg at h ⊢;rw [pO] at h ⊢;exact Ak λnx=>N1 hq nu nx h
end My
namespace L2
open PySem PySem.Spec PyProof.Rows
theorem Zm{xs ys:List Int}(h:xs.length=ys.length):((List.range xs.length).all λj=>kN (.int (xs.getD j 0)) (.int (ys.getD j 0)))=decide (xs=ys):=by
 by_cases e:xs=ys
 ·subst e
  rw [cK rfl,mU];intro j _;exact HP rfl
 ·rw [cZ e]
  cases z:((List.range xs.length).all λj=>kN (.int (xs.getD j 0)) (.int (ys.getD j 0))) with
  | false=>rfl
  | true=>refine absurd (eP h λj h1 h2=>?_) e;have:=mU.mp z j (dA.mpr h1);have this:(xs.getD j 0 == ys.getD j 0)=true:=this;rw [mS,gE,gE] at this;simpa [h1,h2] using this
end L2
namespace My
open PySem L2
def d9(B:Nat)(H:Hp)(q:Int)(a:Addr)(ag:cT):Prop:=∃vs:List V,H a=some (.lst vs)/\vs.length=ag.length/\∀(i:Nat) (v:V) (ps:bR),vs[i]?=some v->ag[i]?=some ps->∃r:Addr,v=.ref r/\i8 B H q r ps
variable {B:Nat} {H:Hp} {q:Int}
theorem d9.mono{H':Hp}{a:Addr}{ag:cT}(h:d9 B H q a ag)(s:af H H'):d9 B H' q a ag:=by intros bv4 h vs e l k;exact (bv vs (s _ _ e) l (λi v ps h1 h2=>by obtain ⟨r,e1,e2⟩:=k i v ps h1 h2;exact ⟨r,e1,e2.mono s⟩))
def Zn(N:Addr):Sp:=λvs H Q E=>∃(a:Addr) (q:Int) (B:Nat) (ag:cT) (m:Nat),vs=[.ref a]/\d9 B H q a ag/\1<=ag.length/\ag.length<=40/\(∀ps∈ag,ps.length=m)/\∀H',af H H'->Q (.int (m:Int)) H'
def Zo(N:Addr):Sp:=λvs H Q E=>∃(a:Addr) (q:Int) (B:Nat) (ag:cT) (m:Nat),vs=[.ref a]/\d9 B H q a ag/\1<=ag.length/\ag.length<=40/\(∀ps∈ag,ps.length=m)/\(m≠ag.length->∀H',af H H'->E (.ref N) none H')/\(m=ag.length->∀H',af H H'->Q (.int (m:Int)) H')
def wQ(q:Int)(E:Nat)(ps:bR):Prop:=∃(D:Int) (x:Nat->Int),cW q D/\D.natAbs<=E/\(∀p∈ps,p.2∣D)/\∀i,i<ps.length->(ps.getD i o1).1*D=x i*(ps.getD i o1).2/\(x i).natAbs<=E
variable {b D:Int} {E:Nat}
theorem Zp{t u m x:Int}(e1:t*m=u*b)(e2:u*D=x*m)(hb:b∣D)(m0:m≠0)(b0:b≠0)(D0:D≠0)(hx:x.natAbs<=E):t.natAbs<=E:=by
 obtain ⟨e,rfl⟩:=hb;have e0:e≠0:=λz=>D0 (by rw [z,lK])
 have h:m*(b*(t*e))=m*(b*x):=by
  have:t*m*(b*e)=u*b*(b*e):=by rw [e1]
  have:b*(u*(b*e))=b*(x*m):=by rw [e2]
  grind
 have h:=Co b0 (Co m0 h);refine aM ?_ hx;rw [<-h,cS];exact Nat.le_mul_of_pos_right _ (lJ.mpr e0)
def atT(ag:cT)(i j:Nat):Int×Int:=(ag.getD i []).getD j o1
theorem HX(h:cW q b):b≠0:=by
 by_cases z:q=0;·have:=h.1 z;lia
 ·have:=h.2 z;lia
structure Zq (q:Int) (E W:Nat) (ps:bR) (ts:List Int) (b:Int):Prop where
 len:ts.length=W
 ok:cW q b
 eq:∀k,k<W->ts.getD k 0*(ps.getD k o1).2=(ps.getD k o1).1*b
 bd:∀k,(ts.getD k 0).natAbs<=E
 rem:q≠0->∀k,k<W->0<=ts.getD k 0/\ts.getD k 0<q
theorem Zr{ps:bR}{ts:List Int}{W B':Nat}{x:Nat->Int}{r:Addr}(hq:aS q)(wd:Dn q ps ts b D B')(hW:ps.length=W)(hr:i8 B H q r ps)(i9:cW q D)(hx:∀i,i<ps.length->(ps.getD i o1).1*D=x i*(ps.getD i o1).2/\(x i).natAbs<=E):Zq q E W ps ts b:=by
 have Og:∀k,k<W->Canon q (ps.getD k o1)/\cW q (ps.getD k o1).2:=λk hk=>by
  intros bv4 hr vs e l f;have k1:k<vs.length:=by lia
  have k2:k<ps.length:=by lia
  have z:=f k vs[k] ps[k] (by simp [k1]) (by simp [k2])
  rw [getD_at k2];exact ⟨z.canon,z.bot hq⟩
 refine ⟨by rw [wd.len,hW],wd.ok,λk hk=>(wd.each k ⋯).1,λk=>?_,λz k hk=>?_⟩
 ·by_cases hk:k<W
  ·obtain ⟨h1,h2⟩:=hx k ⋯
   exact Zp (wd.each k ⋯).1 h1 wd.dvd (HX (Og k hk).2) (HX wd.ok) (HX i9) h2
  ·rw [Zc (by rw [wd.len];lia)]
   exact cG _
 ·obtain ⟨c1,c2⟩:=Og k hk
  obtain ⟨m1,m2,m3⟩:=c1.2 z;have e:=(wd.each k ⋯).1
  rw [m1,wd.ok.2 z,gD,gD] at e;rw [e];exact ⟨m2,m3⟩
end My
namespace L2
open PySem PySem.Spec PyProof.Rows
theorem Zs{X:Cx}{K:aE}(hK:X.K=K:=by rfl):G6 X (p4 K):=by subst hK;exact ju
end L2
namespace My
open PySem L2
variable {B:Nat} {H:Hp} {q:Int} {cR:cT}
theorem d9.each{r:Addr}(h:d9 B H q r cR):∀ps∈cR,∃x,i8 B H q x ps:=λps hp=>by
 intros bv4 h vs e l f;obtain ⟨i,hi,e2⟩:=Cq.mp hp;have h1:i<vs.length:=by lia
 obtain ⟨x,_,e3⟩:=f i vs[i] ps (by simp [h1]) (by simp [hi,e2])
 exact ⟨x,e3⟩
theorem i8.nums{a:Addr}{ps:bR}(h:i8 B H q a ps)(hq:aS q):∀p∈ps,Canon q p/\cW q p.2/\∃v,aw B H q v p.1 p.2:=λp hp=>by
 intros bv4 h vs e l f;obtain ⟨i,hi,e2⟩:=Cq.mp hp;have h1:i<vs.length:=by lia
 have z:=f i vs[i] p (by simp [h1]) (by simp [hi,e2])
 exact ⟨z.canon,z.bot hq,_,z⟩
theorem d9.nums{r:Addr}(h:d9 B H q r cR)(hq:aS q):∀ps∈cR,∀p∈ps,Canon q p/\cW q p.2/\∃v,aw B H q v p.1 p.2:=λps hp=>by obtain ⟨x,hx⟩:=h.each ps hp;exact hx.nums hq
theorem HY{x m a b:Int}(l:cb x m)(e:x*b=a*m):m∣b:=by
 have h:m∣x*b:=⟨a,by rw [e,eE]⟩
 have g:Int.gcd m x=1:=by rw [Int.gcd_comm];exact l.g_
 have h2:m.natAbs∣x.natAbs*b.natAbs:=by rw [<-cS];exact Cp.mpr h
 exact Cp.mp (Nat.Coprime.dvd_of_dvd_mul_left g h2)
end My
namespace L2
open PySem PySem.Spec PyProof.Rows
section
variable {X:Cx}
end
end L2
namespace My
open PySem L2
end My
namespace L2
open PySem PySem.Spec PyProof.Rows
end L2
namespace My
open PySem L2
theorem jB{wi:TI}{ρ:St->St}{te:TE}{σ:St}{H:Hp}{Q:VK}{xs:List V}{n:Nat}(hl:xs.length=n)(kf:∀R:It->Hp->Prop,(∀J H1,af H H1->qb J xs H1->R J H1)->wi σ H R)(hn:n<sizeLine)
  (P:Addr->Nat->Addr->Hp->Prop) (mono:∀D i y H H' ys,P D i y H->y≠D->H D=some (.lst ys)->(∀b o,b≠D->H b=some o->H' b=some o)->P D i y H')
  (step:∀D (i:Nat) (x:V),xs[i]?=some x->∀(Hc:Hp) (R:VK),af H Hc->(∃ys,Hc D=some (.lst ys))->(∀y H3,af Hc H3->Hc y=none->(∃o,H3 y=some o)->P D i y H3->R (.ref y) H3)->te (some x::ρ σ) Hc R)
  (fin:∀D (A:Nat->Addr) Hc,H D=none->af H Hc->(∀i j,i<n->j<n->A i=A j->i=j)->(∀i,i<n->P D i (A i) Hc/\A i≠D)->Hc D=some (.lst ((List.range n).map λi=>V.ref (A i)))->Q (.ref D) Hc):j8 wi ρ (λ_ H Q=>Q true H) te σ H Q:=by
 refine kf _ λJ H1 s1 js=>?_;intro D nD;have hD:H D=none:=by
  cases e:H D with
  | none=>rfl
  | some o=>rw [s1 _ _ e] at nD;cases nD
 refine (ad (λi m ys Hc=>m=n-i/\i<=n/\Hc D=some (.lst ys)/\af H1 Hc/\∃A:Nat->Addr,ys=(List.range i).map (λj=>V.ref (A j))/\(∀a b,a<i->b<i->A a=A b->a=b)/\∀j,j<i->P D j (A j) Hc/\A j≠D/\∃o,Hc (A j)=some o) ⟨_,rfl,cG _,au,iM (af.refl H1) nD,λ_=>D,rfl,(λa b h=>by lia),λj h=>by lia⟩ ?_)
 intro i m ys Hc;intros bv23 _ rfl hi eD sH A rfl inj hA;refine ⟨eD,?_⟩;by_cases cm:i<n
 ·refine .inr ⟨js.go i Hc sH ⋯,λx H' hy=>?_⟩
  obtain ⟨rfl,hx⟩:=js.fc i Hc x H' sH hy;rw [aq rfl];refine step D i x (hx ⋯) _ _ (s1.trans sH) ⟨_,eD⟩ λy H3 s3 ny ⟨o,ho⟩ hp=>?_
  have e3:=s3 _ _ eD;have yD:y≠D:=λe=>by rw [e,eD] at ny;cases ny
  have bE:∀b o,b≠D->H3 b=some o->upd H3 D (.lst ((List.range i).map (λj=>V.ref (A j))++[.ref y])) b=some o:=λb o nb e=>by rw [aH nb];exact e
  have nA:∀j,j<i->A j≠y:=λj hj e=>by obtain ⟨_,_,o',h'⟩:=hA j hj;rw [e,ny] at h';cases h'
  refine ⟨e3,by simp;lia,n-(i+1),⋯,rfl,cm,au,iM (sH.trans s3) nD,λj=>if j=i then y else A j,?_,λa b ha hb e=>?_,λj hj=>?_⟩
  ·rw [kD,kG]
   congr 1
   ·refine gU λj hj=>?_
    dsimp only;rw [az (by have:=dA.mp hj;lia)]
   ·simp
  ·dsimp only at e
   by_cases z1:a=i
   ·by_cases z2:b=i
    ·lia
    ·rw [aq z1,az z2] at e
     exact absurd e.symm (nA b ⋯)
   ·by_cases z2:b=i
    ·rw [az z1,aq z2] at e
     exact absurd e (nA a ⋯)
    ·rw [az z1,az z2] at e
     exact inj a b ⋯ ⋯ e
  ·dsimp only
   by_cases z:j=i
   ·rw [aq z,z]
    exact ⟨mono D i y H3 _ _ hp yD e3 bE,yD,o,bE _ _ yD ho⟩
   ·rw [az z]
    obtain ⟨h1,h2,o',h3⟩:=hA j ⋯
    exact ⟨mono D j (A j) H' _ _ h1 h2 eD (λb o nb e=>bE b o nb (s3 _ _ e)),h2,o',bE _ _ h2 (s3 _ _ h3)⟩
 ·have e:i=n:=by lia
  subst e;exact .inl ⟨js.stop _ Hc sH ⋯,fin D A Hc hD (s1.trans sH) inj (λj hj=>⟨(hA j hj).1,(hA j hj).2.1⟩) eD⟩
open PySem PySem.W PyProof.Rows
section
variable {n:Nat} {c:Nat->Int}
end
end My
namespace Tm
open PySem PySem.W PyProof.Rows
section
variable {prog:Program} {w:World} {A:Around} {E:aX} {s:Shared} {κ:SortKind} {key:Keyed->Int} {Ok:Keyed->Prop}
end
section
variable {prog:Program} {w:World} {A:Around} {E:aX} {s:Shared} {κ:SortKind} {key:Keyed->Int} {Ok:Keyed->Prop}
section
end
end
section
variable {key:Keyed->Int}
end
section
variable {prog:Program} {w:World} {A:Around} {E:aX} {s:Shared} {κ:SortKind} {key:Keyed->Int} {Ok:Keyed->Prop}
end
section
variable {prog:Program} {w:World} {A:Around} {E:aX} {s:Shared} {κ:SortKind} {key:Keyed->Int} {Ok:Keyed->Prop}
variable {arr:Array Keyed} {pend:Array (Nat×Nat×Nat)} {g:Nat}
end
section
variable {prog:Program} {w:World} {A:Around} {E:aX} {s:Shared} {κ:SortKind} {key:Keyed->Int} {Ok:Keyed->Prop} {arr:Array Keyed} {pend:Array (Nat×Nat×Nat)} {g:Nat}
end
section
variable {prog:Program} {w:World} {A:Around} {E:aX} {s:Shared} {κ:SortKind} {key:Keyed->Int} {Ok:Keyed->Prop} {arr:Array Keyed} {pend:Array (Nat×Nat×Nat)} {g:Nat}
end
section
variable {prog:Program} {w:World} {A:Around} {E:aX} {s:Shared} {κ:SortKind} {key:Keyed->Int} {Ok:Keyed->Prop} {arr:Array Keyed} {pend:Array (Nat×Nat×Nat)} {g:Nat}
end
section
variable {key:Keyed->Int} {arr amr:Array Keyed}
end
section
variable {prog:Program} {w:World} {A:Around} {E:aX} {s:Shared} {κ:SortKind} {key:Keyed->Int} {Ok:Keyed->Prop} {arr:Array Keyed} {pend:Array (Nat×Nat×Nat)} {g:Nat}
end
end Tm
namespace My
open PySem PySem.W PyProof.Rows Tm
section
variable {prog:Program} {w:World} {A:Around} {E:aX} {s:Shared}
end
open PySem PySem.W PyProof.Rows
section
variable {prog:Program} {w:World} {A:Around} {E:aX} {s:Shared}
end
end My
namespace L2
open PySem PySem.W PyProof.Rows My
end L2
namespace My
open PySem L2
def eS(H:Hp)(vs:List V)(L:bR):Prop:=vs.length=L.length/\∀(k:Nat) (v:V) (p:Int×Int),vs[k]?=some v->L[k]?=some p->∃b,v=.ref b/\H b=some (.tup [.int p.1,.int p.2])
theorem eS.nil(H:Hp):eS H [] []:=⟨rfl,λk v p h=>by simp at h⟩
variable {H H':Hp} {L:bR}
theorem eS.mono{vs:List V}(h:eS H vs L)(s:af H H'):eS H' vs L:=⟨h.1,λk v p h1 h2=>by obtain ⟨b,e,g⟩:=h.2 k v p h1 h2;exact ⟨b,e,s _ _ g⟩⟩
variable {xs:List V}
theorem eS.bE{vs:List V}{r:Addr}(h:eS H vs L)(e:H r=some (.lst xs))(k:∀b o,b≠r->H b=some o->H' b=some o):eS H' vs L:=⟨h.1,λi v p h1 h2=>by obtain ⟨b,eb,g⟩:=h.2 i v p h1 h2;refine ⟨b,eb,k b _ (λz=>?_) g⟩;rw [z,e] at g;cases g⟩
def H_(H:Hp)(t:Addr)(n:Nat)(L:bR):Prop:=∃(lt:Addr) (us:List V),H t=some (.tup [.int (n:Int),.ref lt])/\H lt=some (.tup us)/\eS H us L
theorem eS.cat{us zs:List V}{M:bR}(h:eS H us L)(g:eS H zs M):eS H (us++zs) (L++M):=⟨by simp [h.1,g.1],λk v p h1 h2=>by
 have hl:=h.1;by_cases z:k<us.length
 ·rw [oj z] at h1
  rw [oj ⋯] at h2
  exact h.2 k v p h1 h2
 ·rw [oi ⋯] at h1
  rw [oi ⋯,show k-L.length=k-us.length by lia] at h2
  exact g.2 _ v p h1 h2⟩
variable {K:aE}
theorem Oh{X:Cx}(hu:X.A.units<cLine)(hK:X.K=K:=by rfl):cC X (compareOp .NotEq) (C_ K):=by subst hK;exact Dc hu
theorem Oi{B B':Nat}{q:Int}{v u:V}{x m:Int}{R:VK}(hv:aw B H q v x m)(hu:aw B' H q u 0 1)(k:R (.bl (!decide (x=0))) H):C_ K v u H R:=by
 cases hv with
 | aU e l bx bm=>
  cases hu with
  | aU e' l' _ _=>
   refine .inl (sw _ _ _ _ rfl rfl (.of e) (.of e') rfl rfl ?_);have z:(iL [V.int x,V.int m] [V.int 0,V.int 1])=decide (x=0):=by
    show ((x == 0) && ((m == 1) && true))=_;by_cases hx:x=0
    ·subst hx
     have:=l.g_;rw [Int.gcd_zero_left] at this;have:=l.pos;have:m=1:=by lia
     subst this;rfl
    ·rw [cZ hx,show (x == 0)=false by simp [hx],Bool.false_and]
   rw [z];simpa using k
  | rem h0 h1 _=>lia
 | rem h0 h1 h2=>
  cases hu with
  | aU _ _ _ _=>lia
  | rem _ _ _=>
   refine .inr ⟨rfl,?_⟩;rw [show decide (V.int x=V.int 0)=decide (x=0) by simp]
   exact k
theorem Oj{wi:TI}{ρ:St->St}{tt:TT}{te:TE}{σ:St}{Q:VK}(pr:Nat->Bool)(kf:∀R:It->Hp->Prop,(∀J,qb J xs H->R J H)->wi σ H R)(hn:xs.length<sizeLine)
  (P:Addr->Nat->V->Hp->Prop) (mono:∀D i y H H' ys,P D i y H->H D=some (.lst ys)->(∀b o,b≠D->H b=some o->H' b=some o)->P D i y H')
  (test:∀(i:Nat) (x:V),xs[i]?=some x->∀(Hc:Hp) (R:Bool->Hp->Prop),af H Hc->R (pr i) Hc->tt (some x::ρ σ) Hc R)
  (step:∀D (i:Nat) (x:V),xs[i]?=some x->∀(Hc:Hp) (R:VK),af H Hc->(∃ys,Hc D=some (.lst ys))->(∀y H3,af Hc H3->P D i y H3->R y H3)->te (some x::ρ σ) Hc R)
  (fin:∀D ys Hc,H D=none->af H Hc->ys.length=((List.range xs.length).filter pr).length->(∀(k i:Nat) (y:V),ys[k]?=some y->((List.range xs.length).filter pr)[k]?=some i->P D i y Hc)->Hc D=some (.lst ys)->Q (.ref D) Hc):j8 wi ρ tt te σ H Q:=by
 refine kf _ λJ js=>?_;intro D nD;refine (ad (λi m ys Hc=>m=xs.length-i/\i<=xs.length/\Hc D=some (.lst ys)/\af H Hc/\ys.length=((List.range i).filter pr).length/\∀(k i':Nat) (y:V),ys[k]?=some y->((List.range i).filter pr)[k]?=some i'->P D i' y Hc) (o0 _ rfl (cG _) au ⟨iM (af.refl H) nD,rfl,λk i y h=>by simp at h⟩) ?_)
 rintro i m ys Hc ⟨rfl,hi,eD,sH,ly,hP⟩;refine ⟨eD,?_⟩;by_cases cm:i<xs.length
 ·refine .inr ⟨js.go i Hc sH cm,λx H' hy=>?_⟩
  obtain ⟨rfl,hx⟩:=js.fc i Hc x H' sH hy;refine test i x (hx cm) _ _ sH ?_;have fs:(List.range (i+1)).filter pr=(List.range i).filter pr++(if pr i=true then [i] else []):=by
   rw [kD,List.filter_append]
   congr 1
   cases e:pr i <;> simp [e]
  have fl:((List.range i).filter pr).length<=i:=aM (Gw _ _) (by simp)
  cases e:pr i with
  | true=>
   rw [aq rfl];refine step D i x (hx cm) _ _ sH ⟨_,eD⟩ λy H3 s3 hp=>?_;have e3:=s3 _ _ eD;have bE:∀b o,b≠D->H3 b=some o->upd H3 D (.lst (ys++[y])) b=some o:=λb o nb e=>by rw [aH nb];exact e
   refine ⟨e3,⋯,xs.length-(i+1),⋯,rfl,cm,au,iM (sH.trans s3) nD,?_,λk i' y' h1 h2=>?_⟩
   ·rw [fs,e,aq rfl,dD,dD,ly]
    rfl
   ·rw [fs,e,aq rfl] at h2
    by_cases z:k<ys.length
    ·rw [oj z] at h1
     rw [oj ⋯] at h2
     refine mono D i' y' H' _ ys (hP k i' y' h1 h2) eD λb o nb e=>bE b o nb (s3 _ _ e)
    ·have hk:=(bK.mp h1).1
     rw [dD,Gn] at hk;obtain rfl:k=ys.length:=by lia
     rw [oi (aV _),Ag] at h1;rw [oi ⋯,show ys.length-((List.range i).filter pr).length=0 by lia] at h2
     cases h1;cases h2;exact mono D _ _ H3 _ ys hp e3 bE
  | false=>
   rw [az (by simp)]
   refine (wS (xs.length-(i+1)) ⋯ rfl cm eD sH ?_ (λk i' y' h1 h2=>?_))
   ·rw [fs,e,az (by simp),B_]
    exact ly
   ·rw [fs,e,az (by simp),B_] at h2
    exact hP k i' y' h1 h2
 ·have e:i=xs.length:=by lia
  subst e;exact .inl ⟨js.stop _ Hc sH (aV _),fin D ys Hc nD sH ly hP eD⟩
def nE(n:Nat)(f:Nat->Nat->Bool)(i:Nat):List (Int×Int):=((List.range (n-(i+1))).filter λk=>f i (i+1+k)).map λk=>((i:Int),((i+1+k:Nat):Int))
def gL(n:Nat)(f:Nat->Nat->Bool):Nat->List (Int×Int)
 | 0=>[]
 | i+1=>gL n f i++nE n f i
variable {n i:Nat} {f:Nat->Nat->Bool}
theorem Zt{p:Int×Int}(h:p∈nE n f i):∃j,i<j/\j<n/\f i j=true/\p=((i:Int),(j:Int)):=by obtain ⟨k,hk,rfl⟩:=iF.mp h;obtain ⟨h1,h2⟩:=vI.mp hk;have:=dA.mp h1;exact ⟨i+1+k,⋯,⋯,h2,rfl⟩
theorem Zu{j:Nat}(h1:i<j)(h2:j<n)(h3:f i j=true):((i:Int),(j:Int))∈nE n f i:=by
 refine iF.mpr ⟨j-(i+1),vI.mpr ⟨dA.mpr ⋯,?_⟩,?_⟩
 ·show f i (i+1+(j-(i+1)))=true
  rw [show i+1+(j-(i+1))=j by lia]
  exact h3
 ·rw [show i+1+(j-(i+1))=j by lia]
theorem mem_of{n:Nat}{f:Nat->Nat->Bool}{p:Int×Int}:∀{k:Nat},p∈gL n f k->∃i j,i<k/\i<j/\j<n/\f i j=true/\p=((i:Int),(j:Int))
 | 0,h=>by cases h
 | k+1,h=>by
  rcases mR.mp h with h | h
  ·obtain ⟨i,j,h1,h2⟩:=mem_of h
   exact (ii i j ⋯ h2)
  ·obtain ⟨j,h1⟩:=Zt h
   exact (ii k j ⋯ h1)
theorem Ia{n:Nat}{f:Nat->Nat->Bool}{i j:Nat}(h1:i<j)(h2:j<n)(h3:f i j=true):∀{k:Nat},i<k->((i:Int),(j:Int))∈gL n f k
 | k+1,h=>by
  by_cases z:i=k
  ·subst z
   exact d5 _ (Zu h1 h2 h3)
  ·exact B5 _ (Ia h1 h2 h3 ⋯)
def qi(ag:cT)(i j:Nat):Bool:=!decide (((ag.getD i []).getD j o1).1=0)
def d_(ag:cT)(i j:Nat):Bool:=qi ag i j || qi ag j i
def Zv(C:Addr):Sp:=λvs H Q _=>∃(z a:Addr) (q:Int) (B:Nat) (ag:cT) (n i:Nat),vs=[.ref z,.ref a,.int (i:Int)]/\cP C H z q/\aS q/\d9 B H q a ag/\ag.length=n/\n<=40/\(∀ps∈ag,ps.length=n)/\i<n /\
 ∀(r:Addr) (us:List V) (H':Hp),af H H'->H r=none->H' r=some (.lst us)->eS H' us (nE n (d_ ag) i)->Q (.ref r) H'
def Zw(C N:Addr):Sp:=λvs H Q E=>∃(z a:Addr) (q:Int) (B:Nat) (ag:cT) (m:Nat),vs=[.ref z,.ref a]/\cP C H z q/\aS q/\d9 B H q a ag/\1<=ag.length/\ag.length<=40/\(∀ps∈ag,ps.length=m) /\
 (m≠ag.length->∀H',af H H'->E (.ref N) none H') /\
 (m=ag.length->∀(t:Addr) (H':Hp),af H H'->H t=none->H_ H' t m (gL m (d_ ag) m)->Q (.ref t) H')
end My
namespace L2
open PySem PySem.Spec PyProof.Rows
section
variable {X:Cx} {pins:a7} {σ:St} {H:Hp} {s:Shared}
end
end L2
namespace My
open PySem L2
theorem Zx{q:Int}:(nC q).prime=if q=0 then V.aO else .int q:=by
 unfold nC
 split <;> rfl
end My
namespace L2
open PySem PySem.Spec PyProof.Rows
def Ib(o:Obj):Nat:=match o.data with
 | .dict _ ep=>ep
 | _=>0
def wR(a:Addr)(o:Obj)(ar:List (Key×V)):It:=
 ⟨λi H=>H a=some (.cL o (.dK ar))/\i<ar.length,λi H x H'=>H'=H/\∃kv,ar[i]?=some kv/\x=kV kv.1,λi H=>H a=some (.cL o (.dK ar))/\ar.length<=i⟩
variable {k:Key}
theorem Zy{v:Value}(h:rj k v=true):RelV (kV k) v:=by
 rcases mX h with ⟨i,t,rfl,rfl⟩ | ⟨x,t,rfl,rfl⟩;·exact ⟨t,rfl⟩
 ·exact ⟨t,rfl⟩
theorem Ol{ar:List (Key×V)}{vs:List (Key×Value)}:∀{i:Nat} {kv:Key×V},KV ar vs->ar[i]?=some kv->∃v,vs[i]?=some (kv.1,v)
 | _,_,.nil,h=>by simp at h
 | 0,kv,.cons (b:=b) r _,h=>by simp at h;subst h;obtain ⟨k,v⟩:=b;have e:_=k:=r.1;exact ⟨v,by rw [e];rfl⟩
 | i+1,kv,.cons _ t,h=>by simp at h;obtain ⟨v,e⟩:=Ol t h;exact ⟨v,by simpa using e⟩
section
variable {X:Cx} {pins:a7} {σ:St} {H:Hp} {s:Shared}
theorem Inv.Ic{a:Addr}{o:Obj}{ar:List (Key×V)}(I:Inv X pins σ H s)(h:H a=some (.cL o (.dK ar))):∃vs,KV ar vs/\s.heap.DictAt (ji X.prog X.w) a vs (Ib o):=by obtain ⟨g,_,_,vs,r,o',es,ep,g',c,d,rest⟩:=(show cN X.prog X.w H s.heap a (.cL o (.dK ar)) from I.aB a _ h);rw [g] at g';cases g';refine (sK vs r o es g c ?_ rest);rw [d];unfold Ib;rw [d]
end
variable {P:Program} {w:World}
theorem Zz{K:aE}{tg:Expr}(a it:Addr)(o:Obj)(ar:List (Key×V)):Turn P w K tg (wR a o ar) [it] it (λi h=>h.IsKeyIter it a i ar.length (Ib o)) where
 mem:=by simp
 obj:=λi h st b hb=>by
  have e:b=it:=by simpa using hb
  subst e;intros bv4 st o e c d;exact ⟨o,e,λv z=>by rw [d] at z;cases z⟩
 keep:=λi h h' st k=>by intros bv4 st o e c d;exact (bv o (k it (by simp) o e) c d)
 item:=by
  intro X hP hw hK hc i pins s σ H E I hf st hg;subst hP hw hK;obtain ⟨eH,hi⟩:=hg;obtain ⟨vs,r,hm⟩:=I.Ic eH;have lr:ar.length=vs.length:=Paired.length r;have ek:ar[i]?=some ar[i]:=by simp [hi]
  obtain ⟨v,ev⟩:=Ol r ek;obtain ⟨f0,f1,f2,f3,f4,f5⟩:=hf it (by simp)
  rw [lr] at st;refine wpAny_pyNext_dict_item st hm ev λkey h' hk iZ sb=>?_;have I1:Inv X pins σ H {s with heap:=h'}:=I.turned (t':=s.toks) (λb o hb e=>(sb.2 b hb).trans e) f0 f1 f3 f4 f5;obtain ⟨o',e,c,d⟩:=id iZ;rw [<-lr] at iZ;exact (ad key rfl (Ax (s:={s with heap:=h'}) e c d ∅ (sB (kV ar[i].1) H I1 (Zy hk) (ib rfl _ ek rfl) iZ (λb hb=>(hf b hb).1))))
 done:=by
  intro X hP hw hK hc i pins s σ H E I hf st hg;subst hP hw hK;obtain ⟨eH,hi⟩:=hg;obtain ⟨vs,r,hm⟩:=I.Ic eH;have lr:ar.length=vs.length:=Paired.length r;obtain ⟨f0,f1,f2,f3,f4,f5⟩:=hf it (by simp)
  rw [lr] at st;exact wpAny_pyNext_dict_end (I.ok.hd hc) st hm (by simp;lia) λh' eb=>⟨rfl,I.turned (t':=s.toks) (λb o hb e=>eb b o hb e) f0 f1 f3 f4 f5⟩
 self:=λ_ _ _ _ _ st h=>wpAny_pyIter_keyiter st h
section
variable {X:Cx} {tg:Expr}
def ZA(tl:TE):TI:=λσ H R=>tl σ H λx H1=>∃a ar,x=.ref a/\((H1 a=some (.dK ar)/\∀o,R (wR a o ar) (upd H1 a (.cL o (.dK ar))))\/∃o,H1 a=some (.cL o (.dK ar))/\R (wR a o ar) H1)
theorem ZC{l:Expr}{tl:TE}(hl:PE X l tl):PI X tg l (ZA tl):=by
 intro pins s σ H R I h;refine aT (hl pins s σ H _ I h) λv s1 ⟨x,H1,I1,r1,q1⟩=>?_;intros bv3 q1 a ar e q;subst e;cases r1;have main:∀{H2:Hp} {o:Obj},Inv X pins σ H2 s1->H2 a=some (.cL o (.dK ar))->R (wR a o ar) H2->wpAny (model X.prog X.w) X.A (pyIter (.ref a)) (CH X pins σ tg R) X.xe s1:=fun{H2 o} I2 eH q=>by
  obtain ⟨vs,r,hm⟩:=I2.Ic eH;obtain ⟨_,_,sys,_⟩:=(show cN X.prog X.w H2 s1.heap a (.cL o (.dK ar)) from I2.aB a _ eH);have lr:ar.length=vs.length:=Paired.length r;refine wpAny_pyIter_dict sys hm ?_;refine ⟨s1.heap.objs.size,[s1.heap.objs.size],_,_,H2,rfl,I2.kept (t':=s1.toks) λb o e=>cx _ e,Zz a _ o ar,(bv _ (fN _ rfl) rfl (by rw [lr];rfl)),λb hb=>?_,q⟩
  have e:b=s1.heap.objs.size:=by simpa using hb
  subst e;exact I2.rH (aV _) (I2.aB.fresh (aV _))
 rcases q with ⟨eH,q⟩ | ⟨o,eH,q⟩
 ·obtain ⟨hz,sys,vs,r,o,es,ep,g,c,d,rest⟩:=(show cN X.prog X.w H1 s1.heap a (.dK ar) from I1.aB a _ eH)
  refine main (H2:=upd H1 a (.cL o (.dK ar))) ?_ au (q o);exact I1.write (t':=s1.toks) (x:=a) (e:=a) (by rw [eH];exact trivial) (.inl rfl) (λb u _ e=>e) ⟨o,g⟩ ⟨g,hz,sys,vs,r,o,es,ep,g,c,d,rest⟩
 ·exact main I1 eH q
end
section
variable (P:Program) (w:World)
end
section
variable {P:Program} {w:World} {H H':Hp} {h h':Heap} {a:Addr} {o:HO}
end
section
variable {P:Program} {w:World} {H:Hp} {h h':Heap} {x e:Addr} {o':HO}
end
section
variable {fs GB ex jS:List Addr} {H H1 H2:Hp} {h h1 h2 h':Heap} {a x e:Addr} {o:HO}
end
section
variable {X:Cx} {pins:a7} {σ:List (Option V)} {H H':Hp} {s:Shared} {h':Heap}
end
section
variable {X:Cx}
variable {a b:Expr} {ta tb:TE} {pos:Pos}
variable {tA Aq:TT} {rest:List Expr}
end
section
variable {X:Cx} {pins:a7} {σ:St} {H:Hp} {s:Shared} {a:Addr} {xs ys:List V}
end
section
variable {X:Cx} {pins:a7} {σ:St} {H:Hp} {s:Shared} {E:aX}
end
section
variable {X:Cx} {st:Stmt} {rest:List Stmt} {t u:TS} {e:Expr} {te:TE} {pos:Pos}
end
section
variable {X:Cx} {pos:Pos}
end
section
variable {X:Cx} {pos:Pos}
end
section
variable {X:Cx} {tg:Expr}
end
section
variable {X:Cx} {a b c:Expr} {ta tb tc:TE} {pos:Pos}
end
section
variable {X:Cx} {a b c:Expr} {ta tb tc:TE} {pos:Pos}
end
section
variable {prog:Program} {w:World} {A:Around} {E:aX} {s:Shared} {K:aE} {x dx C f:Addr} {mA:cU} {name:Str} {v:Value}
end
section
variable {P:Program} {w:World} {H H':Hp} {h h':Heap} {a C dx:Addr} {fs GB:List (Str×V)}
end
section
variable {X:Cx} {pins:a7} {σ:St} {H:Hp} {s:Shared} {a C dx:Addr} {fs:List (Str×V)} {f:Str} {v:V} {A:Around} {E:aX}
end
section
variable {X:Cx} {o e value:Expr} {f:Str} {pos pos' wj:Pos} {ta tv:TE}
end
section
variable {X:Cx} {pins:a7} {σ:St} {H:Hp} {s:Shared} {A:Around} {E:aX} {Q:aX} {c:Value} {b:Bool}
end
section
variable {X:Cx} {e:Expr} {es:List Expr} {te:TE} {t:TA} {pos:Pos}
end
section
variable {X:Cx} {pins:a7} {σ:St} {H:Hp} {s s':Shared}
end
section
variable {X:Cx} {CX:iJ} {k:Nat} {f C:Addr} {fd:FuncData} {ps:List Str} {sp:Sp} {dG:List V} {ds:List Value} {E:XK} {x m:Str} {p pos apos:Pos} {e o:Expr} {es:List Expr} {ta:TE} {t:TA}
end
section
variable {X:Cx} {CX:iJ} {k:Nat} {f C:Addr} {fd:FuncData} {ps ks:List Str} {sp:Sp} {E:XK} {x m:Str} {p pos apos MQ:Pos} {e o:Expr} {es:List Expr} {Wl:List Keyword} {te ta:TE} {t tk:TA} {nm:Option Str}
variable {g:List Value->List Value->List Value} {gV:List V->List V->List V}
end
section
variable {X:Cx} {x:Str} {p pos:Pos} {e:Expr} {es:List Expr} {t:TA} {id T:String} {r:List V->Hp->VK->Prop}
end
section
variable {κ:Type} [DecidableEq κ]
def sr(ar:List (κ×V))(k:κ):Option V:=(ar.find? λkv=>decide (kv.1=k)).map (·.2)
def putK(ar:List (κ×V))(k:κ)(v:V):List (κ×V):=
 if (ar.any λkv=>decide (kv.1=k))=true then ar.map (λkv=>if kv.1=k then (kv.1,v) else kv) else ar++[(k,v)]
variable {p:κ×V}
theorem Om{r:List (κ×V)}{k:κ}(e:p.1=k):sr (p::r) k=some p.2:=by simp [sr,Cr,e]
theorem Oo{r:List (κ×V)}{k:κ}(e:¬p.1=k):sr (p::r) k=sr r k:=by simp [sr,Cr,e]
theorem Oq(k:κ):∀ar:List (κ×V),(ar.any λkv=>decide (kv.1=k))=(sr ar k).isSome
 | []=>rfl
 | p::r=>by
  rw [Ah];by_cases e:p.1=k;·simp only [Om e,cK e,Bool.true_or,Option.isSome_some]
  ·rw [Oo e,cZ e,vP];exact Oq k r
theorem Ot(ar:List (κ×V))(k:κ)(v:V):(putK ar k v).length<=ar.length+1:=by
 unfold putK
 split
 ·rw [aR];lia
 ·rw [dD,fO,List.length_nil];lia
theorem jR.ZD{o:Option V}{u:Option Value}(r:jR o u):o.isSome=u.isSome:=by
 cases o with
 | none=>cases u with
  | none=>rfl
  | some _=>exact (show False from r).elim
 | some _=>cases u with
  | none=>exact (show False from r).elim
  | some _=>rfl
variable {ar:List (κ×V)}
theorem KV.any{vs:List (κ×Value)}(r:KV ar vs)(k:κ):(ar.any λkv=>decide (kv.1=k))=vs.any λkv=>decide (kv.1=k):=by
 unfold KV at r
 induction r with
 | nil=>rfl
 | cons h t ih=>rw [Ah,Ah,ih,h.1]
variable {y:V} {u:Value}
theorem KV.Ie{vs:List (κ×Value)}(r:KV ar vs)(k:κ)(ry:RelV y u) :
  KV (ar.map λkv=>if kv.1=k then (kv.1,y) else kv) (vs.map λkv=>if kv.1=k then (kv.1,u) else kv):=by
 unfold KV at r ⊢
 induction r with
 | nil=>exact .nil
 | @cons p q ps qs h t ih=>
  rw [ky,ky];refine .cons ?_ ih;obtain ⟨h1,h2⟩:=h;by_cases e:p.1=k;·rw [aq e,aq (h1.symm.trans e)];exact ⟨h1,ry⟩
  ·rw [az e,az (λz=>e (h1.trans z))];exact ⟨h1,h2⟩
theorem KV.put{vs:List (κ×Value)}(r:KV ar vs)(k:κ)(ry:RelV y u):KV (putK ar k y) (stored vs k u):=by
 unfold putK stored;rw [r.any k];by_cases e:(vs.any λkv=>decide (kv.1=k))=true;·rw [aq e,aq e];exact r.Ie k ry
 ·rw [az e,az e];exact Paired.snoc r ⟨rfl,ry⟩
theorem KV.length{vs:List (κ×Value)}(r:KV ar vs):ar.length=vs.length:=Paired.length r
end
variable {u:Value}
theorem Ou(r:RelV (kV k) u):(ji P w).is k u=true:=by
 cases k with
 | inl i=>obtain ⟨t,e⟩:=(show ∃t,u=Value.int i t from r);subst e;exact UT P w i t
 | inr x=>obtain ⟨t,e⟩:=(show ∃t,u=Value.str x t from r);subst e;exact UU P w x t
theorem Ov{P:Program}{w:World}:∀{ks:List Key} {us:List Value},Vals (ks.map kV) us->ItemsAre (ji P w) ks us
 | [],_,r=>by rw [List.map_nil] at r;cases r;exact .nil
 | k::ks,_,r=>by
  rw [ky] at r;cases r with
  | cons h t=>exact .cons (Ou h) (Ov t)
abbrev KT (H:Hp):List (List Key×V)->List (List Key×Addr×Value)->Prop:=Paired λp q=>p.1=q.1/\H q.2.1=some (.tup (p.1.map kV))/\RelV p.2 q.2.2
variable {H:Hp} {ar:List (List Key×V)} {xs:List (List Key×Addr×Value)}
theorem KT.val(r:KT H ar xs)(k:List Key):jR (sr ar k) ((atKey xs k).map (·.2)):=by
 induction r with
 | nil=>exact True.intro
 | @cons p q ps qs h t ih=>
  obtain ⟨h1,_,h2⟩:=h;by_cases e:p.1=k
  ·have e':q.1=k:=h1.symm.trans e
   have b:atKey (q::qs) k=some q.2:=by simp [atKey,Cr,e']
   rw [Om e,b];exact h2
  ·have e':¬q.1=k:=λz=>e (h1.trans z)
   have b:atKey (q::qs) k=atKey qs k:=by simp [atKey,Cr,e']
   rw [Oo e,b];exact ih
variable {y:V}
theorem KT.Ie(r:KT H ar xs)(k:List Key)(ry:RelV y u) :
  KT H (ar.map λkv=>if kv.1=k then (kv.1,y) else kv) (xs.map (putAt k u)):=by
 induction r with
 | nil=>exact .nil
 | @cons p q ps qs h t ih=>
  rw [ky,ky];refine .cons ?_ ih;obtain ⟨h1,h2,h3⟩:=h;unfold putAt;by_cases e:p.1=k;·rw [aq e,aq (h1.symm.trans e)];exact ⟨h1,h2,ry⟩
  ·rw [az e,az (λz=>e (h1.trans z))];exact ⟨h1,h2,h3⟩
theorem KT.put(r:KT H ar xs)(k:List Key){b:Addr}(hb:H b=some (.tup (k.map kV)))(ry:RelV y u) :
  KT H (putK ar k y) (storedH xs k b u):=by
 have e:(ar.any λkv=>decide (kv.1=k))=(atKey xs k).isSome:=by rw [Oq,(r.val k).ZD,Option.isSome_map]
 unfold putK storedH;rw [e];by_cases q:(atKey xs k).isSome=true;·rw [aq q,aq q];exact r.Ie k ry
 ·rw [az q,az q];exact Paired.snoc r ⟨rfl,hb,ry⟩
theorem KT.keeps{H':Hp}(r:KT H ar xs)(ht:∀b ys,H b=some (.tup ys)->H' b=some (.tup ys)):KT H' ar xs:=
 Paired.GA r λ_ _ z=>⟨z.1,ht _ _ z.2.1,z.2.2⟩
section
variable {P:Program} {w:World} {H:Hp} {h:Heap} {a:Addr}
theorem Ow{u:HO}(ok:cq P w H h)(e:Rd H a u):cN P w H h a u:=e.ok ok
theorem ZE{ar:List (Key×V)}(ok:cq P w H h)(e:Rd H a (.dK ar)):ar.length<=sizeLine/\(a == sysModules)=false/\∃vs,KV ar vs/\h.DictOf (ji P w) a vs:=
 show cN P w H h a (.dK ar) from Ow ok e
theorem ZF{ar:List (Key×V)}(ok:cq P w H h)(e:H a=some (.dK ar)):ar.length<=sizeLine/\(a == sysModules)=false/\∃vs,KV ar vs/\h.DictOf (ji P w) a vs:=ZE ok (.inl e)
theorem Ox{ks:List Key}(ok:cq P w H h)(e:H a=some (.tup (ks.map kV))):(tupleKind (ji P w)).is h ks a:=by obtain ⟨_,ai,r,o,h1,h2,n,h3⟩:=(show cN P w H h a (.tup (ks.map kV)) from ok a _ e);exact (re o ai.toArray n h1 h2 h3 (by simpa using Ov r))
theorem ZG(ok:cq P w H h)(e:Rd H a (.dT ar)):ar.length<=sizeLine/\(a == sysModules)=false /\
  ∃xs,KT H ar xs/\h.DictOfH (tupleKind (ji P w)) a xs:=by
 have q'71:=(show cN P w H h a (.dT ar) from Ow ok e);intros bv13 q'71 z y xs r o bv21 es ep h1 h2 h3 h4 h5;refine ⟨z,y,xs,r,o,es,ep,h1,h2,h3,h4,λx hx=>?_,h5⟩;have all:∀{l:List (List Key×V)} {m:List (List Key×Addr×Value)},KT H l m->∀x∈m,(tupleKind (ji P w)).is h x.1 x.2.1:=by
  intro l m q
  induction q with
  | nil=>intro x hx;exact nomatch hx
  | @cons p q ps qs hq t ih=>
   intro x hx;rcases dB.mp hx with e | hx
   ·subst e
    exact Ox ok (by rw [<-hq.1];exact hq.2.1)
   ·exact ih x hx
 exact all r x hx
theorem ZH(ok:cq P w H h)(e:H a=some (.dT ar)):ar.length<=sizeLine/\(a == sysModules)=false /\
  ∃xs,KT H ar xs/\h.DictOfH (tupleKind (ji P w)) a xs:=ZG ok (.inl e)
end
def Ig(H:Hp)(a:Addr)(y v:V)(H':Hp):Prop:=
 (∃ar k,H a=some (.dK ar)/\y=kV k/\ar.length<sizeLine/\H'=upd H a (.dK (putK ar k v))) \/
 ∃ar k b,H a=some (.dT ar)/\y=.ref b/\H b=some (.tup (k.map kV))/\ar.length<sizeLine/\H'=upd H a (.dT (putK ar k v))
section
variable {X:Cx} {pins:a7} {σ:St} {H:Hp} {s:Shared} {a:Addr} {y v:V} {u r:Value} {o:Option V} {A:Around} {E:aX}
theorem Inv.big(I:Inv X pins σ H s):sysModules<s.heap.objs.size:=by have h:mainGlobals<s.heap.objs.size:=(I.mod.glob.keeps I.bk).lt;exact Nat.lt_trans ∅ h
variable {h':Heap}
theorem Oy{t':Nat}{ob:HO}(I:Inv X pins σ H s)(mu:Ao (H a))(hs:Heap.SameBut a s.heap h')(he:∃q,h'.get? a=some q)(new:cN X.prog X.w (upd H a ob) h' a ob) :
  Inv X pins σ (upd H a ob) {s with heap:=h',toks:=t'}:=
 I.write (x:=a) (e:=a) mu (.inl rfl) (λb q hb z=>(hs.2 b hb).trans z) he new
variable {H':Hp}
theorem ZI{ar:List (Key×V)}{vs:List (Key×Value)}(z:ar.length<=sizeLine)(hd:(a == sysModules)=false)(rel:KV ar vs)(dd:h'.DictOf (ji P w) a vs) :
  cN P w H' h' a (.dK ar):=⟨z,hd,vs,rel,dd⟩
theorem ZJ{Q:Unit->Shared->Prop}(hu:A.units+1<cLine)(I:Inv X pins σ H s)(g:Ig H a y v H')(ry:RelV y u)(rv:RelV v r)(h:∀s',Inv X pins σ H' s'->Q () s') :
  wpAny (model X.prog X.w) A (setItem (.ref a) u r) Q E s:=by
 rcases g with ⟨ar,k,e,ey,l,eH⟩ | ⟨ar,k,b,e,ey,eb,l,eH⟩
 ·subst ey eH
  obtain ⟨z,hd,vs,rel,dd⟩:=ZF I.aB e;have hz:vs.length<=sizeLine:=by rw [<-rel.length];exact z
  have hl:(putK ar k v).length<=sizeLine:=by have:=Ot ar k v;lia
  refine wpAny_setItem_pairs (hsz:=hz) (Ou ry) dd λh' rV hs=>h _ ?_;have he:∃q,h'.get? a=some q:=let ⟨q,_,_,hq,_⟩:=rV;⟨q,hq⟩
  exact Oy I (by rw [e];exact True.intro) hs he (ZI hl hd (rel.put k rv) rV)
 ·subst ey eH
  cases (show u=Value.ref b from ry);obtain ⟨z,hd,xs,rel,dd⟩:=ZH I.aB e;have hz:xs.length<=sizeLine:=by rw [<-Paired.length rel];exact z
  have hl:(putK ar k v).length<=sizeLine:=by have:=Ot ar k v;lia
  refine wpAny_setItem_heap (hsz:=hz) (tupleKind_room_in1 hu) (Ox I.aB eb) dd λh' rV hs=>h _ ?_;intros bv27 rV q es ep hq h2 h3 h4 _ h5;refine Oy I (by rw [e];exact True.intro) hs ⟨q,hq⟩ ⟨hl,hd,_,(rel.put k eb rv).keeps λc ys ec=>?_,q,es,ep,hq,h2,h3,h4,h5⟩
  rw [aH (UW ec e (λz=>nomatch z))];exact ec
end
section
variable {X:Cx} {pins:a7} {σ:St} {H:Hp} {s:Shared} {a:Addr} {ar:List (Key×V)} {k:Key} {u:Value} {A:Around} {E:aX}
end
def ZK(td ty tv:TE):TS:=λD σ H=>tv σ H λv H1=>td σ H1 λx H2=>ty σ H2 λy H3=>∃a H4,x=.ref a/\Ig H3 a y v H4/\D.nx σ H4
section
variable {X:Cx} {o i e value:Expr} {pos pos' wj:Pos} {td ty tv:TE}
theorem Ih(hu:X.A.units+1<cLine)(ho:PE X o td)(hi:PE X i ty)(hv:PE X value tv)(hs:swapsWith value (some (.Subscript o i pos')) pos.line X.env=pure false) :
  PS X (.Assign [.Subscript o i pos'] value pos) (ZK td ty tv):=by
 intro pins s σ H D I h;refine wpAny_Assign_Subscript (aT (hv pins s σ H _ I h) λr s1 ⟨v,H1,I1,rv,q1⟩=>aT (ho pins s1 σ H1 _ I1 q1) λu s2 ⟨x,H2,I2,rx,q2⟩=>aT (hi pins s2 σ H2 _ I2 q2) λiv s3 ⟨y,H3,I3,ry,a,H4,ex,g,q3⟩=>?_) hs;subst ex;obtain rfl:u=Value.ref a:=rx;exact ZJ hu I3 g ry rv λs4 I4=>(ii σ H4 I4 q3)
end
theorem ZL(h:Heap)(hb:sysModules<h.objs.size):cN P w H (h.push {cls:=.type "dict",data:=.dict #[]}) h.objs.size (.dK []):=
 ⟨cG _,n8.mpr (Ne.symm (dY hb)),[],.nil,Heap.DictOf.new h⟩
def ZM:TE:=λ_ H Q=>∀p,H p=none->Q (.ref p) (upd H p (.dK []))
section
variable {X:Cx} {pos:Pos}
theorem ZN:PE X (.Dict [] [] pos) ZM:=λpins s σ H Q I h=>wpAny_Dict_empty ⟨.ref s.heap.objs.size,_,I.laid (a:=s.heap.objs.size) (o:=.dK []) (t':=s.toks) (λ_ _ q=>cx _ q) (aV _) (ZL s.heap I.big),rfl,h _ (I.aB.fresh (aV _))⟩
end
section
variable {X:Cx} {pins:a7} {σ:St} {H:Hp} {s:Shared} {a:Addr} {y d:V} {u r:Value} {o:Option V} {A:Around} {E:aX}
end
section
variable {X:Cx} {o e f:Expr} {apos gi:Pos} {td ty tx:TE}
end
section
variable {X:Cx} {pins:a7} {σ:St} {H:Hp} {s:Shared} {a:Addr} {ar:List (Key×V)} {A:Around} {E:aX}
end
section
variable {X:Cx} {pins:a7} {σ:St} {H:Hp} {s:Shared} {a:Addr} {y:V} {u:Value} {A:Around} {E:aX}
end
end L2
namespace Att
open PySem PySem.W PySem.Calls PyProof.Rows
section
variable {prog:Program} {w:World} {A:Around} {E:aX} {s:Shared} {K:Frag}
end
end Att
namespace L2
open PySem PySem.Spec PyProof.Rows
section
variable {P:Program} {w:World} {K:aE} {mg:cU} {base:Heap}
end
section
variable {X:Cx}
end
section
variable {κ:Type} [DecidableEq κ]
end
theorem Oz:∀{us:List Value} {ns:List Int},IntsAre us ns->Vals (ns.map V.int) us
 | _,_,.nil=>.nil
 | _,_,.cons a u r=>.cons ⟨u,rfl⟩ (Oz r)
def ZO:List V->Hp->VK->Prop:=λxs H Q=>∃(a:Addr) (zs:List Int),xs=[.ref a]/\H a=some (.lst (zs.map V.int))/\zs.length<64/\∀(ws:List Int) (D:Addr),ws.Perm zs->ws.Pairwise (·<=·)->H D=none->Q (.ref D) (upd H D (.lst (ws.map V.int)))
theorem OA{X:Cx}:gZ X (.builtin "sorted") ZO:=by
 intro pins s σ H xs us Q I r h;intros bv10 h a zs rfl ha h64 k;obtain ⟨u,rfl,ru⟩:=vals1 r;cases ru;obtain ⟨ai,rv,pl,hz⟩:=I.list (.of ha);have hl:=rv.length;rw [aR] at hl;refine sorted_ints pl.isList (intsAre_of rv) ⋯ λout OB a1 a2 a3=>?_
 obtain ⟨e,he⟩:=sortedAll_at s.heap ai out;refine ⟨.ref (s.heap.objs.size+1),_,I.laid (t':=s.toks) (o:=.lst (OB.map .int)) (λ_ _=>sortedAll_old) (og _) ⟨?_,out.toList,e,Oz a1,?_⟩,rfl,k OB _ a2 a3 (I.aB.fresh (og _))⟩
 ·rw [aR,a2.length_eq]
  rw [sizeLine_eq];lia
 ·simpa using he
end L2
namespace My
open PySem L2
def dk(ks:List Nat):List (Key×V):=ks.map λk:Nat=>((Sum.inl (k:Int):Key),V.bl true)
def gz(ks:List Nat)(k:Nat):List Nat:=if k∈ks then ks else ks++[k]
theorem ZP{a b:Nat}:((Sum.inl (a:Int):Key)=Sum.inl (b:Int))↔a=b:=by
 constructor
 ·intro h
  have:=Sum.inl.inj h;lia
 ·rintro rfl;rfl
theorem ZQ(ks:List Nat):(dk ks).length=ks.length:=aR _
theorem ZR(ks:List Nat)(k:Nat):((dk ks).any λkv=>decide (kv.1=(Sum.inl (k:Int):Key)))=decide (k∈ks):=by
 rw [qX,List.any_eq_true,Al];constructor
 ·intros bv2 _ kv h1 h2
  obtain ⟨j,hj,rfl⟩:=iF.mp h1;have:=ZP.mp (fD h2);subst this;exact hj
 ·intro h
  exact ⟨_,iF.mpr (ad k h rfl),cK rfl⟩
theorem ZS(ks:List Nat)(k:Nat):putK (dk ks) (Sum.inl (k:Int):Key) (V.bl true)=dk (gz ks k):=by
 unfold putK gz;rw [ZR];by_cases h:k∈ks
 ·rw [aq (cK h),aq h]
  unfold dk;rw [gW];refine gU λj _=>?_;show (if _ then _ else _)=_
  split <;> rfl
 ·rw [az (by rw [Al];exact h),az h]
  unfold dk;rw [kG];rfl
variable {ks:List Nat} {k j:Nat}
theorem Dq:j∈gz ks k↔j∈ks\/j=k:=by
 unfold gz;by_cases h:k∈ks
 ·rw [aq h]
  constructor;·exact .inl
  ·rintro (e | rfl)
   ·exact e
   ·exact h
 ·rw [az h,mR,jM]
theorem ZT(h:ks.Nodup):(gz ks k).Nodup:=by
 unfold gz;by_cases m:k∈ks;·rw [aq m];exact h
 ·rw [az m]
  refine Cs.mpr ⟨h,(by simp),λa ha b hb=>?_⟩
  rw [jM] at hb;subst hb;rintro rfl;exact m ha
def nF(n:Nat)(ks:List Nat):Prop:=ks.Nodup/\∀k∈ks,k<n
theorem nF.nil(n:Nat):nF n []:=⟨List.nodup_nil,λ_ h=>by cases h⟩
variable {n:Nat}
theorem nF.add(h:nF n ks)(hk:k<n):nF n (gz ks k):=⟨ZT h.1,λj hj=>by
 rcases Dq.mp hj with e | rfl;·exact h.2 j e
 ·exact hk⟩
theorem OC:∀{n:Nat} {ks:List Nat},ks.Nodup->(∀k∈ks,k<n)->ks.length<=n
 | 0,ks,_,h=>by
  cases ks with
  | nil=>exact aV _
  | cons a r=>exact absurd (h a (n_ ..)) (pL _)
 | n+1,ks,nd,h=>by
  have e:=OC (n:=n) (ks:=ks.erase n) (nd.erase n) (λk hk=>by have m:=(List.Nodup.mem_erase_iff nd).mp hk;have:=h k m.2;have:=m.1;lia)
  by_cases hm:n∈ks
  ·have:=List.length_erase_of_mem hm
   lia
  ·rw [List.erase_of_not_mem hm] at e
   lia
theorem nF.len(h:nF n ks):ks.length<=n:=OC h.1 h.2
structure fj (H:Hp) (D:Addr) (n:Nat) (ds:Nat->Addr) (un:Nat->Prop) (f:Nat->List Nat):Prop where
 lst:H D=some (.lst ((List.range n).map λi=>V.ref (ds i)))
 inj:∀i j,i<n->j<n->ds i=ds j->i=j
 ne:∀i,i<n->ds i≠D
 at':∀i,i<n->un i->H (ds i)=some (.dK (dk (f i)))
 pl:∀i,i<n->nF n (f i)
def gM(f:Nat->List Nat)(i:Nat)(ks:List Nat):Nat->List Nat:=λj=>if j=i then ks else f j
variable {H:Hp} {D:Addr} {ds:Nat->Addr} {f:Nat->List Nat} {i:Nat}
theorem fj.put{un:Nat->Prop}(h:fj H D n ds un f)(hi:i<n)(hj:j<n)(ui:un i)(hn:n<=1000) :
  Ig H (ds i) (.int (j:Int)) (.bl true) (upd H (ds i) (.dK (dk (gz (f i) j))))/\fj (upd H (ds i) (.dK (dk (gz (f i) j)))) D n ds un (gM f i (gz (f i) j)):=by
 refine ⟨.inl ⟨dk (f i),Sum.inl (j:Int),h.at' i hi ui,rfl,?_,by rw [ZS]⟩,?_,h.inj,h.ne,λk hk uk=>?_,λk hk=>?_⟩
 ·rw [ZQ]
  have:=(h.pl i hi).len;exact fz this (fz hn (by rw [sizeLine_eq];decide))
 ·rw [aH (Ne.symm (h.ne i hi))]
  exact h.lst
 ·unfold gM
  by_cases e:k=i
  ·subst e
   rw [aq rfl,au]
  ·rw [az e,aH (λz=>e (h.inj k i hk hi z))]
   exact h.at' k hk uk
 ·unfold gM
  by_cases e:k=i;·rw [aq e];exact (h.pl i hi).add hj
  ·rw [az e];exact h.pl k hk
theorem fj.ix{un:Nat->Prop}(h:fj H D n ds un f)(hi:i<n):ir ((List.range n).map λi=>V.ref (ds i)) (i:Int)=some (V.ref (ds i)):=
 kM (by rw [bU,jN hi];rfl)
def Ii(n:Nat)(L:bR):Prop:=∀p∈L,0<=p.1/\p.1<(n:Int)/\0<=p.2/\p.2<(n:Int)
def pe(n:Nat)(L:bR)(f:Nat->List Nat):Prop:=∀i j:Nat,i<n->(j∈f i↔((i:Int),(j:Int))∈L\/((j:Int),(i:Int))∈L)
theorem pe.nil(n:Nat):pe n [] (λ_=>[]):=λi j _=>by simp
theorem pe.more{L:bR}(h:pe n L f)(hi:i<n)(hj:j<n):pe n (L++[((i:Int),(j:Int))]) (gM (gM f i (gz (f i) j)) j (gz (gM f i (gz (f i) j) j) i)):=λa b ha=>by
 have e1:∀x y:Nat,y∈gM f i (gz (f i) j) x↔y∈f x\/(x=i/\y=j):=λx y=>by
  unfold gM;by_cases e:x=i
  ·subst e
   rw [aq rfl,Dq];simp
  ·rw [az e]
   simp [e]
 have e2:b∈gM (gM f i (gz (f i) j)) j (gz (gM f i (gz (f i) j) j) i) a↔b∈gM f i (gz (f i) j) a\/(a=j/\b=i):=by
  unfold gM;by_cases e:a=j
  ·subst e
   rw [aq rfl,Dq];simp
  ·rw [az e]
   simp [e]
 rw [e2,e1,h a b ha];simp only [mR,jM,Prod.mk.injEq];constructor
 ·rintro ((e | e) | ⟨rfl,rfl⟩)
  ·rcases e with e | e
   ·exact .inl (.inl e)
   ·exact .inr (.inl e)
  ·exact .inl (.inr ⟨⋯,⋯⟩)
  ·exact .inr (.inr ⟨rfl,rfl⟩)
 ·rintro ((e | ⟨e1,e2⟩) | (e | ⟨e1,e2⟩))
  ·exact .inl (.inl (.inl e))
  ·exact .inl (.inr ⟨⋯,⋯⟩)
  ·exact .inl (.inl (.inr e))
  ·exact .inr ⟨⋯,⋯⟩
def ZU:Sp:=λvs H Q _=>∃(t:Addr) (n:Nat) (L:bR),vs=[.ref t]/\H_ H t n L/\Ii n L/\n<=1000 /\
 ∀(H':Hp) (D:Addr) (ds:Nat->Addr) (f:Nat->List Nat),af H H'->H D=none->(∀i,i<n->H (ds i)=none)->fj H' D n ds (λ_=>True) f->pe n L f->Q (.ref D) H'
end My
namespace L2
open PySem PySem.Spec PyProof.Rows
def ZV(K:aE):R2:=λx y H Q=>∃(a b:Addr) (xs ys:List Int),x=.ref a/\y=.ref b/\bM K H a (xs.map V.int)/\bM K H b (ys.map V.int)/\Q (.bl (decide (xs=ys))) H
theorem ZW{X:Cx}(hu:X.A.units+64<cLine):cC X (compareOp .Eq) (ZV X.K):=by
 intro pins s σ H x y v u Q I rx ry h;intros bv29 h a b xs ys rfl rfl h1 h2 q;cases rx;cases ry;obtain ⟨us,r1,t1,_⟩:=I.list h1;obtain ⟨vs,r2,t2,_⟩:=I.list h2;have l1:=r1.length;have l2:=r2.length;rw [aR] at l1 l2;by_cases hl:xs.length=ys.length
 ·refine SeqAt.RcAt.lists (e:=λj=>kN (.int (xs.getD j 0)) (.int (ys.getD j 0))) t1.isList t2.isList (by simp;lia) ⋯ (λj z1 z2=>?_) _ _ _ _ ?_
  ·have AR:j<us.length:=by simpa using z1
   have AS:j<vs.length:=by simpa using z2
   have ex:(xs.map V.int)[j]?=some (.int (xs.getD j 0)):=by rw [bU,gE];simp [show j<xs.length by lia]
   have ey:(ys.map V.int)[j]?=some (.int (ys.getD j 0)):=by rw [bU,gE];simp [show j<ys.length by lia]
   obtain ⟨x',jS,rx⟩:=r1.get ex;obtain ⟨y',mv,ry⟩:=r2.get ey;have e1:us.toArray[j]=x':=by simpa using (bK.mp jS).2
   have e2:vs.toArray[j]=y':=by simpa using (bK.mp mv).2
   rw [e1,e2];exact rR rx ry rfl rfl
  ·rw [show us.toArray.size=xs.length by simp;lia,Zm hl]
   exact (bi (.bl (decide (xs=ys))) H I rfl q)
 ·rw [cZ (λe=>hl (by rw [e]))] at q
  refine SeqAt.RcAt.lists_lengths t1.isList t2.isList ?_ ⋯ _ _ _ _ ⟨.bl false,H,I,rfl,q⟩
  simp;lia
end L2
namespace My
open PySem L2
def iN(k:Nat):Int:=(k:Int)
def iA(zs:List Int)(n:Nat):Prop:=zs.Perm ((List.range n).map iN)
instance (zs:List Int) (n:Nat):Decidable (iA zs n):=by unfold iA;exact inferInstance
theorem ZX(n:Nat):((List.range n).map iN).Pairwise (·<=·):=by rw [List.pairwise_map];exact List.Pairwise.imp (λh=>by unfold iN;lia) List.pairwise_lt_range
variable {ws zs:List Int} {n:Nat}
theorem ZY(p:ws.Perm zs)(o:ws.Pairwise (·<=·)):decide (ws=(List.range n).map iN)=decide (iA zs n):=by
 by_cases h:iA zs n
 ·rw [cK h]
  refine cK ?_;exact (p.trans h).eq_of_pairwise (λa b _ _ h1 h2=>by lia) o (ZX n)
 ·rw [cZ h]
  refine cZ λe=>h ?_;subst e;exact p.symm
def ZZ:Sp:=λvs H Q _=>∃(a:Addr) (zs:List Int) (n:Nat),vs=[.ref a,.int (n:Int)]/\H a=some (.lst (zs.map V.int))/\zs.length<64/\n<=1000/\(∀H',af H H'->Q (.bl (decide (iA zs n))) H')
def Z0(N:Addr):Sp:=λvs H Q E=>∃(a:Addr) (zs:List Int) (n:Nat),vs=[.ref a,.int (n:Int)]/\H a=some (.lst (zs.map V.int))/\zs.length<64/\n<=1000 /\
 (¬iA zs n->∀H',af H H'->E (.ref N) none H')/\(iA zs n->∀H',af H H'->Q .aO H')
def Z1(H:Hp)(a:Addr)(n:Nat)(o:List Nat):Prop:=H a=some (.lst (o.map λk:Nat=>V.int (k:Int)))/\o.Perm (List.range n)
def Z2:Sp:=λvs H Q _=>∃(a:Addr) (n:Nat) (o:List Nat),vs=[.ref a]/\Z1 H a n o/\n<=1000 /\
 ∀(r:Addr) (H':Hp),af H H'->H r=none->H' r=some (.lst ((List.range n).map λp=>V.int (o.idxOf p:Int)))->Q (.ref r) H'
variable {H H1:Hp} {D:Addr}
theorem Z3(s:af H H1)(e:H1 D=none):H D=none:=by
 cases z:H D with
 | none=>rfl
 | some o=>rw [s _ _ z] at e;cases e
theorem Dr(s:af H H1){o:HO}(e:H1 D=none):af H (upd H1 D o):=iM s (Z3 s e)
variable {k:Nat}
theorem jC(h:k<n):m_ n (k:Int)=some k:=by unfold m_;rw [aq ⋯,aq ⋯,dE]
def k4(o:List Nat)(k p:Nat):Int:=if o.idxOf p<k then (o.idxOf p:Int) else 0
variable {o:List Nat}
theorem wU(h:o.Perm (List.range n)):o.Nodup:=h.nodup_iff.mpr List.nodup_range
theorem gN(h:o.Perm (List.range n)):o.length=n:=by rw [h.length_eq,cy]
variable {p:Nat}
theorem fk(h:o.Perm (List.range n)):p∈o↔p<n:=by rw [h.mem_iff,dA]
theorem A1(nd:o.Nodup)(hk:k<o.length):o.idxOf o[k]=k:=nd.idxOf_getElem k hk
theorem iP(h:p∈o):∃hk:o.idxOf p<o.length,o[o.idxOf p]=p:=⟨List.idxOf_lt_length_of_mem h,List.getElem_idxOf _⟩
theorem Z4(h:o.Perm (List.range n))(hk:k<o.length):((List.range n).map λp=>V.int (k4 o k p)).set o[k] (.int (k:Int))=(List.range n).map λp=>V.int (k4 o (k+1) p):=by
 have nd:=wU h;refine eP (by simp) λq h1 h2=>?_
 have hq:q<n:=by simpa using h2
 rw [List.getElem_set];by_cases e:o[k]=q
 ·rw [aq e]
  simp only [d8,e_];unfold k4;rw [<-e,A1 nd hk,aq (B9 k)]
 ·rw [az e]
  simp only [d8,e_];unfold k4;have ne:o.idxOf q≠k:=λz=>by obtain ⟨hz,ez⟩:=iP ((fk h).mpr hq);subst z;exact e ez
  by_cases z:o.idxOf q<k;·rw [aq z,aq ⋯]
  ·rw [az z,az ⋯]
theorem Z5(n:Nat)(o:List Nat):(List.replicate n [V.int 0]).flatten=(List.range n).map λp=>V.int (k4 o 0 p):=by
 have e:∀n:Nat,(List.replicate n [V.int 0]).flatten=List.replicate n (V.int 0):=λn=>by
  induction n with
  | zero=>rfl
  | succ n ih=>rw [vO,zZ,ih];rfl
 rw [e];refine eP (by simp) λq h1 h2=>?_
 simp [k4]
theorem Z6(h:o.Perm (List.range n)):(List.range n).map (λp=>V.int (k4 o o.length p))=(List.range n).map λp=>V.int (o.idxOf p:Int):=by refine gU λp hp=>?_;unfold k4;rw [aq (List.idxOf_lt_length_of_mem ((fk h).mpr (dA.mp hp)))]
def qj(n:Nat)(ds:Nat->Addr)(un:Nat->Prop)(H H':Hp):Prop:=∀b o,H b=some o->(∀i,i<n->un i->b≠ds i)->H' b=some o
variable {ds:Nat->Addr}
theorem qj.refl{un:Nat->Prop}:qj n ds un H H:=λ_ _ h _=>h
variable {i:Nat}
theorem qj.put{un:Nat->Prop}(h:qj n ds un H H1)(hi:i<n)(ui:un i){o:HO}:qj n ds un H (upd H1 (ds i) o):=λb u e k=>by rw [aH (k i hi ui)];exact h b u e k
theorem take_snoc{α:Type}{xs:List α}{x:α}(h:xs[i]?=some x):xs.take (i+1)=xs.take i++[x]:=by rw [List.take_succ,h];rfl
def iQ(n:Nat)(f:Nat->List Nat)(ps:List Nat)(i j:Nat)(g:Nat->List Nat):Prop:=∀a b:Nat,a<n->(b∈g a↔b∈f a\/(a≠b/\(a∈ps.take i/\b∈ps\/ps[i]?=some a/\b∈ps.take j)))
theorem iQ.start(n:Nat)(f:Nat->List Nat)(ps:List Nat):iQ n f ps 0 0 f:=λa b _=>by simp
variable {f g:Nat->List Nat} {ps:List Nat}
theorem iQ.row(h:iQ n f ps i ps.length g):iQ n f ps (i+1) 0 g:=λa b ha=>by
 rw [h a b ha,vV];cases e:ps[i]? with
 | none=>
  have:ps.length<=i:=Gj.mp e;rw [rh this,rh ⋯]
  simp
 | some x=>
  rw [take_snoc e];simp only [mR,jM,Option.some.injEq,List.take_zero,jP,and_false,jQ];constructor
  ·rintro (z | ⟨z,z1 | z1⟩)
   ·exact .inl z
   ·exact .inr ⟨z,.inl z1.1,z1.2⟩
   ·exact .inr ⟨z,.inr z1.1.symm,z1.2⟩
  ·rintro (z | ⟨z,z1 | z1,z2⟩)
   ·exact .inl z
   ·exact .inr ⟨z,.inl ⟨z1,z2⟩⟩
   ·exact .inr ⟨z,.inr ⟨z1.symm,z2⟩⟩
variable {j:Nat}
theorem iQ.same{x:Nat}(h:iQ n f ps i j g)(hi:ps[i]?=some x)(hj:ps[j]?=some x):iQ n f ps i (j+1) g:=λa b ha=>by
 rw [h a b ha,take_snoc hj];simp only [mR,jM,hi,Option.some.injEq];constructor
 ·rintro (z | ⟨z,z1 | z1⟩)
  ·exact .inl z
  ·exact .inr ⟨z,.inl z1⟩
  ·exact .inr ⟨z,.inr ⟨z1.1,.inl z1.2⟩⟩
 ·rintro (z | ⟨z,z1 | ⟨z1,z2 | z2⟩⟩)
  ·exact .inl z
  ·exact .inr ⟨z,.inl z1⟩
  ·exact .inr ⟨z,.inr ⟨z1,z2⟩⟩
  ·exact absurd (z1.symm.trans z2.symm) z
theorem iQ.put{x y:Nat}(h:iQ n f ps i j g)(hi:ps[i]?=some x)(hj:ps[j]?=some y)(ne:x≠y):iQ n f ps i (j+1) (gM g x (gz (g x) y)):=λa b ha=>by
 have e1:b∈gM g x (gz (g x) y) a↔b∈g a\/(a=x/\b=y):=by
  unfold gM;by_cases e:a=x
  ·subst e
   rw [aq rfl,Dq];simp
  ·rw [az e]
   simp [e]
 rw [e1,h a b ha,take_snoc hj];simp only [mR,jM,hi,Option.some.injEq];constructor
 ·rintro ((z | ⟨z,z1 | z1⟩) | ⟨rfl,rfl⟩)
  ·exact .inl z
  ·exact .inr ⟨z,.inl z1⟩
  ·exact .inr ⟨z,.inr ⟨z1.1,.inl z1.2⟩⟩
  ·exact .inr ⟨ne,.inr ⟨rfl,.inr rfl⟩⟩
 ·rintro (z | ⟨z,z1 | ⟨z1,z2 | z2⟩⟩)
  ·exact .inl (.inl z)
  ·exact .inl (.inr ⟨z,.inl z1⟩)
  ·exact .inl (.inr ⟨z,.inr ⟨z1,z2⟩⟩)
  ·exact .inr ⟨z1.symm,z2⟩
theorem iQ.done(h:iQ n f ps ps.length 0 g):∀a b:Nat,a<n->(b∈g a↔b∈f a\/(a≠b/\a∈ps/\b∈ps)):=λa b ha=>by rw [h a b ha,vV];simp
def Z7:Sp:=λvs H Q _=>∃(D pl:Addr) (n:Nat) (ds:Nat->Addr) (un:Nat->Prop) (f:Nat->List Nat) (ps:List Nat),vs=[.ref D,.ref pl]/\fj H D n ds un f/\H pl=some (.lst (ps.map λk:Nat=>V.int (k:Int)))/\(∀p∈ps,p<n/\un p)/\n<=1000 /\
 ∀(H':Hp) (g:Nat->List Nat),qj n ds un H H'->fj H' D n ds un g->(∀a b:Nat,a<n->(b∈g a↔b∈f a\/(a≠b/\a∈ps/\b∈ps)))->Q .aO H'
theorem fj.mono{H':Hp}{un:Nat->Prop}(h:fj H D n ds un f)(s:af H H'):fj H' D n ds un f:=⟨s _ _ h.lst,h.inj,h.ne,λi hi ui=>s _ _ (h.at' i hi ui),h.pl⟩
theorem fj.less{un OD:Nat->Prop}(h:fj H D n ds un f)(k:∀i,i<n->OD i->un i):fj H D n ds OD f:=⟨h.lst,h.inj,h.ne,λi hi ui=>h.at' i hi (k i hi ui),h.pl⟩
variable {x:Addr}
theorem fj.upd{un:Nat->Prop}(h:fj H D n ds un f){o:HO}(n1:x≠D)(n2:∀i,i<n->un i->ds i≠x):fj (upd H x o) D n ds un f:=⟨by rw [aH (Ne.symm n1)];exact h.lst,h.inj,h.ne,λi hi ui=>by rw [aH (n2 i hi ui)];exact h.at' i hi ui,h.pl⟩
variable {a:Addr}
theorem Z8{o:Obj}{ar:List (Key×V)}(h:H1 a=some (.cL o (.dK ar))):qb (wR a o ar) (ar.map λkv=>kV kv.1) H1 where
 go:=λi Hc s hi=>⟨s _ _ h,by simpa using hi⟩
 fc:=λi Hc x H' s y=>⟨y.1,λ_=>by obtain ⟨kv,e,rfl⟩:=y.2;rw [bU,e];rfl⟩
 stop:=λi Hc s hi=>⟨s _ _ h,by simpa using hi⟩
theorem Z9(ks:List Nat):(dk ks).map (λkv=>kV kv.1)=ks.map λk:Nat=>V.int (k:Int):=by unfold dk;rw [gW];rfl
theorem Z_(ks:List Nat):(List.range ks.length).map (λi=>ks.getD i 0)=ks:=by
 refine eP (by simp) λi h1 h2=>?_
 simp [gE,h2]
theorem aaa(ks:List Nat)(pr:Nat->Bool):((List.range ks.length).filter λi=>pr (ks.getD i 0)).map (λi=>ks.getD i 0)=ks.filter pr:=by have e:=List.filter_map (f:=λi=>ks.getD i 0) (l:=List.range ks.length) (p:=pr);rw [Z_] at e;exact e.symm
variable {ρ:St->St} {tt:TT} {te:TE} {σ:St} {Q:VK} {ks:List Nat}
theorem aab{ob:Obj}(h:H a=some (.cL ob (.dK (dk ks))))(pr:Nat->Bool)(hl:ks.length<sizeLine)
  (test:∀k∈ks,∀(Hc:Hp) (R:Bool->Hp->Prop),af H Hc->R (pr k) Hc->tt (some (.int (k:Int))::ρ σ) Hc R)
  (step:∀k∈ks,∀(Hc:Hp) (R:VK),R (.int (k:Int)) Hc->te (some (.int (k:Int))::ρ σ) Hc R)
  (fin:∀D Hc,H D=none->af H Hc->Hc D=some (.lst ((ks.filter pr).map λk:Nat=>V.int (k:Int)))->Q (.ref D) Hc):j8 (λ_ H R=>R (wR a ob (dk ks)) H) ρ tt te σ H Q:=by
 have at':∀{i:Nat} {x:V},(ks.map λk:Nat=>V.int (k:Int))[i]?=some x->i<ks.length/\x=.int ((ks.getD i 0:Nat):Int)/\ks.getD i 0∈ks:=fun{i x} hx=>by
  have hi:i<ks.length:=by have:=(bK.mp hx).1;simpa using this
  rw [bU] at hx;simp [hi] at hx;rw [getD_at hi];exact ⟨hi,hx.symm,f9 hi⟩
 refine Oj (xs:=ks.map λk:Nat=>V.int (k:Int)) (λi=>pr (ks.getD i 0)) (λR k=>k _ (by rw [<-Z9];exact Z8 h)) (by rw [aR];exact hl) (λ_ i y _=>y=.int ((ks.getD i 0:Nat):Int)) (λ_ _ _ _ _ _ h _ _=>h) ?_ ?_ ?_
 ·intro i x hx Hc R sc hR
  obtain ⟨_,rfl,m⟩:=at' hx;exact test _ m Hc R sc hR
 ·intro D i x hx Hc R sc _ kc
  obtain ⟨_,rfl,m⟩:=at' hx;exact step _ m Hc R (kc _ Hc (af.refl _) rfl)
 ·intro D ys Hc nD sc ly hP eD
  refine fin D Hc nD sc ?_;rw [eD,<-aaa ks pr,gW];rw [aR] at ly hP
  congr 2
  refine eP (by simpa using ly) λk h1 h2=>?_
  have h3:k<((List.range ks.length).filter λi=>pr (ks.getD i 0)).length:=by simpa using h2
  rw [d8];exact hP k _ _ (cw h1) (cw h3)
theorem OE(p:ws.Perm (ks.map iN)):∃ms:List Nat,ws=ms.map iN/\ms.Perm ks:=by
 refine ⟨ws.map Int.toNat,?_,?_⟩
 ·rw [gW]
  conv=>lhs;rw [<-List.map_id ws]
  refine gU λz hz=>?_
  obtain ⟨k,_,rfl⟩:=iF.mp (p.mem_iff.mp hz)
  show iN k=iN (Int.toNat (iN k))
  unfold iN
  rw [dE]
 ·have:=p.map Int.toNat
  rw [gW] at this
  have e:ks.map (Int.toNat ∘ iN)=ks:=by
   conv=>rhs;rw [<-List.map_id ks]
   exact gU λk _=>dE k
  rw [e] at this
  exact this
structure A3 (n:Nat) (o:List Nat) (p:Nat) (ms:List Nat):Prop where
 up:ms.Pairwise (· < ·)
 lt:∀q∈ms,q<n
 la:∀q∈ms,o.idxOf p<o.idxOf q
theorem aac{ms:List Nat}(hk:nF n ks)(h:ms.Perm (ks.filter λq=>decide (o.idxOf p<o.idxOf q)))(s:(ms.map iN).Pairwise (·<=·)):A3 n o p ms:=by
 have m:∀q∈ms,q∈ks/\o.idxOf p<o.idxOf q:=λq hq=>by have:=vI.mp (h.mem_iff.mp hq);exact ⟨this.1,by simpa using this.2⟩
 refine ⟨?_,λq hq=>hk.2 q (m q hq).1,λq hq=>(m q hq).2⟩;have nd:ms.Nodup:=h.nodup_iff.mpr (hk.1.filter _);rw [List.pairwise_map] at s;refine List.Pairwise.imp₂ (λa b h1 h2=>?_) s nd;have h1:(a:Int)<=(b:Int):=h1;have h2:a≠b:=h2;lia
def OF(H:Hp)(D:Addr)(n:Nat)(rs:Nat->Addr)(g:Nat->List Nat):Prop:=H D=some (.lst ((List.range n).map λp=>V.ref (rs p)))/\∀p,p<n->H (rs p)=some (.lst ((g p).map λk:Nat=>V.int (k:Int)))
theorem aad(h:iA zs n):∃o:List Nat,zs=o.map iN/\o.Perm (List.range n):=OE h
def k_(rs:Nat->Addr)(p:Nat)(x:Addr):Nat->Addr:=λq=>if q=p then x else rs q
theorem aae(n:Nat)(rs:Nat->Addr)(p:Nat)(x:Addr):((List.range n).map λq=>V.ref (rs q)).set p (.ref x)=(List.range n).map λq=>V.ref (k_ rs p x q):=by
 refine eP (by simp) λq h1 h2=>?_
 rw [List.getElem_set,d8,e_,d8,e_];unfold k_;by_cases e:p=q
 ·subst e
  rw [aq rfl,aq rfl]
 ·rw [az e,az (Ne.symm e)]
variable {rs:Nat->Addr}
theorem OG:k_ rs p x p=x:=aq rfl
variable {q:Nat}
theorem aaf(h:q≠p):k_ rs p x q=rs q:=az h
theorem aag{x:List Nat}:gM f p x p=x:=aq rfl
theorem aah{x:List Nat}(h:q≠p):gM f p x q=f q:=az h
theorem cg{g:Nat->V}(h:p<n):ir ((List.range n).map g) (p:Int)=some (g p):=kM (by rw [bU,jN h];rfl)
theorem aai(o ks:List Nat)(p:Nat):(ks.filter λq=>decide ((o.idxOf p:Int)<(o.idxOf q:Int)))=ks.filter λq=>decide (o.idxOf p<o.idxOf q):=by refine List.filter_congr λq _=>?_;rw [qX,Al,Al];lia
theorem A4(h:o.Perm (List.range n))(hp:p<n)(hq:q<n)(ne:p≠q):o.idxOf p≠o.idxOf q:=λz=>by
 obtain ⟨h1,e1⟩:=iP ((fk h).mpr hp);obtain ⟨h2,e2⟩:=iP ((fk h).mpr hq);refine ne ?_;rw [<-e1,<-e2]
 congr 1
theorem aaj{wi:TI}(h:wi σ H λJ H1=>j8 (λ_ H R=>R J H) ρ tt te σ H1 Q):j8 wi ρ tt te σ H Q:=h
end My
namespace L2
open PySem PySem.Spec PyProof.Rows
section
variable {X:Cx} {pins:a7} {σ:St} {H:Hp} {s:Shared}
end
end L2
namespace My
open PySem L2
end My
namespace L2
open PySem PySem.Spec PyProof.Rows
end L2
namespace My
open PySem L2
end My
namespace L2
open PySem PySem.Spec PyProof.Rows
end L2
namespace My
open PySem L2
end My
namespace L2
open PySem PySem.Spec PyProof.Rows
end L2
namespace My
open PySem L2
end My
namespace L2
open PySem PySem.Spec PyProof.Rows
end L2
namespace My
open PySem L2
theorem amt(xs:List V)(k:Nat)(h:k<=xs.length):gI xs none (some (k:Int))=xs.take k:=by
 unfold gI HT.fU;simp only;rw [az ⋯,dE,Nat.min_eq_left h,Nat.sub_zero]
 rfl
theorem aak(xs:List V)(k:Nat)(h:k<=xs.length):gI xs (some (k:Int)) none=xs.drop k:=by
 unfold gI HT.fU;simp only;rw [az ⋯,dE,Nat.min_eq_left h]
 exact rh (by rw [vN];exact aV _)
variable {n:Nat} {dw:Nat->Nat->Prop} {fm:Nat->Prop} {s:Nat}
end My
namespace L2
open PySem PySem.Spec PyProof.Rows
end L2
namespace My
open PySem L2
end My
namespace L2
open PySem PySem.Spec PyProof.Rows
end L2
namespace My
open PySem L2
end My
namespace L2
open PySem PySem.Spec PyProof.Rows My
end L2
namespace My
open PySem L2
theorem OH(zs:List Int)(k:Nat):gI (zs.map V.int) none (some (k:Int))=(zs.take k).map V.int:=by rw [ND,List.map_take]
theorem OI(zs:List Int)(k:Nat)(h:k<=zs.length):gI (zs.map V.int) (some (k:Int)) none=(zs.drop k).map V.int:=by rw [aak _ _ (by rw [aR];exact h),List.map_drop]
end My
namespace L2
open PySem PySem.Spec PyProof.Rows My
end L2
namespace My
open PySem L2
inductive Wk (dw:Nat->Nat->Prop) (fm:Nat->Prop) (s:Nat):Nat->Prop where
 | one {b:Nat}:dw s b->Wk dw fm s b
 | more {a b:Nat}:Wk dw fm s a->fm a->dw a b->Wk dw fm s b
section
variable {dw:Nat->Nat->Prop} {fm wV:Nat->Prop} {s t:Nat}
theorem Wk.mono(h:Wk dw fm s t)(k:∀x,fm x->wV x):Wk dw wV s t:=by
 induction h with
 | one ab=>exact .one ab
 | more _ o ab ih=>exact .more ih (k _ o) ab
theorem Wk.cons{a:Nat}(ab:dw s a)(ta:fm a)(h:Wk dw fm a t):Wk dw fm s t:=by
 induction h with
 | one e=>exact .more (.one ab) ta e
 | more _ o e ih=>exact .more ih o e
theorem Wk.symm(sy:∀a b,dw a b->dw b a)(h:Wk dw fm s t):Wk dw fm t s:=by
 induction h with
 | one ab=>exact .one (sy _ _ ab)
 | more _ o ab ih=>exact ih.cons (sy _ _ ab) o
variable {p:Nat}
theorem Wk.trans(h:Wk dw fm s p)(tp:fm p)(h':Wk dw fm p t):Wk dw fm s t:=by
 induction h' with
 | one ab=>exact .more h tp ab
 | more _ o ab ih=>exact .more ih o ab
theorem Wk.step(k:∀x,wV x↔fm x\/x=p):Wk dw wV s t↔Wk dw fm s t\/(Wk dw fm s p/\Wk dw fm p t):=by
 constructor
 ·intro h
  induction h with
  | one ab=>exact .inl (.one ab)
  | more _ o ab ih=>
   rcases (k _).mp o with o | rfl
   ·rcases ih with ih | ⟨i1,i2⟩
    ·exact .inl (.more ih o ab)
    ·exact .inr ⟨i1,.more i2 o ab⟩
   ·rcases ih with ih | ⟨i1,_⟩
    ·exact .inr ⟨ih,.one ab⟩
    ·exact .inr ⟨i1,.one ab⟩
 ·have m:∀x,fm x->wV x:=λx h=>(k x).mpr (.inl h)
  rintro (h | ⟨h,h'⟩);·exact h.mono m
  ·exact (h.mono m).trans ((k p).mpr (.inr rfl)) (h'.mono m)
end
def aL(n:Nat)(L:bR)(a b:Nat):Prop:=a<n/\b<n/\(((a:Int),(b:Int))∈L\/((b:Int),(a:Int))∈L)
variable {n:Nat} {L:bR}
theorem Ij(a b:Nat)(h:aL n L a b):aL n L b a:=⟨h.2.1,h.1,h.2.2.symm⟩
def Ik(L:bR):Prop:=∀p∈L,p.1≠p.2
def su(n:Nat)(o:List Nat)(k x:Nat):Prop:=x<n/\o.idxOf x<k
def sA(n:Nat)(L:bR)(o:List Nat)(k:Nat)(f:Nat->List Nat):Prop:=∀a b:Nat,a<n->b<n->k<=o.idxOf a->k<=o.idxOf b->(b∈f a↔a≠b/\Wk (aL n L) (su n o k) a b)
variable {o:List Nat} {f:Nat->List Nat}
theorem sA.start(nb:pe n L f)(ns:Ik L):sA n L o 0 f:=λa b ha hb _ _=>by
 rw [nb a b ha];constructor
 ·intro h
  refine ⟨λe=>?_,.one ⟨ha,hb,h⟩⟩;subst e;rcases h with h | h <;> exact ns _ h rfl
 ·rintro ⟨_,h⟩
  cases h with
  | one ab=>exact ab.2.2
  | more _ o _=>exact absurd o.2 (pL _)
variable {k:Nat} {ms:List Nat}
theorem sA.step(ho:o.Perm (List.range n)){p:Nat}{g:Nat->List Nat}(h:sA n L o k f)(hp:p<n)(ip:o.idxOf p=k)(hm:∀q,q∈ms↔q∈f p/\k<o.idxOf q)(ml:∀q∈ms,q<n)
  (con:∀a b:Nat,a<n->(b∈g a↔b∈f a\/(a≠b/\a∈ms/\b∈ms))):sA n L o (k+1) g:=λa b ha hb ka kb=>by
 have th:∀x,su n o (k+1) x↔su n o k x\/x=p:=λx=>by
  unfold su;constructor
  ·rintro ⟨h1,h2⟩
   by_cases e:o.idxOf x=k
   ·right
    by_cases z:x=p;·exact z
    ·exact absurd (e.trans ip.symm) (A4 ho h1 hp z)
   ·exact .inl ⟨h1,⋯⟩
  ·rintro (⟨h1,h2⟩ | rfl)
   ·exact ⟨h1,⋯⟩
   ·exact ⟨hp,⋯⟩
 have ap:a≠p:=λe=>by subst e;lia
 have bp:b≠p:=λe=>by subst e;lia
 have ea:=h p a hp ha ⋯ ⋯
 have eb:=h p b hp hb ⋯ ⋯
 rw [con a b ha,h a b ha hb ⋯ ⋯,hm a,hm b,ea,eb,Wk.step th]
 constructor
 ·rintro (⟨h1,h2⟩ | ⟨h1,⟨⟨_,h2⟩,_⟩,⟨_,h3⟩,_⟩)
  ·exact ⟨h1,.inl h2⟩
  ·exact ⟨h1,.inr ⟨h2.symm Ij,h3⟩⟩
 ·rintro ⟨h1,h2 | ⟨h2,h3⟩⟩
  ·exact .inl ⟨h1,h2⟩
  ·exact .inr ⟨h1,⟨⟨Ne.symm ap,h2.symm Ij⟩,⋯⟩,⟨Ne.symm bp,h3⟩,⋯⟩
def wW(n:Nat)(L:bR)(o:List Nat)(p:Nat)(ms:List Nat):Prop:=∀q,q∈ms↔q<n/\o.idxOf p<o.idxOf q/\Wk (aL n L) (su n o (o.idxOf p)) p q
def aal(N:Addr):Sp:=λvs H Q E=>∃(t a:Addr) (n:Nat) (L:bR) (zs:List Int),vs=[.ref t,.ref a]/\H_ H t n L/\Ii n L/\Ik L/\n<=60/\H a=some (.lst (zs.map V.int))/\zs.length<64 /\
 (¬iA zs n->∀H',af H H'->E (.ref N) none H') /\
 ∀o:List Nat,zs=o.map iN->o.Perm (List.range n)->∀(H':Hp) (D:Addr) (rs:Nat->Addr) (g:Nat->List Nat),af H H'->H D=none->(∀p,p<n->H (rs p)=none)->OF H' D n rs g->(∀p,p<n->A3 n o p (g p)/\wW n L o p (g p))->Q (.ref D) H'
def A5(M:a_):List Nat->Nat->Nat->Int
 | []=>λ_ _=>0
 | p::C=>bJ (M p) (A5 M C)
def eU(M:a_)(C:List Nat):Int:=ba C (A5 M C)
def cf(M:a_)(C:List Nat)(f:Nat->Int):Nat->Int:=qh C (A5 M C) f
def gq(q:Int)(M:a_):List Nat->Prop
 | []=>True
 | p::C=>gq q M C/\¬q∣cf M C (M p) p
section
variable {q:Int} {M:a_} {C:List Nat} {p k:Nat} {f:Nat->Int}
theorem OJ:cf M [] f k=f k:=Zj _ f k
theorem wX(hq:aS q):∀{C:List Nat},gq q M C->¬q∣eU M C
 | [],_=>ki hq
 | _::_,h=>h.2
theorem Ds{x:Int}(h:¬q∣x):x≠0:=λe=>h (by rw [e];exact jg q)
theorem OK(hq:aS q):∀{C:List Nat},gq q M C->wO C (A5 M C)
 | [],_=>Zg _
 | _::_,h=>Zh (OK hq h.1) (Ds (wX hq h.1)) (Ds h.2)
theorem Il(hq:aS q)(h:gq q M C)(p:Nat)(f:Nat->Int)(k:Nat):cf M C (M p) p*cf M C f k-cf M C f p*cf M C (M p) k=eU M C*cf M (p::C) f k:=Zl (OK hq h) f (M p) p k
theorem OL{c:Nat}(h:c∈C):cf M C f c=0:=Zk _ f h
theorem Im(hq:aS q):∀{C:List Nat},gq q M C->∀r∈C,∀k,cf M C (M r) k=0
 | [],_,_,hr,_=>nomatch hr
 | p::C,h,r,hr,k=>by
  have d0:=Ds (wX hq h.1);have e:=Il hq h.1 p (M r) k;have z:eU M C*cf M (p::C) (M r) k=0:=by
   rcases dB.mp hr with rfl | hr;·rw [<-e];exact lM _
   ·rw [<-e,Im hq h.1 r hr k,Im hq h.1 r hr p,lK,iX,lM]
  exact (pN.mp z).resolve_left d0
theorem A6(hq:aS q){n:Nat}{dw:Nat->Nat->Prop}(zero:∀a b,a<n->b<n->a≠b->¬dw a b->M a b=0):∀{C:List Nat},gq q M C->(∀c∈C,c<n)->∀i j,i<n->j<n->i∉C->j∉C->i≠j->¬Wk dw (·∈C) i j->cf M C (M i) j=0
 | [],_,_,i,j,li,lj,_,_,ij,nw=>by rw [OJ];exact zero i j li lj ij λz=>nw (.one z)
 | p::C,g,lc,i,j,li,lj,hi,hj,ij,nw=>by
  rw [dB,not_or] at hi hj;have lp:=lc p (n_ ..);have Io:∀c∈C,c<n:=λc hc=>lc c (je _ hc);have st:=Wk.step (dw:=dw) (fm:=(·∈C)) (wV:=(·∈p::C)) (s:=i) (t:=j) (p:=p) λx=>by rw [dB];exact Or.comm
  rw [st,not_or] at nw;have e:=Il hq g.1 p (M i) j;rw [A6 hq zero g.1 Io i j li lj hi.2 hj.2 ij nw.1,lK] at e;have z:cf M C (M i) p*cf M C (M p) j=0:=by
   by_cases pC:p∈C;·rw [OL pC,iX]
   ·by_cases w:Wk dw (·∈C) i p
    ·rw [A6 hq zero g.1 Io p j lp lj pC hj.2 (Ne.symm hj.1) λz=>nw.2 ⟨w,z⟩,lK]
    ·rw [A6 hq zero g.1 Io i p li lp hi.2 pC hi.1 w,iX]
  rw [z] at e;exact (pN.mp (show eU M C*cf M (p::C) (M i) j=0 by lia)).resolve_left (Ds (wX hq g.1))
theorem Ip{B:Nat}(hB:∀i k,(M i k).natAbs<=B):∀(C:List Nat) (i k:Nat),(A5 M C i k).natAbs<=B
 | [],_,_=>cG _
 | p::_,0,k=>hB p k
 | _::C,i+1,k=>Ip hB C i k
theorem aam{B:Nat}{R:a_}(hf:∀k,(f k).natAbs<=B)(hR:∀i k,(R i k).natAbs<=B):∀i k,(bJ f R i k).natAbs<=B
 | 0,k=>hf k
 | i+1,k=>hR i k
variable {B:Nat}
theorem aan(hB:∀i k,(M i k).natAbs<=B)(hf:∀k,(f k).natAbs<=B):(cf M C f k).natAbs<=iO (C.length+1)*B ^ (C.length+1):=HW (k::C) _ (aam hf (Ip hB C))
theorem OM(hB:∀i k,(M i k).natAbs<=B):(eU M C).natAbs<=iO C.length*B ^ C.length:=HW C _ (Ip hB C)
end
def aQ(B:Nat)(H:Hp)(q:Int)(v:V)(T U:Int):Prop:=∃x m:Int,aw B H q v x m/\q∣x*U-T*m/\¬q∣U
section
variable {B Y:Nat} {H H':Hp} {q:Int} {v u:V} {T U T' U':Int}
theorem aQ.mono(h:aQ B H q v T U)(s:af H H'):aQ B H' q v T U:=let ⟨x,m,h1,h2⟩:=h;(ii x m (h1.mono s) h2)
theorem aQ.eq(hq:aS q)(h:aQ B H q v T U)(e:Cg q (T*U') (T'*U))(nu:¬q∣U'):aQ B H q v T' U':=by
 intros bv7 h x m h1 h2 h3;refine (bi x m h1 ?_ nu);have c:Cg q (U*(x*U'-T'*m)) 0:=by
  have a:Cg q (U'*(x*U)) (U'*(T*m)):=Cg.mulL U' h2;have b:Cg q (m*(T*U')) (m*(T'*U)):=Cg.mulL m e;have d:=a.trans ((Cg.of_eq (by grind)).trans b)
  have d2:=d.sub (Cg.refl (m*(T'*U)));exact (Cg.of_eq (by grind)).trans (d2.trans (Cg.of_eq ⋯))
 have:=Dp hq h3 c;unfold Cg at this
 rwa [pO] at this
theorem aQ.bd(h:aQ B H q v T U)(bt:T.natAbs<=Y)(bu:U.natAbs<=Y):aQ Y H q v T U:=by
 intros bv7 h x m h1 h2 h3;cases h1 with
 | rem a b c=>exact (bi _ _ (.rem a b c) h2 h3)
 | aU e l bx bm=>
  have h2:=e9.mp h2;have U0:U≠0:=λz=>h3 (by rw [z];exact iW 0)
  have le:m<=(U.natAbs:Int)/\x.natAbs<=T.natAbs:=by
   by_cases up:0<U
   ·have:=p_ l up (show x*U=T*m by lia)
    exact ⟨⋯,this.2⟩
   ·have:=p_ l (show 0 < -U by lia) (show x * -U=-T*m by rw [kC,q5];lia)
    rw [Ae] at this;exact ⟨⋯,this.2⟩
  have mp:=l.pos;exact ⟨x,m,.aU e l ⋯ ⋯,by rw [h2];exact iW 0,h3⟩
theorem Dt(hq:aS q)(h:aQ B H q v T U):q∣T↔∃x m,aw B H q v x m/\x=0:=by
 intros bv7 h x m h1 h2 h3;constructor
 ·intro d
  refine (ii x m h1 ?_);have c:Cg q (U*x) 0:=by
   have:q∣x*U:=by
    have:=Int.dvd_add h2 (Am (c:=m) d)
    rwa [Int.sub_add_cancel] at this
   unfold Cg;rw [pO,eE];exact this
  have:=Dp hq h3 c;unfold Cg at this;rw [pO] at this;cases h1 with
  | aU=>exact e9.mp this
  | rem a b c=>
   obtain ⟨k,hk⟩:=this;have:k=0:=by
    rcases Int.lt_trichotomy k 0 with z | z | z
    ·have:q*k<=q*(-1):=vS ⋯ ⋯
     lia
    ·exact z
    ·have:q*1<=q*k:=vS ⋯ ⋯
     lia
   rw [hk,this,lK]
 ·intros bv3 _ x' m' wK rfl
  have e:x=0:=by
   cases h1 with
   | aU e l=>
    cases wK with
    | aU e' l'=>rw [e] at e';cases e';rfl
   | rem=>cases wK;rfl
  subst e;have:q∣T*m:=by have:=h2;rw [iX,vT] at this;exact Int.dvd_neg.mp this
  cases h1 with
  | aU e l=>
   have:=e9.mp this;have mp:=l.pos;have:T=0:=(pN.mp this).resolve_right ⋯
   rw [this];exact iW 0
  | rem=>rwa [gD] at this
end
section
variable {H:Hp} {q:Int} {v u:V} {T U T' U':Int} {C N z:Addr} {Q:VK} {E:XK}
theorem Du{B:Nat}{x m:Int}(h:aw B H q v x m)(b:B<=10 ^ 300):cn x/\cn m/\1<=m:=by
 cases h with
 | aU e l bx bm=>exact ⟨aM bx b,aM bm b,l.pos⟩
 | rem h0 h1 h2=>exact ⟨aM (show _<=997 by lia) (by decide +kernel),by unfold cn;decide +kernel,∅⟩
variable {X Y Y':Nat}
theorem ON{fr:Int->Int->Int->Int->Int}{rm:Int->Int->Int}(hw:cP C H z q)(hq:aS q)(hv:aQ X H q v T U)(hu:aQ Y H q u T' U')(bX:X<=10 ^ 300)(bY:Y<=10 ^ 300)(top bot:Int)
  (hf:∀x m y n,q∣x*U-T*m->q∣y*U'-T'*n->q∣fr x m y n*bot-top*(m*n)) (hr:∀x y,fr x 1 y 1=rm x y) (nb:¬q∣bot) (bt:top.natAbs<=Y') (bb:bot.natAbs<=Y')
  (k:∀(v':V) (H':Hp),af H H'->aQ Y' H' q v' top bot->Q v' H'):sj C fr rm [.ref z,v,u] H Q E:=by
 intros bv7 hv x m h1 h2 h3
 intros bv7 hu y n g1 g2 g3
 obtain ⟨a1,a2,a3⟩:=Du h1 bX
 obtain ⟨b1,b2,b3⟩:=Du g1 bY
 have key:=hf x m y n h2 g2
 refine (wp z q (bi v u rfl hw ?_))
 cases h1 with
 | aU e l bx bm=>
  cases g1 with
  | aU e' l' Iq p7=>
   refine .inl (And.intro rfl (S' _ _ x m y (Rs n rfl rfl e e' l l' a1 a2 b1 ⟨b2,λr' H' a d s' er la ea=>k _ H' s' ?_⟩)))
   have key:=e9.mp key
   have mn:m*n≠0:=Int.ne_of_gt (lL ⋯ ⋯)
   have ew:a*bot=top*d:=by
    refine Gu mn ?_
    have:fr x m y n*bot=top*(m*n):=by omega
    calc a*bot*(m*n)=a*(m*n)*bot:=by grind
     _=fr x m y n*d*bot:=by rw [ea]
     _=fr x m y n*bot*d:=by grind
     _=top*(m*n)*d:=by rw [this]
     _=top*d*(m*n):=by grind
   have W:aQ (a.natAbs+d.natAbs) H' 0 (.ref r') top bot:=⟨a,d,.aU er la ⋯ ⋯,by rw [ew,lM];exact iW 0,nb⟩
   exact W.bd bt bb
  | rem h0 h1 h2=>lia
 | rem h0 wK r9=>
  cases g1 with
  | aU e' l' Iq p7=>lia
  | rem g0 g1 g2'=>
   have jA:2<=q:=by rcases hq with h | h <;> lia
   refine .inr ⟨jA,x,y,rfl,rfl,h0,⋯,k _ H (af.refl _) (bi _ 1 (.rem (gu _ ⋯) (gF _ ⋯) r9) ?_ nb)⟩
   rw [gD,gD] at key
   rw [hr] at key
   rw [gD]
   have c:Cg q (rm x y % q*bot) (rm x y*bot):=(AY q _).mulR bot
   exact c.trans key
theorem aap(hw:cP C H z q)(hq:aS q)(hv:aQ X H q v T U)(hu:aQ Y H q u T' U')(bX:X<=10 ^ 300)(bY:Y<=10 ^ 300)(nb:¬q∣U*U')(bt:(T*U'-T'*U).natAbs<=Y')(bb:(U*U').natAbs<=Y')
  (k:∀(v':V) (H':Hp),af H H'->aQ Y' H' q v' (T*U'-T'*U) (U*U')->Q v' H'):sj C (λx m y n=>x*n-y*m) (λi j=>i-j) [.ref z,v,u] H Q E:=
 ON hw hq hv hu bX bY _ _ (λx m y n h1 h2=>by obtain ⟨a,ha⟩:=h1;obtain ⟨b,hb⟩:=h2;exact ⟨n*U'*a-m*U*b,by grind⟩) (λx y=>by rw [gD,gD]) nb bt bb k
theorem aaq(hw:cP C H z q)(hq:aS q)(hv:aQ X H q v T U)(hu:aQ Y H q u T' U')(bX:X<=10 ^ 300)(bY:Y<=10 ^ 300)(nb:¬q∣U*U')(bt:(T*T').natAbs<=Y')(bb:(U*U').natAbs<=Y')
  (k:∀(v':V) (H':Hp),af H H'->aQ Y' H' q v' (T*T') (U*U')->Q v' H'):sj C (λx m y n=>x*y) (λi j=>i*j) [.ref z,v,u] H Q E:=
 ON hw hq hv hu bX bY _ _ (λx m y n h1 h2=>by obtain ⟨a,ha⟩:=h1;obtain ⟨b,hb⟩:=h2;exact ⟨y*U'*a+T*m*b,by grind⟩) (λx y=>rfl) nb bt bb k
theorem hE(hq:aS q){a b:Int}(ha:¬q∣a)(hb:¬q∣b):¬q∣a*b:=λd=>hb (by
 have:=Dp hq ha (show Cg q (a*b) 0 by unfold Cg;rwa [pO])
 unfold Cg at this
 rwa [pO] at this)
theorem aar(hw:cP C H z q)(hq:aS q)(hv:aQ X H q v T U)(hu:aQ Y H q u T' U')(bX:X<=10 ^ 300)(bY:Y<=10 ^ 300)(nt:¬q∣T')(bt:(T*U').natAbs<=Y')(bb:(U*T').natAbs<=Y')
  (k:∀(v':V) (H':Hp),af H H'->aQ Y' H' q v' (T*U') (U*T')->Q v' H'):HG C N [.ref z,v,u] H Q E:=by
 have ny:∀{y n},aw Y H q u y n->q∣y*U'-T'*n->¬q∣U'->y≠0:=fun{y n} g1 g2 g3 e=>nt ((Dt hq (bi y n g1 g2 g3)).mpr (ii y n g1 e))
 intros bv7 hv x m h1 h2 h3
 intros bv7 hu y n g1 g2 g3
 have y0:=ny g1 g2 g3
 obtain ⟨a1,a2,a3⟩:=Du h1 bX
 obtain ⟨b1,b2,b3⟩:=Du g1 bY
 have nb:=hE hq h3 nt
 refine (wp z q (bi v u rfl hw ?_))
 cases h1 with
 | aU e l bx bm=>
  cases g1 with
  | aU e' l' Iq p7=>
   refine .inl (And.intro rfl (S' _ _ x m y (Rs n rfl rfl e e' l l' a1 a2 b1 ⟨b2,λz=>absurd z y0,λ_ r' H' a d s' er la ea=>k _ H' s' ?_⟩)))
   have h2:=e9.mp h2
   have g2:=e9.mp g2
   have my:m*y≠0:=λz=>(pN.mp z).elim (λz=>by lia) y0
   have ew:a*(U*T')=T*U'*d:=by
    refine Gu (a:=m*y) my ?_
    have e1:x*U=T*m:=by lia
    have e2:T'*n=y*U':=by lia
    calc a*(U*T')*(m*y)=a*(m*y)*(U*T'):=by grind
     _=x*n*d*(U*T'):=by rw [ea]
     _=x*U*(T'*n)*d:=by grind
     _=T*m*(y*U')*d:=by rw [e1,e2]
     _=T*U'*d*(m*y):=by grind
   have W:aQ (a.natAbs+d.natAbs) H' 0 (.ref r') (T*U') (U*T'):=(bi a d (.aU er la ⋯ ⋯) (by rw [ew,lM];exact iW 0) nb)
   exact W.bd bt bb
  | rem h0 h1 h2=>lia
 | rem h0 wK r9=>
  cases g1 with
  | aU e' l' Iq p7=>lia
  | rem g0 g1 g2'=>
   have eQ:2<=q/\q<=997/\g9 q=true:=by rcases hq with h | h;lia;exact h
   refine .inr ⟨eQ.1,x,y,rfl,rfl,eQ.2.1,eQ.2.2,h0,wK,g0,g1,λz=>absurd z y0,λ_ r r0 r1 er=>k _ H (af.refl _) (bi r 1 (.rem r0 r1 r9) ?_ nb)⟩
   have c1:Cg q (r*y) x:=by
    have:=AY q (r*y)
    rw [er] at this
    exact this.symm
   have c2:Cg q (x*U) (T*1):=h2
   have c3:Cg q (y*U') (T'*1):=g2
   rw [gD] at c2 c3 ⊢
   have e1:Cg q (r*(U*T')) (r*U*(y*U')):=(Cg.of_eq (by grind)).trans ((c3.symm).mulL (r*U))
   have e2:Cg q (r*U*(y*U')) (x*(U*U')):=(Cg.of_eq (show r*U*(y*U')=r*y*(U*U') by grind)).trans (c1.mulR (U*U'))
   have e3:Cg q (x*(U*U')) (T*U'):=(Cg.of_eq (show x*(U*U')=x*U*U' by grind)).trans (c2.mulR U')
   exact e1.trans (e2.trans e3)
end
def bW(o:List Nat):List V:=o.map λk:Nat=>V.int (k:Int)
structure WTab (H:Hp) (a:Addr) (n:Nat) (rs:Nat->Addr) (vf:Nat->Nat->V):Prop where
 lst:H a=some (.lst ((List.range n).map λi=>V.ref (rs i)))
 inj:∀i j,i<n->j<n->rs i=rs j->i=j
 ne:∀i,i<n->rs i≠a
 at':∀i,i<n->H (rs i)=some (.lst ((List.range n).map (vf i)))
def iB(vf:Nat->Nat->V)(i j:Nat)(w:V):Nat->Nat->V:=λi' j'=>if i'=i/\j'=j then w else vf i' j'
variable {j:Nat} {w:V}
theorem map_set{f:Nat->V}:((List.range n).map f).set j w=(List.range n).map λj'=>if j'=j then w else f j':=by
 refine eP (by simp) λi h1 h2=>?_
 rw [List.getElem_set];simp;by_cases e:j=i;·subst e;simp
 ·rw [az e,az (Ne.symm e)]
section
variable {H H':Hp} {a:Addr} {n:Nat} {rs:Nat->Addr} {vf:Nat->Nat->V}
theorem WTab.bE(h:WTab H a n rs vf)(k:∀b o,(b=a\/∃i,i<n/\b=rs i)->H b=some o->H' b=some o):WTab H' a n rs vf:=
 ⟨k _ _ (.inl rfl) h.lst,h.inj,h.ne,λi hi=>k _ _ (.inr (ad i hi rfl)) (h.at' i hi)⟩
theorem WTab.mono(h:WTab H a n rs vf)(s:af H H'):WTab H' a n rs vf:=h.bE λb o _ e=>s b o e
theorem WTab.put(h:WTab H a n rs vf){i:Nat}(w:V)(hi:i<n):WTab (upd H (rs i) (.lst (((List.range n).map (vf i)).set j w))) a n rs (iB vf i j w):=by
 refine ⟨by rw [aH (Ne.symm (h.ne i hi))];exact h.lst,h.inj,h.ne,λi' b9=>?_⟩
 by_cases e:i'=i
 ·subst e
  rw [au,map_set]
  congr 2
  refine gU λj' _=>?_;unfold iB;simp
 ·rw [aH (λz=>e (h.inj i' i b9 hi z)),h.at' i' b9]
  congr 2
  refine gU λj' _=>?_;unfold iB;simp [e]
end
structure OO (q:Int) (X n p:Nat) (ms:List Nat) (T U T' U':a_):Prop where
 sC:¬q∣T p p
 nz:∀i j,i<n->j<n->¬q∣U' i j
 bt:∀i j,i<n->j<n->(T' i j).natAbs<=X/\(U' i j).natAbs<=X
 low:∀i∈ms,Cg q (T i p*U p p*U' i p) (T' i p*(U i p*T p p))
 ent:∀i∈ms,∀j∈ms,Cg q ((T i j*(U' i p*U p j)-T' i p*T p j*U i j)*U' i j) (T' i j*(U i j*(U' i p*U p j)))
 OP:∀i j,i<n->j<n->(i∉ms\/(j≠p/\j∉ms))->Cg q (T i j*U' i j) (T' i j*U i j)
def dR(X:Nat)(H:Hp)(q:Int)(n:Nat)(vf:Nat->Nat->V)(T U:a_):Prop:=∀i j,i<n->j<n->aQ X H q (vf i j) (T i j) (U i j)
def gA(n:Nat)(rs:Nat->Addr)(H H':Hp):Prop:=∀b o,(∀i,i<n->b≠rs i)->H b=some o->H' b=some o
def aas(C:Addr):Sp:=λvs H Q _=>∃(z a b:Addr) (q:Int) (n X p:Nat) (rs:Nat->Addr) (vf:Nat->Nat->V) (ms:List Nat) (T U T' U':a_),vs=[.ref z,.ref a,.int (p:Int),.ref b]/\cP C H z q/\aS q/\WTab H a n rs vf/\H b=some (.lst (bW ms))/\(∀i,i<n->b≠rs i/\z≠rs i)/\p<n/\(∀m∈ms,m<n/\m≠p)/\ms.Nodup/\n<=60/\1000<=X/\X<=10 ^ 100/\dR X H q n vf T U/\(∀i j,i<n->j<n->(T i j).natAbs<=X/\(U i j).natAbs<=X)/\OO q X n p ms T U T' U' /\
 ∀(H':Hp) (jD:Nat->Nat->V),gA n rs H H'->WTab H' a n rs jD->dR X H' q n jD T' U'->Q .aO H'
def kj(D:Nat->Nat->Bool)(T T':a_):Nat->Nat->Int:=λi j=>if D i j then T' i j else T i j
theorem gA.refl(n:Nat)(rs:Nat->Addr)(H:Hp):gA n rs H H:=λ_ _ _ e=>e
variable {rs:Nat->Addr} {H H1:Hp}
theorem gA.same{H2:Hp}(h:gA n rs H H1)(s:af H1 H2):gA n rs H H2:=λb o nb e=>s _ _ (h b o nb e)
variable {i:Nat}
theorem gA.put{o:HO}(h:gA n rs H H1)(hi:i<n):gA n rs H (upd H1 (rs i) o):=λb u nb e=>by rw [aH (nb i hi)];exact h b u nb e
theorem int_at{x:V}(h:(bW ms)[k]?=some x):∃i:Nat,ms[k]?=some i/\x=.int (i:Int):=by
 unfold bW at h;rw [bU] at h;cases e:ms[k]? with
 | none=>rw [e] at h;cases h
 | some i=>rw [e] at h;exact ⟨i,rfl,(Option.some.inj h).symm⟩
theorem OQ(nd:ms.Nodup)(h:ms[k]?=some i):i∉ms.take k:=λz=>by have h2:=(List.take_sublist (k+1) ms).nodup nd;rw [take_snoc h,Cs] at h2;exact h2.2.2 i z i (jM.mpr rfl) rfl
variable {D:Nat->Nat->Bool} {T T':a_}
theorem gr(h:D i j=true):kj D T T' i j=T' i j:=by unfold kj;rw [aq h]
theorem eV(h:D i j=false):kj D T T' i j=T i j:=by unfold kj;rw [h];rfl
variable {X:Nat} {q:Int} {vf:Nat->Nat->V} {U U':a_}
theorem dR.put{H':Hp}(h:dR X H q n vf T U)(k:∀v t u,aQ X H q v t u->aQ X H' q v t u)(hw:aQ X H' q w (T' i j) (U' i j))(o:∀i' j',i'<n->j'<n->¬(i'=i/\j'=j)->T' i' j'=T i' j'/\U' i' j'=U i' j'):dR X H' q n (iB vf i j w) T' U':=λi' j' b9 cB=>by
 unfold iB;by_cases e:i'=i/\j'=j
 ·rw [aq e,e.1,e.2]
  exact hw
 ·rw [az e,(o i' j' b9 cB e).1,(o i' j' b9 cB e).2]
  exact k _ _ _ (h i' j' b9 cB)
theorem dR.to(h:dR X H q n vf T U)(o:∀i' j',i'<n->j'<n->T' i' j'=T i' j'/\U' i' j'=U i' j'):dR X H q n vf T' U':=λi j hi hj=>by rw [(o i j hi hj).1,(o i j hi hj).2];exact h i j hi hj
theorem dR.OR(hq:aS q)(h:dR X H q n vf T U)(o:∀i j,i<n->j<n->(T' i j=T i j/\U' i j=U i j)\/(Cg q (T i j*U' i j) (T' i j*U i j)/\¬q∣U' i j/\(T' i j).natAbs<=X/\(U' i j).natAbs<=X)):dR X H q n vf T' U':=λi j hi hj=>by
 rcases o i j hi hj with ⟨e1,e2⟩ | ⟨e1,e2,e3,e4⟩
 ·rw [e1,e2]
  exact h i j hi hj
 ·exact ((h i j hi hj).eq hq e1 e2).bd e3 e4
theorem aQ.put{v:V}{t u:Int}{b:Addr}{xs:List V}{o:HO}(h:aQ X H q v t u)(e:H b=some (.lst xs)):aQ X (upd H b o) q v t u:=by
 intros bv3 h x m h1 h2;refine (ii x m ?_ h2);cases h1 with
 | aU e' l bx bm=>exact .aU (by rw [aH (λz=>by rw [z,e] at e';cases e')];exact e') l bx bm
 | rem a b c=>exact .rem a b c
end My
namespace L2
open PySem PySem.Spec PyProof.Rows
section
variable {X:Cx} {a b:Expr} {rest:List Expr} {pos:Pos} {ta tb:TE}
end
end L2
namespace My
open PySem L2
theorem OS(xs:List V)(k:Nat):gI xs (some (k:Int)) none=xs.drop k:=by
 unfold gI;rw [HT.MY,HT.MX];by_cases h:k<=xs.length
 ·rw [Nat.min_eq_left h]
  exact rh (by rw [vN];lia)
 ·rw [Nat.min_eq_right ⋯,List.drop_of_length_le (aV _),List.drop_of_length_le ⋯,List.take_nil]
end My
namespace L2
open PySem PySem.Spec PyProof.Rows
section
variable {prog:Program} {w:World} {A:Around} {E:aX} {s:Shared}
end
section
variable {prog:Program} {w:World} {A:Around} {E:aX} {s:Shared}
end
section
variable {X:Cx}
end
section
variable {prog:Program} {w:World} {A:Around} {E:aX} {s:Shared}
end
end L2
namespace My
open PySem L2
end My
namespace L2
open PySem PySem.Spec PyProof.Rows
end L2
namespace My
open PySem L2
end My
namespace L2
open PySem PySem.Spec PyProof.Rows
section
variable {X:Cx}
def aat:V->List V->Hp->VK->Prop:=λx vs H Q=>∃(l:Addr) (zs:List Int) (j:Nat) (z:Int),x=.ref l/\vs=[.int z]/\H l=some (.lst (zs.map V.int))/\zs.length<=1000/\zs[j]?=some z/\(∀m,m<j->zs[m]?≠some z)/\Q (.int (j:Int)) H
theorem aau:wt X "list.index" aat:=by
 intro pins s σ H x vs v us Q I rx rv h;intros bv33 h l zs j z rfl rfl hH l1 hj Ir q;cases rx;obtain ⟨u,rfl,ru⟩:=rv.one;obtain ⟨t,rfl⟩:=ru;obtain ⟨sz,ai,n,r,hl,e⟩:=I.kO hH;have OT:j<zs.length:=(bK.mp hj).1;rw [aR] at hl sz;have at':∀m (hm:m<ai.toArray.size),∃t',ai.toArray[m]=.int (zs.getD m 0) t':=λm hm=>by
  have dH:m<zs.length:=by simp at hm;lia
  obtain ⟨w,hw,dM⟩:=r.get (i:=m) (x:=.int (zs.getD m 0)) (by rw [bU,gE,cw dH];rfl)
  obtain ⟨t',rfl⟩:=dM;exact ⟨t',by simpa using (bK.mp hw).2⟩
 have zj:zs.getD j 0=z:=by rw [gE,hj];rfl
 refine mT F.slot_list_index (ad _ e rfl) F.entry_list_index (F.args_list_index_2 _ _) (MeetsSeq.list_index l ai.toArray n (.int z t) (λv=>numOf v == z) (λy hy=>?_) j (by rw [cM];lia) ⋯ ?_ (λm hm Iu=>?_)) ⟨e,?_⟩
 ·obtain ⟨m,hm,rfl⟩:=Array.getElem_of_mem hy
  obtain ⟨t',e'⟩:=at' m hm;rw [e'];exact MeetsSeq.EqGives.int _ _ _ _
 ·obtain ⟨t',e'⟩:=at' j (by rw [cM];lia)
  rw [e',zj];exact Cf z
 ·obtain ⟨t',e'⟩:=at' m hm
  rw [e'];have dH:m<zs.length:=by simp at hm;lia
  have:=Ir m Iu;rw [cw dH] at this;have ne:zs.getD m 0≠z:=λq=>this (by rw [<-q,gE,cw dH];rfl)
  show (zs.getD m 0 == z)=false;simpa using ne
 ·exact ⟨.int (j:Int),H,I.tok _,⟨_,rfl⟩,q⟩
end
end L2
namespace My
open PySem L2
end My
namespace L2
open PySem
section
variable {prog:Program} {w:World} {A:Around} {E:aX} {s:Shared}
end
end L2
namespace My
open PySem L2
end My
namespace L2
open PySem PySem.Spec PyProof.Rows My
end L2
namespace My
open PySem L2
section
variable {P a d:Addr} {H Hc:Hp} {n m:Nat} {L:bR}
end
section
variable {n:Nat} {E:Nat->Nat->Prop} {pos rk:Nat->Nat}
end
open PySem PySem.W PyProof.Rows Tm
section
variable {prog:Program} {w:World} {A:Around} {E:aX} {s:Shared}
end
open PySem PySem.W PyProof.Rows
section
variable {prog:Program} {w:World} {A:Around} {E:aX} {s:Shared}
end
end My
namespace L2
open PySem PySem.W PyProof.Rows My
end L2
namespace My
open PySem PySem.W PyProof.Rows
section
variable {prog:Program} {w:World} {A:Around} {E:aX} {s:Shared} {R:Result->Shared->Prop}
end
open PySem PySem.W PyProof.Rows L2
section
variable {prog:Program} {w:World} {A:Around} {s:Shared}
end
end My
namespace L2
open PySem PySem.W PyProof.Rows My
end L2
namespace My
open PySem L2
end My
namespace L2
open PySem PySem.Spec PyProof.Rows My
end L2
namespace My
open PySem L2
end My
namespace L2
open PySem
section
variable {prog:Program} {w:World} {A:Around} {E:aX} {s:Shared}
end
open PySem PySem.Spec PyProof.Rows My
end L2
namespace My
open PySem L2
end My
namespace L2
open PySem PySem.W PyProof.Rows
section
variable {prog:Program} {w:World} {A:Around} {E:aX} {s:Shared}
end
open AutoSeq1 (wpAny_loadPart')
section
variable {prog:Program} {w:World} {A:Around} {E:aX} {s:Shared}
end
end L2
namespace My
open PySem L2
end My
namespace L2
open PySem PySem.Spec PyProof.Rows My
end L2
namespace My
open PySem L2
open PySem L2 Classical
theorem ax{a b:TS}{D:Ends}{σ:St}{H:Hp}(h:∀R:St->Hp->Prop,(∀σ H,b D σ H->R σ H)->a {D with nx:=R} σ H):GL a b D σ H:=h _ λ_ _ h=>h
end My
namespace L2
open PySem PySem.Spec PyProof.Rows
end L2
namespace My
open PySem L2 Classical
open PySem L2
end My
namespace L2
open PySem PySem.Spec PyProof.Rows My
section
variable {X:Cx}
end
end L2
namespace My
open PySem L2
end My
namespace L2
open PySem PySem.Spec PyProof.Rows My
theorem Dv{K:aE}{l:Addr}{xs:List V}{H1:Hp}(h:bM K H1 l xs):Dh (wL K l) ((List.range xs.length).zip xs |>.map λp=>(V.int (p.1:Int),p.2)) H1 where
 go:=λi Hc s hi=>by
  have hi:i<xs.length:=by simpa using hi
  exact ⟨xs,xs[i],s.seq h,by simp [hi]⟩
 fc:=λi Hc v H' s y=>by
  intros bv10 y T x nT e1 e2 e3;refine (re T (.int (i:Int)) x e1 nT e2 (λhi=>?_));have hi:i<xs.length:=by simpa using hi
  have:=e3 xs (s.seq h);rw [bU,(Cn (z:=(i,x))).mpr ⟨jN hi,this⟩];rfl
 stop:=λi Hc s hi=>by
  have hi:xs.length<=i:=by simpa using hi
  exact ⟨xs,s.seq h,hi⟩
end L2
namespace My
open PySem L2
def sV(s:String):V:=.str (Str.ofString s)
end My
namespace L2
open PySem PySem.Spec PyProof.Rows
section
variable {prog:Program} {w:World} {A:Around} {E:aX} {s:Shared}
end
open AutoSeq1 (wpAny_loadPart')
section
variable {prog:Program} {w:World} {A:Around} {E:aX} {s:Shared}
end
section
variable {prog:Program} {w:World} {A:Around} {E:aX} {s:Shared}
end
section
variable {X:Cx}
end
open PySem PySem.Spec PyProof.Rows My
end L2
namespace My
open PySem L2
def aY(H:Hp)(T:Addr):Prop:=∃x:Int,H T=some (.lst [.int x])
def aI(T:Addr)(H H':Hp):Prop:=∀b o,b≠T->H b=some o->H' b=some o
variable {T:Addr} {H H1:Hp}
theorem aI.trans{H2:Hp}(a:aI T H H1)(b:aI T H1 H2):aI T H H2:=λc o n e=>b c o n (a c o n e)
theorem aI.of(a:af H H1):aI T H H1:=λc o _ e=>a c o e
theorem aI.upd{o:HO}:aI T H (L2.upd H T o):=λc u n e=>(aH n).trans e
theorem aY.mono(h:aY H T)(a:af H H1):aY H1 T:=let ⟨x,e⟩:=h;⟨x,a _ _ e⟩
theorem aY.ne{b:Addr}(h:aY H T)(n:H b=none):b≠T:=λz=>by obtain ⟨x,e⟩:=h;rw [z,e] at n;cases n
def aav(K:aE):Sp:=λvs H Q _=>∃(a:Addr) (ns:List Int) (k:Nat),vs=[.ref a,.int (k:Int)]/\bM K H a (ns.map V.int)/\∀z:Int,Q (.int z) H
def aaw(K:aE):Sp:=λvs H Q _=>∃(a:Addr) (ns:List Int) (k:Nat),vs=[.ref a,.int (k:Int)]/\bM K H a (ns.map V.int)/\k<=1000/\∀(T:Addr) (H':Hp),af H H'->H T=none->aY H' T->Q (.ref T) H'
def aax:Sp:=λvs H Q _=>∃(T:Addr) (m:Nat),vs=[.ref T,.int (m:Int)]/\aY H T/\1<=m/\m<=1000/\∀(d:Nat) (H':Hp),d<m->aI T H H'->aY H' T->Q (.int (d:Int)) H'
theorem aI.refl(T:Addr)(H:Hp):aI T H H:=λ_ _ _ e=>e
end My
namespace L2
open PySem
end L2
namespace My
open PySem L2
end My
namespace L2
open PySem
variable {X:Cx}
def aay:V->List V->Hp->VK->Prop:=λx vs H Q=>∃l xs,∃k:Nat,∃i:Int,∃y,x=.ref l/\vs=[.int i,y]/\i=(k:Int)/\H l=some (.lst xs)/\k<=xs.length/\xs.length<=1000/\Q .aO (upd H l (.lst (xs.take k++y::xs.drop k)))
theorem aaz:wt X "list.insert" aay:=by
 intro pins s σ H x vs v us Q I rx rv h;intros bvE h l bv33 xs k i y rfl rfl hi hH hk hz q;cases rx;obtain ⟨u,w,rfl,ru,dM⟩:=rv.two;obtain ⟨t,rfl⟩:=ru;obtain ⟨z,ai,n,r,hl,e⟩:=I.kO hH;have l1:1001<=sizeLine:=by decide +kernel
 have lx:=r.length;have hf:¬(!Builtin.List.listFitsIndex i)=true:=by
  rw [fitsIndex_both (k:=i) ⋯ ⋯]
  exact dC
 have hs:ai.toArray.size<=sizeLine:=by rw [cM];lia
 have M:=@AutoSeq1.list_insert_list_int_val_1 l ai.toArray n i t w hf hs;refine mT F.slot_list_insert (ad _ e rfl) F.entry_list_insert (@F.args_list_insert_3 _ _ _) M ⟨e,?_⟩;refine ⟨.aO,_,I.AF (its':=ai.take k++w::ai.drop k) hH e ?_ ((r.take k).append (.cons dM (r.drop k))) ?_,rfl,q⟩
 ·have e1:¬(i<0):=by lia
  have e2:min i.toNat ai.length=k:=by lia
  simp only [az e1,cM,e2];apply Array.ext';simp;rw [rh (by simp)]
 ·rw [dD,fO,oh,vN]
  lia
open PySem PySem.Spec PyProof.Rows
section
variable {prog:Program} {w:World} {A:Around} {E:aX} {s:Shared}
end
section
variable {X:Cx} {tg:Expr}
end
section
variable {prog:Program} {w:World} {K:Type} [DecidableEq K] {knd:HeapKind prog w K} {A:Around} {E:aX} {s:Shared}
end
section
variable {prog:Program} {w:World} {A:Around} {E:aX} {s:Shared}
end
section
variable {X:Cx} {pins:a7} {σ:St} {H:Hp} {s:Shared}
end
section
variable {X:Cx} {tg:Expr}
end
open PySem PySem.W PyProof.Rows My
end L2
namespace My
open PySem L2
end My
namespace L2
open PySem
end L2
namespace My
end My
namespace L2
open PySem PySem.Spec PyProof.Rows
open PySem PySem.Spec PyProof.Rows PySem.W
open PySem PySem.Spec PyProof.Rows PySem.W Att
section
variable {prog:Program} {w:World} {A:Around} {E:aX} {s:Shared}
end
section
variable {X:Cx}
end
end L2
namespace My
open PySem L2
def nI(o:List Nat):List V:=o.map λk:Nat=>V.int (k:Int)
def aaA:Sp:=λvs H Q _=>∃(T:Addr) (n:Nat),vs=[.ref T,.int (n:Int)]/\aY H T/\n<=60/\∀(D:Addr) (o:List Nat) (H':Hp),aI T H H'->aY H' T->H D=none->H' D=some (.lst (nI o))->o.Perm (List.range n)->Q (.ref D) H'
section
variable {n:Nat} {dw:Nat->Nat->Prop} {fm:Nat->Prop} {p q:Nat}
end
theorem aaB{n:Nat}{o:List Nat}(ho:o.Perm (List.range n)){k x:Nat}:x∈o.take k↔su n o k x:=by
 have nd:=wU ho;constructor
 ·intro h
  obtain ⟨i,hi,e⟩:=List.getElem_of_mem h;rw [oh] at hi;rw [List.getElem_take] at e;subst e;exact ⟨(fk ho).mp (f9 _),by rw [A1 nd];lia⟩
 ·rintro ⟨h1,h2⟩
  obtain ⟨hk,e⟩:=iP ((fk ho).mpr h1);have:o.idxOf x<(o.take k).length:=by rw [oh];lia
  have:=f9 this
  rwa [List.getElem_take,e] at this
def cO(o:List Nat)(k:Nat):List Nat:=(o.take k).reverse
def sT(M:a_)(D:Nat->Int)(o:List Nat)(k i j:Nat):Int:=
 if k<=o.idxOf i/\k<=o.idxOf j then cf M (cO o k) (M i) j else if o.idxOf i<=o.idxOf j then cf M (cO o (o.idxOf i)) (M i) j else cf M (cO o (o.idxOf j)) (M i) j*D j
def sU(M:a_)(D:Nat->Int)(o:List Nat)(k i j:Nat):Int:=
 if k<=o.idxOf i/\k<=o.idxOf j then D i*eU M (cO o k) else if o.idxOf i<=o.idxOf j then D i*eU M (cO o (o.idxOf i)) else D i*eU M (cO o (o.idxOf j+1))
section
variable {q:Int} {M:a_} {D:Nat->Int} {o:List Nat} {n k:Nat}
theorem Dw(h:k<o.length):cO o (k+1)=o[k]::cO o k:=by unfold cO;rw [List.take_succ,cw h];simp
theorem wY(ho:o.Perm (List.range n)){x:Nat}:x∈cO o k↔su n o k x:=by unfold cO;rw [List.mem_reverse];exact aaB ho
theorem Dx(h:gq q M (cO o k)):∀{j:Nat},j<=k->gq q M (cO o j):=by
 have go:∀d j,j+d=k->gq q M (cO o j):=λd=>by
  induction d with
  | zero=>intro j e;rw [show j=k by lia];exact h
  | succ d ih=>
   intro j e;have:=ih (j+1) ⋯
   by_cases hl:j<o.length
   ·rw [Dw hl] at this
    exact this.1
   ·have e:cO o j=cO o (j+1):=by unfold cO;rw [rh ⋯,rh ⋯]
    rw [e];exact this
 exact fun{j} hj=>go (k-j) j ⋯
theorem aaC(hq:aS q){L:bR}{ms:List Nat}{X p:Nat}(ho:o.Perm (List.range n))(hp:p<n)(ip:o.idxOf p=k)(g:gq q M (cO o k))(sC:¬q∣cf M (cO o k) (M p) p)(hD:∀i,¬q∣D i)
  (zero:∀a b,a<n->b<n->a≠b->¬aL n L a b->M a b=0) (qk:wW n L o p ms) (bd:∀k i j,k<=n->(sT M D o k i j).natAbs<=X/\(sU M D o k i j).natAbs<=X):OO q X n p ms (sT M D o k) (sU M D o k) (sT M D o (k+1)) (sU M D o (k+1)):=by
 have lo:=gN ho;have OU:=wU ho;have kl:k<o.length:=by rw [<-ip];exact (iP ((fk ho).mpr hp)).1
 have kn:k<n:=by lia
 have pk:o[k]=p:=by have:=(iP ((fk ho).mpr hp)).2;simp only [ip] at this;exact this
 have cs:cO o (k+1)=p::cO o k:=by rw [Dw kl,pk]
 have g':gq q M (cO o (k+1)):=by rw [cs];exact ⟨g,sC⟩
 have dz:∀j,j<=k+1->¬q∣eU M (cO o j):=λj hj=>wX hq (Dx g' hj);have mlt:∀{i},i∈ms->i<n/\k<o.idxOf i:=fun{i} h=>by have:=(qk i).mp h;rw [ip] at this;exact ⟨this.1,this.2.1⟩
 have Iv:eU M (cO o (k+1))=cf M (cO o k) (M p) p:=by rw [cs];rfl
 have step:∀i j,cf M (cO o k) (M p) p*cf M (cO o k) (M i) j-cf M (cO o k) (M i) p*cf M (cO o k) (M p) j=eU M (cO o k)*cf M (cO o (k+1)) (M i) j:=λi j=>by rw [cs];exact Il hq g p (M i) j
 have bE:∀{i},i<n->k<o.idxOf i->i∉ms->cf M (cO o k) (M i) p=0/\cf M (cO o k) (M p) i=0:=fun{i} hi hk nm=>by
  have nc:i∉cO o k:=λz=>by have:=((wY ho).mp z).2;lia
  have pc:p∉cO o k:=λz=>by have:=((wY ho).mp z).2;lia
  have ne:p≠i:=λz=>by rw [<-z] at hk;lia
  have nw:¬Wk (aL n L) (·∈cO o k) p i:=λz=>nm ((qk i).mpr ⟨hi,⋯,by rw [ip];exact z.mono λx hx=>(wY ho).mp hx⟩)
  have lc:∀c∈cO o k,c<n:=λc hc=>((wY ho).mp hc).1;exact ⟨A6 hq zero g lc i p hi hp nc pc (Ne.symm ne) λz=>nw (z.symm Ij),A6 hq zero g lc p i hp hi pc nc ne nw⟩
 have tp:∀j,k<=o.idxOf j->sT M D o k p j=cf M (cO o k) (M p) j/\sU M D o k p j=D p*eU M (cO o k):=λj hj=>by
  unfold sT sU;rw [aq ⟨⋯,hj⟩,aq ⟨⋯,hj⟩]
  exact ⟨rfl,rfl⟩
 have tk:∀i j,k<=o.idxOf i->k<=o.idxOf j->sT M D o k i j=cf M (cO o k) (M i) j/\sU M D o k i j=D i*eU M (cO o k):=λi j hi hj=>by unfold sT sU;rw [aq ⟨hi,hj⟩,aq ⟨hi,hj⟩];exact ⟨rfl,rfl⟩
 have wC:∀i j,k+1<=o.idxOf i->k+1<=o.idxOf j->sT M D o (k+1) i j=cf M (cO o (k+1)) (M i) j/\sU M D o (k+1) i j=D i*eU M (cO o (k+1)):=λi j hi hj=>by unfold sT sU;rw [aq ⟨hi,hj⟩,aq ⟨hi,hj⟩];exact ⟨rfl,rfl⟩
 have A7:∀i,k<o.idxOf i->sT M D o (k+1) i p=cf M (cO o k) (M i) p*D p/\sU M D o (k+1) i p=D i*eU M (cO o (k+1)):=λi hi=>by
  unfold sT sU;rw [az ⋯,az ⋯,az ⋯,az ⋯,ip]
  exact ⟨rfl,rfl⟩
 refine ⟨?_,λi j _ _=>?_,λi j _ _=>bd (k+1) i j kn,λi hi=>?_,λi hi j hj=>?_,λi j dS km h=>?_⟩
 ·rw [(tp p ⋯).1]
  exact sC
 ·unfold sU
  split
  ·exact hE hq (hD i) (dz _ ⋯)
  ·rename_i h1
   split
   ·exact hE hq (hD i) (dz _ ⋯)
   ·exact hE hq (hD i) (dz _ ⋯)
 ·have h1:=(mlt hi).2
  rw [(tk i p ⋯ ⋯).1,(tk i p ⋯ ⋯).2,(tp p ⋯).1,(tp p ⋯).2,(A7 i h1).1,(A7 i h1).2,Iv]
  exact Cg.of_eq (by grind)
 ·have h1:=(mlt hi).2
  have h2:=(mlt hj).2;rw [(tk i j ⋯ ⋯).1,(tk i j ⋯ ⋯).2,(tp j ⋯).1,(tp j ⋯).2,(A7 i h1).1,(A7 i h1).2,(wC i j ⋯ ⋯).1,(wC i j ⋯ ⋯).2]
  have st:=step i j;rw [<-Iv] at st;generalize cf M (cO o k) (M i) j=x at st ⊢;generalize cf M (cO o k) (M i) p=y at st ⊢;generalize cf M (cO o k) (M p) j=w at st ⊢;generalize cf M (cO o (k+1)) (M i) j=x' at st ⊢;generalize eU M (cO o k)=d at st ⊢;generalize eU M (cO o (k+1))=d' at st ⊢;refine Cg.of_eq ?_;have e:(x*(D i*d'*(D p*d))-y*D p*w*(D i*d))*(D i*d')=D i*D p*d*(d'*x-y*w)*(D i*d'):=by grind
  rw [e,st];grind
 ·by_cases h1:k<o.idxOf i/\k<o.idxOf j
  ·rw [(tk i j ⋯ ⋯).1,(tk i j ⋯ ⋯).2,(wC i j ⋯ ⋯).1,(wC i j ⋯ ⋯).2]
   have st:=step i j;rw [<-Iv] at st;have z:cf M (cO o k) (M i) p*cf M (cO o k) (M p) j=0:=by
    rcases h with h | ⟨_,h⟩;·rw [(bE dS h1.1 h).1,iX]
    ·rw [(bE km h1.2 h).2,lK]
   rw [z,pO] at st;exact Cg.of_eq (by grind)
  ·by_cases h2:k<o.idxOf i/\o.idxOf j=k
   ·have ej:j=p:=Ak λz=>A4 ho km hp z ⋯
    subst ej;have nm:i∉ms:=by
     rcases h with h | ⟨h,_⟩;·exact h
     ·exact absurd rfl h
    rw [(tk i j ⋯ ⋯).1,(A7 i h2.1).1,(bE dS h2.1 nm).1]
    exact Cg.of_eq (by simp)
   ·have e:sT M D o (k+1) i j=sT M D o k i j/\sU M D o (k+1) i j=sU M D o k i j:=by
     by_cases h3:o.idxOf i=k/\k<=o.idxOf j
     ·have a1:¬(k+1<=o.idxOf i/\k+1<=o.idxOf j):=by lia
      have a2:o.idxOf i<=o.idxOf j:=by lia
      have a3:k<=o.idxOf i/\k<=o.idxOf j:=by lia
      unfold sT sU;rw [az a1,aq a2,aq a3,az a1,aq a2,aq a3,h3.1];exact ⟨rfl,rfl⟩
     ·have a1:¬(k+1<=o.idxOf i/\k+1<=o.idxOf j):=by lia
      have a2:¬(k<=o.idxOf i/\k<=o.idxOf j):=by lia
      unfold sT sU;rw [az a1,az a2,az a1,az a2];exact ⟨rfl,rfl⟩
    rw [e.1,e.2];exact Cg.refl _
end
end My
namespace L2
open PySem PySem.Spec PyProof.Rows
section
variable {X:Cx} {tg:Expr}
end
end L2
namespace My
open PySem L2
structure Dy (q:Int) (n X:Nat) (ag:cT) (o:List Nat) (M:a_) (D:Nat->Int):Prop where
 mB:∀i j,i<n->j<n->q∣(atT ag i j).1*D i-M i j*(atT ag i j).2
 dn:∀i,¬q∣D i
 zero:∀i j,i<n->j<n->(atT ag i j).1=0->M i j=0
 bd:∀k i j,k<=n->(sT M D o k i j).natAbs<=X/\(sU M D o k i j).natAbs<=X
 X1:1000<=X
 A8:X<=10 ^ 100
structure Iw (H0 H:Hp) (q:Int) (n X:Nat) (L:bR) (o:List Nat) (M:a_) (D:Nat->Int) (k:Nat) (wk ot:Addr) (rs:Nat->Addr) (vf:Nat->Nat->V) (ls:Nat->Addr) (g:Nat->List Nat):Prop where
 tab:WTab H wk n rs vf
 new:H0 wk=none/\∀i,i<n->H0 (rs i)=none
 mB:dR X H q n vf (sT M D o k) (sU M D o k)
 qk:OF H ot n ls g
 ok:∀p,p<n->A3 n o p (g p)/\wW n L o p (g p)
 sep:(∀i,i<n->ot≠rs i/\∀j,j<n->ls j≠rs i)
def aaD(C N:Addr):Sp:=λvs H Q _=>∃(z a d:Addr) (q:Int) (B X n:Nat) (ag:cT) (o:List Nat) (M:a_) (D:Nat->Int),vs=[.ref z,.ref a,.ref d]/\cP C H z q/\aS q/\d9 B H q a ag/\B<=10 ^ 100/\ag.length=n/\1<=n/\n<=40/\(∀ps∈ag,ps.length=n)/\H d=some (.lst (bW o))/\o.Perm (List.range n)/\Dy q n X ag o M D /\
 (∀(k:Nat) (hk:k<o.length),gq q M (cO o k)->q∣cf M (cO o k) (M o[k]) o[k]->∀(tp wk ot:Addr) (H':Hp) (rs ls:Nat->Addr) (vf:Nat->Nat->V) (g:Nat->List Nat),af H H'->H' tp=some (.tup [.ref wk,.ref ot,.int ((k:Int)+1)])->Iw H H' q n X (gL n (d_ ag) n) o M D k wk ot rs vf ls g->Q (.ref tp) H') /\
 (gq q M (cO o n)->∀(tp wk ot:Addr) (H':Hp) (rs ls:Nat->Addr) (vf:Nat->Nat->V) (g:Nat->List Nat),af H H'->H' tp=some (.tup [.ref wk,.ref ot,.aO])->Iw H H' q n X (gL n (d_ ag) n) o M D n wk ot rs vf ls g->Q (.ref tp) H')
section
variable {H:Hp} {q:Int} {a:Addr} {B n:Nat} {ag:cT}
theorem aaE(h:d9 B H q a ag)(l:ag.length=n)(w:∀ps∈ag,ps.length=n):∃(ra:Nat->Addr) (vf:Nat->Nat->V),H a=some (.lst ((List.range n).map λi=>V.ref (ra i)))/\(∀i,i<n->H (ra i)=some (.lst ((List.range n).map (vf i))))/\∀i j,i<n->j<n->aw B H q (vf i j) (atT ag i j).1 (atT ag i j).2:=by
 intros bv4 h vs ea lv f;have row:∀i,i<n->∃(r:Addr) (us:List V),vs[i]?=some (.ref r)/\H r=some (.lst us)/\us.length=n/\∀j,j<n->aw B H q (us.getD j .aO) (atT ag i j).1 (atT ag i j).2:=λi hi=>by
  have hv:i<vs.length:=by lia
  have hp:i<ag.length:=by lia
  obtain ⟨r,er,us,eu,lu,fu⟩:=f i vs[i] ag[i] (cw hv) (cw hp);have lw:=w _ (f9 hp);refine ⟨r,us,by rw [cw hv,er],eu,⋯,λj hj=>?_⟩
  have hu:j<us.length:=by lia
  have hr:j<(ag[i]).length:=by lia
  have:=fu j us[j] ag[i][j] (cw hu) (cw hr);unfold atT;rw [getD_at hp,getD_at hr,getD_at hu];exact this
 refine ⟨λi=>if h:i<n then (row i h).choose else 0,λi j=>if h:i<n then (row i h).choose_spec.choose.getD j .aO else .aO,?_,λi hi=>?_,λi j hi hj=>?_⟩
 ·rw [ea]
  congr 2
  refine eP (by simp;lia) λi h1 h2=>?_
  have hi:i<n:=by simpa using h2
  have e:some vs[i]=some (V.ref (row i hi).choose):=(cw h1).symm.trans (row i hi).choose_spec.choose_spec.1;rw [Option.some.inj e];simp [hi]
 ·simp only [fP hi]
  have e:=(row i hi).choose_spec.choose_spec;refine e.2.1.trans ?_
  congr 2
  refine eP (by rw [aR,cy];exact e.2.2.1) λj h1 h2=>?_
  rw [d8,e_,getD_at h1]
 ·simp only [fP hi]
  exact (row i hi).choose_spec.choose_spec.2.2.2 j hj
theorem sD{X:Nat}{v:V}{x m t u:Int}(h:aw B H q v x m)(d:q∣x*u-t*m)(nu:¬q∣u)(bt:t.natAbs<=X)(bu:u.natAbs<=X):aQ X H q v t u:=aQ.bd (B:=B) (bi x m h d nu) bt bu
end
variable {n:Nat}
theorem aaF{f:Nat->Nat->Bool}:∀z∈gL n f n,0<=z.1/\z.1<z.2/\z.2<(n:Int):=λz hz=>by obtain ⟨i,j,_,h2,h3,h4,rfl⟩:=mem_of hz;dsimp only;lia
variable {a b:Nat}
theorem aaG{ag:cT}(ha:a<n)(hb:b<n)(ab:a≠b)(h:¬aL n (gL n (d_ ag) n) a b):(atT ag a b).1=0:=Ak λz=>h ⟨ha,hb,by
 have t1:qi ag a b=true:=by unfold qi;unfold atT at z;simpa using z
 rcases Nat.lt_or_gt_of_ne ab with l | l;·exact .inl (Ia l hb (by unfold d_;rw [t1];rfl) ⋯)
 ·exact .inr (Ia l ha (by unfold d_;rw [t1,Bool.or_true]) ⋯)⟩
variable {B:Nat} {H:Hp} {q x m:Int} {v:V}
theorem wZ{B':Nat}{x' m':Int}(h:aw B H q v x m)(g:aw B' H q v x' m'):x=x'/\m=m':=by
 cases h with
 | aU e l=>
  cases g with
  | aU e' l'=>rw [e] at e';cases e';exact ⟨rfl,rfl⟩
 | rem=>cases g;exact ⟨rfl,rfl⟩
def gB(H:Hp)(e:Addr)(n:Nat)(av:Nat->V):Prop:=H e=some (.lst ((List.range n).map av))
section
variable {q:Int} {M:a_} {D:Nat->Int} {o:List Nat} {n:Nat} {L:bR} {g:Nat->List Nat}
end
section
variable {q:Int} {M:a_} {D:Nat->Int} {o:List Nat} {n:Nat} {L:bR} {g:Nat->List Nat}
end
theorem OV:∀n,1<=iO n
 | 0=>aV _
 | n+1=>by have:=OV n;show 1<=(n+1)*iO n;exact aM this (oo _ ⋯)
theorem OW(h:a<=b):iO a<=iO b:=by
 induction b with
 | zero=>rw [show a=0 by lia];exact aV _
 | succ b ih=>
  by_cases e:a=b+1;·rw [e];exact aV _
  ·refine aM (ih ⋯) ?_
   show iO b<=(b+1)*iO b;exact oo _ ⋯
def lg(n B:Nat):Nat:=iO (n+2)*B ^ (n+2)
def fW(n B:Nat):Nat:=(n+1)*(B*(lg n B*lg n B))
section
variable {q:Int} {M:a_} {D:Nat->Int} {o:List Nat} {n B:Nat}
theorem OX(b1:1<=B){m:Nat}(h:m<=n+2):iO m*B ^ m<=lg n B:=fQ (OW h) (Nat.pow_le_pow_right b1 h)
theorem OY(b1:1<=B):1<=lg n B:=Nat.mul_pos (OV _) (Nat.pow_pos b1)
theorem OZ(lo:o.length=n)(k:Nat):(cO o k).length<=n:=by unfold cO;rw [Cb,oh];lia
theorem sE(b1:1<=B)(hM:∀i k,(M i k).natAbs<=B)(lo:o.length=n)(k i j:Nat):(cf M (cO o k) (M i) j).natAbs<=lg n B:=aM (aan hM (hM i)) (OX b1 (by have:=OZ lo k;lia))
theorem w5(b1:1<=B)(hM:∀i k,(M i k).natAbs<=B)(lo:o.length=n)(k:Nat):(eU M (cO o k)).natAbs<=lg n B:=aM (OM hM) (OX b1 (by have:=OZ lo k;lia))
theorem Iy(b1:1<=B):lg n B<=fW n B:=by unfold fW;refine aM (oo (lg n B) (OY (n:=n) b1)) ?_;refine aM (oo _ b1) (oo _ ⋯)
theorem w9(b1:1<=B){a b:Int}(ha:a.natAbs<=lg n B)(hb:b.natAbs<=B):(a*b).natAbs<=fW n B/\(b*a).natAbs<=fW n B:=by
 have h:(a*b).natAbs<=fW n B:=by rw [cS];unfold fW;refine aM (fQ ha hb) ?_;rw [z8];refine aM (Af B (oo (lg n B) (OY (n:=n) b1))) (oo _ ⋯)
 exact ⟨h,by rw [eE];exact h⟩
theorem Iz{F:Nat->Int}{Z:Nat}(h:∀j,(F j).natAbs<=Z):∀l:List Nat,((l.map F).sum).natAbs<=l.length*Z
 | []=>by simp
 | x::l=>by rw [ky,List.sum_cons,fO,Nat.succ_mul];have:=Iz h l;have:=h x;lia
theorem aaH(b1:1<=B)(hM:∀i k,(M i k).natAbs<=B)(hD:∀i,(D i).natAbs<=B)(lo:o.length=n)(k i j:Nat):(sT M D o k i j).natAbs<=fW n B/\(sU M D o k i j).natAbs<=fW n B:=by
 constructor
 ·unfold sT
  split
  ·exact aM (sE b1 hM lo _ _ _) (Iy b1)
  ·split
   ·exact aM (sE b1 hM lo _ _ _) (Iy b1)
   ·exact (w9 b1 (sE b1 hM lo _ _ _) (hD j)).1
 ·unfold sU
  split
  ·exact (w9 b1 (w5 b1 hM lo _) (hD i)).2
  ·split <;> exact (w9 b1 (w5 b1 hM lo _) (hD i)).2
theorem aaI{ag:cT}(b1:1<=B)(hM:∀i k,(M i k).natAbs<=B)(hD:∀i,(D i).natAbs<=B)(lo:o.length=n)(w:∀i j,i<n->j<n->q∣(atT ag i j).1*D i-M i j*(atT ag i j).2)(dn:∀i,¬q∣D i)(zero:∀i j,i<n->j<n->(atT ag i j).1=0->M i j=0)(x1:1000<=fW n B)(aaJ:fW n B<=10 ^ 100):Dy q n (fW n B) ag o M D:=
 ⟨w,dn,zero,λk i j _=>aaH b1 hM hD lo k i j,x1,aaJ⟩
end
theorem aaK(x y:Int):x=x.fmod y+y*x.fdiv y:=by have:=Int.mul_fdiv_add_fmod x y;lia
theorem O0(x y:Int):Int.gcd y (x.fmod y)=Int.gcd x y:=by
 have e:=aaK x y;have e2:x.fmod y=x-y*x.fdiv y:=by lia
 refine Nat.dvd_antisymm (Int.ofNat_dvd.mp (Int.dvd_coe_gcd ?_ (jO ..))) (Int.ofNat_dvd.mp (Int.dvd_coe_gcd (jf ..) ?_))
 ·have:=Int.dvd_add (jf y (x.fmod y)) (Am (c:=x.fdiv y) (jO y (x.fmod y)))
  rwa [<-e] at this
 ·have:=Int.dvd_sub (jO x y) (Am (c:=x.fdiv y) (jf x y))
  rwa [<-e2] at this
variable {y:Int}
theorem aaL(h:y≠0):(x.fmod y).natAbs<y.natAbs:=by
 have h1:=gu x h;have h2:x % y<(y.natAbs:Int):=Int.emod_lt x h;rw [Int.fmod_eq_emod]
 split
 ·lia
 ·rename_i hn
  rw [not_or] at hn;have:x % y≠0:=λz=>hn.2 (vU z);lia
def aaM:Sp:=λvs H Q _=>∃a b:Int,vs=[.int a,.int b]/\Q (.int (Int.gcd a b:Int)) H
def aaN:Sp:=λvs H Q _=>∃c p:Int,vs=[.int c,.int p]/\2<=p/\p<=997/\g9 p=true/\¬p∣c/\∀(r:Int) (H':Hp),af H H'->0<=r->r<p->p∣r*c-1->Q (.int r) H'
def eW(H:Hp)(td:Addr)(q:Int):Prop:=(q=0/\H td=some (.tup [sV "fractions"]))\/(q≠0/\H td=some (.tup [sV "wheel",.int q]))
variable {H':Hp} {td:Addr}
theorem eW.mono(h:eW H td q)(s:af H H'):eW H' td q:=h.imp (λh=>⟨h.1,s _ _ h.2⟩) λh=>⟨h.1,s _ _ h.2⟩
def aaO:Sp:=λvs H Q _=>∃(td:Addr) (q a b:Int) (Y:Nat),vs=[.ref td,.int a,.int b]/\eW H td q/\aS q/\¬q∣b/\a.natAbs<=Y/\b.natAbs<=Y/\Y<=10 ^ 300/\∀(v:V) (H':Hp),af H H'->aQ Y H' q v a b->Q v H'
theorem aaP{a b:Int}(hb:b≠0)(s:Int)(hs:s=if b<0 then -1 else 1):cb ((s*a).fdiv (Int.gcd a b:Int)) ((s*b).fdiv (Int.gcd a b:Int))/\(s*a).fdiv (Int.gcd a b:Int)*b=a*(s*b).fdiv (Int.gcd a b:Int):=by
 have gp:0<Int.gcd a b:=Int.gcd_pos_of_ne_zero_right a hb;obtain ⟨x,hx⟩:=jO a b;obtain ⟨y,hy⟩:=jf a b;generalize hg:Int.gcd a b=g at gp hx hy ⊢;have g0:(g:Int)≠0:=by lia
 have e1:(s*a).fdiv (g:Int)=s*x:=by
  rw [hx,show s*((g:Int)*x)=(g:Int)*(s*x) by grind]
  exact Int.mul_fdiv_cancel_left _ g0
 have e2:(s*b).fdiv (g:Int)=s*y:=by
  rw [hy,show s*((g:Int)*y)=(g:Int)*(s*y) by grind]
  exact Int.mul_fdiv_cancel_left _ g0
 rw [e1,e2];have g_:Int.gcd x y=1:=by have:=Int.gcd_mul_left (g:Int) x y;rw [<-hx,<-hy,hg,vR] at this;exact Nat.eq_of_mul_eq_mul_left gp ⋯
 have ss:s=1\/s=-1:=by rw [hs];split <;> simp
 refine ⟨⟨?_,?_⟩,by rw [hx,hy];grind⟩
 ·have M_:(g:Int)*y<0\/0<(g:Int)*y:=by lia
  have ys:(b<0->y<0)/\(¬b<0->0<y):=by
   constructor
   ·intro h
    refine Ak λz=>?_;have:0<=(g:Int)*y:=Int.mul_nonneg ⋯ ⋯
    lia
   ·intro h
    refine Ak λz=>?_;have:(g:Int)*y<=0:=Int.mul_nonpos_of_nonneg_of_nonpos ⋯ ⋯
    lia
  rw [hs]
  split
  ·rename_i h
   have:=ys.1 h;lia
  ·rename_i h
   have:=ys.2 h;lia
 ·rcases ss with h | h
  ·rw [h,Int.one_mul,Int.one_mul]
   exact g_
  ·rw [h,show (-1:Int)*x=-x by lia,show (-1:Int)*y=-y by lia,Int.gcd_neg,Int.neg_gcd]
   exact g_
def O1(tp bt:Int->Int->Int->Int->Int):Sp:=λvs H Q _=>∃(td:Addr) (v u:V) (q T U T' U':Int) (X Y:Nat),vs=[.ref td,v,u]/\eW H td q/\aS q/\aQ X H q v T U/\aQ X H q u T' U'/\X<=10 ^ 140/\¬q∣bt T U T' U'/\(tp T U T' U').natAbs<=Y/\(bt T U T' U').natAbs<=Y/\∀(v':V) (H':Hp),af H H'->aQ Y H' q v' (tp T U T' U') (bt T U T' U')->Q v' H'
variable {X:Nat}
theorem ql(h:x.natAbs<=X)(hX:X<=10 ^ 140):cV x:=fz (aM h hX) (by decide +kernel)
theorem A9(h:x.natAbs<=X)(h':y.natAbs<=X)(hX:X<=10 ^ 140):(x*y).natAbs<=10 ^ 280:=by rw [cS];exact aM (fQ (aM h hX) (aM h' hX)) (by decide +kernel)
def aaQ:Sp:=λvs H Q _=>∃(td:Addr) (q:Int),vs=[.ref td]/\eW H td q/\aS q/\∀(v:V) (H':Hp),af H H'->aw 1000 H' q v 0 1->Q v H'
variable {Y:Nat}
theorem aaR(hq:aS q)(h:aQ Y H q v 0 1)(y:1<=Y):aw 1000 H q v 0 1:=by
 obtain ⟨x,m,h1,h2⟩:=(Dt hq h).mp (jg q);subst h2;have hb:aQ 1000 H q v 0 1:=h.bd ∅ ∅
 intros bv7 hb x' m' g1 g2 g3;obtain ⟨e1,e2⟩:=wZ h1 g1;subst e1;cases g1 with
 | aU e l bx bm=>
  have:=l.g_;rw [Int.gcd_zero_left] at this;have:=l.pos;have:m'=1:=by lia
  subst this;exact .aU e l bx bm
 | rem a b c=>exact .rem a b c
def aaS:Sp:=λvs H Q _=>∃(td T:Addr) (q:Int),vs=[.ref td,.ref T]/\eW H td q/\aS q/\aY H T/\∀(v:V) (x m:Int) (H':Hp),aI T H H'->aY H' T->aw 1000 H' q v x m->(q=0->x.natAbs<=3/\m∣6)->Q v H'
variable {T:Addr}
theorem eW.off(h:eW H td q)(o:aI T H H')(t:aY H T):eW H' td q:=by
 obtain ⟨x,ex⟩:=t;have ne:∀{xs},H td=some (.tup xs)->td≠T:=fun{xs} e z=>by rw [z,ex] at e;cases e
 exact h.imp (λh=>⟨h.1,o _ _ (ne h.2) h.2⟩) λh=>⟨h.1,o _ _ (ne h.2) h.2⟩
theorem IA{a b:Int}(h:aQ Y H q v a b)(ha:a.natAbs<=1000)(hb:b.natAbs<=1000)(q0:q=0):∃x m,aw 1000 H q v x m/\x.natAbs<=a.natAbs/\m∣b:=by
 have h2:aQ a.natAbs H q v a b\/True:=.inr trivial;obtain ⟨x,m,g1,g2,g3⟩:=h.bd (Y:=1000) ha hb;subst q0;refine (bi x m g1 ?_ ?_)
 ·cases g1 with
  | aU e l bx bm=>
   have e0:=e9.mp g2;have U0:b≠0:=λz=>g3 (by rw [z];exact iW 0)
   by_cases up:0<b;·exact (p_ l up (show x*b=a*m by lia)).2
   ·have:=p_ l (show 0 < -b by lia) (show x * -b=-a*m by rw [kC,q5];lia)
    rw [Ae] at this;exact this.2
  | rem _ _ _=>lia
 ·cases g1 with
  | aU e l bx bm=>have e0:=e9.mp g2;exact HY l (show x*b=a*m by lia)
  | rem _ _ _=>lia
def aaT:Sp:=λvs H Q _=>∃T:Addr,vs=[.ref T]/\aY H T/\∀(td:Addr) (q:Int) (H':Hp),aI T H H'->aY H' T->eW H' td q->aS q->Q (.ref td) H'
def IC(w:Int):Bool:=[0,2,3,5,7,997,97,13,11].contains w
theorem aaU{w:Int}(h:IC w=true):aS w:=by unfold IC at h;simp at h;rcases h with h | h | h | h | h | h | h | h | h <;> subst h <;> (unfold aS;decide +kernel)
theorem aaV{wi:TI}{ρ:St->St}{te:TE}{σ:St}{Q:VK}(hn:n<sizeLine)(hT:aY H T)(kf:∀R:It->Hp->Prop,R (oF 0 n) H->wi σ H R)(Pr:Addr->Nat->V->Hp->Prop)
  (mono:∀D i y Ha Hb ys,Pr D i y Ha->aY Ha T->Ha D=some (.lst ys)->(∀b o,b≠T->b≠D->Ha b=some o->Hb b=some o)->Pr D i y Hb)
  (step:∀(D:Addr) (i:Nat),i<n->∀(Hc:Hp) (R:VK),aI T H Hc->aY Hc T->(∃ys,Hc D=some (.lst ys))->D≠T->H D=none->(∀y H3,aI T Hc H3->aY H3 T->Pr D i y H3->R y H3)->te (some (.int (0+(i:Int)))::ρ σ) Hc R)
  (fin:∀(D:Addr) (ys:List V) (Hc:Hp),D≠T->H D=none->aI T H Hc->aY Hc T->ys.length=n->(∀(i:Nat) (y:V),ys[i]?=some y->Pr D i y Hc)->Hc D=some (.lst ys)->Q (.ref D) Hc):j8 wi ρ (λ_ H Q=>Q true H) te σ H Q:=by
 refine kf _ ?_;intro D nD;have nP:=hT.ne nD;have up:∀{Hc:Hp} {o:HO},aY Hc T->aY (L2.upd Hc D o) T:=fun⟨x,e⟩=>⟨x,(aH (Ne.symm nP)).trans e⟩;have off:∀{Hc:Hp} {o:HO},aI T H Hc->aI T H (L2.upd Hc D o):=λh b u ne e=>(aH (λz=>by rw [z,nD] at e;cases e)).trans (h b u ne e)
 refine (ad (λi m ys Hc=>m=n-i/\i<=n/\Hc D=some (.lst ys)/\aI T H Hc/\aY Hc T/\ys.length=i/\∀j y,ys[j]?=some y->Pr D j y Hc) (wS _ rfl (cG _) au (off (aI.refl T H)) (up hT) rfl (λj y e=>by simp at e)) ?_)
 rintro i m ys Hc ⟨rfl,hi,eD,sH,pc,el,hP⟩;refine ⟨eD,?_⟩;by_cases cm:i<n
 ·refine .inr ⟨cm,λx H' hy=>?_⟩
  obtain ⟨rfl,rfl⟩:=hy;rw [aq rfl];refine step D i cm _ _ sH pc ⟨_,eD⟩ nP nD λy H3 s3 p3 hp=>?_;have e3:=s3 _ _ nP eD;refine ⟨e3,⋯,n-(i+1),⋯,rfl,cm,au,off (sH.trans s3),up p3,by simp [el],λj y' e=>?_⟩
  by_cases hj:j<i;·exact mono D j y' _ _ _ (mono D j y' _ _ _ (hP j y' (by rw [oj ⋯] at e;exact e)) pc eD λb o n1 n2 e=>s3 b o n1 e) p3 e3 λb o n1 n2 e=>(aH n2).trans e
  ·have hj:j=i:=by have:=(bK.mp e).1;simp at this;lia
   subst hj;have e':y'=y:=by rw [oi ⋯,el,Ag] at e;simpa using e.symm
   subst e';exact mono D j y' _ _ _ hp p3 e3 λb o n1 n2 e=>(aH n2).trans e
 ·have e:i=n:=by lia
  subst e;exact .inl ⟨aV _,fin D ys Hc nP nD sH pc el hP eD⟩
theorem aw.off{D:Addr}{ys:List V}(h:aw B H q v x m)(t:aY H T)(e:H D=some (.lst ys))(k:∀b o,b≠T->b≠D->H b=some o->H' b=some o):aw B H' q v x m:=by
 obtain ⟨z,ez⟩:=t;cases h with
 | aU ep l bx bm=>exact .aU (k _ _ (λzz=>by rw [zz,ez] at ep;cases ep) (λzz=>by rw [zz,e] at ep;cases ep) ep) l bx bm
 | rem a b c=>exact .rem a b c
def cX(q x m:Int):Prop:=q=0->x.natAbs<=3/\m∣6
def aaW:Sp:=λvs H Q _=>∃(td T:Addr) (q:Int) (n:Nat),vs=[.ref td,.ref T,.int (n:Int)]/\eW H td q/\aS q/\aY H T/\n<=60/\∀(D:Addr) (ps:bR) (H':Hp),aI T H H'->aY H' T->H D=none->i8 1000 H' q D ps->ps.length=n->(∀p∈ps,cX q p.1 p.2)->Q (.ref D) H'
def aaX:Sp:=λvs H Q _=>∃(T:Addr) (n:Nat),vs=[.ref T,.int (n:Int)]/\aY H T/\n<=20/\∀(D:Addr) (us:List V) (L:bR) (H':Hp),aI T H H'->aY H' T->H D=none->H' D=some (.lst us)->eS H' us L->(∀z∈L,0<=z.1/\z.1<z.2/\z.2<(n:Int))->L.length<=400->Q (.ref D) H'
theorem eS.cF{us:List V}{L:bR}(h:eS H us L)(t:aY H T)(o:aI T H H'):eS H' us L:=by obtain ⟨z,ez⟩:=t;refine ⟨h.1,λk v p h1 h2=>?_⟩;obtain ⟨b,e1,e2⟩:=h.2 k v p h1 h2;exact ⟨b,e1,o b _ (λzz=>by rw [zz,ez] at e2;cases e2) e2⟩
section
variable {q:Int} {M N N':a_} {D:Nat->Int}
end
structure cI (H:Hp) (a:Addr) (n m:Nat) (ra:Nat->Addr) (vf:Nat->Nat->V):Prop where
 lst:H a=some (.lst ((List.range n).map λi=>V.ref (ra i)))
 at':∀i,i<n->H (ra i)=some (.lst ((List.range m).map (vf i)))
theorem cI.mono{a:Addr}{m:Nat}{ra:Nat->Addr}{vf:Nat->Nat->V}(h:cI H a n m ra vf)(s:af H H'):cI H' a n m ra vf:=⟨s _ _ h.lst,λi hi=>s _ _ (h.at' i hi)⟩
section
variable {q:Int} {M:a_} {o:List Nat} {n k:Nat}
end
structure Dz (q:Int) (X Y n m:Nat) (T U:a_) (t u:Nat->Int) (S:a_) (R:Nat->Int):Prop where
 s0:∀i,i<n->S i 0=0
 ID:∀i k,i<n->k<m->Cg q ((S i k*(U i k*u k)+T i k*t k*R i)*R i) (S i (k+1)*(R i*(U i k*u k)))
 nz:∀i,i<n->¬q∣R i
 bd:∀i k,i<n->k<=m->(S i k).natAbs<=X/\(R i).natAbs<=X
 pr:∀i k,i<n->k<m->(T i k*t k).natAbs<=Y/\(U i k*u k).natAbs<=Y
 gO:X<=10 ^ 140
 IE:Y<=10 ^ 140
 X1:1000<=X
def aaY:Sp:=λvs H Q _=>∃(td a r:Addr) (q:Int) (X Y n m:Nat) (ra:Nat->Addr) (vf:Nat->Nat->V) (lv:Nat->V) (T U:a_) (t u:Nat->Int) (S:a_) (R:Nat->Int),vs=[.ref td,.ref a,.ref r]/\eW H td q/\aS q/\cI H a n m ra vf/\gB H r m lv/\n<=60/\m<=60/\(∀i j,i<n->j<m->aQ X H q (vf i j) (T i j) (U i j))/\(∀j,j<m->aQ X H q (lv j) (t j) (u j))/\Dz q X Y n m T U t u S R /\
 ∀(D:Addr) (wv:Nat->V) (H':Hp),af H H'->H D=none->gB H' D n wv->(∀i,i<n->aQ X H' q (wv i) (S i m) (R i))->Q (.ref D) H'
def mC(H:Hp)(q:Int)(n:Nat)(vf:Nat->Nat->V):Prop:=∀i j,i<n->j<n->∃x m,aw 1000 H q (vf i j) x m/\cX q x m
theorem aw.cF(h:aw B H q v x m)(t:aY H T)(o:aI T H H'):aw B H' q v x m:=by
 obtain ⟨z,ez⟩:=t;cases h with
 | aU ep l bx bm=>exact .aU (o _ _ (λzz=>by rw [zz,ez] at ep;cases ep) ep) l bx bm
 | rem a b c=>exact .rem a b c
theorem aaZ(hq:aS q)(h:aQ Y H q v 1 1):∃x m,aw 1000 H q v x m/\cX q x m:=by
 by_cases q0:q=0
 ·obtain ⟨x,m,g1,g2,g3⟩:=IA h ∅ ∅ q0
  exact ⟨x,m,g1,λ_=>⟨aM g2 ∅,h_ g3 ∅⟩⟩
 ·obtain ⟨x,m,g1,_⟩:=h.bd (Y:=1000) ∅ ∅
  exact ⟨x,m,g1,λz=>absurd z q0⟩
def aa0:Sp:=λvs H Q _=>∃(td T lk:Addr) (q:Int) (n:Nat) (us:List V) (L:bR),vs=[.ref td,.ref T,.int (n:Int),.ref lk]/\eW H td q/\aS q/\aY H T/\n<=60/\lk≠T/\H lk=some (.lst us)/\eS H us L/\(∀z∈L,0<=z.1/\z.1<z.2/\z.2<(n:Int)) /\
 ∀(D:Addr) (rs:Nat->Addr) (vf:Nat->Nat->V) (H':Hp),aI T H H'->aY H' T->H D=none->(∀i,i<n->H (rs i)=none)->WTab H' D n rs vf->mC H' q n vf->Q (.ref D) H'
section
variable {q:Int} {B X n m k b:Nat} {N N0:a_} {E:Nat->Int} {H H':Hp} {vf:Nat->Nat->V}
end
end My
namespace L2
open PySem PySem.Spec PyProof.Rows
section
variable {X:Cx} {tg:Expr}
def w_(c lo:Int)(n:Nat):It:=⟨λi _=>i<n,λi H x H'=>H'=H/\x=.int (lo+i*c),λi _=>n<=i⟩
theorem aa1{P:Program}{w:World}{K:aE}(it:Addr)(c lo:Int)(n:Nat):Turn P w K tg (w_ c lo n) [it] it (λi h=>IsRangeIter h it (lo+(i:Nat)*c) ((n:Int)-(i:Nat)) c) where
 mem:=by simp
 obj:=λi h st b hb=>by
  have e:b=it:=by simpa using hb
  subst e;exact ⟨_,st,λv z=>by have z':Data.fields _=Data.cell v:=z;cases z'⟩
 keep:=λi h h' st k=>k it (by simp) _ st
 item:=by
  intro X hP hw hK hc i pins s σ H E I hf st hg;subst hP hw hK;obtain ⟨f0,f1,f2,f3,f4,f5⟩:=hf it (by simp)
  have W:=Walks.range (prog:=X.prog) (w:=X.w) (I.ok.hd hc) it lo c n;refine W.item i s _ _ hg st λv h' tk hv iZ kk=>?_;obtain ⟨t,rfl⟩:=hv;have I1:Inv X pins σ H {s with heap:=h',toks:=tk}:=I.turned (λb o hb e=>kk b o (by simpa using hb) e) f0 f1 f3 f4 f5
  refine (ad _ rfl (Ax (s:={s with heap:=h',toks:=tk}) (n:="range_iterator") iZ rfl rfl ∅ (sB (.int (lo+i*c)) H I1 ⟨t,rfl⟩ ⟨rfl,rfl⟩ iZ (λb hb=>(hf b hb).1))))
 done:=by
  intro X hP hw hK hc i pins s σ H E I hf st hg;subst hP hw hK;obtain ⟨f0,f1,f2,f3,f4,f5⟩:=hf it (by simp)
  exact wpAny_pyNext_range_end (I.ok.hd hc) st (by have:n<=i:=hg;lia) λh' eb=>⟨rfl,I.turned (t':=s.toks) (λb o hb e=>eb b o hb e) f0 f1 f3 f4 f5⟩
 self:=λ_ _ _ _ _ st h=>wpAny_pyIter_rangeiter st h
variable {σ:St} {H:Hp} {c lo:Int}
theorem aa2{pins:a7}{s:Shared}{R:It->Hp->Prop}{E:aX}{hi:Int}(c0:0<c){t u v:Tok}{tk:Nat}(I:Inv X pins σ H s)(hsm:Builtin.Range.small lo hi c=true)
  (q:R (w_ c lo (Builtin.Range.rangeSize lo hi c).toNat) H):wpAny (model X.prog X.w) X.A (pyIter (.ref s.heap.objs.size)) (CH X pins σ tg R) E {s with heap:=s.heap.push {cls:=.type "range",data:=.fields #[.int lo t,.int hi u,.int c v]},toks:=tk}:=by
 refine wpAny_pyIter_range (IsRange.new ..) hsm ?_;have I1:Inv X pins σ H {s with heap:=s.heap.push {cls:=.type "range",data:=.fields #[.int lo t,.int hi u,.int c v]},toks:=tk}:=I.kept λb o e=>cx _ e
 refine ⟨(s.heap.push {cls:=.type "range",data:=.fields #[.int lo t,.int hi u,.int c v]}).objs.size,[(s.heap.push {cls:=.type "range",data:=.fields #[.int lo t,.int hi u,.int c v]}).objs.size],_,_,H,rfl,
  I1.kept (t':=tk) λb o e=>cx _ e,aa1 _ c lo (Builtin.Range.rangeSize lo hi c).toNat,?_,λb hb=>?_,q⟩
 ·have e1:lo+((0:Nat):Int)*c=lo:=by simp
  have e2:(((Builtin.Range.rangeSize lo hi c).toNat:Nat):Int)-((0:Nat):Int)=Builtin.Range.rangeSize lo hi c:=by
   have:0<=Builtin.Range.rangeSize lo hi c:=by
    unfold Builtin.Range.rangeSize;rw [aq c0]
    split
    ·have:=Ct (show 0<=hi-lo-1 by lia) (Int.le_of_lt c0)
     lia
    ·lia
   lia
  show IsRangeIter _ _ (lo+((0:Nat):Int)*c) ((((Builtin.Range.rangeSize lo hi c).toNat:Nat):Int)-((0:Nat):Int)) c;rw [e1,e2];exact fN _ rfl
 ·have e:b=(s.heap.push {cls:=.type "range",data:=.fields #[.int lo t,.int hi u,.int c v]}).objs.size:=by simpa using hb
  subst e;exact I1.rH (aV _) (I1.aB.fresh (aV _))
theorem aa4{a b:Int}(c0:0<c)(c1:c<=1000)(h1:-(2 ^ 61)<=a)(h2:a<2 ^ 61)(h3:-(2 ^ 61)<=b)(h4:b<2 ^ 61):Builtin.Range.small a b c=true:=by
 have f:∀{x:Int},-(2 ^ 63)<=x->x<2 ^ 63->Builtin.Range.rangeFitsLong x=true:=fun{x} h1 h2=>by unfold Builtin.Range.rangeFitsLong;simp;lia
 have e:0<=Builtin.Range.rangeSize a b c/\Builtin.Range.rangeSize a b c<2 ^ 63:=by
  unfold Builtin.Range.rangeSize;rw [aq c0]
  split
  ·have g1:=Ct (show 0<=b-a-1 by lia) (Int.le_of_lt c0)
   have g2:=Int.ediv_le_self c (show 0<=b-a-1 by lia)
   lia
  ·lia
 unfold Builtin.Range.small;rw [f (x:=a) ⋯ ⋯,f (x:=b) ⋯ ⋯,f (x:=c) ⋯ ⋯,f (x:=Builtin.Range.rangeSize a b c) ⋯ ⋯,aq c0,f (x:=b+(c-1)) ⋯ ⋯]
 simp
def aa5(ta:TA):TI:=λσ H R=>ta σ H λvs H1=>∃i j c:Int,vs=[.int i,.int j,.int c]/\(0<c/\c<=1000/\-(2 ^ 61)<=i/\i<2 ^ 61/\-(2 ^ 61)<=j/\j<2 ^ 61)/\R (w_ c i (Builtin.Range.rangeSize i j c).toNat) H1
theorem aa6{a b c:Expr}{ta:TA}{p pos:Pos}(hg:Gl X "range")(hm:X.mg "range"=none)(ha:PA X [a,b,c] ta)(hs:starEach [a,b,c] X.env=[(false,eval a X.env),(false,eval b X.env),(false,eval c X.env)]:=by rfl)(jU:starEach [b,c] X.env=[(false,eval b X.env),(false,eval c X.env)]:=by rfl) :
  PI X tg (.Call (.Name "range" p) [a,b,c] [] pos) (aa5 ta):=by
 intro pins s σ H R I h;refine Call_ (pS I hg hm boot_range (vM (aT (ha pos pins s σ H _ I h) λus s1 ⟨vs,H1,I1,r1,q1⟩=>?_) (by rw [hs,jU]) (by rw [jU];rfl)))
 obtain ⟨i,j,c,e,⟨c0,c1,q1,q2,q3,q4⟩,q⟩:=q1;subst e;cases r1 with
 | cons r rr=>
  cases rr with
  | cons r' rr=>
   cases rr with
   | cons r3 rr=>
    cases rr;obtain ⟨t,rfl⟩:=r;obtain ⟨t',rfl⟩:=r';obtain ⟨t3,rfl⟩:=r3;refine call_range_3 ⋯ (aa2 c0 I1 (aa4 c0 c1 q1 q2 q3 q4) q) (.inl ?_)
    have z:decide ((if (c == 0)=true then 0 else c.natAbs.log2 / 30+1)>300)=false:=by
     refine cZ ?_
     split
     ·lia
     ·have:=Nat.log2_le_self c.natAbs
      have h:c.natAbs.log2<=1000:=by lia
      lia
    unfold Builtin.divisionGoesByPylong;dsimp only;rw [z];rfl
theorem aa7{n:Nat}{g:TG}{tb:TS}{D:Ends}(Pv:Nat->St->Hp->Prop)(h0:Pv 0 σ H)
  (hs:∀i σ H,i<n->Pv i σ H->g (.int (lo+i*c)) σ H λσ2 H2=>tb {D with nx:=Pv (i+1),ct:=Pv (i+1),bk:=D.nx} σ2 H2) (hd:∀σ H,Pv n σ H->D.nx σ H) :
  ∃W:Nat->Nat->St->Hp->Prop,(∃m,W 0 m σ H)/\∀i m σ H,W i m σ H->
   ((w_ c lo n).stop i H/\D.nx σ H)\/((w_ c lo n).go i H/\∃N:St->Hp->Prop,(∀σ' H',N σ' H'->∃m',m'<m/\W (i+1) m' σ' H')/\∀x H',(w_ c lo n).fc i H x H'->g x σ H' λσ2 H2=>tb {D with nx:=N,ct:=N,bk:=D.nx} σ2 H2):=by
 refine (ad (λi m σ H=>m=n-i/\i<=n/\Pv i σ H) ⟨n,by simp,cG _,h0⟩ ?_)
 rintro i m σ H ⟨rfl,hi,p⟩;by_cases cm:i<n
 ·refine .inr ⟨cm,Pv (i+1),λσ' H' p'=>⟨n-(i+1),⋯,rfl,cm,p'⟩,λx H' y=>?_⟩
  obtain ⟨e,y⟩:=y;subst e y;exact hs i σ _ cm p
 ·have e:i=n:=by lia
  subst e;exact .inl ⟨aV _,hd σ H p⟩
end
end L2
namespace My
open PySem L2
def qm(q x m:Int):Prop:=(q=0->x.natAbs<=3/\m∣6/\0<m)/\(q≠0->0<=x/\x<q/\q<=997/\m=1)
variable {H:Hp} {q x m:Int} {v:V} {B:Nat}
theorem O3(h:aw B H q v x m)(s:cX q x m):qm q x m:=by
 cases h with
 | aU e l bx bm=>exact ⟨λz=>⟨(s z).1,(s z).2,l.pos⟩,λz=>absurd rfl z⟩
 | rem a b c=>exact ⟨λz=>by lia,λ_=>⟨a,b,c,rfl⟩⟩
def fX(q:Int)(n:Nat)(f:Nat->Nat->Int×Int):Nat->Nat->Int:=λi j=>if i<n/\j<=n then (if q=0 then (f i j).1*(6 / (f i j).2) else (f i j).1) else 0
def gC(q:Int):Nat->Int:=λ_=>if q=0 then 6 else 1
section
variable {q:Int} {n:Nat} {f:Nat->Nat->Int×Int} {H:Hp}
theorem IF(h:∀i j,i<n->j<=n->qm q (f i j).1 (f i j).2)(i j:Nat):(fX q n f i j).natAbs<=997:=by
 unfold fX
 split
 ·rename_i rF
  have hs:=h i j rF.1 rF.2
  split
  ·rename_i z
   obtain ⟨h1,⟨c,hc⟩,h3⟩:=hs.1 z;have e:6 / (f i j).2=c:=by rw [hc];exact gT _ ⋯
   have c6:c.natAbs<=6:=by
    have:(6:Int).natAbs=(f i j).2.natAbs*c.natAbs:=by rw [<-cS,<-hc]
    have m1:1<=(f i j).2.natAbs:=by lia
    have:=oo c.natAbs m1;have e6:(6:Int).natAbs=6:=rfl;lia
   rw [e,cS];exact aM (fQ h1 c6) ∅
  ·rename_i z
   have:=hs.2 z;lia
 ·decide
theorem A_(i:Nat):(gC q i).natAbs<=997:=by unfold gC;split <;> decide
theorem O_(hq:aS q)(i:Nat):¬q∣gC q i:=by
 unfold gC
 split
 ·rename_i z
  rw [z];intro d;have:=e9.mp d;lia
 ·exact ki hq
variable {i j:Nat}
theorem Pa(h:∀i j,i<n->j<=n->qm q (f i j).1 (f i j).2)(hi:i<n)(hj:j<=n):q∣(f i j).1*gC q i-fX q n f i j*(f i j).2:=by
 have hs:=h i j hi hj;have e1:fX q n f i j=if q=0 then (f i j).1*(6 / (f i j).2) else (f i j).1:=by unfold fX;rw [aq ⟨hi,hj⟩]
 rw [e1];unfold gC
 split
 ·rename_i z
  obtain ⟨h1,⟨c,hc⟩,h3⟩:=hs.1 z;have e:6 / (f i j).2=c:=by rw [hc];exact gT _ ⋯
  rw [e];exact ⟨0,by rw [hc];grind⟩
 ·rename_i z
  rw [(hs.2 z).2.2.2];exact ⟨0,by grind⟩
theorem aa8(z:(f i j).1=0):fX q n f i j=0:=by
 unfold fX
 split
 ·split
  ·rw [z,iX]
  ·exact z
 ·rfl
theorem Pb:∀n,n<=9->1000<=fW n 997/\fW n 997<=10 ^ 100:=λn hn=>(show ∀n∈List.range 10,1000<=fW n 997/\fW n 997<=10 ^ 100 by decide +kernel) n (dA.mpr ⋯)
def fq(n m:Nat)(f:Nat->Nat->Int×Int):List (List (Int×Int)):=(List.range n).map λi=>(List.range m).map (f i)
theorem Pc{m:Nat}(hi:i<n)(hj:j<m):atT (fq n m f) i j=f i j:=by
 unfold atT fq;have h1:i<((List.range n).map λi=>(List.range m).map (f i)).length:=by simpa using hi
 have h2:j<((List.range m).map (f i)).length:=by simpa using hj
 rw [getD_at h1,d8,e_,getD_at h2,d8,e_]
theorem jE{m:Nat}:(fq n m f).length=n:=by unfold fq;simp
theorem xa{m:Nat}:∀ps∈fq n m f,ps.length=m:=λps h=>by unfold fq at h;obtain ⟨i,_,rfl⟩:=iF.mp h;simp
variable {a:Addr}
theorem aa9{m:Nat}{lv:Nat->V}{f:Nat->Int×Int}(h:gB H a m lv)(k:∀j,j<m->aw B H q (lv j) (f j).1 (f j).2):i8 B H q a ((List.range m).map f):=by
 refine (bv _ h (by simp) (λi v p h1 h2=>?_))
 have hi:i<m:=by have:=(bK.mp h1).1;simpa using this
 rw [bU,jN hi] at h1 h2;cases h1;cases h2;exact k i hi
variable {vf:Nat->Nat->V}
theorem xb{m:Nat}{ra:Nat->Addr}(h:cI H a n m ra vf)(k:∀i j,i<n->j<m->aw B H q (vf i j) (f i j).1 (f i j).2):d9 B H q a (fq n m f):=by
 refine (bv _ h.lst (by unfold fq;simp) (λi v ps h1 h2=>?_))
 have hi:i<n:=by have:=(bK.mp h1).1;simpa using this
 unfold fq at h2;rw [bU,jN hi] at h1 h2;cases h1;cases h2;exact ⟨ra i,rfl,aa9 (h.at' i hi) λj hj=>k i j hi hj⟩
theorem WTab.r{rs:Nat->Addr}(h:WTab H a n rs vf):cI H a n n rs vf:=⟨h.lst,h.at'⟩
end
section
variable {q:Int} {M:a_} {o:List Nat} {n k k':Nat}
end
variable {X Y:Nat} {v':V}
theorem aa_(hq:aS q){T U T' U':Int}(h:aQ X H q v T U)(h':aQ Y H q v' T' U')(e:Cg q (T*U') (T'*U)):∃x m,aw X H q v x m/\aw Y H q v' x m:=by
 have h2:=h.eq hq e h'.choose_spec.choose_spec.2.2;intros bv7 h2 x m a1 a2 a3;intros bv7 h' x' m' b1 b2 b3;have c:Cg q (x*m') (x'*m):=by
  have c1:Cg q (U'*(x*m')) (U'*(x'*m)):=by have d1:Cg q (m'*(x*U')) (m'*(T'*m)):=Cg.mulL m' a2;have d2:Cg q (m*(x'*U')) (m*(T'*m')):=Cg.mulL m b2;exact (Cg.of_eq (by grind)).trans (d1.trans ((Cg.of_eq (by grind)).trans (d2.symm.trans (Cg.of_eq (by grind)))))
  have c2:Cg q (U'*(x*m'-x'*m)) 0:=(Cg.of_eq (by grind)).trans ((c1.sub (Cg.refl _)).trans (Cg.of_eq (lM _)))
  have:=Dp hq a3 c2;unfold Cg at this ⊢
  rwa [pO] at this
 cases a1 with
 | aU ea la _ _=>
  cases b1 with
  | aU eb lb bx bm=>
   have e:x*m'=x'*m:=by unfold Cg at c;have:=e9.mp c;lia
   obtain ⟨e1,e2⟩:x=x'/\m=m':=by have u1:=N9 la lb.pos e;have u2:=N9 lb lb.pos rfl;exact ⟨u1.1.trans u2.1.symm,u1.2.trans u2.2.symm⟩
   subst e1 e2;exact ⟨x,m,.aU ea la (by assumption) (by assumption),.aU eb lb bx bm⟩
  | rem=>lia
 | rem a b d=>
  cases b1 with
  | aU=>lia
  | rem a' b' d'=>
   have:x=x':=by
    rw [gD,gD] at c;obtain ⟨k,hk⟩:=c;have:k=0:=by
     rcases Int.lt_trichotomy k 0 with z | z | z
     ·have:q*k<=q*(-1):=vS ⋯ ⋯
      lia
     ·exact z
     ·have:q*1<=q*k:=vS ⋯ ⋯
      lia
    rw [this,lK] at hk;lia
   subst this;exact ⟨x,1,.rem a b d,.rem a' b' d'⟩
theorem aba{K:aE}(h:aw X H q v x m)(h':aw Y H q v' x m):qe K H 1 v v':=by
 cases h with
 | aU e l _ _=>
  cases h' with
  | aU e' l' _ _=>exact .inr (gt _ _ _ _ rfl rfl (.inr ⟨.of e,.of e'⟩) rfl (λj x y hx hy=>by
    rw [hx] at hy;cases hy
    match j,hx with
    | 0,hx=>cases hx;exact ⟨rfl,rfl⟩
    | 1,hx=>cases hx;exact ⟨rfl,rfl⟩
    | j+2,hx=>simp at hx))
  | rem a b d=>lia
 | rem a b d=>
  cases h' with
  | aU=>lia
  | rem=>exact .inl ⟨rfl,rfl⟩
structure nG (H:Hp) (q:Int) (tab od am:Addr) (n:Nat) (o:List Nat) (rs:Nat->Addr) (vf:Nat->Nat->V) (av:Nat->V) (f:Nat->Nat->Int×Int):Prop where
 tab:WTab H tab n rs vf
 ord:H od=some (.lst (bW o))
 Bb:o.Perm (List.range n)
 aim:gB H am n av
 num:∀i j,i<n->j<n->aw 1000 H q (vf i j) (f i j).1 (f i j).2
 nua:∀i,i<n->aw 1000 H q (av i) (f i n).1 (f i n).2
 sm:∀i j,i<n->j<=n->qm q (f i j).1 (f i j).2
variable {H':Hp} {n:Nat} {o:List Nat} {vf:Nat->Nat->V} {av:Nat->V} {f:Nat->Nat->Int×Int}
theorem nG.mono{tab od am:Addr}{rs:Nat->Addr}(h:nG H q tab od am n o rs vf av f)(s:af H H'):nG H' q tab od am n o rs vf av f:=
 ⟨h.tab.mono s,s _ _ h.ord,h.Bb,s _ _ h.aim,λi j hi hj=>(h.num i j hi hj).mono s,λi hi=>(h.nua i hi).mono s,h.sm⟩
def abd(K:aE):Sp:=λvs H Q _=>∃(sc:Addr) (ns:List Int) (k:Nat),vs=[.ref sc,.int (k:Int)]/\bM K H sc (ns.map V.int)/\k<=900 /\
 ∀(tp td tab od am:Addr) (q:Int) (n:Nat) (o:List Nat) (rs:Nat->Addr) (vf:Nat->Nat->V) (av:Nat->V) (f:Nat->Nat->Int×Int) (H':Hp),af H H'->H' tp=some (.tup [.ref td,.ref tab,.ref od,.ref am])->eW H' td q->aS q->1<=n->n<=6->nG H' q tab od am n o rs vf av f->H tab=none->H od=none->H am=none->(∀i,i<n->H (rs i)=none)->Q (.ref tp) H'
theorem abe(h1:mC H q n vf)(h2:∀i,i<n->∃x m,aw 1000 H q (av i) x m/\cX q x m):∃f:Nat->Nat->Int×Int,(∀i j,i<n->j<n->aw 1000 H q (vf i j) (f i j).1 (f i j).2)/\(∀i,i<n->aw 1000 H q (av i) (f i n).1 (f i n).2)/\∀i j,i<n->j<=n->qm q (f i j).1 (f i j).2:=by
 have g1:∀i j,i<n->j<n->∃p:Int×Int,aw 1000 H q (vf i j) p.1 p.2/\qm q p.1 p.2:=λi j hi hj=>let ⟨x,m,a,b⟩:=h1 i j hi hj;⟨(x,m),a,O3 a b⟩
 have g2:∀i,i<n->∃p:Int×Int,aw 1000 H q (av i) p.1 p.2/\qm q p.1 p.2:=λi hi=>let ⟨x,m,a,b⟩:=h2 i hi;⟨(x,m),a,O3 a b⟩
 refine ⟨λi j=>if h:i<n then (if h':j<n then (g1 i j h h').choose else (g2 i h).choose) else (0,1),λi j hi hj=>?_,λi hi=>?_,λi j hi hj=>?_⟩
 ·dsimp only
  rw [fP hi,fP hj];exact (g1 i j hi hj).choose_spec.1
 ·dsimp only
  rw [fP hi,dif_neg ⋯]
  exact (g2 i hi).choose_spec.1
 ·dsimp only
  rw [fP hi];by_cases h:j<n
  ·rw [fP h]
   exact (g1 i j hi h).choose_spec.2
  ·rw [dif_neg h]
   exact (g2 i hi).choose_spec.2
section
variable {H:Hp} {q:Int} {tab od am:Addr} {n:Nat} {o:List Nat} {rs:Nat->Addr} {vf:Nat->Nat->V} {av:Nat->V} {f:Nat->Nat->Int×Int}
theorem nG.mB(hq:aS q)(h:nG H q tab od am n o rs vf av f){i j:Nat}(hi:i<n)(hj:j<n):aQ 997 H q (vf i j) (fX q n f i j) (gC q i):=sD (h.num i j hi hj) (Pa h.sm hi ⋯) (O_ hq i) (IF h.sm i j) (A_ i)
theorem nG.iC(hq:aS q)(h:nG H q tab od am n o rs vf av f)(n9:n<=9):Dy q n (fW n 997) (fq n n f) o (fX q n f) (gC q):=
 aaI ∅ (IF h.sm) A_ (gN h.Bb) (λi j hi hj=>by rw [Pc hi hj];exact Pa h.sm hi ⋯) (O_ hq) (λi j hi hj z=>aa8 (by rw [Pc hi hj] at z;exact z)) (Pb n n9).1 (Pb n n9).2
theorem nG.abf(h:nG H q tab od am n o rs vf av f):d9 1000 H q tab (fq n n f):=xb h.tab.r h.num
end
section
variable {q:Int} {M:a_} {o:List Nat} {n k:Nat}
end
theorem eW.at{td:Addr}(h:eW H td q):N8 H td q:=by
 unfold N8 nC;rcases h with ⟨h1,h2⟩ | ⟨h1,h2⟩;·rw [aq h1];exact h2
 ·rw [az h1];exact h2
section
variable {Cl:Addr->Prop} {H H':Hp} {q:Int}
variable {f f2 r r2:Addr} {X n:Nat} {o:List Nat} {M:a_} {L:bR} {lv lv2:Nat->V} {at' at2:Nat}
theorem fY{α:Type}{j:Nat}{lv:Nat->α}{x:α}(h:((List.range n).map lv)[j]?=some x):j<n/\x=lv j:=by
 have hj:j<n:=by have:=(bK.mp h).1;simpa using this
 rw [bU,jN hj] at h;exact ⟨hj,(Option.some.inj h).symm⟩
end
theorem abg{te:TE}{σ:St}{R:VK}(M:V->Hp->Prop)(h1:∀R':VK,(∀x H,M x H->R' x H)->te σ H R')(h2:∀x H,M x H->R x H):te σ H R:=h1 R h2
def lh(M:a_)(D:Nat->Int)(o:List Nat)(i k:Nat):Int:=cf M (cO o (o.idxOf k)) (M i) k*D k
def mD(M:a_)(D:Nat->Int)(o:List Nat)(i k:Nat):Int:=D i*eU M (cO o (o.idxOf k+1))
def ph(M:a_)(o:List Nat)(k j:Nat):Int:=cf M (cO o (o.idxOf k)) (M k) j
def pj(M:a_)(D:Nat->Int)(o:List Nat)(k _j:Nat):Int:=D k*eU M (cO o (o.idxOf k))
def nH(d:Nat->Int):Nat->Int
 | 0=>1
 | m+1=>nH d m*d m
theorem abh{d:Nat->Int}:∀{n t:Nat},t<n->d t*d (t+1)∣nH d (n+1)
 | 0,t,h=>by lia
 | n+1,t,h=>by
  by_cases e:t=n
  ·subst e
   show d t*d (t+1)∣nH d t*d t*d (t+1);exact ⟨nH d t,by grind⟩
  ·exact Am (abh (show t<n by lia))
theorem Pd{d:Nat->Int}:∀{n t:Nat},t<n->d t∣nH d n
 | 0,t,h=>by lia
 | n+1,t,h=>by
  by_cases e:t=n
  ·subst e
   exact ⟨nH d t,eE _ _⟩
  ·exact Am (Pd (show t<n by lia))
theorem Pe{q:Int}(hq:aS q){d:Nat->Int}:∀{n:Nat},(∀t,t<n->¬q∣d t)->¬q∣nH d n
 | 0,_=>ki hq
 | n+1,h=>hE hq (Pe hq λt ht=>h t ⋯) (h n ⋯)
section
variable {q:Int} {M:a_} {D:Nat->Int} {o:List Nat} {n:Nat}
def dP(M:a_)(o:List Nat)(n:Nat):Int:=nH (λs=>eU M (cO o s)) (n+1)
theorem Bc(q x:Int):Cg q (x % q) x:=by unfold Cg;have:=Aj x q;exact ⟨-(x / q),by grind⟩
theorem Pf(hq:aS q)(X1:1000<=X)(h:q=0->x.natAbs<=X):(x % q).natAbs<=X:=by
 rcases hq with rfl | ⟨h1,h2,_⟩;·rw [Int.emod_zero];exact h rfl
 ·have a:=gu x (show q≠0 by lia)
  have b:=gF x (show 0<q by lia)
  lia
theorem abi(h:¬q∣x):¬q∣x % q:=λd=>h ((Int.dvd_iff_emod_eq_zero).mpr (by
 have:=(Int.dvd_iff_emod_eq_zero).mp d
 rwa [Int.emod_emod] at this))
theorem abj{m:Nat}{T U:a_}{t u:Nat->Int}{S:a_}{R:Nat->Int}(hq:aS q)(s0:∀i,i<n->S i 0=0)(ID:∀i k,i<n->k<m->(S i k*(U i k*u k)+T i k*t k*R i)*R i=S i (k+1)*(R i*(U i k*u k)))(nz:∀i,i<n->¬q∣R i)
  (bd:q=0->∀i k,i<n->k<=m->(S i k).natAbs<=X/\(R i).natAbs<=X) (pr:∀i k,i<n->k<m->(T i k*t k).natAbs<=Y/\(U i k*u k).natAbs<=Y) (gO:X<=10 ^ 140) (IE:Y<=10 ^ 140) (X1:1000<=X):Dz q X Y n m T U t u (λi k=>S i k % q) (λi=>R i % q):=by
 refine ⟨λi hi=>by rw [s0 i hi];exact Int.zero_emod q,λi k hi hk=>?_,λi hi=>abi (nz i hi),λi k hi hk=>⟨Pf hq X1 λz=>(bd z i k hi hk).1,Pf hq X1 λz=>(bd z i 0 hi (cG _)).2⟩,pr,gO,IE,X1⟩
 have a:=Bc q (S i k);have b:=Bc q (R i);have c:=Bc q (S i (k+1));obtain ⟨x,hx⟩:=a;obtain ⟨y,hy⟩:=b;obtain ⟨z,hz⟩:=c;have e1:S i k % q=S i k+q*x:=by lia
 have e2:R i % q=R i+q*y:=by lia
 have e3:S i (k+1) % q=S i (k+1)+q*z:=by lia
 have s:=ID i k hi hk;rw [e1,e2,e3];refine ⟨(x*(U i k*u k)+T i k*t k*y)*(R i+q*y)+(S i k*(U i k*u k)+T i k*t k*R i)*y-(z*((R i+q*y)*(U i k*u k))+S i (k+1)*(y*(U i k*u k))),?_⟩;grind
theorem abk(hq:aS q)(ho:o.Perm (List.range n))(g:gq q M (cO o n)):¬q∣dP M o n:=Pe hq λt ht=>wX hq (Dx g ⋯)
variable {i:Nat}
theorem abl(hq:aS q)(ho:o.Perm (List.range n))(hi:i<n):lh M D o i i=mD M D o i i:=by have kl:=(iP ((fk ho).mpr hi)).1;unfold lh mD;rw [Dw kl,(iP ((fk ho).mpr hi)).2];exact eE _ _
variable {k:Nat}
theorem abm(hq:aS q)(ho:o.Perm (List.range n))(g:gq q M (cO o n))(hi:i<n)(hk:k<n)(h:o.idxOf i<o.idxOf k):lh M D o i k=0:=by have:=(iP ((fk ho).mpr hk)).1;have lo:=gN ho;unfold lh;rw [Im hq (Dx g ⋯) i ((wY ho).mpr ⟨hi,h⟩),iX]
variable {j:Nat}
theorem abn(ho:o.Perm (List.range n))(hj:j<n)(h:o.idxOf j<o.idxOf k):ph M o k j=0:=OL ((wY ho).mpr ⟨hj,h⟩)
theorem Pg(hq:aS q)(ho:o.Perm (List.range n))(hi:i<n)(hk:k<n)(h:o.idxOf k<o.idxOf i):sT M D o n i k=lh M D o i k/\sU M D o n i k=mD M D o i k:=by
 have lo:=gN ho;have:=(iP ((fk ho).mpr hk)).1;unfold sT sU lh mD;rw [az ⋯,az ⋯,az ⋯,az ⋯]
 exact ⟨rfl,rfl⟩
theorem Ph(ho:o.Perm (List.range n))(hk:k<n)(h:o.idxOf k<=o.idxOf j):sT M D o n k j=ph M o k j/\sU M D o n k j=pj M D o k j:=by
 have lo:=gN ho;have:=(iP ((fk ho).mpr hk)).1;unfold sT sU ph pj;rw [az ⋯,aq h,az ⋯,aq h]
 exact ⟨rfl,rfl⟩
end
structure Pj (H0 H:Hp) (q:Int) (X n:Nat) (o:List Nat) (M:a_) (D:Nat->Int) (fd lo up:Addr) (rl ru:Nat->Addr) (lf uf:Nat->Nat->V):Prop where
 tup:H fd=some (.tup [.ref lo,.ref up])
 low:cI H lo n n rl lf
 pz:cI H up n n ru uf
 wl:dR X H q n lf (lh M D o) (mD M D o)
 wu:dR X H q n uf (ph M o) (pj M D o)
 new:H0 fd=none/\H0 lo=none/\H0 up=none/\∀i,i<n->H0 (rl i)=none/\H0 (ru i)=none
def DA(H:Hp)(tn:Addr)(n:Nat)(o:List Nat):Prop:=H tn=some (.lst ((List.range n).map λj=>V.int ((o.idxOf j:Nat):Int)))
def abo(C:Addr):Sp:=λvs H Q _=>∃(z w tn:Addr) (q:Int) (X n i:Nat) (o:List Nat) (wv:Nat->V) (T U:Nat->Int),vs=[.ref z,.ref w,.ref tn,.int (i:Int)]/\cP C H z q/\aS q/\n<=40/\i<n/\o.Perm (List.range n)/\gB H w n wv/\DA H tn n o/\1000<=X/\(∀j,j<n->(T j).natAbs<=X/\(U j).natAbs<=X/\¬q∣U j)/\(∀j,j<n->o.idxOf j<o.idxOf i->aQ X H q (wv j) (T j) (U j))/\(∀j,j<n->o.idxOf i<o.idxOf j->T j=0)/\T i=U i /\
 ∀(r:Addr) (lv:Nat->V) (H':Hp),af H H'->H r=none->gB H' r n lv->(∀j,j<n->aQ X H' q (lv j) (T j) (U j))->Q (.ref r) H'
def abp(C:Addr):Sp:=λvs H Q _=>∃(z w tn:Addr) (q:Int) (X n i:Nat) (o:List Nat) (wv:Nat->V) (T U:Nat->Int),vs=[.ref z,.ref w,.ref tn,.int (i:Int)]/\cP C H z q/\aS q/\n<=40/\i<n/\o.Perm (List.range n)/\gB H w n wv/\DA H tn n o/\1000<=X/\(∀j,j<n->(T j).natAbs<=X/\(U j).natAbs<=X/\¬q∣U j)/\(∀j,j<n->o.idxOf i<=o.idxOf j->aQ X H q (wv j) (T j) (U j))/\(∀j,j<n->o.idxOf j<o.idxOf i->T j=0) /\
 ∀(r:Addr) (lv:Nat->V) (H':Hp),af H H'->H r=none->gB H' r n lv->(∀j,j<n->aQ X H' q (lv j) (T j) (U j))->Q (.ref r) H'
def abq(C:Addr):Sp:=λvs H Q _=>∃(z a tn:Addr) (q:Int) (X n:Nat) (o:List Nat) (ra:Nat->Addr) (vf:Nat->Nat->V) (T U:a_),vs=[.ref z,.ref a,.ref tn]/\cP C H z q/\aS q/\n<=40/\o.Perm (List.range n)/\cI H a n n ra vf/\DA H tn n o/\1000<=X/\(∀i j,i<n->j<n->(T i j).natAbs<=X/\(U i j).natAbs<=X/\¬q∣U i j)/\(∀i j,i<n->j<n->o.idxOf j<o.idxOf i->aQ X H q (vf i j) (T i j) (U i j))/\(∀i j,i<n->j<n->o.idxOf i<o.idxOf j->T i j=0)/\(∀i,i<n->T i i=U i i) /\
 ∀(r:Addr) (rr:Nat->Addr) (lf:Nat->Nat->V) (H':Hp),af H H'->H r=none->(∀i,i<n->H (rr i)=none)->cI H' r n n rr lf->dR X H' q n lf T U->Q (.ref r) H'
def abr(C:Addr):Sp:=λvs H Q _=>∃(z a tn:Addr) (q:Int) (X n:Nat) (o:List Nat) (ra:Nat->Addr) (vf:Nat->Nat->V) (T U:a_),vs=[.ref z,.ref a,.ref tn]/\cP C H z q/\aS q/\n<=40/\o.Perm (List.range n)/\cI H a n n ra vf/\DA H tn n o/\1000<=X/\(∀i j,i<n->j<n->(T i j).natAbs<=X/\(U i j).natAbs<=X/\¬q∣U i j)/\(∀i j,i<n->j<n->o.idxOf i<=o.idxOf j->aQ X H q (vf i j) (T i j) (U i j))/\(∀i j,i<n->j<n->o.idxOf j<o.idxOf i->T i j=0) /\
 ∀(r:Addr) (rr:Nat->Addr) (lf:Nat->Nat->V) (H':Hp),af H H'->H r=none->(∀i,i<n->H (rr i)=none)->cI H' r n n rr lf->dR X H' q n lf T U->Q (.ref r) H'
def abt(C:Addr):Sp:=λvs H Q _=>∃(z a d:Addr) (q:Int) (B X n:Nat) (ag:cT) (o:List Nat) (M:a_) (D:Nat->Int),vs=[.ref z,.ref a,.ref d]/\cP C H z q/\aS q/\d9 B H q a ag/\B<=10 ^ 100/\ag.length=n/\1<=n/\n<=40/\(∀ps∈ag,ps.length=n)/\H d=some (.lst (bW o))/\o.Perm (List.range n)/\Dy q n X ag o M D/\(∀i j,i<n->j<n->(lh M D o i j).natAbs<=X/\(mD M D o i j).natAbs<=X/\(ph M o i j).natAbs<=X/\(pj M D o i j).natAbs<=X) /\
 (∀(k:Nat) (hk:k<o.length),gq q M (cO o k)->q∣cf M (cO o k) (M o[k]) o[k]->∀H',af H H'->Q .aO H') /\
 (gq q M (cO o n)->∀(fd lo up:Addr) (rl ru:Nat->Addr) (lf uf:Nat->Nat->V) (H':Hp),af H H'->Pj H H' q X n o M D fd lo up rl ru lf uf->Q (.ref fd) H')
theorem DB{i:Nat}{f:Nat->V}{x y:V}(h:(((List.range ((List.range n).map f).length).zip ((List.range n).map f)).map λp=>(V.int (p.1:Int),p.2))[i]?=some (x,y)):i<n/\x=.int (i:Int)/\y=f i:=by
 rw [bU] at h;cases e:((List.range ((List.range n).map f).length).zip ((List.range n).map f))[i]? with
 | none=>rw [e] at h;cases h
 | some p=>
  rw [e] at h;obtain ⟨h1,h2⟩:=Cn.mp e;obtain ⟨hi,e2⟩:=fY h2;have e1:p.1=i:=by have h3:=(bK.mp h1).2;simpa using h3.symm
  have h4:=Option.some.inj h;rw [Prod.mk.injEq] at h4;refine ⟨hi,?_,?_⟩;·rw [<-h4.1,e1]
  ·rw [<-h4.2,e2]
theorem aQ.bE{t u:Int}{D:Addr}{ys:List V}(h:aQ B H q v t u)(e:H D=some (.lst ys))(k:∀b o,b≠D->H b=some o->H' b=some o):aQ B H' q v t u:=let ⟨x,m,a,b⟩:=h;(ii x m (a.bE e k) b)
theorem qo{f:Nat->V}:(((List.range ((List.range n).map f).length).zip ((List.range n).map f)).map λp=>(V.int (p.1:Int),p.2)).length=n:=by simp
theorem abu(ho:o.Perm (List.range n)){p:Nat}(hp:p<n):(o.map iN)[o.idxOf p]?=some (p:Int)/\∀m,m<o.idxOf p->(o.map iN)[m]?≠some (p:Int):=by
 obtain ⟨h1,h2⟩:=iP ((fk ho).mpr hp);refine ⟨?_,λm hm e=>?_⟩
 ·rw [bU,cw h1,h2]
  rfl
 ·have IG:m<o.length:=by lia
  rw [bU,cw IG] at e;have e':((o[m]:Nat):Int)=(p:Int):=Option.some.inj e;have e2:o[m]=p:=by lia
  have:=A1 (wU ho) IG;rw [e2] at this;lia
theorem abv(h:∀i j,i<n->j<=n->qm q (f i j).1 (f i j).2)(z:q=0)(i j:Nat):(fX q n f i j).natAbs<=18:=by
 unfold fX
 split
 ·rename_i rF
  have hs:=h i j rF.1 rF.2;obtain ⟨h1,⟨c,hc⟩,h3⟩:=hs.1 z;have e:6 / (f i j).2=c:=by rw [hc];exact gT _ ⋯
  have c6:c.natAbs<=6:=by
   have:(6:Int).natAbs=(f i j).2.natAbs*c.natAbs:=by rw [<-cS,<-hc]
   have m1:1<=(f i j).2.natAbs:=by lia
   have:=oo c.natAbs m1;have e6:(6:Int).natAbs=6:=rfl;lia
  rw [e,cS];exact fQ h1 c6
 ·decide
theorem aw.up{B':Nat}(h:aw B H q v x m)(le:B<=B'):aw B' H q v x m:=by
 cases h with
 | aU e l bx bm=>exact .aU e l (aM bx le) (aM bm le)
 | rem a b c=>exact .rem a b c
end My
namespace L2
open PySem PySem.Spec PyProof.Rows
theorem abw{X:Cx}{K:aE}{o e:Expr}{es:List Expr}{to:TE}{t:TA}{name:Str}{apos gi:Pos}{T id:String}{r:V->List V->Hp->VK->Prop}(pa:PlainAttrs T)(slot:Slot T name id)(AD:typeOf (.builtin id)=pure (.type "method_descriptor"))(hm:wq X id r)(ho:PE X o to)(ha:PA X (e::es) t)(hk:X.K=K:=by rfl)
  (oM:attributeBase o name X.env (eval o X.env)=eval o X.env:=by rfl)
  (G8:((backTo gi (starEach (e::es) X.env)).all (λx=>!x.1) && (backToKw gi (keywordEach [] X.env)).all (λx=>x.1.isSome)
   && decide ((e::es).length+([]:List Keyword).length+(if ([]:List Keyword).isEmpty then 0 else 1)<30))=true:=by rfl)
  (AE:(apos.endLine == gi.line)=true:=by rfl) (hs:starEach (e::es) X.env=(false,eval e X.env)::starEach es X.env:=by rfl) (G9:(backTo gi (starEach es X.env)).any (·.1)=false:=by rfl) :
  PE X (.Call (.Attribute o name apos) (e::es) [] gi) (M6 K T r to t):=by
 subst hk;exact p5 pa slot AD hm ho ha oM G8 AE hs G9
end L2
namespace My
open PySem L2
inductive IH (H0 H:Hp) (q:Int) (X n:Nat) (o:List Nat) (M:a_) (D:Nat->Int) (v:V):Prop where
 | no (k:Nat) (hk:k<o.length):gq q M (cO o k)->q∣cf M (cO o k) (M o[k]) o[k]->v=.aO->IH H0 H q X n o M D v
 | yes (fd lo up:Addr) (rl ru:Nat->Addr) (lf uf:Nat->Nat->V):gq q M (cO o n)->v=.ref fd->Pj H0 H q X n o M D fd lo up rl ru lf uf->IH H0 H q X n o M D v
section
variable {Cl:Addr->Prop} {H0 H H':Hp} {q:Int} {X n:Nat} {o:List Nat} {M:a_} {D:Nat->Int} {fd lo up:Addr} {rl ru:Nat->Addr} {lf uf:Nat->Nat->V}
end
variable {H:Hp} {n:Nat}
theorem II{K:aE}{a b:Addr}{m:Nat}{ra rb:Nat->Addr}{lf DC:Nat->Nat->V}(h:cI H a n m ra lf)(g:cI H b n m rb DC)(k:∀i j,i<n->j<m->qe K H 1 (lf i j) (DC i j)):qe K H 3 (.ref a) (.ref b):=by
 refine .inr (gt a b _ _ rfl rfl (.inl ⟨.of h.lst,.of g.lst⟩) (by simp) (λi x y hx hy=>?_))
 obtain ⟨hi,rfl⟩:=fY hx;obtain ⟨_,rfl⟩:=fY hy;refine .inr (gt _ _ _ _ rfl rfl (.inl ⟨.of (h.at' i hi),.of (g.at' i hi)⟩) (by simp) (λj x y hx hy=>?_))
 obtain ⟨hj,rfl⟩:=fY hx;obtain ⟨_,rfl⟩:=fY hy;exact k i j hi hj
theorem lub{q:Int}{o:List Nat}{f:Nat->Nat->Int×Int}(hM:∀i j,(fX q n f i j).natAbs<=997)(lo:o.length=n):∀i j,i<n->j<n->(lh (fX q n f) (gC q) o i j).natAbs<=fW n 997/\(mD (fX q n f) (gC q) o i j).natAbs<=fW n 997/\(ph (fX q n f) o i j).natAbs<=fW n 997/\(pj (fX q n f) (gC q) o i j).natAbs<=fW n 997:=λi j _ _=>by
 have b1:1<=997:=by decide
 exact ⟨(w9 b1 (sE b1 hM lo _ _ _) (A_ j)).1,(w9 b1 (w5 b1 hM lo _) (A_ i)).2,aM (sE b1 hM lo _ _ _) (Iy b1),(w9 b1 (w5 b1 hM lo _) (A_ i)).2⟩
def abx(C Nf No:Addr):Sp:=λvs H _ E=>∃(z a d:Addr) (q:Int) (B m:Nat) (ag:cT) (zs:List Int),vs=[.ref z,.ref a,.ref d]/\cP C H z q/\aS q/\d9 B H q a ag/\1<=ag.length/\ag.length<=40/\(∀ps∈ag,ps.length=m) /\
 ((m≠ag.length/\∀H',af H H'->E (.ref Nf) none H')\/(m=ag.length/\H d=some (.lst (zs.map V.int))/\zs.length<64/\¬iA zs m/\∀H',af H H'->E (.ref No) none H'))
def jF(T:Addr)(n:Nat)(H:Hp)(v:V):Prop:=∃(l:Addr) (zs:List Int),v=.ref l/\l≠T/\H l=some (.lst (zs.map V.int))/\zs.length<64/\¬iA zs n
variable {T:Addr} {H':Hp} {v:V}
theorem jF.mono(h:jF T n H v)(s:af H H'):jF T n H' v:=let ⟨l,zs,a,d,b,c⟩:=h;(f8 l zs a d (s _ _ b) c)
theorem jF.off(h:jF T n H v)(s:aI T H H'):jF T n H' v:=let ⟨l,zs,a,d,b,c⟩:=h;(f8 l zs a d (s _ _ d b) c)
def DD(F:Hp->Prop):Prop:=∀{H H':Hp},af H H'->F H->F H'
def LE(T:Addr)(F:Hp->Prop)(σ:St)(te:TE)(zs:List Int):Prop:=∀(H:Hp) (Q:VK),F H->(∀l H',af H H'->l≠T->H' l=some (.lst (zs.map V.int))->Q (.ref l) H')->te σ H Q
def LG(T:Addr)(F:Hp->Prop)(n:Nat)(σ:St)(te:TE):Prop:=∀(H:Hp) (Q:VK),F H->(∀v H',af H H'->jF T n H' v->Q v H')->te σ H Q
def LA(T:Addr)(F:Hp->Prop)(n:Nat)(σ:St)(t:TA)(k:Nat):Prop:=∀(H:Hp) (Q:List V->Hp->Prop),F H->(∀vs H',af H H'->vs.length=k->(∀v∈vs,jF T n H' v)->Q vs H')->t σ H Q
section
variable {T:Addr} {F:Hp->Prop} {σ:St} {n:Nat} {K:aE}
variable {i:Nat} {od:Addr} {zo:List Int}
theorem IJ(hσ:σ[i]?=some (some (.ref od)))(hF:∀H,F H->H od=some (.lst (zo.map V.int)))(ne:od≠T):LE T F σ (lO i) zo:=λH Q f k=>⟨_,hσ,k od H (af.refl _) ne (hF H f)⟩
variable {zs:List Int}
theorem Bd(tF:∀H,F H->aY H T){lo hi:Option Int}{tl th:TO}(hσ:σ[i]?=some (some (.ref od)))(hF:∀H,F H->H od=some (.lst (zo.map V.int)))(hl:∀(R:Option Int->Hp->Prop) (H:Hp),R lo H->tl σ H R)(hh:∀(R:Option Int->Hp->Prop) (H:Hp),R hi H->th σ H R)(ec:gI (zo.map V.int) lo hi=zs.map V.int):LE T F σ (rQ (p4 K) (lO i) tl th) zs:=λH Q f k=>by refine (ad _ hσ (hl _ _ (hh _ _ ⟨od,_,rfl,.of (hF H f),λp np=>k p _ (aG np) ((tF H f).ne np) ?_⟩)));rw [au,ec]
variable {t:TE}
theorem sF(tF:∀H,F H->aY H T){z:Int}(h:∀(R:VK) (H:Hp),F H->R (.int z) H->t σ H R):LE T F σ (Az (pZ t pY)) [z]:=λH Q f k=>h _ _ f ⟨by show 1<=sizeLine;decide,λp np=>k p _ (aG np) ((tF _ f).ne np) au⟩
theorem le_nil(tF:∀H,F H->aY H T):LE T F σ (Az pY) []:=λH Q f k=>⟨cG _,λp np=>k p _ (aG np) ((tF _ f).ne np) au⟩
variable {te:TE}
theorem mE(tF:∀H,F H->aY H T)(mF:DD F){tr:TE}{xs ys:List Int}(h1:LE T F σ te xs)(h2:LE T F σ tr ys)(hl:xs.length+ys.length<=100):LE T F σ (oG Hi te tr) (xs++ys):=λH Q f k=>by
 refine h1 H _ f λl1 H1 s1 _ e1=>h2 H1 _ (mF s1 f) λl2 H2 s2 _ e2=>(ia l1 l2 _ _ rfl rfl (s2 _ _ e1) e2 (aM (show _<=100 by simpa using hl) ∅) (λp np=>k p _ (s1.trans (s2.trans (aG np))) ((tF _ (mF s2 (mF s1 f))).ne np) ?_))
 rw [au,kG]
theorem mG(h:LE T F σ te zs)(hl:zs.length<64)(no:¬iA zs n):LG T F n σ te:=λH Q f k=>h H _ f λl H' s ne e=>k _ H' s (sB l zs rfl ne e hl no)
theorem IK:LA T F n σ pY 0:=λH Q f k=>k [] H (af.refl _) rfl λv h=>nomatch h
variable {m:Nat}
theorem mH(mF:DD F){tr:TA}(h:LG T F n σ t)(h':LA T F n σ tr m):LA T F n σ (pZ t tr) (m+1):=λH Q f k=>
 h H _ f λv H1 s1 b=>h' H1 _ (mF s1 f) λvs H2 s2 l bl=>k (v::vs) H2 (s1.trans s2) (by rw [fO,l]) λx hx=>by
  rcases dB.mp hx with rfl | hx;·exact b.mono s2
  ·exact bl x hx
variable {Q:VK}
theorem ll{t:TA}(h:LA T F n σ t m)(hm:m<=100)(f:F H)(k:∀(l:Addr) (vs:List V) (H':Hp),H l=none->af H H'->H' l=some (.lst vs)->vs.length=m->(∀v∈vs,jF T n H' v)->Q (.ref l) H'):Az t σ H Q:=
 h H _ f λvs H1 s1 l bl=>⟨by rw [l];exact aM hm ∅,λp np=>k p vs _ (none_of s1 np) (s1.trans (aG np)) au l λv hv=>(bl v hv).mono (aG np)⟩
theorem Pk{t:TA}{m0:Nat}{l0:Addr}{xc:List V}(h:LA T F n σ t m)(hm:m<=50)(f:F H)(e0:H l0=some (.lst xc))(hm0:xc.length=m0)(IG:m0<=50)(b0:∀v∈xc,jF T n H v)(hσ:σ[i]?=some (some (.ref l0)))
  (k:∀(l:Addr) (vs:List V) (H':Hp),H l=none->af H H'->H' l=some (.lst vs)->vs.length=m0+m->(∀v∈vs,jF T n H' v)->Q (.ref l) H'):oG Hi (lO i) (Az t) σ H Q:=by
 refine ⟨_,hσ,ll h ⋯ f λl vs H1 nl s1 el ln bl=>?_⟩
 refine (ia l0 l xc vs rfl rfl (s1 _ _ e0) el (aM (show _<=100 by lia) ∅) (λp np=>?_))
 refine k p _ _ (none_of s1 np) (s1.trans (aG np)) au (by rw [dD];lia) λv hv=>?_
 rcases mR.mp hv with hv | hv;·exact ((b0 v hv).mono s1).mono (aG np)
 ·exact (bl v hv).mono (aG np)
end
variable {zs:List Int}
theorem IL(h:zs.length≠n):¬iA zs n:=λp=>h (by have:=p.length_eq;simpa using this)
theorem xf{z:Int}(hm:z∈zs)(h:¬(0<=z/\z<(n:Int))):¬iA zs n:=λp=>h (by obtain ⟨k,hk,e⟩:=iF.mp (p.mem_iff.mp hm);have:=dA.mp hk;rw [<-e];show 0<=(k:Int)/\(k:Int)<n;lia)
theorem abz(h:¬zs.Nodup):¬iA zs n:=λp=>h (p.nodup_iff.mpr (List.Pairwise.map _ (λa b (ne:a≠b) z=>ne (by have:(a:Int)=(b:Int):=z;lia)) List.nodup_range))
def abA:Sp:=λvs H Q _=>∃(T od:Addr) (n:Nat) (o:List Nat),vs=[.ref T,.ref od]/\aY H T/\od≠T/\H od=some (.lst (bW o))/\o.Perm (List.range n)/\1<=n/\n<=9/\∀(v:V) (H':Hp),aI T H H'->aY H' T->jF T n H' v->Q v H'
theorem Be{te:TE}{tr:TA}{σ:St}{Q:List V->Hp->Prop}(h:te σ H λx H1=>tr σ H1 λys H2=>Q (x::ys) H2):pZ te tr σ H Q:=h
end My
namespace L2
open PySem PySem.Spec PyProof.Rows
def sG(K:aE)(H:Hp):Nat->V->V->Bool->Prop
 | 0,v,u,b=>jZ v=true/\jZ u=true/\b=kN v u
 | n+1,v,u,b=>(jZ v=true/\jZ u=true/\b=kN v u)\/∃a c xs ys e,v=.ref a/\u=.ref c/\(a=c->b=true)/\((bM K H a xs/\bM K H c ys)\/(eF K H a xs/\eF K H c ys))/\xs.length=ys.length/\(∀(j:Nat) (x y:V),xs[j]?=some x->ys[j]?=some y->sG K H n x y (e j))/\b=(List.range xs.length).all e
section
variable {X:Cx} {pins:a7} {σ:St} {H:Hp} {s:Shared}
theorem DE{xs ys:List V}{us vs:List Value}(r1:Vals xs us)(r2:Vals ys vs){j:Nat}(h1:j<us.toArray.size)(h2:j<vs.toArray.size):∃x y,xs[j]?=some x/\ys[j]?=some y/\RelV x us.toArray[j]/\RelV y vs.toArray[j]:=by
 have AR:j<us.length:=by simpa using h1
 have AS:j<vs.length:=by simpa using h2
 have l1:=r1.length;have l2:=r2.length;obtain ⟨x,ex⟩:∃x,xs[j]?=some x:=⟨xs[j],by simp [show j<xs.length by lia]⟩
 obtain ⟨y,ey⟩:∃y,ys[j]?=some y:=⟨ys[j],by simp [show j<ys.length by lia]⟩
 obtain ⟨x',jS,rx⟩:=r1.get ex;obtain ⟨y',mv,ry⟩:=r2.get ey;have e1:us.toArray[j]=x':=by simpa using (bK.mp jS).2
 have e2:vs.toArray[j]=y':=by simpa using (bK.mp mv).2
 exact (f8 x y ex ey (by rw [e1];exact rx) (by rw [e2];exact ry))
theorem DF(I:Inv X pins σ H s):∀(n:Nat) (A:Around) (v u:V) (a b:Value) (e:Bool),sG X.K H n v u e->RelV v a->RelV u b->A.units+n<cLine->SeqAt.EqAt A s a b e
 | 0,A,v,u,a,b,e,h,ra,rb,hu=>by obtain ⟨h1,h2,rfl⟩:=h;exact rR (A:=A) (s:=s) ra rb h1 h2
 | n+1,A,v,u,a,b,e,h,ra,rb,hu=>by
  rcases h with ⟨h1,h2,rfl⟩ | ⟨p,q,xs,ys,e',rfl,rfl,hpq,hs,hl,hi,rfl⟩;·exact rR (A:=A) (s:=s) ra rb h1 h2
  ·cases ra
   cases rb;by_cases pq:p=q
   ·rw [hpq pq]
    subst pq;exact SeqAt.EqAt.same _
   rcases hs with ⟨h1,h2⟩ | ⟨h1,h2⟩
   ·obtain ⟨us,r1,t1,_⟩:=I.list h1
    obtain ⟨vs,r2,t2,_⟩:=I.list h2;have l1:=r1.length;have l2:=r2.length;have z:=SeqAt.RcAt.lists (A:=A) (e:=e') t1.isList t2.isList (by simp;lia) ⋯ (λj z1 z2=>by obtain ⟨x,y,ex,ey,rx,ry⟩:=DE r1 r2 z1 z2;exact DF I n A.in1 x y _ _ _ (hi j x y ex ey) rx ry (by rw [pM];lia))
    rw [show us.toArray.size=xs.length by simp;lia] at z
    exact Ck pq z
   ·obtain ⟨us,r1,t1,_⟩:=I.tuple h1
    obtain ⟨vs,r2,t2,_⟩:=I.tuple h2;have l1:=r1.length;have l2:=r2.length;have z:=SeqAt.RcAt.tuples (A:=A) (e:=e') t1 t2 ⋯ (λj z1 z2=>by obtain ⟨x,y,ex,ey,rx,ry⟩:=DE r1 r2 z1 z2;exact DF I n A.in1 x y _ _ _ (hi j x y ex ey) rx ry (by rw [pM];lia))
    have e3:(us.toArray.size == vs.toArray.size)=true:=by simp;lia
    rw [e3,Bool.and_true,show min us.toArray.size vs.toArray.size=xs.length by simp;lia] at z
    exact Ck pq z
end
section
variable {X:Cx}
def Pl(K:aE)(n:Nat)(r:Bool->Bool):R2:=λx y H Q=>∃a b xs ys e,x=.ref a/\y=.ref b/\bM K H a xs/\bM K H b ys/\xs.length=ys.length/\(∀(j:Nat) (x y:V),xs[j]?=some x->ys[j]?=some y->sG K H n x y (e j))/\Q (.bl (r ((List.range xs.length).all e))) H
variable {n:Nat}
theorem Pm(hu:X.A.units+64<cLine)(hn:n<60:=by decide):cC X (compareOp .Eq) (Pl X.K n id):=by
 intro pins s σ H x y v u Q I rx ry h;intros bvE h a bv33 b xs ys e rfl rfl h1 h2 hl hi q;cases rx;cases ry;obtain ⟨us,r1,t1,_⟩:=I.list h1;obtain ⟨vs,r2,t2,_⟩:=I.list h2;have l1:=r1.length;have l2:=r2.length;refine SeqAt.eq_listAt (e:=e) t1.isList t2.isList (by simp;lia) ⋯ (λj z1 z2=>?_) ?_
 ·obtain ⟨x,y,ex,ey,rx,ry⟩:=DE r1 r2 z1 z2
  exact DF I n X.A.in1 x y _ _ _ (hi j x y ex ey) rx ry (by rw [pM];lia)
 ·rw [show us.toArray.size=xs.length by simp;lia]
  exact (bi (.bl ((List.range xs.length).all e)) H I rfl q)
theorem Pn(hu:X.A.units+64<cLine)(hn:n<60:=by decide):cC X (compareOp .NotEq) (Pl X.K n not):=by
 intro pins s σ H x y v u Q I rx ry h;intros bvE h a bv33 b xs ys e rfl rfl h1 h2 hl hi q;cases rx;cases ry;obtain ⟨us,r1,t1,_⟩:=I.list h1;obtain ⟨vs,r2,t2,_⟩:=I.list h2;have l1:=r1.length;have l2:=r2.length;refine SeqAt.RcNeAt.lists (e:=e) t1.isList t2.isList (by simp;lia) ⋯ (λj z1 z2=>?_) _ _ _ _ ?_
 ·obtain ⟨x,y,ex,ey,rx,ry⟩:=DE r1 r2 z1 z2
  exact DF I n X.A.in1 x y _ _ _ (hi j x y ex ey) rx ry (by rw [pM];lia)
 ·rw [show us.toArray.size=xs.length by simp;lia]
  exact (bi (.bl (!(List.range xs.length).all e)) H I rfl q)
end
end L2
namespace My
open PySem L2
section
variable {K:aE} {H:Hp} {q:Int} {B B' X:Nat} {v u:V} {x m x' m':Int}
theorem abC(h:aw B H q v x m)(h':aw B' H q u x' m'):sG K H 1 v u (decide (x=x'/\m=m')):=by
 cases h with
 | aU e l _ _=>
  cases h' with
  | aU e' l' _ _=>
   refine .inr ⟨_,_,_,_,λj=>if j=0 then decide (x=x') else decide (m=m'),rfl,rfl,λz=>?_,.inr ⟨.of e,.of e'⟩,rfl,λj y y' hx hy=>?_,?_⟩
   ·rw [z,e'] at e
    cases e;simp
   ·match j,hx,hy with
    | 0,hx,hy=>cases hx;cases hy;exact ⟨rfl,rfl,rfl⟩
    | 1,hx,hy=>cases hx;cases hy;exact ⟨rfl,rfl,rfl⟩
    | j+2,hx,_=>simp at hx
   ·simp [kD]
  | rem a b d=>lia
 | rem a b d=>
  cases h' with
  | aU=>lia
  | rem=>exact .inl ⟨rfl,rfl,by simp [kN];rfl⟩
theorem IM(hq:aS q){T U:Int}(h:aQ X H q v T U)(h':aw B H q u x m):∃x' m',aw X H q v x' m'/\(q∣T*m-x*U↔x'=x/\m'=m):=by
 intros bv7 h x' m' a b c;refine ⟨x',m',a,λd=>?_,fun⟨e1,e2⟩=>?_⟩
 ·have nm:¬q∣m:=by
   cases h' with
   | aU e l _ _=>exact λz=>by have:=l.pos;have:=e9.mp z;lia
   | rem _ _ _=>exact ki hq
  obtain ⟨y,n,g1,g2⟩:=aa_ hq (bi x' m' a b c) ((bi x m h' (by rw [lM];exact jg q) nm):aQ B H q u x m) d
  have z1:=wZ a g1;have z2:=wZ h' g2;exact ⟨z1.1.trans z2.1.symm,z1.2.trans z2.2.symm⟩
 ·subst e1 e2
  obtain ⟨k,hk⟩:=b;exact ⟨-k,by grind⟩
end
def ft(q:Int)(p:Int×Int)(T U:Int):Bool:=decide (q∣T*p.2-p.1*U)
section
variable {K:aE} {H:Hp} {q:Int} {B B' X n m:Nat} {v u:V} {p:Int×Int} {T U:Int}
theorem DG(hq:aS q)(h:aQ X H q v T U)(h':aw B H q u p.1 p.2):sG K H 1 v u (ft q p T U):=by
 obtain ⟨x',m',a,b⟩:=IM hq h h';have e:ft q p T U=decide (x'=p.1/\m'=p.2):=by unfold ft;simp only [b]
 rw [e];exact abC a h'
theorem DH(hq:aS q)(h:aQ X H q v T U)(h':aw B H q v p.1 p.2):ft q p T U=true:=by obtain ⟨x',m',a,b⟩:=IM hq h h';unfold ft;exact cK (b.mpr (wZ a h'))
theorem IP(hq:aS q){R:VK}(h':aw B H q u p.1 p.2)(h:aQ X H q v T U)(k:R (.bl (!ft q p T U)) H):C_ K u v H R:=by
 obtain ⟨x',m',a,b⟩:=IM hq h h';have e:ft q p T U=decide (p.1=x'/\p.2=m'):=by unfold ft;simp only [b,eq_comm]
 rw [e] at k;cases a with
 | aU e l bx bm=>
  generalize p.1=y at h' k;generalize p.2=n at h' k;cases h' with
  | aU e' l' _ _=>
   refine .inl (sw _ _ _ _ rfl rfl (.of e') (.of e) rfl rfl ?_);have z:(iL [V.int y,V.int n] [V.int x',V.int m'])=decide (y=x'/\n=m'):=by show ((y == x') && ((n == m') && true))=_;rw [Bool.and_true,Bool.decide_and];rfl
   rw [z];simpa using k
  | rem h0 h1 _=>lia
 | rem h0 h1 h2=>
  generalize p.1=y at h' k;generalize p.2=n at h' k;cases h' with
  | aU _ _ _ _=>lia
  | rem _ _ _=>refine .inr ⟨rfl,?_⟩;simpa using k
theorem DI{a b:Addr}{ra rb:Nat->Addr}{vf uf:Nat->Nat->V}{e:Nat->Nat->Bool}(h:cI H a n m ra vf)(g:cI H b n m rb uf)(k:∀i j,i<n->j<m->sG K H 1 (vf i j) (uf i j) (e i j))(s:∀i j,i<n->j<m->vf i j=uf i j->e i j=true) :
  ∀(j:Nat) (x y:V),((List.range n).map λi=>V.ref (ra i))[j]?=some x->((List.range n).map λi=>V.ref (rb i))[j]?=some y->sG K H 2 x y ((List.range m).all (e j)):=λi x y hx hy=>by
 obtain ⟨hi,rfl⟩:=fY hx;obtain ⟨_,rfl⟩:=fY hy;refine .inr ⟨_,_,_,_,e i,rfl,rfl,λz=>?_,.inl ⟨.of (h.at' i hi),.of (g.at' i hi)⟩,by simp,λj x y hx hy=>?_,by simp⟩
 ·have z1:=h.at' i hi
  rw [z,g.at' i hi] at z1;have z2:(List.range m).map (uf i)=(List.range m).map (vf i):=by injection z1 with z1;injection z1
  refine mU.mpr λj hj=>s i j hi (dA.mp hj) ?_;have:=List.map_inj_left.mp z2 j hj;exact this.symm
 ·obtain ⟨hj,rfl⟩:=fY hx
  obtain ⟨_,rfl⟩:=fY hy;exact k i j hi hj
end
end My
namespace L2
open PySem PySem.Spec PyProof.Rows
end L2
namespace My
open PySem L2
section
variable {q:Int} {P n W:Nat} {ag qss cR:cT} {A M:a_} {c:Nat->Int} {L:List Nat} {last:Int}
end
def abE:Sp:=λvs H Q _=>∃(a:Addr) (q:Int) (B j:Nat) (ag:cT) (m:Nat),vs=[.ref a,.int (j:Int)]/\d9 B H q a ag/\ag.length<=40/\(∀ps∈ag,ps.length=m)/\j<m/\∀(b:Addr) (H':Hp),af H H'->H b=none->i8 B H' q b (ag.map λps=>ps.getD j (0,1))->Q (.ref b) H'
def iR(m:Nat)(ag:cT):List (List (Int×Int)):=(List.range m).map λj=>ag.map λps=>ps.getD j (0,1)
def abF(N:Addr):Sp:=λvs H Q E=>∃(a:Addr) (q:Int) (B:Nat) (ag:cT) (m:Nat),vs=[.ref a]/\d9 B H q a ag/\1<=ag.length/\ag.length<=40/\(∀ps∈ag,ps.length=m)/\m<=40/\∀(b:Addr) (H':Hp),af H H'->H b=none->d9 B H' q b (iR m ag)->Q (.ref b) H'
theorem DJ(m:Nat)(ag:cT):(iR m ag).length=m:=by unfold iR;simp
def abG:Sp:=λvs H Q _=>∃(a:Addr) (ps:bR) (B:Nat) (D:Int),vs=[.ref a]/\i8 B H 0 a ps/\ps.length<=100/\cW 0 D/\(∀p∈ps,p.2∣D)/\B<2 ^ 2048/\D.natAbs<2 ^ 2048/\∀(v:V) (H':Hp) (ts:List Int) (b:Int),af H H'->wJ H H' v ts b->Dn 0 ps ts b D B->Q v H'
def abH(C:Addr):Sp:=λvs H Q _=>∃(z a:Addr) (q:Int) (ps:bR) (B:Nat) (D:Int),vs=[.ref z,.ref a]/\cP C H z q/\aS q/\i8 B H q a ps/\ps.length<=100/\cW q D/\(∀p∈ps,p.2∣D)/\B<2 ^ 2048/\1000<=B/\D.natAbs<2 ^ 2048/\∀(v:V) (H':Hp) (ts:List Int) (b:Int),af H H'->wJ H H' v ts b->Dn q ps ts b D B->Q v H'
section
variable {q:Int} {n m:Nat} {ag:cT} {as:bR}
variable {P W:Nat} {cR qss:cT} {A M:a_} {c:Nat->Int} {L:List Nat} {last:Int}
end
section
variable {q:Int} {n m:Nat} {ag:cT} {as:bR}
variable {T:a_} {a:Nat->Int} {D F:Int}
end
structure DK (q:Int) (E:Nat) (ps:bR) (ts:List Int) (b:Int):Prop where
 len:ts.length=ps.length
 ok:cW q b
 bb:b.natAbs<=E
 eq:∀(i:Nat) (p:Int×Int) (t:Int),ps[i]?=some p->ts[i]?=some t->t*p.2=p.1*b
 bd:∀t∈ts,t.natAbs<=E
variable {q b:Int}
theorem cW.ne(h:cW q b):b≠0:=by
 by_cases z:q=0
 ·have:=h.1 z
  lia
 ·have:=h.2 z
  lia
variable {B:Nat} {H:Hp}
theorem Po{D:Int}{ps:bR}{ts:List Int}{E B':Nat}{x:Nat->Int}{r:Addr}(hq:aS q)(wd:Dn q ps ts b D B')(hr:i8 B H q r ps)(i9:cW q D)(bD:D.natAbs<=E)(hx:∀i,i<ps.length->(ps.getD i o1).1*D=x i*(ps.getD i o1).2/\(x i).natAbs<=E):DK q E ps ts b:=by
 have wr:=Zr hq wd rfl hr i9 hx;refine ⟨wd.len,wd.ok,aM (HU wd.dvd i9.ne) bD,λi p t h1 h2=>?_,λt ht=>?_⟩
 ·have i1:i<ps.length:=(bK.mp h1).1
  have i2:i<ts.length:=(bK.mp h2).1;have e:=(wd.each i i1).1;rw [getD_at i1] at e;rw [cw i1] at h1;rw [cw i2] at h2;cases h1;cases h2;rw [<-e];simp [i2]
 ·obtain ⟨i,hi,e⟩:=Cq.mp ht
  have:=wr.bd i;rw [<-e];simpa [hi] using this
def abI(C:Addr):Sp:=λvs H Q _=>∃(z a:Addr) (q:Int) (B E:Nat) (ag:cT),vs=[.ref z,.ref a]/\cP C H z q/\aS q/\d9 B H q a ag/\1000<=B/\B<2 ^ 2048/\E<2 ^ 2048/\ag.length<=40/\(∀ps∈ag,ps.length<=40/\wQ q E ps) /\
 ∀(b:Addr) (H':Hp) (ws:List (List Int×Int)),af H H'->H b=none->AV H' b ws->ws.length=ag.length->(∀(i:Nat) (ps:bR) (w:List Int×Int),ag[i]?=some ps->ws[i]?=some w->DK q E ps w.1 w.2)->Q (.ref b) H'
def abJ(C:Addr):Sp:=λvs H Q _=>∃(z a:Addr) (q:Int) (u:V) (ws:List (List Int×Int)) (us:List Int) (c:Int) (E F:Nat),vs=[.ref z,.ref a,u]/\cP C H z q/\aS q/\AV H a ws/\ws.length<=40/\(∀w∈ws,w.1.length<=40/\(∀t∈w.1,t.natAbs<=E)/\cW q w.2/\w.2.natAbs<=E)/\pd H u us c/\us.length<=40/\(∀t∈us,t.natAbs<=F)/\cW q c/\c.natAbs<=F/\E<2 ^ 2048/\F<2 ^ 2048/\E*F<2 ^ 2048 /\
 ∀(b:Addr) (H':Hp),af H H'->H b=none->Dj H' q b (ws.map λw=>(kZ w.1 us,w.2*c))->Q (.ref b) H'
def Pp(C:Addr):Sp:=λvs H Q _=>∃(z a o:Addr) (q:Int) (Ba Bo E F:Nat) (ag cR:cT),vs=[.ref z,.ref a,.ref o]/\cP C H z q/\aS q/\d9 Ba H q a ag/\d9 Bo H q o cR/\1000<=Ba/\Ba<2 ^ 2048/\1000<=Bo/\Bo<2 ^ 2048/\E<2 ^ 2048/\F<2 ^ 2048/\F*E<2 ^ 2048/\ag.length<=40/\cR.length<=40/\(∀ps∈ag,ps.length<=40/\wQ q E ps)/\(∀ps∈cR,ps.length<=40/\wQ q F ps) /\
 ∀(b:Addr) (H':Hp) (vs:List V),af H H'->H b=none->H' b=some (.lst vs)->vs.length=ag.length->(∀(i:Nat) (v:V) (ps:bR),vs[i]?=some v->ag[i]?=some ps->∃r:Addr,v=.ref r/\H r=none/\Dj H' q r (cR.map λrs=>fJ rs ps (0,1)))->Q (.ref b) H'
theorem aN.or{P:Program}{w:World}{K:aE}{mg:cU}{base:Heap}{CX:iJ}{k:Nat}{f:Addr}{fd:FuncData}{ps:List Str}{sp Pq:Sp}(F:aN P w K mg base CX k f fd ps sp)(G:aN P w K mg base CX k f fd ps Pq):aN P w K mg base CX k f fd ps (λvs H Q E=>sp vs H Q E\/Pq vs H Q E):=
 ⟨λvs H Q E q=>q.elim (F.len vs H Q E) (G.len vs H Q E),λA outer s H args us vs Q E hr he hb hv hs=>hs.elim (F.run A outer s H args us vs Q E hr he hb hv) (G.run A outer s H args us vs Q E hr he hb hv)⟩
section
variable {q:Int} {n m:Nat} {ag:cT} {as xs:bR}
theorem abK{ps rs:bR}{f g:Nat->Int}{D1 D2:Int}(lp:ps.length=n)(lr:rs.length=n)(h1:∀i,i<n->mw q (ps.getD i o1) (f i,D1))(h2:∀i,i<n->mw q (rs.getD i o1) (g i,D2)):mw q (fJ ps rs (0,1)) (bI n λi=>f i*g i,D1*D2):=by
 have:=N6 n ps rs f g (0,1) 0 lp lr h1 h2 ⟨0,by simp⟩
 rw [jh] at this;exact this
end
def abL:Sp:=λvs H Q _=>∃(a:Addr) (n m:Nat) (xs:List V),vs=[.ref a,.int (n:Int),.int (m:Int)]/\H a=some (.lst xs)/\xs.length=n/\n<=40/\(∀v∈xs,∃(r:Addr) (us:List V),v=.ref r/\H r=some (.lst us)/\us.length=m)/\∀H',af H H'->Q (.bl true) H'
def abM:Sp:=λvs H Q _=>∃a:Addr,vs=[.ref a]/\H a=some (.lst [])/\Q (.int 0) H
section
variable {q:Int} {n m:Nat} {ag:cT} {L D:List Nat}
theorem abN:∀ps∈iR m ag,ps.length=ag.length:=λps hp=>by unfold iR at hp;obtain ⟨j,_,e⟩:=iF.mp hp;rw [<-e,aR]
variable {P P2:Nat} {cR amv:cT} {A M A2 M2:a_} {c c2:Nat->Int} {last amw:Int}
end
def abO:Sp:=λvs H Q _=>∃a:Addr,vs=[.ref a]/\H a=some (.lst [])/\∀(b:Addr) (H':Hp),af H H'->H b=none->H' b=some (.lst [])->Q (.ref b) H'
def abP(C:Addr):Sp:=λvs H Q _=>∃(z a o:Addr) (q:Int) (Ba Bo E F r:Nat) (ag cR:cT),vs=[.ref z,.ref a,.ref o]/\cP C H z q/\aS q/\d9 Ba H q a ag/\d9 Bo H q o cR/\1000<=Ba/\Ba<2 ^ 2048/\1000<=Bo/\Bo<2 ^ 2048/\E<2 ^ 2048/\F<2 ^ 2048/\F*E<2 ^ 2048/\r<=40/\ag.length=r/\cR.length=r/\(∀ps∈ag,ps.length=r/\wQ q E ps)/\(∀ps∈cR,ps.length=r)/\(∀ps∈iR r cR,wQ q F ps) /\
 ∀(b:Addr) (H':Hp) (vs:List V),af H H'->H b=none->H' b=some (.lst vs)->vs.length=ag.length->(∀(i:Nat) (v:V) (ps:bR),vs[i]?=some v->ag[i]?=some ps->∃r':Addr,v=.ref r'/\H r'=none/\Dj H' q r' ((iR r cR).map λrs=>fJ rs ps (0,1)))->Q (.ref b) H'
def xC(C:Int)(p:Int×Int):Int:=p.1*(C / p.2)
structure cY (H:Hp) (q C:Int) (B n:Nat) (a:Addr) (ra:Nat->Addr) (vf:Nat->Nat->V) (f:Nat->Nat->Int×Int):Prop where
 tab:cI H a n n ra vf
 num:∀i j,i<n->j<n->aw B H q (vf i j) (f i j).1 (f i j).2
 dv:∀i j,i<n->j<n->(f i j).2∣C
variable {C:Int} {n:Nat} {a:Addr} {ra:Nat->Addr} {vf:Nat->Nat->V} {f:Nat->Nat->Int×Int}
theorem cY.mono{H':Hp}(h:cY H q C B n a ra vf f)(s:af H H'):cY H' q C B n a ra vf f:=⟨h.tab.mono s,λi j hi hj=>(h.num i j hi hj).mono s,h.dv⟩
def jG(C:Int)(L U:Nat->Nat->Int×Int)(i j k:Nat):Int:=((List.range k).map λk=>xC C (L i k)*xC C (U k j)).sum
def iS(q:Int)(o:List Nat)(L:Nat->Nat->Int×Int)(i j:Nat):Bool:=decide (o.idxOf j<o.idxOf i) || ft q (L i j) (if i=j then 1 else 0) 1
def i_(q:Int)(o:List Nat)(U:Nat->Nat->Int×Int)(i j:Nat):Bool:=decide (o.idxOf i<=o.idxOf j) || ft q (U i j) 0 1
def sI(q:Int)(n:Nat)(o:List Nat)(L:Nat->Nat->Int×Int):Bool:=(List.range n).all λi=>(List.range n).all λj=>iS q o L i j
def sJ(q:Int)(n:Nat)(o:List Nat)(U:Nat->Nat->Int×Int):Bool:=(List.range n).all λi=>(List.range n).all λj=>i_ q o U i j
def Pt(q C:Int)(n:Nat)(L U f:Nat->Nat->Int×Int):Bool:=(List.range n).all λi=>(List.range n).all λj=>ft q (f i j) (jG C L U i j n) (C*C)
def lq(q C:Int)(n:Nat)(o:List Nat)(L U f:Nat->Nat->Int×Int):Bool:=sI q n o L && sJ q n o U && Pt q C n L U f
variable {e:Nat->Nat->Bool}
theorem IQ:((List.range n).all λi=>(List.range n).all λj=>e i j)=true↔∀i j,i<n->j<n->e i j=true:=by
 rw [mU];constructor;·exact λh i j hi hj=>mU.mp (h i (dA.mpr hi)) j (dA.mpr hj)
 ·exact λh i hi=>mU.mpr λj hj=>h i j (dA.mp hi) (dA.mp hj)
variable {i j:Nat}
theorem Pu(hi:i<n)(hj:j<n)(z:e i j=false):((List.range n).all λi=>(List.range n).all λj=>e i j)=false:=by rw [<-Bool.not_eq_true,IQ];exact λh=>by rw [h i j hi hj] at z;cases z
variable {o:List Nat} {L U:Nat->Nat->Int×Int}
theorem abQ(hi:i<n)(hj:j<n)(z:iS q o L i j=false\/i_ q o U i j=false):lq q C n o L U f=false:=by
 unfold lq sI sJ;rcases z with z | z;·rw [Pu hi hj z];rfl
 ·rw [Pu (e:=i_ q o U) hi hj z,Bool.and_false];rfl
theorem abR(h:∀i j,i<n->j<n->iS q o L i j=true/\i_ q o U i j=true):lq q C n o L U f=Pt q C n L U f:=by unfold lq sI sJ;rw [IQ.mpr λi j hi hj=>(h i j hi hj).1,IQ.mpr λi j hi hj=>(h i j hi hj).2];rfl
theorem abS(ho:o.Perm (List.range n))(hi:i<n)(hj:j<n)(fA:i=j->ft q (L i j) 1 1=true)(fB:o.idxOf i<o.idxOf j->ft q (L i j) 0 1=true)(fC:o.idxOf j<o.idxOf i->ft q (U i j) 0 1=true):iS q o L i j=true/\i_ q o U i j=true:=by
 unfold iS i_;by_cases e:i=j
 ·subst e
  simp [fA rfl]
 ·rw [az e]
  rcases Nat.lt_or_gt_of_ne (A4 ho hi hj e) with h | h;·simp [fB h,zU h]
  ·simp [fC h,h]
theorem abT(lt:o.idxOf i<o.idxOf j)(z:ft q (L i j) 0 1=false):iS q o L i j=false:=by
 unfold iS;rw [az (λe=>by subst e;lia),z,cZ ⋯]
 rfl
theorem abU(z:ft q (L i i) 1 1=false):iS q o L i i=false:=by
 unfold iS;rw [aq rfl,z,cZ ⋯]
 rfl
theorem abV(lt:o.idxOf j<o.idxOf i)(z:ft q (U i j) 0 1=false):i_ q o U i j=false:=by
 unfold i_;rw [z,cZ ⋯]
 rfl
variable {v:V}
theorem Pw(hq:aS q)(h:aw B H q v 0 1):aQ B H q v 0 1:=(bi 0 1 h ⟨0,by simp⟩ (ki hq))
def jH(q C:Int):Prop:=cW q C/\C.natAbs<=10 ^ 40
section
variable {q C:Int} {B n:Nat} {H:Hp} {v:V} {x m:Int} {a b:Addr} {ra rb:Nat->Addr} {vf uf:Nat->Nat->V} {L U f:Nat->Nat->Int×Int}
theorem qr(hq:aS q)(h:jH q C):¬q∣C:=by
 intro d;by_cases z:q=0
 ·have:=h.1.1 z
  rw [z] at d;have:=e9.mp d;lia
 ·have:=h.1.2 z
  rw [this] at d;exact ki hq d
variable {p:Int×Int}
theorem DL(h:p.2∣C):xC C p*p.2=p.1*C:=by
 obtain ⟨c,rfl⟩:=h;unfold xC;by_cases z:p.2=0;·rw [z];simp
 ·rw [gT _ z]
  grind
theorem aw.top(h:aw B H q v x m)(b1:1000<=B):x.natAbs<=B/\m.natAbs<=B:=by
 cases h with
 | aU e l bx bm=>exact ⟨bx,bm⟩
 | rem a b c=>lia
theorem abW(bC:C.natAbs<=10 ^ 40)(h:p.1.natAbs<=10 ^ 20):(xC C p).natAbs<=10 ^ 60:=by unfold xC;rw [cS];exact aM (fQ h (aM (om ..) bC)) (by decide +kernel)
theorem cY.sM(h:cY H q C (10 ^ 20) n a ra vf L)(c:jH q C)(hi:i<n)(hj:j<n):(xC C (L i j)).natAbs<=10 ^ 60:=abW c.2 ((h.num i j hi hj).top ∅).1
theorem cY.mB(hq:aS q)(h:cY H q C (10 ^ 20) n a ra vf L)(c:jH q C)(hi:i<n)(hj:j<n):aQ (10 ^ 140) H q (vf i j) (xC C (L i j)) C:=
 sD (h.num i j hi hj) (by rw [DL (h.dv i j hi hj),lM];exact jg q) (qr hq c) (aM (h.sM c hi hj) (by decide +kernel)) (aM c.2 (by decide +kernel))
variable {k:Nat}
theorem DM(hL:∀i j,i<n->j<n->(xC C (L i j)).natAbs<=10 ^ 60)(hU:∀i j,i<n->j<n->(xC C (U i j)).natAbs<=10 ^ 60)(n6:n<=6)(hi:i<n)(hj:j<n)(hk:k<=n):(jG C L U i j k).natAbs<=10 ^ 130:=by
 have h1:=Iz (F:=λk=>if k<n then xC C (L i k)*xC C (U k j) else 0) (Z:=10 ^ 120) (λk=>by
  split
  ·rename_i hk
   rw [cS];exact aM (fQ (hL i k hi hk) (hU k j hk hj)) (by decide +kernel)
  ·exact cG _) (List.range k)
 rw [show ((List.range k).map λk=>if k<n then xC C (L i k)*xC C (U k j) else 0)=(List.range k).map λk=>xC C (L i k)*xC C (U k j) from gU λx hx=>aq (by have:=dA.mp hx;lia),cy] at h1
 exact aM h1 (aM (Nat.mul_le_mul_right _ (show k<=6 by lia)) (by decide +kernel))
theorem DN(c:jH q C):(C*C).natAbs<=10 ^ 80:=by rw [cS];exact aM (fQ c.2 c.2) (by decide +kernel)
theorem IS(hq:aS q)(c:jH q C)(hL:∀i j,i<n->j<n->(xC C (L i j)).natAbs<=10 ^ 60)(hU:∀i j,i<n->j<n->(xC C (U i j)).natAbs<=10 ^ 60)(n6:n<=6)(hi:i<n):Dz q (10 ^ 140) (10 ^ 140) n n (λj k=>xC C (U k j)) (λ_ _=>C) (λk=>xC C (L i k)) (λ_=>C) (λj k=>jG C L U i j k % q) (λ_=>(C*C) % q):=by
 have cc:=DN c;refine abj (S:=λj k=>jG C L U i j k) (R:=λ_=>C*C) hq (λ_ _=>rfl) (λj k hj hk=>?_) (λ_ _=>hE hq (qr hq c) (qr hq c)) (λz j k hj hk=>⟨aM (DM hL hU n6 hi hj hk) (by decide +kernel),aM cc (by decide +kernel)⟩) (λj k hj hk=>⟨?_,aM cc (by decide +kernel)⟩) (aV _) (aV _) (by decide +kernel)
 ·unfold jG
  rw [kD,kG,List.sum_append,pP,List.sum_singleton];grind
 ·rw [cS]
  exact aM (fQ (hU k j hk hj) (hL i k hi hk)) (by decide +kernel)
theorem Px(hq:aS q){X Y:Nat}{T R:Int}(h:aQ X H q v (T % q) (R % q))(nR:¬q∣R)(bt:T.natAbs<=Y)(br:R.natAbs<=Y):aQ Y H q v T R:=
 (h.eq hq ((Bc q T).mulR R |>.trans ((Bc q R).symm.mulL T)) nR).bd bt br
theorem Py(g:Nat->Int):∀n,bI n g=((List.range n).map g).sum
 | 0=>rfl
 | n+1=>by rw [sq,Py g n,kD,kG,List.sum_append,pP,List.sum_singleton]
variable {g:Nat->Int×Int}
theorem DO(hk:k<n):((List.range n).map g).getD k o1=g k:=by rw [getD_at (by simpa using hk),d8,e_]
theorem Pz(c:jH q C)(dv:∀k,k<n->(g k).2∣C)(bd:∀k,k<n->(xC C (g k)).natAbs<=10 ^ 60):wQ q (10 ^ 60) ((List.range n).map g):=by
 refine ⟨C,λk=>xC C (g k),c.1,aM c.2 (by decide +kernel),λp hp=>?_,λk hk=>?_⟩
 ·obtain ⟨k,hk,rfl⟩:=iF.mp hp
  exact dv k (dA.mp hk)
 ·have IT:k<n:=by simpa using hk
  rw [DO IT];exact ⟨(DL (dv k IT)).symm,bd k IT⟩
theorem PB{m:Nat}(hj:j<m):(iR m (fq n m f)).getD j []=(List.range n).map λi=>f i j:=by
 unfold iR fq;rw [getD_at (by simpa using hj),d8,e_,gW]
 refine gU λi hi=>?_;show ((List.range m).map (f i)).getD j (0,1)=_;exact DO hj
theorem abX{m:Nat}(hi:i<n):(fq n m f)[i]?=some ((List.range m).map (f i)):=by unfold fq;rw [bU,jN hi];rfl
theorem abY{m:Nat}(hj:j<m):(iR m (fq n m f))[j]?=some ((List.range n).map λi=>f i j):=by
 have h1:j<(iR m (fq n m f)).length:=by rw [DJ];exact hj
 rw [cw h1,<-getD_at (d:=[]) h1,PB hj]
theorem abZ(hq:aS q)(c:jH q C)(dL:∀i j,i<n->j<n->(L i j).2∣C)(dU:∀i j,i<n->j<n->(U i j).2∣C)(hL:∀i j,i<n->j<n->(xC C (L i j)).natAbs<=10 ^ 60)(hU:∀i j,i<n->j<n->(xC C (U i j)).natAbs<=10 ^ 60)(n6:n<=6)(hi:i<n)(hj:j<n)
  (h:iy H q v (fJ ((List.range n).map λk=>U k j) ((List.range n).map (L i)) (0,1)).1 (fJ ((List.range n).map λk=>U k j) ((List.range n).map (L i)) (0,1)).2):aQ (10 ^ 140) H q v (jG C L U i j n) (C*C):=by
 have nc:=qr hq c
 have w:=abK (q:=q) (n:=n) (ps:=(List.range n).map λk=>U k j) (rs:=(List.range n).map (L i)) (f:=λk=>xC C (U k j)) (g:=λk=>xC C (L i k)) (D1:=C) (D2:=C) (by simp) (by simp)
  (λk hk=>by rw [DO hk];exact ⟨0,by rw [<-DL (dU k j hk hj)];grind⟩) (λk hk=>by rw [DO hk];exact ⟨0,by rw [<-DL (dL i k hi hk)];grind⟩)
 have e:(bI n λk=>xC C (U k j)*xC C (L i k))=jG C L U i j n:=by
  rw [Py];unfold jG
  congr 1
  exact gU λk _=>eE _ _
 rw [e] at w;have bo:cW q (C*C):=⟨λz=>by have:=c.1.1 z;have:=Int.mul_le_mul this this ∅ ⋯;lia,λz=>by rw [c.1.2 z];rfl⟩
 obtain ⟨⟨x,m⟩,a,b⟩:=Y9 (B:=10 ^ 140) (h.Y7 w bo) hq (aM (DM hL hU n6 hi hj (aV _)) (by decide +kernel)) (aM (DN c) (by decide +kernel))
 exact (bi x m a b (hE hq nc nc))
end
theorem PD:ft q (L i j) (if o.idxOf j<o.idxOf i then (L i j).1 else if i=j then 1 else 0) (if o.idxOf j<o.idxOf i then (L i j).2 else 1)=iS q o L i j:=by
 unfold iS;by_cases h:o.idxOf j<o.idxOf i
 ·rw [aq h,aq h,cK h,Bool.true_or]
  unfold ft;exact cK ⟨0,by grind⟩
 ·rw [az h,az h,cZ h,vP]
theorem PF:ft q (L i j) (if o.idxOf i<=o.idxOf j then (L i j).1 else 0) (if o.idxOf i<=o.idxOf j then (L i j).2 else 1)=i_ q o L i j:=by
 unfold i_;by_cases h:o.idxOf i<=o.idxOf j
 ·rw [aq h,aq h,cK h,Bool.true_or]
  unfold ft;exact cK ⟨0,by grind⟩
 ·rw [az h,az h,cZ h,vP]
theorem xg(hq:aS q){x m:Int}(h:aw B H q v x m):aQ B H q v x m:=⟨x,m,h,by rw [lM];exact jg q,by
 cases h with
 | aU e l _ _=>exact λz=>by have:=l.pos;have:=e9.mp z;lia
 | rem _ _ _=>exact ki hq⟩
variable {m:Nat}
theorem PH(h:cI H a n m ra vf):∀v∈(List.range n).map λi=>V.ref (ra i),∃(r:Addr) (us:List V),v=.ref r/\H r=some (.lst us)/\us.length=m:=λv hv=>by obtain ⟨i,hi,rfl⟩:=iF.mp hv;exact ⟨_,_,rfl,h.at' i (dA.mp hi),by simp⟩
theorem ab0{vs:List V}{R:Nat->Nat->V->Prop}(e:H a=some (.lst vs))(l:vs.length=n)(h:∀i,i<n->∃(r:Addr) (us:List V),vs[i]?=some (.ref r)/\H r=some (.lst us)/\us.length=m/\∀j v,us[j]?=some v->R i j v):∃(ra:Nat->Addr) (vf:Nat->Nat->V),cI H a n m ra vf/\∀i j,i<n->j<m->R i j (vf i j):=by
 have g:∀i,∃p:Addr×List V,i<n->vs[i]?=some (.ref p.1)/\H p.1=some (.lst p.2)/\p.2.length=m/\∀j v,p.2[j]?=some v->R i j v:=λi=>by
  by_cases hi:i<n
  ·obtain ⟨r,us,a⟩:=h i hi
   exact ⟨(r,us),λ_=>a⟩
  ·exact ⟨(0,[]),λz=>absurd z hi⟩
 obtain ⟨p,hp⟩:∃p:Nat->Addr×List V,∀i,i<n->vs[i]?=some (.ref (p i).1)/\H (p i).1=some (.lst (p i).2)/\(p i).2.length=m/\∀j v,(p i).2[j]?=some v->R i j v:=⟨λi=>(g i).choose,λi=>(g i).choose_spec⟩;refine ⟨λi=>(p i).1,λi j=>(p i).2.getD j .aO,⟨?_,λi hi=>?_⟩,λi j hi hj=>?_⟩
 ·rw [e]
  congr 2
  refine eP (by simp [l]) λi h1 h2=>?_
  have:=(hp i ⋯).1
  rw [cw h1] at this;rw [d8,e_];exact Option.some.inj this
 ·obtain ⟨_,b,c,_⟩:=hp i hi
  rw [b]
  congr 2
  refine eP (by simp [c]) λj h1 h2=>?_
  rw [d8,e_,getD_at h1]
 ·obtain ⟨_,b,c,d⟩:=hp i hi
  have cB:j<(p i).2.length:=by lia
  dsimp only;rw [getD_at cB];exact d j _ (cw cB)
def ab1(C0:Addr):Sp:=λvs H Q _=>∃(z a d lo up:Addr) (q C:Int) (n:Nat) (o:List Nat) (ra rl ru:Nat->Addr) (vf lf uf:Nat->Nat->V) (f L U:Nat->Nat->Int×Int),vs=[.ref z,.ref a,.ref d,.ref lo,.ref up]/\cP C0 H z q/\aS q/\1<=n/\n<=6/\H d=some (.lst (bW o))/\o.Perm (List.range n)/\cI H a n n ra vf/\(∀i j,i<n->j<n->aw 2000 H q (vf i j) (f i j).1 (f i j).2)/\cY H q C (10 ^ 20) n lo rl lf L/\cY H q C (10 ^ 20) n up ru uf U/\jH q C/\∀H',af H H'->Q (.bl (lq q C n o L U f)) H'
def ab2(C0 Nf No:Addr):Sp:=λvs H Q E=>∃(z a d:Addr) (v u:V),vs=[.ref z,.ref a,.ref d,v,u]/\abx C0 Nf No [.ref z,.ref a,.ref d] H Q E
def ab3(C0 Nf No:Addr):Sp:=λvs H Q E=>ab1 C0 vs H Q E\/ab2 C0 Nf No vs H Q E
def ab4:Sp:=λvs H Q _=>∃(td a d lo up:Addr) (q C:Int) (n:Nat) (o:List Nat) (ra rl ru:Nat->Addr) (vf lf uf:Nat->Nat->V) (f L U:Nat->Nat->Int×Int),vs=[.ref td,.ref a,.ref d,.ref lo,.ref up]/\eW H td q/\aS q/\1<=n/\n<=6/\H d=some (.lst (bW o))/\o.Perm (List.range n)/\cI H a n n ra vf/\(∀i j,i<n->j<n->aw 2000 H q (vf i j) (f i j).1 (f i j).2)/\cY H q C (10 ^ 20) n lo rl lf L/\cY H q C (10 ^ 20) n up ru uf U/\jH q C/\∀H',af H H'->Q (.bl (lq q C n o L U f)) H'
section
variable {q:Int} {n:Nat} {o νl:List Nat}
variable {f:Nat->Nat->Int×Int}
end
section
variable {q:Int} {n:Nat} {o νl:List Nat} {f:Nat->Nat->Int×Int}
end
section
variable {n m:Nat} {o o2 line:List Nat}
end
section
variable {q:Int} {n m:Nat} {f f2:Nat->Nat->Int×Int} {o o2 line:List Nat}
end
section
variable {n N:Nat} {L L':bR} {o o':List Nat} {f:Nat->Nat}
end
section
variable {n m:Nat} {f f2:Nat->Nat->Int×Int} {o o2 line:List Nat}
end
section
variable {H Hc H':Hp} {T la ra fa:Addr} {n m i j:Nat} {o o2 F:List Nat}
end
open PySem PySem.W PyProof.Rows
section
variable {prog:Program} {w:World} {A:Around} {E:aX} {s:Shared} {R:Result->Shared->Prop}
end
section
open PySem.SeqAt
open PySem.AutoSeq1 (wpAny_loadPart')
open PySem.MeetsSeq PySem.MeetsSeq2 PySem.MeetsSeq3
end
end My
namespace L2
open PySem PySem.W PyProof.Rows My
end L2
namespace My
open PySem L2
end My
namespace L2
open PySem My
section
variable {X:Cx}
end
end L2
namespace My
open PySem L2
section
variable {H:Hp} {D r':Addr} {q:Int} {n m:Nat} {o o2 line:List Nat} {f f2:Nat->Nat->Int×Int} {xs:List V}
end
section
variable {H:Hp} {D r':Addr} {q:Int} {n m:Nat} {o o2 line:List Nat} {f f2:Nat->Nat->Int×Int} {xs:List V}
end
section
variable {H H':Hp} {sp:Addr} {q:Int} {n m:Nat} {o o2 line:List Nat} {f f2:Nat->Nat->Int×Int} {vs ws:List V}
end
section
variable {H H':Hp} {q:Int} {T:Addr}
theorem WTab.cF{a:Addr}{n:Nat}{rs:Nat->Addr}{vf:Nat->Nat->V}(h:WTab H a n rs vf)(o:aI T H H')(na:a≠T)(nr:∀i,i<n->rs i≠T):WTab H' a n rs vf:=⟨o _ _ na h.lst,h.inj,h.ne,λi hi=>o _ _ (nr i hi) (h.at' i hi)⟩
end
structure DP (Tp lo up:Addr) (n:Nat) (rl ru:Nat->Addr):Prop where
 lu:lo≠up
 lT:lo≠Tp
 uT:up≠Tp
 sN:∀i,i<n->rl i≠Tp
 xh:∀i,i<n->ru i≠Tp
 IU:∀i,i<n->rl i≠up
 IV:∀i,i<n->ru i≠lo
 rr:∀i j,i<n->j<n->rl i≠ru j
theorem DP.flip{Tp lo up:Addr}{n:Nat}{rl ru:Nat->Addr}(h:DP Tp lo up n rl ru):DP Tp up lo n ru rl:=⟨Ne.symm h.lu,h.uT,h.lT,h.xh,h.sN,h.IV,h.IU,λi j hi hj=>Ne.symm (h.rr j i hj hi)⟩
structure eY (H:Hp) (q:Int) (B:Nat) (S:Int->Int->Prop) (Tp lo up:Addr) (n:Nat) (rl ru:Nat->Addr) (lf uf:Nat->Nat->V):Prop where
 tc:aY H Tp
 sp:DP Tp lo up n rl ru
 wl:WTab H lo n rl lf
 wu:WTab H up n ru uf
 cl:∀i j,i<n->j<n->∃x d,aw B H q (lf i j) x d/\S x d
 cu:∀i j,i<n->j<n->∃x d,aw B H q (uf i j) x d/\S x d
section
variable {H H':Hp} {q:Int} {B:Nat} {S:Int->Int->Prop} {Tp lo up:Addr} {n:Nat} {rl ru:Nat->Addr} {lf uf:Nat->Nat->V}
theorem eY.flip(h:eY H q B S Tp lo up n rl ru lf uf):eY H q B S Tp up lo n ru rl uf lf:=⟨h.tc,h.sp.flip,h.wu,h.wl,h.cu,h.cl⟩
theorem eY.off(h:eY H q B S Tp lo up n rl ru lf uf)(o:aI Tp H H')(t:aY H' Tp):eY H' q B S Tp lo up n rl ru lf uf:=
 ⟨t,h.sp,h.wl.cF o h.sp.lT h.sp.sN,h.wu.cF o h.sp.uT h.sp.xh,λi j hi hj=>let ⟨x,d,a,b⟩:=h.cl i j hi hj;⟨x,d,a.cF h.tc o,b⟩,λi j hi hj=>let ⟨x,d,a,b⟩:=h.cu i j hi hj;⟨x,d,a.cF h.tc o,b⟩⟩
theorem eY.mono(h:eY H q B S Tp lo up n rl ru lf uf)(s:af H H'):eY H' q B S Tp lo up n rl ru lf uf:=h.off (aI.of s) (h.tc.mono s)
variable {v:V} {x d:Int}
theorem aw.Bf{a:Addr}{ys zs:List V}(h:aw B H q v x d)(e:H a=some (.lst ys)):aw B (upd H a (.lst zs)) q v x d:=h.bE e λb o ne e=>by rw [aH ne];exact e
theorem eY.putL(h:eY H q B S Tp lo up n rl ru lf uf){i j:Nat}(hi:i<n)(nu:aw B H q v x d)(s:S x d):eY (upd H (rl i) (.lst (((List.range n).map (lf i)).set j v))) q B S Tp lo up n rl ru (iB lf i j v) uf:=by
 have e:=h.wl.at' i hi;obtain ⟨t,et⟩:=h.tc;refine ⟨⟨t,by rw [aH (Ne.symm (h.sp.sN i hi))];exact et⟩,h.sp,h.wl.put v hi,h.wu.bE λb o hb eb=>?_,λi' j' b9 cB=>?_,λi' j' b9 cB=>?_⟩
 ·rw [aH (by rcases hb with rfl | ⟨k,hk,rfl⟩;exact Ne.symm (h.sp.IU i hi);exact Ne.symm (h.sp.rr i k hi hk))]
  exact eb
 ·unfold iB
  split
  ·exact (ii x d (nu.Bf e) s)
  ·obtain ⟨x',d',a,b⟩:=h.cl i' j' b9 cB
   exact (ii x' d' (a.Bf e) b)
 ·obtain ⟨x',d',a,b⟩:=h.cu i' j' b9 cB
  exact (ii x' d' (a.Bf e) b)
theorem eY.PJ(h:eY H q B S Tp lo up n rl ru lf uf):eY (upd H lo (.lst ((List.range n).map λi=>V.ref (rl i)).reverse)) q B S Tp lo up n (λi=>rl (n-1-i)) ru (λi=>lf (n-1-i)) uf:=by
 have e:=h.wl.lst;obtain ⟨t,et⟩:=h.tc;have p:=h.sp;refine ⟨⟨t,by rw [aH (Ne.symm p.lT)];exact et⟩,⟨p.lu,p.lT,p.uT,λi hi=>p.sN _ ⋯,p.xh,λi hi=>p.IU _ ⋯,p.IV,λi j hi hj=>p.rr _ j ⋯ hj⟩,⟨?_,λi j hi hj z=>?_,λi hi=>h.wl.ne _ ⋯,λi hi=>?_⟩,h.wu.bE λb o hb eb=>?_,λi j hi hj=>?_,λi j hi hj=>?_⟩
 ·rw [au]
  congr 2
  refine eP (by simp) λi h1 h2=>?_
  rw [List.getElem_reverse,d8,d8,e_,e_,aR,cy]
 ·have:=h.wl.inj _ _ (show n-1-i<n by lia) (show n-1-j<n by lia) z
  lia
 ·rw [aH (h.wl.ne _ ⋯)]
  exact h.wl.at' _ ⋯
 ·rw [aH (by rcases hb with rfl | ⟨k,hk,rfl⟩;exact Ne.symm p.lu;exact p.IV k hk)]
  exact eb
 ·obtain ⟨x',d',a,b⟩:=h.cl (n-1-i) j ⋯ hj
  exact (ii x' d' (a.Bf e) b)
 ·obtain ⟨x',d',a,b⟩:=h.cu i j hi hj
  exact (ii x' d' (a.Bf e) b)
theorem sO{vf:Nat->Nat->V}(h:∀i j,i<n->j<n->∃x d,aw B H q (vf i j) x d/\S x d):∃f:Nat->Nat->Int×Int,∀i j,i<n->j<n->aw B H q (vf i j) (f i j).1 (f i j).2/\S (f i j).1 (f i j).2:=by
 refine ⟨λi j=>if z:i<n/\j<n then ((h i j z.1 z.2).choose,(h i j z.1 z.2).choose_spec.choose) else (0,1),λi j hi hj=>?_⟩
 dsimp only;rw [fP ⟨hi,hj⟩];exact (h i j hi hj).choose_spec.choose_spec
end
def ab5:Sp:=λvs H Q _=>∃(td Tp od:Addr) (q:Int) (n:Nat) (o:List Nat),vs=[.ref td,.ref Tp,.ref od]/\eW H td q/\aS q/\aY H Tp/\od≠Tp/\H od=some (.lst (bW o))/\o.Perm (List.range n)/\n<=9 /\
 ∀(fd lo up:Addr) (rl ru:Nat->Addr) (lf uf:Nat->Nat->V) (H':Hp),aI Tp H H'->H' fd=some (.tup [.ref lo,.ref up])->eY H' q 1000 (cX q) Tp lo up n rl ru lf uf->Q (.ref fd) H'
def ab6:Sp:=λvs H Q _=>∃(td Tp od lo up:Addr) (q C:Int) (n:Nat) (o:List Nat) (rl ru:Nat->Addr) (lf uf:Nat->Nat->V) (L U:Nat->Nat->Int×Int),vs=[.ref td,.ref Tp,.ref od,.ref lo,.ref up]/\eW H td q/\aS q/\aY H Tp/\jH q C/\(q=0->6∣C)/\1<=n/\n<=6/\od≠Tp/\lo≠Tp/\up≠Tp/\(∀i,i<n->rl i≠Tp/\ru i≠Tp)/\H od=some (.lst (bW o))/\o.Perm (List.range n)/\cY H q C (10 ^ 16) n lo rl lf L/\cY H q C (10 ^ 16) n up ru uf U /\
 ∀(fd eK pA PK:Addr) (o':List Nat) (rl' HL:Nat->Addr) (DC uf':Nat->Nat->V) (L' U':Nat->Nat->Int×Int) (H':Hp),aI Tp H H'->aY H' Tp->H' fd=some (.tup [.ref eK,.ref pA,.ref PK])->H' eK=some (.lst (bW o'))->o'.Perm (List.range n)->cY H' q C (10 ^ 20) n pA rl' DC L'->cY H' q C (10 ^ 20) n PK HL uf' U'->Q (.ref fd) H'
def ab9(C0:Addr):Sp:=λvs H Q _=>∃(z td a d lo up:Addr) (q C:Int) (n:Nat) (o:List Nat) (ra rl ru:Nat->Addr) (vf lf uf:Nat->Nat->V) (f L U:Nat->Nat->Int×Int),vs=[.ref z,.ref td,.ref a,.ref d,.ref lo,.ref up]/\cP C0 H z q/\eW H td q/\aS q/\1<=n/\n<=6/\H d=some (.lst (bW o))/\o.Perm (List.range n)/\cI H a n n ra vf/\(∀i j,i<n->j<n->aw 2000 H q (vf i j) (f i j).1 (f i j).2)/\cY H q C (10 ^ 20) n lo rl lf L/\cY H q C (10 ^ 20) n up ru uf U/\jH q C/\∀H',af H H'->Q (.bl true) H'
def ab_(C0:Addr):Sp:=λvs H Q _=>∃(z a d:Addr) (v u:V) (q:Int) (B m:Nat) (ag:cT) (zs:List Int) (word:String),vs=[.ref z,.ref a,.ref d,v,u]/\cP C0 H z q/\aS q/\d9 B H q a ag/\1<=ag.length/\ag.length<=40/\(∀ps∈ag,ps.length=m)/\H d=some (.lst (zs.map V.int))/\zs.length<64/\((m≠ag.length/\word="fit")\/(m=ag.length/\¬iA zs m/\word="order"))/\∀H',af H H'->Q (sV word) H'
def aca:Sp:=λvs H Q _=>∃(td a b:Addr) (q:Int) (X Y n:Nat) (ra rb:Nat->Addr) (lf uf:Nat->Nat->V) (lT lU uT uU:a_) (S:Nat->Nat->Nat->Int) (R:a_),vs=[.ref td,.ref a,.ref b]/\eW H td q/\aS q/\cI H a n n ra lf/\cI H b n n rb uf/\n<=40/\dR X H q n lf lT lU/\dR X H q n uf uT uU/\(∀i,i<n->Dz q X Y n n (λj k=>uT k j) (λj k=>uU k j) (lT i) (lU i) (S i) (R i)) /\
 ∀(D:Addr) (rr:Nat->Addr) (pf:Nat->Nat->V) (H':Hp),af H H'->H D=none->(∀i,i<n->H (rr i)=none)->cI H' D n n rr pf->(∀i j,i<n->j<n->aQ X H' q (pf i j) (S i j n) (R i j))->Q (.ref D) H'
def sP(T:Addr)(q:Int)(H:Hp)(v:V):Prop:=∃(l:Addr) (k m:Nat) (ra:Nat->Addr) (vf:Nat->Nat->V) (f:Nat->Nat->Int×Int),v=.ref l/\l≠T/\(∀i,i<k->ra i≠T)/\cI H l k m ra vf/\(∀i j,i<k->j<m->aw 2000 H q (vf i j) (f i j).1 (f i j).2)/\1<=k/\k<=40/\m≠k
def acb:Sp:=λvs H Q _=>∃(td T tab:Addr) (q:Int) (n:Nat) (rt:Nat->Addr) (vf:Nat->Nat->V) (f:Nat->Nat->Int×Int),vs=[.ref td,.ref T,.ref tab]/\eW H td q/\aS q/\aY H T/\cI H tab n n rt vf/\tab≠T/\(∀i,i<n->rt i≠T)/\(∀i j,i<n->j<n->aw 2000 H q (vf i j) (f i j).1 (f i j).2)/\1<=n/\n<=9/\∀(v:V) (H':Hp),aI T H H'->aY H' T->sP T q H' v->Q v H'
theorem DQ{q:Int}{X Y:Nat}{H:Hp}{v:V}{T U:Int}(h:aQ X H q v T U)(bd:q=0->T.natAbs<=Y/\U.natAbs<=Y):∃x m,aw Y H q v x m/\(q=0->m∣U)/\(q≠0->m=1):=by
 by_cases z:q=0
 ·obtain ⟨x,m,a,b,c⟩:=h.bd (bd z).1 (bd z).2
  subst z;refine ⟨x,m,a,λ_=>?_,λz=>absurd rfl z⟩;cases a with
  | aU e l _ _=>have e0:=e9.mp b;exact HY l (show x*U=T*m by lia)
  | rem _ _ _=>lia
 ·intros bv3 h x m a _
  cases a with
  | aU e l _ _=>exact absurd rfl z
  | rem a b c=>exact ⟨x,1,.rem a b c,λy=>absurd y z,λ_=>rfl⟩
def DR(F:Nat->Nat):Nat->Nat
 | 0=>1
 | m+1=>DR F m*F m
theorem PL{d:Nat->Int}{F:Nat->Nat}:∀n,(∀t,t<n->(d t).natAbs<=F t)->(nH d n).natAbs<=DR F n
 | 0,_=>by show (1:Int).natAbs<=1;decide
 | n+1,h=>by show (nH d n*d n).natAbs<=DR F n*F n;rw [cS];exact fQ (PL n λt ht=>h t ⋯) (h n ⋯)
def nJ(q:Int)(M:a_)(o:List Nat)(n:Nat):Int:=if q=0 then ((6*dP M o n).natAbs:Int) else 1
section
variable {q:Int} {M:a_} {o:List Nat} {n:Nat}
theorem acd(hM:∀i k,(M i k).natAbs<=18)(lo:o.length=n)(n6:n<=6):(dP M o n).natAbs<=10 ^ 36:=by
 have h:=PL (d:=λs=>eU M (cO o s)) (F:=λt=>iO t*18 ^ t) (n+1) λt ht=>by
  have le:(cO o t).length<=t:=by unfold cO;rw [Cb,oh];lia
  exact aM (OM hM) (fQ (OW le) (Nat.pow_le_pow_right ∅ le))
 exact aM h ((show ∀n∈List.range 7,DR (λt=>iO t*18 ^ t) (n+1)<=10 ^ 36 by decide +kernel) n (dA.mpr ⋯))
theorem ace(hq:aS q)(ho:o.Perm (List.range n))(g:gq q M (cO o n))(n6:n<=6)(mI:q=0->∀i k,(M i k).natAbs<=18):jH q (nJ q M o n)/\(q=0->6∣nJ q M o n):=by
 unfold nJ;by_cases z:q=0
 ·rw [aq z]
  have nz:dP M o n≠0:=λe=>abk hq ho g (by rw [e];exact jg q)
  have b:=acd (mI z) (gN ho) n6;refine ⟨⟨⟨λ_=>by lia,λy=>absurd z y⟩,?_⟩,λ_=>Int.dvd_natAbs.mpr ⟨_,rfl⟩⟩
  rw [vR,cS];exact aM (Af 6 b) (by decide +kernel)
 ·rw [az z]
  exact ⟨⟨⟨λy=>absurd y z,λ_=>rfl⟩,by decide +kernel⟩,λy=>absurd y z⟩
theorem PM{t:Nat}(z:q=0)(ht:t<=n):6*eU M (cO o t)∣nJ q M o n:=by unfold nJ;rw [aq z];exact Int.dvd_natAbs.mpr (Int.mul_dvd_mul_left 6 (Pd (d:=λs=>eU M (cO o s)) (show t<n+1 by lia)))
theorem DS:∀n,n<=6->lg n 18*6<=10 ^ 16:=λn hn=>(show ∀n∈List.range 7,lg n 18*6<=10 ^ 16 by decide +kernel) n (dA.mpr ⋯)
variable {X:Nat} {H:Hp}
theorem acf{lf:Nat->Nat->V}(ho:o.Perm (List.range n))(n6:n<=6)(mI:q=0->∀i k,(M i k).natAbs<=18)(w:dR X H q n lf (lh M (gC q) o) (mD M (gC q) o)):∀i j,i<n->j<n->∃x d,aw (10 ^ 16) H q (lf i j) x d/\d∣nJ q M o n:=λi j hi hj=>by
 have lo:=gN ho;have Bg:1<=18:=by decide
 have ix:=(iP ((fk ho).mpr hj)).1;obtain ⟨x,m,a,b,c⟩:=DQ (Y:=10 ^ 16) (w i j hi hj) λz=>by unfold lh mD gC;rw [aq z,cS,cS];exact ⟨aM (Nat.mul_le_mul_right _ (sE Bg (mI z) lo _ _ _)) (DS n n6),aM (Af _ (w5 Bg (mI z) lo _)) (by rw [z8];exact DS n n6)⟩
 refine (ii x m a ?_);by_cases z:q=0
 ·refine h_ (b z) ?_
  unfold mD gC;rw [aq z];exact PM z ⋯
 ·rw [c z]
  exact vX _
theorem acg{uf:Nat->Nat->V}(ho:o.Perm (List.range n))(n6:n<=6)(mI:q=0->∀i k,(M i k).natAbs<=18)(w:dR X H q n uf (ph M o) (pj M (gC q) o)):∀i j,i<n->j<n->∃x d,aw (10 ^ 16) H q (uf i j) x d/\d∣nJ q M o n:=λi j hi hj=>by
 have lo:=gN ho;have Bg:1<=18:=by decide
 have ix:=(iP ((fk ho).mpr hi)).1;obtain ⟨x,m,a,b,c⟩:=DQ (Y:=10 ^ 16) (w i j hi hj) λz=>by unfold ph pj gC;rw [aq z,cS];exact ⟨aM (sE Bg (mI z) lo _ _ _) (aM (Nat.le_mul_of_pos_right _ ∅) (DS n n6)),aM (Af _ (w5 Bg (mI z) lo _)) (by rw [z8];exact DS n n6)⟩
 refine (ii x m a ?_);by_cases z:q=0
 ·refine h_ (b z) ?_
  unfold pj gC;rw [aq z];exact PM z ⋯
 ·rw [c z]
  exact vX _
end
def dh(q:Int):Int:=if q=0 then 6 else 1
theorem PN(q:Int):jH q (dh q)/\(q=0->6∣dh q):=by
 unfold dh;by_cases z:q=0
 ·rw [aq z]
  exact ⟨⟨⟨λ_=>by decide,λy=>absurd z y⟩,by decide +kernel⟩,λ_=>iW 6⟩
 ·rw [az z]
  exact ⟨⟨⟨λy=>absurd y z,λ_=>rfl⟩,by decide +kernel⟩,λy=>absurd y z⟩
section
variable {H:Hp} {q:Int} {B n:Nat} {v:V} {x m:Int} {L U:Nat->Nat->Int×Int}
variable {C:Int}
theorem IW(h:aw B H q v x m)(s:cX q x m)(h6:q=0->6∣C):m∣C:=by
 cases h with
 | aU e l _ _=>exact h_ (s rfl).2 (h6 rfl)
 | rem _ _ _=>exact vX _
theorem ach(z:q=0)(h:aw B H q v x m)(s:cX q x m):(xC (dh q) (x,m)).natAbs<=18:=by obtain ⟨h1,c,hc⟩:=s z;unfold xC dh;rw [aq z];show (x*(6 / m)).natAbs<=18;rw [cS];have c6:(6 / m).natAbs<=6:=om 6 m;exact fQ h1 c6
variable {X:Nat}
theorem aci(n6:n<=6){i j:Nat}(hL:q=0->∀k,k<n->(xC (dh q) (L i k)).natAbs<=18)(hU:q=0->∀k,k<n->(xC (dh q) (U k j)).natAbs<=18)(h:aQ X H q v (jG (dh q) L U i j n) (dh q*dh q)):∃x m,aw 2000 H q v x m:=by
 obtain ⟨x,m,a,_⟩:=DQ (Y:=2000) h λz=>by
  refine ⟨?_,by unfold dh;rw [aq z];decide⟩
  have h1:=Iz (F:=λk=>if k<n then xC (dh q) (L i k)*xC (dh q) (U k j) else 0) (Z:=324) (λk=>by
   split
   ·rename_i hk
    rw [cS];exact fQ (hL z k hk) (hU z k hk)
   ·exact cG _) (List.range n)
  unfold jG;rw [show ((List.range n).map λk=>if k<n then xC (dh q) (L i k)*xC (dh q) (U k j) else 0)=(List.range n).map λk=>xC (dh q) (L i k)*xC (dh q) (U k j) from gU λy hy=>aq (dA.mp hy),cy] at h1
  lia
 exact (wp x m a)
theorem acj{w:V}{x' m':Int}{B':Nat}(hq:aS q)(h1:aw 1000 H q w x m)(s:cX q x m)(h6:q=0->6∣C)(h2:aw (10 ^ 16) H q w x' m'\/True)(dv:m'∣C)(b':x'.natAbs<=10 ^ 16/\m'.natAbs<=10 ^ 16)(m0:q=0->m≠0/\m'≠0)(hv:aQ X H q v (x*m'+x'*m) (m*m')):∃y d,aw (10 ^ 20) H q v y d/\d∣C:=by
 obtain ⟨y,d,a,b,c⟩:=DQ (Y:=10 ^ 20) hv λz=>by
  obtain ⟨s1,s2⟩:=s z;have m6:m.natAbs<=6:=Nat.le_of_dvd ∅ (Cp.mpr s2)
  refine ⟨?_,?_⟩
  ·have a1:=Int.natAbs_add_le (x*m') (x'*m)
   rw [cS,cS] at a1;have a2:=fQ s1 b'.2;have a3:=fQ b'.1 m6;lia
  ·rw [cS]
   have a2:=fQ m6 b'.2;lia
 refine (ii y d a ?_);by_cases z:q=0
 ·subst z
  obtain ⟨e,he⟩:=s rfl |>.2;obtain ⟨c6,h6⟩:=h6 rfl;obtain ⟨c',dv⟩:=dv;cases a with
  | rem _ _ _=>lia
  | aU ep l _ _=>
   intros bv7 hv X' M' g1 g2 g3;have nu:=wZ (aw.aU ep l (by assumption) (by assumption):aw (10 ^ 20) H 0 _ y d) g1
   obtain ⟨rfl,rfl⟩:=nu;have e0:=e9.mp g2;obtain ⟨mz,mz'⟩:=m0 rfl;have key:y*C=(x*(e*c6)+x'*c')*d:=by
    have t1:m*m'*(y*C)=m*m'*((x*(e*c6)+x'*c')*d):=by
     have t2:y*(m*m')=(x*m'+x'*m)*d:=by lia
     have t3:m*m'*(y*C)=(y*(m*m'))*C:=by grind
     have t4:(x*m'+x'*m)*C=m*m'*(x*(e*c6)+x'*c'):=by
      have:x*m'*C=m*m'*(x*(e*c6)):=by rw [h6,he];grind
      have:x'*m*C=m*m'*(x'*c'):=by rw [dv];grind
      grind
     rw [t3,t2];have:(x*m'+x'*m)*d*C=(x*m'+x'*m)*C*d:=by grind
     rw [this,t4];grind
    exact Co (λz=>(pN.mp z).elim mz mz') t1
   exact HY l key
 ·rw [c z]
  exact vX _
end
end My
namespace L2
open PySem PySem.Spec PyProof.Rows
theorem IY:∀{bs:List Bool} {ai:List Value},Vals (bs.map V.bl) ai->ai=bs.map Value.bool
 | [],_,.nil=>rfl
 | b::bs,_,.cons (b:=v) r t=>by have e:v=Value.bool b:=r;rw [e,IY t];rfl
def acm:V->List V->Hp->VK->Prop:=λx vs H Q=>∃(l:Addr) (bs:List Bool),x=.ref l/\vs=[.bl true]/\H l=some (.lst (bs.map V.bl))/\Q (.int (bs.countP id:Nat)) H
theorem eq_true(A:Around)(s:Shared)(y:Value)(h:∃b,y=Value.bool b):SeqAt.EqAt A s y (.bool true) (y == .bool true):=by obtain ⟨b,rfl⟩:=h;have:=rR (A:=A) (s:=s) (y:=.bl b) (x:=.bl true) (u:=.bool b) (v:=.bool true) rfl rfl rfl rfl;cases b <;> exact this
variable {X:Cx}
theorem acn:wq X "list.count" acm:=by
 intro pins s σ H x vs v us Q I rx rv h;intros bv10 h l bs rfl rfl hH q;cases rx;obtain ⟨u,rfl,ru⟩:=rv.one;have ru:u=Value.bool true:=ru;subst ru;obtain ⟨z,ai,n,r,hl,e⟩:=I.kO hH;have ei:=IY r;subst ei;refine mT PySem.F.slot_list_count (ad _ e rfl) PySem.F.entry_list_count (PySem.F.args_list_count_2 _ _) (SeqAt.list_countAt l _ n none #[] (.bool true) (λy=>y == .bool true)) ⟨e,λy hy=>eq_true _ _ y ?_,?_⟩
 ·obtain ⟨b,_,rfl⟩:=iF.mp (by simpa using hy:y∈bs.map Value.bool)
  exact ⟨b,rfl⟩
 ·have ec:((bs.map Value.bool).toArray.toList.countP λy=>y == Value.bool true)=bs.countP id:=by
   show (bs.map Value.bool).countP _=_;rw [List.countP_map]
   congr 1
   funext b
   cases b <;> rfl
  rw [ec];exact ⟨.int _,H,I.tok _,⟨_,rfl⟩,q⟩
def aco:V->List V->Hp->VK->Prop:=λx vs H Q=>∃(l:Addr) (bs:List Bool) (j:Nat),x=.ref l/\vs=[.bl true]/\H l=some (.lst (bs.map V.bl))/\bs[j]?=some true/\(∀m,m<j->bs[m]?=some false)/\bs.length<=1000/\Q (.int (j:Int)) H
theorem acp:wq X "list.index" aco:=by
 intro pins s σ H x vs v us Q I rx rv h;intros bv31 h l bs j rfl rfl hH hj Ir len q;cases rx;obtain ⟨u,rfl,ru⟩:=rv.one;have ru:u=Value.bool true:=ru;subst ru;obtain ⟨z,ai,n,r,hl,e⟩:=I.kO hH;have ei:=IY r;subst ei;have OT:j<bs.length:=(bK.mp hj).1;have at':∀m (hm:m<(bs.map Value.bool).toArray.size),(bs.map Value.bool).toArray[m]=Value.bool (bs.getD m false):=λm hm=>by
  have dH:m<bs.length:=by simpa using hm
  simp [dH]
 refine mT Gx (ad _ e rfl) PySem.F.entry_list_index (PySem.F.args_list_index_2 _ _) (SeqAt.list_indexAt l _ n none #[] (.bool true) (λy=>y == .bool true) j (by simpa using OT) ⋯ ?_ λm hm Iu=>?_) ⟨e,λy hy=>eq_true _ _ y ?_,?_⟩
 ·rw [at',gE,hj]
  rfl
 ·rw [at',gE,Ir m Iu]
  rfl
 ·obtain ⟨b,_,rfl⟩:=iF.mp (by simpa using hy:y∈bs.map Value.bool)
  exact ⟨b,rfl⟩
 ·exact ⟨.int _,H,I.tok _,⟨_,rfl⟩,q⟩
end L2
namespace My
open PySem L2
end My
namespace L2
open PySem PySem.Spec PyProof.Rows
end L2
namespace My
open PySem L2
open L2
end My
namespace L2
open PySem PySem.Spec PyProof.Rows
section
variable {X:Cx} {N:List Str} {scope:Scope} {cl:List (Str×Addr)} {x y:Str} {px py pos tp:Pos} {mr:Nat} {iter elt:Expr} {ifs:List Expr} {wi:TI} {ρ:St->St} {tt:TT} {te:TE}
theorem acq{y9:Str}{xi qc:Pos}{i0:Nat}(B:HM X N scope cl x y ρ)(hc:X.calm=true)(hN:X.N.Nodup)(AL:X.N[i0]?=some y9)(hy:Loc X.env.scope y9)(hi:PI X (.Tuple [.Name x px,.Name y py] mr tp) iter wi)(ht:∀s₃ H₃ fp,kW (X.bL N scope cl s₃ H₃ fp) ifs tt)(he:∀s₃ H₃ fp,PE (X.bL N scope cl s₃ H₃ fp) elt te)
  (AM:swapsWith (.ListComp elt [⟨.Tuple [.Name x px,.Name y py] mr tp,iter,ifs,0⟩] scope pos) (some (.Name y9 xi)) qc.line X.env=pure true:=by rfl) (hf:X.fn y9=true\/X.env.scope.names.lookup y9=some .local:=by first | exact .inl rfl | exact .inr rfl | assumption)
  (hs:∀x,foldedSetIterable iter X.env x=pure x:=by intro _;rfl):PS X (.Assign [.Name y9 xi] (.ListComp elt [⟨.Tuple [.Name x px,.Name y py] mr tp,iter,ifs,0⟩] scope pos) qc) (oE (AO X.K wi ρ tt te) (ck i0)):=by
 intro pins s σ H D0 I h
 have h:AO X.K wi ρ tt te σ H (λv H1=>D0.nx (σ.set i0 (some v)) H1):=h
 rw [Gv _ _ _ _ AM]
 refine cj (vK (cj ?_))
 show wpAny _ X.A (do let _ <-comprehension (.ListComp elt [⟨.Tuple [.Name x px,.Name y py] mr tp,iter,ifs,0⟩] scope pos) scope X.env _ (newList []) false (eval iter X.env) (some (assign (.Name y9 xi) X.env))) _ _ s
 refine cj (bT (Q:=λ_ s'=>SP X pins D0 .next s') ?_ (λ_ s' hq=>dZ (dZ hq)) λ_ _ e=>e)
 refine z9 (use:=some (assign (.Name y9 xi) X.env)) rfl hs B.rZ B.kind B.names (aT (hi pins s σ H _ I h) λv s1 h1=>aT h1 λrJ s2 h2=>?_)
 intros bv32 h2 it fp tn J H2 rfl I2 T gf f2 q2
 have nD:H2 s2.heap.objs.size=none:=I2.aB.fresh (aV _)
 obtain ⟨W,⟨m0,w0⟩,turn⟩:=q2 _ nD
 refine vL (Ce B.AJ (by intro y hy;simp at hy) (λh₁ gk gJ=>?_) B.kind)
 dsimp only at gk gJ ⊢
 generalize hD:s2.heap.objs.size=D at nD w0 turn gk gJ ⊢
 generalize gK:({s2 with heap:=s2.heap.push {cls:=.type "list",dict:=none,data:=.seq ([]:List Value).toArray}}:Shared)=s3
 have I3:Inv X pins σ (upd H2 D (.lst [])) s3:=by
  subst hD gK
  exact I2.laid (t':=s2.toks) (λb u e=>cx _ e) (aV _) ⟨cG _,[],_,.nil,fN _ rfl⟩
 have e3:s3.heap=s2.heap.push {cls:=.type "list",dict:=none,data:=.seq ([]:List Value).toArray}:=by rw [<-gK]
 have eR:∀b o,s2.heap.get? b=some o->s3.heap.get? b=some o:=λb o e=>by rw [e3];exact cx _ e
 rw [<-e3] at gk gJ ⊢
 have below:∀b o,s3.heap.get? b=some o->b≠s3.heap.objs.size:=λb o e=>dY (bP e)
 have cQ:∀b o,s3.heap.get? b=some o->h₁.get? b=some o:=λb o e=>gJ.extBut b o (below b o e) (cx _ e)
 have gw:∀b∈fp,∃o,s2.heap.get? b=some o/\∀v,o.data≠.cell v:=T.obj _ _ gf
 have oQ:∀b∈fp,b≠D:=λb hb z=>by
  obtain ⟨o,e,_⟩:=gw b hb
  rw [z,<-hD] at e
  exact absurd (bP e) (fM _)
 have cE:∀y c,cl.lookup y=some c->X.env.cells.lookup y=some c:=λy c e=>B.sub (y,c) (kz e)
 have oR:=I3.rz
 have dQ:(X.bL N scope cl s3 (upd H2 D (.lst [])) fp).Ok:=by
  refine ⟨I.ok.mod,B.kind,I.ok.glob,I.ok.blt,aV _,λa b c e1 e2=>I.ok.inj a b c (cE a c e1) (cE b c e2),λy hy=>B.has y hy,(λ_ _ z _=>absurd z dC),(λ_=>I.ok.hd hc),I.ok.frames,.inl rfl,λb hb=>⟨?_,λy c e z=>?_⟩,λb o e=>?_,aM I.ok.gY I3.sz,λb o e hb=>?_,λb hb z=>?_,I3.stack,oR⟩
  ·obtain ⟨o,e,_⟩:=gw b hb
   exact below b o (eR b o e)
  ·exact (f2 b hb).2.2.2.2.1 y c (cE y c e) z
  ·exact I3.bs b o e
  ·rcases (f2 b hb).2.2.2.1 with z | z
   ·exact I.ok.mZ b o e z
   ·exact absurd (eO (bP e) (aM I.ok.gY z)) (fM _)
  ·rcases dB.mp (I3.rq b z) with z | z
   ·exact (f2 b hb).2.1 z
   ·exact (f2 b hb).2.2.1 z
 have IB:∀tk:Nat,Inv (X.bL N scope cl s3 (upd H2 D (.lst [])) fp) [] (none::none::ρ σ) (upd H2 D (.lst [])) {s3 with heap:=h₁,toks:=tk}:=λtk=>by
  refine ⟨dQ,rfl,I3.bare,Un.kept cQ,(ad _ gk (λj y v e1 e2 e3=>?_)),λy c e=>?_,?_,λy c e=>I3.ig y c (cE y c e),(λp hp=>nomatch hp),I3.aB.kept cQ,?_⟩
  ·cases j with
   | zero=>cases e2
   | succ j=>
   cases j with
   | zero=>cases e2
   | succ j=>
    obtain ⟨i,y',a1,a2,a3,a4,a5,a6⟩:=B.r6 σ j v e2
    have j9:N[j+1+1]?=some y:=e1
    rw [j9] at a1
    cases a1
    obtain ⟨m,hn,hl⟩:=I3.loc
    obtain ⟨u,r,l⟩:=hl i y v a2 a3 a4
    refine (ad u r (.inr ⟨a6,?_⟩))
    obtain ⟨c,ec⟩:=B.has y a6
    rcases l with ⟨k,_⟩ | ⟨_,c',jw,z⟩
    ·rcases a5 with q | q <;> (rw [k] at q;cases q)
    ·have:=cE y c ec
     rw [this] at jw
     cases jw
     intros bv2 z o ho hd
     exact (u8 c ec o (cQ _ _ ho) hd)
  ·obtain ⟨v,o,ho,hd⟩:=I3.cell y c (cE y c e)
   exact ⟨v,o,cQ _ _ ho,hd⟩
  ·exact I3.aB.fresh (aV _)
  ·show (none::none::ρ σ).length=N.length
   rw [fO,fO]
   exact B.len σ I.len
 have mh:∀b o,s3.heap.get? b=some o->b≠s3.heap.objs.size:=below
 have fin:∀{σ':St} {H':Hp} {s':Shared},Inv (X.bL N scope cl s3 (upd H2 D (.lst [])) fp) [] σ' H' s'->D0.nx (σ.set i0 (some (.ref D))) H'->compPost (model X.prog X.w) X.A X.xe (some (assign (.Name y9 xi) X.env)) (λ_ s'=>SP X pins D0 .next s') (.ref D) s3.heap.objs.size (.ok .next) s':=fun{σ' H' s'} J q=>by
  obtain ⟨m,hn,_⟩:=J.loc
  have hn:s'.heap.Ns s3.heap.objs.size m:=hn
  have JC:H' s3.heap.objs.size=none:=J.free
  have u1:Un (cz X.stack) fp (upd H2 D (.lst [])) H' s3.heap s'.heap:=by
   refine ⟨λb o e n hb hx=>J.base.keep b o e n hb hx,λb o e n hb hx=>J.base.slot b o e n hb hx,J.base.free,λb o e hx=>J.base.there b o e hx,J.base.fR,J.base.fE,J.base.fS⟩
  have IX:Inv X pins σ H' s':=I3.jj (ch:=fp) (J.os) u1 J.aB J.bare λb hb=>by
   obtain ⟨g0,g1,g2,g3,g4,g5⟩:=f2 b hb
   exact ⟨g3,g1,g4,g5⟩
  have nl:X.env.locals≠s3.heap.objs.size:=by
   obtain ⟨m3,⟨o3,_,_,e3,_⟩,_⟩:=I3.loc
   exact mh _ _ e3
  have nc:∀z c,X.env.cells.lookup z=some c->c≠s3.heap.objs.size:=λz c e=>by
   obtain ⟨v3,o3,e3,_⟩:=I3.cell z c e
   exact mh _ _ e3
  refine B6 (Cw (v:=.ref D) IX hN AL hy rfl (λiK mi mj=>?_) hf)
  intros bv2 mj a mj ha
  have na:s3.heap.objs.size≠a:=by
   rcases ha with rfl | e
   ·exact λz=>nl z.symm
   ·exact λz=>nc _ _ e z.symm
  refine ⟨m,hn.sameBut mj na,λh' fh=>⟨σ.set i0 (some (.ref D)),H',?_,q⟩⟩
  have u2:Un (cz X.stack) [s3.heap.objs.size] H' H' iK.heap h':=by
   refine ⟨λb o e n hb hx=>(fh.2 b (by simpa using hx)).trans e,λb o e n hb hx=>⟨o.slots,(fh.2 b (by simpa using hx)).trans e⟩,λb o e n hx=>n,λb o e hx=>⟨o,(fh.2 b (by simpa using hx)).trans e⟩,λb xs z=>z,λb o u z=>z,λb ps z=>⟨#[],by simpa using z⟩⟩
  have oS:cq X.prog X.w H' h':=λb u e=>by
   refine (mi.aB b u e).ic (λc v hc z=>(fh.2 c λy=>?_).trans z) (λ_ z=>z) λ_ _ z=>z
   have y':c=s3.heap.objs.size:=y
   rcases hc with hc | hc
   ·rw [<-hc,y',JC] at e
    cases e
   ·rw [y',JC] at hc
    cases hc
  refine mi.jj (s':={iK with heap:=h'}) (ch:=[s3.heap.objs.size]) rfl u2 oS mi.bare λb hb=>?_
  have eb:b=s3.heap.objs.size:=by simpa using hb
  subst eb
  refine ⟨.inr I3.sz,λz=>nl z.symm,λz c e=>nc z c e,λp hp=>?_⟩
  exact mh _ _ (I3.pin p hp).1
 have fF:∀{H':Hp},(∀b∈fp,H' b=none)->∀b∈fp,lS (X.bL N scope cl s3 (upd H2 D (.lst [])) fp) [] H' b:=λhn b hb=>by
  refine ⟨hn b hb,?_,?_,.inl hb,λy c e z=>(f2 b hb).2.2.2.2.1 y c (cE y c e) z,λp hp=>nomatch hp⟩
  ·obtain ⟨o,e,_⟩:=gw b hb
   exact below b o (eR b o e)
  ·exact dQ.m4 b hb
 have loop:∀tk:Nat,codeAny (model X.prog X.w) X.A (.compLoop (.ListComp elt [⟨.Tuple [.Name x px,.Name y py] mr tp,iter,ifs,0⟩] scope pos) 0 (.ref it) (.ref D) (compEnvC scope cl s3.heap.objs.size X.env))
   (compPost (model X.prog X.w) X.A X.xe (some (assign (.Name y9 xi) X.env)) (λ_ s'=>SP X pins D0 .next s') (.ref D) s3.heap.objs.size) {s3 with heap:=h₁,toks:=tk}:=λtk=>by
  refine NO (λn s'=>∃i ys o o2 H',Inv (X.bL N scope cl s3 (upd H2 D (.lst [])) fp) [] (o::o2::ρ σ) H' s'/\tn i s'.heap/\(∀b∈fp,H' b=none)/\W i n ys H') ?_ m0
   ⟨0,[],none,none,_,IB tk,T.keep _ _ _ gf λb hb o e=>cQ _ _ (eR _ _ e),λb hb=>by rw [aH (oQ b hb)];exact (f2 b hb).1,w0⟩
  intro n s4;intros bvE _ i bv22 ys o o2 H4 I4 jx jy w4
  obtain ⟨CZ,oU⟩:=turn i n ys H4 w4
  rcases oU with ⟨stop,qn⟩ | ⟨go,step⟩
  ·refine bT (T.done (X.bL N scope cl s3 (upd H2 D (.lst [])) fp) rfl rfl rfl hc i [] s4 _ H4 (λ_ _=>False) I4 (fF jy) jx stop) (λr s5 ⟨hr,I5⟩=>?_) λ_ _ z=>z.elim
   subst hr
   exact fin I5 qn
  ·refine bT (T.item (X.bL N scope cl s3 (upd H2 D (.lst [])) fp) rfl rfl rfl hc i [] s4 _ H4 (λ_ _=>False) I4 (fF jy) jx go) (λr s5 ⟨u,hr,h5⟩=>?_) λ_ _ z=>z.elim
   subst hr
   refine bT h5 (λ_ s5 ⟨y0,H5,I5,r5,y5,fG,lV⟩=>?_) λ_ _ z=>z.elim
   have q'46:=step y0 _ y5;intros bv14 q'46 Tt x1 x2 e0 HN oV
   subst e0
   have lW:=I5.pinned (fF lV) (T.obj _ _ fG)
   have pg:PG (X.bL N scope cl s3 (upd H2 D (.lst [])) fp) (.Tuple [.Name x px,.Name y py] mr tp) (GP X.K 2 (As (ck 0) (As (ck 1) GO))):=
    oC (X:=X.bL N scope cl s3 (upd H2 D (.lst [])) fp) hc (gc (b_ (i:=0) B.nd B.n0 (.inl (kB B.hx)) (.inr (kB B.hx))) (gc (b_ (i:=1) B.nd B.n1 (.inl (kB B.hy)) (.inr (kB B.hy))) oB))
   have again:∀{σ7:St} {H7:Hp} {s7:Shared},Inv (X.bL N scope cl s3 (upd H2 D (.lst [])) fp) ([]++jn fp s5.heap) σ7 H7 s7->Inv (X.bL N scope cl s3 (upd H2 D (.lst [])) fp) [] σ7 H7 s7/\tn (i+1) s7.heap/\∀b∈fp,H7 b=none:=fun{σ7 H7 s7} I7=>by
    refine ⟨I7.pU,T.keep _ _ _ fG λb hb o e=>(I7.pin (b,o) (d5 _ (d5 _ (kK hb e)))).1,λb hb=>?_⟩
    obtain ⟨o,e,d⟩:=T.obj _ _ fG b hb
    exact (I7.pin (b,o) (d5 _ (d5 _ (kK hb e)))).2.1
   refine bT (pg _ s5 _ H5 (.ref Tt) u (λσ2 H6=>σ2=some x1::some x2::ρ σ/\H6=H5) lW r5 (zn Tt _ rfl HN rfl _ (sK _ rfl _ _ rfl rfl rfl rfl))) (λ_ s6 ⟨σ6,H6,I6,q6⟩=>?_) λ_ _ z=>z.elim
   obtain ⟨rfl,rfl⟩:=q6
   have tests:∀{fI:TT},kW (X.bL N scope cl s3 (upd H2 D (.lst [])) fp) ifs fI->∀{R:Bool->Hp->Prop},fI (some x1::some x2::ρ σ) H6 R->wpAny (model X.prog X.w) X.A
     (forIn ifs true λc r=>if r=true then do let ok <-isTrue c (compEnvC scope cl s3.heap.objs.size X.env) (eval c (compEnvC scope cl s3.heap.objs.size X.env));pure (ForInStep.yield ok) else pure (ForInStep.yield r))
     (λok s7=>∃H7,Inv (X.bL N scope cl s3 (upd H2 D (.lst [])) fp) ([]++jn fp s5.heap) (some x1::some x2::ρ σ) H7 s7/\R ok H7) (λ_ _=>False) s6:=fun{fI} p {R} hR=>by
    cases p with
    | nil=>exact z_ (ad _ I6 hR)
    | one p=>exact Aa (p _ s6 _ _ _ I6 hR)
   refine bT (tests (ht s3 _ fp) oV) (λok s7 ⟨H7,I7,q7⟩=>?_) λ_ _ z=>z.elim
   cases ok with
   | false=>
    intros bv2 q7 m' dH w7
    obtain ⟨a1,a2,a3⟩:=again I7
    exact ⟨m',dH,i+1,ys,_,_,H7,a1,a2,a3,w7⟩
   | true=>
    refine bT (he s3 _ fp _ s7 _ H7 _ I7 q7) (λev s8 ⟨z,H8,I8,r8,oW,hz,m',dH,w8⟩=>?_) λ_ _ z=>z.elim
    refine bT (p6 (X:=X.bL N scope cl s3 (upd H2 D (.lst [])) fp) _ s8 _ H8 (.ref D) [z] (.ref D) [ev] (λ_ H9=>H9=upd H8 D (.lst (ys++[z]))) I8 rfl (.cons r8 .nil) (pi D ys z rfl rfl oW hz rfl)) (λ_ s9 ⟨_,H9,I9,_,q9⟩=>?_) λ_ _ z=>z.elim
    subst q9
    obtain ⟨a1,a2,a3⟩:=again I9
    exact ⟨m',dH,i+1,ys++[z],_,_,_,a1,a2,a3,w8⟩
 have start:=loop (s3.toks+([]:List (Str×Value)).length)
 have es:({s3 with heap:=h₁,toks:=s3.toks+([]:List (Str×Value)).length}:Shared)={s2 with heap:=h₁,toks:=s2.toks+([]:List (Str×Value)).length}:=by rw [<-gK]
 rw [es] at start
 exact Ab start (T.self _ 0 _ _ _ (T.keep _ _ _ gf λb hb o e=>cQ _ _ (eR _ _ e)) start)
end
theorem PQ(ai:List Value):∀(L:List Nat),(∀x∈L,x<ai.length)->L.filterMap (λx=>ai.toArray[x]?)=L.map λx=>ai.getD x .none
 | [],_=>rfl
 | x::L,h=>by
  have hx:=h x n_;rw [List.filterMap_cons_some (b:=ai.getD x .none),ky,PQ ai L λy hy=>h y (je _ hy)];rw [gE,show ai[x]?=some ai[x] by simp [hx]]
  simp [hx]
theorem acr(ai:List Value):slicePick ai.toArray none none (some (-1))=ai.reverse.toArray:=by
 unfold slicePick;have e:sliceRange (sliceBounds none none (some (-1)) ai.toArray.size).fst (sliceBounds none none (some (-1)) ai.toArray.size).snd.fst (sliceBounds none none (some (-1)) ai.toArray.size).snd.snd=(List.range ai.length).map λk=>ai.length-1-k:=by
  simp only [sliceBounds,Option.getD_some,show ¬((-1:Int)>0) by decide,if_false,cM]
  unfold sliceRange;simp only [show ¬((-1:Int)>0) by decide,if_false]
  have c:(if (ai.length:Int)-1 > -1 then ((ai.length:Int)-1 - -1 - -1-1) / - -1 else 0).toNat=ai.length:=by
   split
   ·rw [show (- -1:Int)=1 from rfl,Int.ediv_one]
    lia
   ·lia
  rw [c];refine gU λk hk=>?_;lia
 rw [e,PQ ai _ λx hx=>?_]
 ·congr 1
  rw [gW];refine eP (by simp) λk h1 h2=>?_
  rw [d8,e_,List.getElem_reverse];have hk:ai.length-1-k<ai.length:=by simp at h2;lia
  show ai.getD (ai.length-1-k) .none=_;rw [gE,show ai[ai.length-1-k]?=some ai[ai.length-1-k] by simp [hk]]
  rfl
 ·obtain ⟨k,hk,rfl⟩:=iF.mp hx
  have:=dA.mp hk;lia
theorem Vals.rev{xs:List V}{us:List Value}(h:Vals xs us):Vals xs.reverse us.reverse:=by
 have hl:=h.length;refine HB (by simp [hl]) λi x u h1 h2=>?_
 have hi:i<xs.length:=by simpa using (bK.mp h1).1
 rw [List.getElem?_reverse hi] at h1;rw [List.getElem?_reverse ⋯,<-hl] at h2
 obtain ⟨u',e,r⟩:=h.get h1;rw [h2] at e;cases e;exact r
section
variable {X:Cx} {e:Expr} {te:TE} {pos p2:Pos}
def acs(K:aE)(te ts:TE):TE:=λσ H Q=>te σ H λx H1=>ts σ H1 λy H2=>y=.int (-1)/\∃a xs,x=.ref a/\bM K H2 a xs/\∀p,H2 p=none->Q (.ref p) (upd H2 p (.lst xs.reverse))
theorem acu{st:Expr}{ts:TE}(he:PE X e te)(Au:PE X st ts):PE X (.Subscript e (.Slice none none (some st) p2) pos) (acs X.K te ts):=by
 intro pins s σ H Q I h;refine Subscript_ (aT (he pins s σ H _ I h) λv s1 ⟨x,H1,I1,r1,q1⟩=>?_);refine wpAny_Slice ?_;rw [evalPart_none];refine dZ ?_;refine dZ ?_;rw [evalPart_some];refine aT (Au pins s1 σ H1 _ I1 q1) λu s3 ⟨y,H3,I3,r3,q3⟩=>?_;intros bv11 q3 rfl a xs rfl hx q;obtain ⟨t,rfl⟩:=r3;cases r1;have I4:Inv X pins σ H3 {s3 with heap:=s3.heap.push {cls:=.type "slice",data:=.fields #[.none,.none,.int (-1) t]}}:=I3.kept (t':=s3.toks) λb ob q=>cx _ q;obtain ⟨ai,r,ht,hz⟩:=I4.list hx;have hlen:=r.length;show wpAny (model X.prog X.w) X.A (subscriptTail e (.Slice none none (some st) p2) (.ref a) (.ref s3.heap.objs.size)) (EP X pins σ Q) X.xe {s3 with heap:=s3.heap.push {cls:=.type "slice",data:=.fields #[.none,.none,.int (-1) t]}};refine tail_any (ops:=[.ref a,.ref s3.heap.objs.size]) ht.isList.typeIs slot_list_getitem.lookup ?_ (by with_unfolding_all rfl)
 refine wpAny_getItem_list_slice ht.isList (Heap.IsSliceOf.new ..) .none .none (.int (-1) t) (by simp) ?_ (by rw [cM] <;> lia)
 rw [acr];refine ⟨.ref (s3.heap.push {cls:=.type "slice",data:=.fields #[.none,.none,.int (-1) t]}).objs.size,_,I4.laid (t':=s3.toks) (o:=.lst xs.reverse) (λb ob q=>cx _ q) (aV _) ?_,rfl,q _ (I4.aB.fresh (aV _))⟩;exact ⟨by rw [Cb];exact hz,_,0,r.rev,fN _ rfl⟩
end
end L2
namespace My
open PySem L2
variable {H:Hp} {q:Int} {v:V}
theorem aQ.nz{B:Nat}{T U:Int}(h:aQ B H q v T U):¬q∣U:=h.choose_spec.choose_spec.2.2
theorem PR{n m:Nat}{rs:Nat->Addr}{R:V->Prop}(h:∀i,i<n->∃ys,H (rs i)=some (.lst ys)/\ys.length=m/\∀(j:Nat) (v:V),ys[j]?=some v->R v):∃vf:Nat->Nat->V,(∀i,i<n->H (rs i)=some (.lst ((List.range m).map (vf i))))/\∀i j,i<n->j<m->R (vf i j):=by
 have g:∀i,∃us:List V,i<n->H (rs i)=some (.lst us)/\us.length=m/\∀(j:Nat) (v:V),us[j]?=some v->R v:=λi=>by
  by_cases hi:i<n
  ·obtain ⟨us,a⟩:=h i hi
   exact ⟨us,λ_=>a⟩
  ·exact ⟨[],λz=>absurd z hi⟩
 obtain ⟨p,hp⟩:∃p:Nat->List V,∀i,i<n->H (rs i)=some (.lst (p i))/\(p i).length=m/\∀(j:Nat) (v:V),(p i)[j]?=some v->R v:=⟨λi=>(g i).choose,λi=>(g i).choose_spec⟩;refine ⟨λi j=>(p i).getD j .aO,λi hi=>?_,λi j hi hj=>?_⟩
 ·obtain ⟨b,c,_⟩:=hp i hi
  rw [b]
  congr 2
  refine eP (by simp [c]) λj h1 h2=>?_
  rw [d8,e_];exact (getD_at h1).symm
 ·obtain ⟨b,c,d⟩:=hp i hi
  have cB:j<(p i).length:=by lia
  dsimp only;rw [getD_at cB];exact d j _ (cw cB)
theorem acv(hq:aS q){Y:Nat}{a:Int}(h:aQ Y H q v a 1)(a3:a.natAbs<=3):∃x m,aw 1000 H q v x m/\cX q x m:=by
 by_cases q0:q=0
 ·obtain ⟨x,m,g1,g2,g3⟩:=IA h ⋯ ∅ q0
  exact ⟨x,m,g1,λ_=>⟨aM g2 a3,h_ g3 ∅⟩⟩
 ·obtain ⟨x,m,g1,_⟩:=h.bd (Y:=1000) ⋯ ∅
  exact ⟨x,m,g1,λz=>absurd z q0⟩
structure eZ (H Hc:Hp) (q C:Int) (Tp sm A B:Addr) (n:Nat) (rA rB:Nat->Addr) (aF bF:Nat->Nat->V):Prop where
 off:aI Tp H Hc
 lst:Hc sm=some (.lst [.ref A,.ref B])
 ne:sm≠Tp/\sm≠A/\sm≠B/\∀i,i<n->sm≠rA i/\sm≠rB i
 new:H A=none/\H B=none/\∀i,i<n->H (rA i)=none/\H (rB i)=none
 two:eY Hc q (10 ^ 20) (λ_ d=>d∣C) Tp A B n rA rB aF bF
section
variable {H Hc Hd:Hp} {q C:Int} {Tp sm A B:Addr} {n:Nat} {rA rB:Nat->Addr} {aF bF:Nat->Nat->V}
theorem eZ.step(h:eZ H Hc q C Tp sm A B n rA rB aF bF)(o:aI Tp Hc Hd)(t:aY Hd Tp):eZ H Hd q C Tp sm A B n rA rB aF bF:=⟨h.off.trans o,o _ _ h.ne.1 h.lst,h.ne,h.new,h.two.off o t⟩
variable {i j:Nat} {x d:Int}
theorem eZ.put(h:eZ H Hc q C Tp sm A B n rA rB aF bF)(hi:i<n)(nu:aw (10 ^ 20) Hc q v x d)(s:d∣C):eZ H (upd Hc (rA i) (.lst (((List.range n).map (aF i)).set j v))) q C Tp sm A B n rA rB (iB aF i j v) bF:=
 ⟨λb u ne e=>by rw [aH (λz=>by rw [z,(h.new.2.2 i hi).1] at e;cases e)];exact h.off b u ne e,by rw [aH (h.ne.2.2.2 i hi).1];exact h.lst,h.ne,h.new,h.two.putL hi nu s⟩
theorem eZ.rev(h:eZ H Hc q C Tp sm A B n rA rB aF bF):eZ H (upd Hc A (.lst ((List.range n).map λi=>V.ref (rA i)).reverse)) q C Tp sm A B n (λi=>rA (n-1-i)) rB (λi=>aF (n-1-i)) bF:=
 ⟨λb u ne e=>by rw [aH (λz=>by rw [z,h.new.1] at e;cases e)];exact h.off b u ne e,by rw [aH h.ne.2.1];exact h.lst,⟨h.ne.1,h.ne.2.1,h.ne.2.2.1,λi hi=>⟨(h.ne.2.2.2 _ ⋯).1,(h.ne.2.2.2 i hi).2⟩⟩,⟨h.new.1,h.new.2.1,λi hi=>⟨(h.new.2.2 _ ⋯).1,(h.new.2.2 i hi).2⟩⟩,h.two.PJ⟩
theorem eZ.put2(h:eZ H Hc q C Tp sm A B n rA rB aF bF)(hi:i<n)(nu:aw (10 ^ 20) Hc q v x d)(s:d∣C):eZ H (upd Hc (rB i) (.lst (((List.range n).map (bF i)).set j v))) q C Tp sm A B n rA rB aF (iB bF i j v):=
 ⟨λb u ne e=>by rw [aH (λz=>by rw [z,(h.new.2.2 i hi).2] at e;cases e)];exact h.off b u ne e,by rw [aH (h.ne.2.2.2 i hi).2];exact h.lst,h.ne,h.new,(h.two.flip.putL hi nu s).flip⟩
theorem eZ.acw(h:eZ H Hc q C Tp sm A B n rA rB aF bF):eZ H (upd Hc B (.lst ((List.range n).map λi=>V.ref (rB i)).reverse)) q C Tp sm A B n rA (λi=>rB (n-1-i)) aF (λi=>bF (n-1-i)):=
 ⟨λb u ne e=>by rw [aH (λz=>by rw [z,h.new.2.1] at e;cases e)];exact h.off b u ne e,by rw [aH h.ne.2.2.1];exact h.lst,⟨h.ne.1,h.ne.2.1,h.ne.2.2.1,λi hi=>⟨(h.ne.2.2.2 i hi).1,(h.ne.2.2.2 _ ⋯).2⟩⟩,⟨h.new.1,h.new.2.1,λi hi=>⟨(h.new.2.2 i hi).1,(h.new.2.2 _ ⋯).2⟩⟩,h.two.flip.PJ.flip⟩
theorem eZ.turn(h:eZ H Hc q C Tp sm A B n rA rB aF bF){s2:Addr}(nn:Hc s2=none):eZ H (upd Hc s2 (.lst [.ref B,.ref A])) q C Tp s2 B A n rB rA bF aF:=
 have s:=aG (o:=.lst [.ref B,.ref A]) nn;have no:∀{b:Addr} {u:HO},Hc b=some u->s2≠b:=λe z=>by rw [<-z,nn] at e;cases e
 ⟨h.off.trans (aI.of s),au,⟨h.two.tc.ne nn,no h.two.wu.lst,no h.two.wl.lst,λi hi=>⟨no (h.two.wu.at' i hi),no (h.two.wl.at' i hi)⟩⟩,⟨h.new.2.1,h.new.1,λi hi=>⟨(h.new.2.2 i hi).2,(h.new.2.2 i hi).1⟩⟩,(h.two.mono s).flip⟩
end
section
variable {H H':Hp} {q C:Int} {B B' n:Nat} {a Tp:Addr} {ra:Nat->Addr} {vf:Nat->Nat->V} {f:Nat->Nat->Int×Int}
theorem cI.cF{m:Nat}(h:cI H a n m ra vf)(o:aI Tp H H')(na:a≠Tp)(nr:∀i,i<n->ra i≠Tp):cI H' a n m ra vf:=⟨o _ _ na h.lst,λi hi=>o _ _ (nr i hi) (h.at' i hi)⟩
theorem cY.cF(h:cY H q C B n a ra vf f)(t:aY H Tp)(o:aI Tp H H')(na:a≠Tp)(nr:∀i,i<n->ra i≠Tp):cY H' q C B n a ra vf f:=⟨h.tab.cF o na nr,λi j hi hj=>(h.num i j hi hj).cF t o,h.dv⟩
theorem cY.up(h:cY H q C B n a ra vf f)(le:B<=B'):cY H q C B' n a ra vf f:=⟨h.tab,λi j hi hj=>(h.num i j hi hj).up le,h.dv⟩
end
structure sQ (C0:Addr) (H:Hp) (q C:Int) (Tp td z od:Addr) (n:Nat) (o:List Nat) (pr lo up tb dr l2 u2:Addr) (rl ru rt r2 s2:Nat->Addr) (lf uf vt jI jJ:Nat->Nat->V) (L U f L2 U2:Nat->Nat->Int×Int):Prop where
 tc:aY H Tp
 tw:eW H td q
 hz:cP C0 H z q
 ord:H od=some (.lst (bW o))
 gP:od≠Tp
 nK:H pr=some (.tup [.ref lo,.ref up])
 xj:H dr=some (.tup [.ref l2,.ref u2])
 low:cY H q C (10 ^ 16) n lo rl lf L
 pz:cY H q C (10 ^ 16) n up ru uf U
 mJ:cY H q (dh q) 1000 n l2 r2 jI L2
 ko:cY H q (dh q) 1000 n u2 s2 jJ U2
 tab:cI H tb n n rt vt
 num:∀i j,i<n->j<n->aw 2000 H q (vt i j) (f i j).1 (f i j).2
 ne:lo≠Tp/\up≠Tp/\tb≠Tp/\l2≠Tp/\u2≠Tp
 nr:∀i,i<n->rl i≠Tp/\ru i≠Tp/\rt i≠Tp/\r2 i≠Tp/\s2 i≠Tp
section
variable {C0:Addr} {H H':Hp} {q C:Int} {Tp td z od:Addr} {n:Nat} {o:List Nat} {pr lo up tb dr l2 u2:Addr} {rl ru rt r2 s2:Nat->Addr} {lf uf vt jI jJ:Nat->Nat->V} {L U f L2 U2:Nat->Nat->Int×Int}
theorem tup_ne{x:Addr}{xs:List V}(t:aY H Tp)(e:H x=some (.tup xs)):x≠Tp:=λz=>by obtain ⟨y,ey⟩:=t;rw [z,ey] at e;cases e
theorem cP.cF(h:cP C0 H z q)(t:aY H Tp)(o:aI Tp H H'):cP C0 H' z q:=by obtain ⟨d,e⟩:=h;obtain ⟨y,ey⟩:=t;exact ⟨d,o _ _ (λz=>by rw [z,ey] at e;cases e) e⟩
theorem sQ.off(h:sQ C0 H q C Tp td z od n o pr lo up tb dr l2 u2 rl ru rt r2 s2 lf uf vt jI jJ L U f L2 U2)(s:aI Tp H H')(t:aY H' Tp):sQ C0 H' q C Tp td z od n o pr lo up tb dr l2 u2 rl ru rt r2 s2 lf uf vt jI jJ L U f L2 U2:=
 ⟨t,h.tw.off s h.tc,h.hz.cF h.tc s,s _ _ h.gP h.ord,h.gP,s _ _ (tup_ne h.tc h.nK) h.nK,s _ _ (tup_ne h.tc h.xj) h.xj,h.low.cF h.tc s h.ne.1 λi hi=>(h.nr i hi).1,h.pz.cF h.tc s h.ne.2.1 λi hi=>(h.nr i hi).2.1,h.mJ.cF h.tc s h.ne.2.2.2.1 λi hi=>(h.nr i hi).2.2.2.1,h.ko.cF h.tc s h.ne.2.2.2.2 λi hi=>(h.nr i hi).2.2.2.2,h.tab.cF s h.ne.2.2.1 λi hi=>(h.nr i hi).2.2.1,λi j hi hj=>(h.num i j hi hj).cF h.tc s,h.ne,h.nr⟩
theorem sQ.mono(h:sQ C0 H q C Tp td z od n o pr lo up tb dr l2 u2 rl ru rt r2 s2 lf uf vt jI jJ L U f L2 U2)(s:af H H'):sQ C0 H' q C Tp td z od n o pr lo up tb dr l2 u2 rl ru rt r2 s2 lf uf vt jI jJ L U f L2 U2:=h.off (aI.of s) (h.tc.mono s)
theorem PU{pf:Nat->Nat->V}(hq:aS q)(n6:n<=6)(hL:∀i j,i<n->j<n->(xC (dh q) (L i j)).natAbs<=10 ^ 60)(hU:∀i j,i<n->j<n->(xC (dh q) (U i j)).natAbs<=10 ^ 60)(sL:q=0->∀i j,i<n->j<n->(xC (dh q) (L i j)).natAbs<=18)(sU:q=0->∀i j,i<n->j<n->(xC (dh q) (U i j)).natAbs<=18)
  (w:∀i j,i<n->j<n->aQ (10 ^ 140) H q (pf i j) (jG (dh q) L U i j n % q) (dh q*dh q % q)):∃g:Nat->Nat->Int×Int,∀i j,i<n->j<n->aw 2000 H q (pf i j) (g i j).1 (g i j).2:=by
 have bc:=(PN q).1;have nz:=hE hq (qr hq bc) (qr hq bc);obtain ⟨g,hg⟩:=sO (S:=λ_ _=>True) (B:=2000) (H:=H) (q:=q) (vf:=pf) (n:=n) λi j hi hj=>by
  obtain ⟨x,m,a⟩:=aci n6 (λz k hk=>sL z i k hi hk) (λz k hk=>sU z k j hk hj) (Px hq (w i j hi hj) nz (Y:=10 ^ 140) (aM (DM hL hU n6 hi hj (aV _)) (by decide +kernel)) (aM (DN bc) (by decide +kernel)))
  exact (ii x m a trivial)
 exact ⟨g,λi j hi hj=>(hg i j hi hj).1⟩
theorem PV(h:∀i j,i<n->j<n->aw 1000 H q (lf i j) (L i j).1 (L i j).2/\cX q (L i j).1 (L i j).2):q=0->∀i j,i<n->j<n->(xC (dh q) (L i j)).natAbs<=18:=λz i j hi hj=>ach z (h i j hi hj).1 (h i j hi hj).2
end
end My
set_option maxRecDepth 100000
set_option maxHeartbeats 4000000
namespace My
open PySem L2
def top(i:Nat):Stmt:=PySem.Challenge.pw_bandwright_k38_factors_looked_at.main.body.getD i (.Pass ⟨0,0,0,0⟩)
abbrev DU:Stmt:=top 12
abbrev DV:Stmt:=top 13
abbrev DW:Stmt:=top 14
abbrev DX:Stmt:=top 15
abbrev DY:Stmt:=top 16
abbrev DZ:Stmt:=top 17
abbrev D3:Stmt:=top 18
abbrev D4:Stmt:=top 19
abbrev D5:Stmt:=top 20
abbrev D6:Stmt:=top 21
abbrev D7:Stmt:=top 25
abbrev D8:Stmt:=top 27
abbrev D9:Stmt:=top 28
abbrev D_:Stmt:=top 30
abbrev Ea:Stmt:=top 31
abbrev Eb:Stmt:=top 32
abbrev Ec:Stmt:=top 34
abbrev Ed:Stmt:=top 35
abbrev Ee:Stmt:=top 36
abbrev Ef:Stmt:=top 37
abbrev Eg:Stmt:=top 38
abbrev Eh:Stmt:=top 40
abbrev Ei:Stmt:=top 41
abbrev Ej:Stmt:=top 43
abbrev Ek:Stmt:=top 44
abbrev El:Stmt:=top 45
abbrev Em:Stmt:=top 46
abbrev Eo:Stmt:=top 47
abbrev Ep:Stmt:=top 48
abbrev Er:Stmt:=top 50
abbrev Es:Stmt:=top 51
abbrev Et:Stmt:=top 52
abbrev Eu:Stmt:=top 53
abbrev Ew:Stmt:=top 54
abbrev Ex:Stmt:=top 55
abbrev Ey:Stmt:=top 57
abbrev Ez:Stmt:=top 58
abbrev EA:Stmt:=top 61
abbrev EB:Stmt:=top 62
abbrev EC:Stmt:=top 65
abbrev ED:Stmt:=top 66
abbrev EE:Stmt:=top 67
abbrev EG:Stmt:=top 68
abbrev EH:Stmt:=top 69
abbrev EI:Stmt:=top 70
abbrev EJ:Stmt:=top 71
abbrev EK:Stmt:=top 72
abbrev EL:Stmt:=top 73
abbrev EM:Stmt:=top 74
abbrev EN:Stmt:=top 75
abbrev EO:Stmt:=top 76
abbrev ER:Stmt:=top 77
abbrev ES:Stmt:=top 78
abbrev ET:Stmt:=top 79
abbrev EU:Stmt:=top 80
abbrev EV:Stmt:=top 81
abbrev EW:Stmt:=top 82
abbrev EX:Stmt:=top 83
abbrev EY:Stmt:=top 84
abbrev EZ:Stmt:=top 85
abbrev E1:Stmt:=top 86
abbrev E3:Stmt:=top 87
abbrev E4:Stmt:=top 88
abbrev E5:Stmt:=top 89
abbrev E6:Stmt:=top 90
abbrev E7:Stmt:=top 91
abbrev E8:Stmt:=inClass (top 63) 0
abbrev lA:Stmt:=inClass (top 63) 3
abbrev E9:Stmt:=inClass (top 63) 5
abbrev E_:Stmt:=inClass (top 63) 6
abbrev Fb:Stmt:=inClass (top 63) 7
abbrev Fe:Stmt:=inClass (top 63) 8
set_option genInjectivity false in
set_option genSizeOf false in
structure Bh where
 qt:Addr
 sR:FuncData
 sS:Addr
 xk:FuncData
 sW:Addr
 xl:FuncData
 sX:Addr
 xn:FuncData
 qu:Addr
 sY:FuncData
 sZ:Addr
 xo:FuncData
 s_:Addr
 xp:FuncData
 tj:Addr
 xq:FuncData
 tu:Addr
 xr:FuncData
 tD:Addr
 xt:FuncData
 tE:Addr
 xu:FuncData
 tG:Addr
 xv:FuncData
 tH:Addr
 xw:FuncData
 tI:Addr
 xx:FuncData
 tJ:Addr
 xy:FuncData
 tK:Addr
 xA:FuncData
 tL:Addr
 xB:FuncData
 tM:Addr
 xD:FuncData
 tN:Addr
 xE:FuncData
 tO:Addr
 xG:FuncData
 tP:Addr
 xH:FuncData
 tQ:Addr
 xI:FuncData
 tR:Addr
 xJ:FuncData
 tS:Addr
 xK:FuncData
 tT:Addr
 xM:FuncData
 tU:Addr
 xN:FuncData
 tV:Addr
 xO:FuncData
 tW:Addr
 xP:FuncData
 tX:Addr
 xQ:FuncData
 tY:Addr
 xR:FuncData
 tZ:Addr
 xS:FuncData
 t8:Addr
 xT:FuncData
 t_:Addr
 xV:FuncData
 ua:Addr
 xW:FuncData
 ub:Addr
 xX:FuncData
 uc:Addr
 xY:FuncData
 ud:Addr
 xZ:FuncData
 ue:Addr
 x4:FuncData
 ug:Addr
 x5:FuncData
 uh:Addr
 x8:FuncData
 uj:Addr
 x9:FuncData
 um:Addr
 x_:FuncData
 uo:Addr
 ya:FuncData
 ur:Addr
 yb:FuncData
 uu:Addr
 yc:FuncData
 uv:Addr
 yd:FuncData
 uw:Addr
 ye:FuncData
 ux:Addr
 yf:FuncData
 uy:Addr
 yg:FuncData
 uz:Addr
 yh:FuncData
 uA:Addr
 yi:FuncData
 uB:Addr
 yj:FuncData
 uC:Addr
 yk:FuncData
 uD:Addr
 yl:FuncData
 uE:Addr
 ym:FuncData
 uF:Addr
 yo:FuncData
 uH:Addr
 yq:FuncData
 uI:Addr
 yr:FuncData
 uJ:Addr
 yt:FuncData
 uK:Addr
 yu:FuncData
 uM:Addr
 yv:FuncData
 uN:Addr
 yw:FuncData
 uO:Addr
 yy:FuncData
 uP:Addr
 yz:FuncData
 uQ:Addr
 yA:FuncData
 qv:Addr
 uR:FuncData
 uS:Addr
 yB:FuncData
 pB:Addr
 Bi:FuncData
 uV:Addr
 yC:FuncData
 uW:Addr
 yE:FuncData
 uX:Addr
 yF:FuncData
 uY:Addr
 yG:FuncData
 bg:Addr
 mK:Addr
 iD:Addr
 nM:Addr
 bV:Addr
 qw:Addr
 bZ:Addr
 qx:Addr
 qy:Addr
 qz:Addr
abbrev a9 (mg:cU) (x:Str) (f:Addr):Prop:=mg x=some (.ref f)
abbrev Bj (K:aE) (a:Addr):Prop:=PySem.W.excIn K a [.type "ValueError",.type "Exception",.type "BaseException",.type "object"] "ValueError.__new__"=true
structure Txt (K:aE) (mg:cU) (t:Bh):Prop where
 nN:aA K "width" DU t.qt t.sR
 Bk:Binds K t.sR ["table"] []
 Bl:a9 mg "width" t.qt
 uZ:aA K "square_size" DV t.sS t.xk
 IZ:Binds K t.xk ["table"] []
 I0:a9 mg "square_size" t.sS
 u3:aA K "has_size" DW t.sW t.xl
 I_:Binds K t.xl ["table","n","m"] []
 Ja:a9 mg "has_size" t.sW
 u4:aA K "column" DX t.sX t.xn
 Jb:Binds K t.xn ["table","place"] []
 Jc:a9 mg "column" t.sX
 u5:aA K "columns" DY t.qu t.sY
 PX:Binds K t.sY ["table"] []
 PY:a9 mg "columns" t.qu
 yH:aA K "sum_of_wholes" DZ t.sZ t.xo
 PZ:Binds K t.xo ["world","one","other"] []
 P0:a9 mg "sum_of_wholes" t.sZ
 yI:aA K "sums_of_wholes" D3 t.s_ t.xp
 P1:Binds K t.xp ["world","rows","row"] []
 P4:a9 mg "sums_of_wholes" t.s_
 yJ:aA K "all_as_wholes" D4 t.tj t.xq
 P5:Binds K t.xq ["world","rows"] []
 P6:a9 mg "all_as_wholes" t.tj
 yK:aA K "paired_sums" D5 t.tu t.xr
 P7:Binds K t.xr ["world","rows","others"] []
 P8:a9 mg "paired_sums" t.tu
 yL:aA K "product" D6 t.tD t.xt
 P9:Binds K t.xt ["world","one","other"] []
 P_:a9 mg "product" t.tD
 u6:aA K "is_whole" D7 t.tE t.xu
 Jd:Binds K t.xu ["thing"] []
 Je:a9 mg "is_whole" t.tE
 mL:aA K "common_divisor" D8 t.tG t.xv
 u7:Binds K t.xv ["one","other"] []
 u9:a9 mg "common_divisor" t.tG
 yM:aA K "is_prime" D9 t.tH t.xw
 Qa:Binds K t.xw ["number"] []
 Qb:a9 mg "is_prime" t.tH
 yN:aA K "links_of_place" D_ t.tI t.xx
 Qc:Binds K t.xx ["world","table","i"] []
 Qd:a9 mg "links_of_place" t.tI
 yO:aA K "shape_of" Ea t.tJ t.xy
 Qe:Binds K t.xy ["world","table"] []
 Qf:a9 mg "shape_of" t.tJ
 yP:aA K "neighbours" Eb t.tK t.xA
 Qg:Binds K t.xA ["shape"] []
 Qh:a9 mg "neighbours" t.tK
 yQ:aA K "is_order" Ec t.tL t.xB
 Qi:Binds K t.xB ["thing","n"] []
 Qj:a9 mg "is_order" t.tL
 u_:aA K "check_order" Ed t.tM t.xD
 Jf:Binds K t.xD ["order","n"] []
 Jg:a9 mg "check_order" t.tM
 qA:aA K "turns_of" Ee t.tN t.xE
 Ff:Binds K t.xE ["order"] []
 Fg:a9 mg "turns_of" t.tN
 yR:aA K "link_all" Ef t.tO t.xG
 Qk:Binds K t.xG ["linked","places"] []
 Ql:a9 mg "link_all" t.tO
 yS:aA K "later" Eg t.tP t.xH
 Qm:Binds K t.xH ["shape","order"] []
 Qn:a9 mg "later" t.tP
 yT:aA K "undo_place" Eh t.tQ t.xI
 Qo:Binds K t.xI ["world","work","place","others"] []
 Qp:a9 mg "undo_place" t.tQ
 yU:aA K "packed" Ei t.tR t.xJ
 Qq:Binds K t.xJ ["world","table","order"] []
 Qr:a9 mg "packed" t.tR
 yV:aA K "lower_row" Ej t.tS t.xK
 Qs:Binds K t.xK ["world","row","turns","i"] []
 Qt:a9 mg "lower_row" t.tS
 yW:aA K "upper_row" Ek t.tT t.xM
 Qu:Binds K t.xM ["world","row","turns","i"] []
 Qv:a9 mg "upper_row" t.tT
 vb:aA K "lower_of" El t.tU t.xN
 Jh:Binds K t.xN ["world","table","turns"] []
 Ji:a9 mg "lower_of" t.tU
 vc:aA K "upper_of" Em t.tV t.xO
 Jj:Binds K t.xO ["world","table","turns"] []
 Jk:a9 mg "upper_of" t.tV
 yX:aA K "factors" Eo t.tW t.xP
 Qw:Binds K t.xP ["world","table","order"] []
 Qx:a9 mg "factors" t.tW
 vd:aA K "are_factors" Ep t.tX t.xQ
 Jl:Binds K t.xQ ["world","table","order","lower","upper"] []
 Jm:a9 mg "are_factors" t.tX
 yY:aA K "ratio" Er t.tY t.xR
 Qy:Binds K t.xR ["top","bottom"] []
 Qz:a9 mg "ratio" t.tY
 yZ:aA K "ratio_plus" Es t.tZ t.xS
 QA:Binds K t.xS ["a","b"] []
 QB:a9 mg "ratio_plus" t.tZ
 y4:aA K "ratio_minus" Et t.t8 t.xT
 QC:Binds K t.xT ["a","b"] []
 QD:a9 mg "ratio_minus" t.t8
 qB:aA K "ratio_times" Eu t.t_ t.xV
 Fh:Binds K t.xV ["a","b"] []
 Fi:a9 mg "ratio_times" t.t_
 y6:aA K "ratio_over" Ew t.ua t.xW
 QE:Binds K t.xW ["a","b"] []
 QF:a9 mg "ratio_over" t.ua
 y7:aA K "one_bottom" Ex t.ub t.xX
 QG:Binds K t.xX ["row"] []
 QH:a9 mg "one_bottom" t.ub
 y8:aA K "remainder_back" Ey t.uc t.xY
 QI:Binds K t.xY ["prime","number"] []
 QJ:a9 mg "remainder_back" t.uc
 ve:aA K "remainder_over" Ez t.ud t.xZ
 Jn:Binds K t.xZ ["prime","a","b"] []
 Jo:a9 mg "remainder_over" t.ud
 y_:aA K "is_fractions" EA t.ue t.x4
 QK:Binds K t.x4 ["told"] []
 QL:a9 mg "is_fractions" t.ue
 za:aA K "is_wheel" EB t.ug t.x5
 QM:Binds K t.x5 ["told"] []
 QN:a9 mg "is_wheel" t.ug
 zb:aA K "_law_acell" EC t.uh t.x8
 QO:Binds K t.x8 ["script","k"] []
 QP:a9 mg "_law_acell" t.uh
 nO:aA K "_law_atape" ED t.uj t.x9
 zc:Binds K t.x9 ["script","k"] []
 ze:a9 mg "_law_atape" t.uj
 ee:aA K "_law_adigit" EE t.um t.x_
 fK:Binds K t.x_ ["tape","many"] []
 fL:a9 mg "_law_adigit" t.um
 zf:aA K "_law_adivisor" EG t.uo t.ya
 QQ:Binds K t.ya ["one","other"] []
 QR:a9 mg "_law_adivisor" t.uo
 zg:aA K "_law_aturned" EH t.ur t.yb
 QS:Binds K t.yb ["number","p"] []
 QT:a9 mg "_law_aturned" t.ur
 lB:aA K "_law_anumber" EI t.uu t.yc
 qC:Binds K t.yc ["told","top","bottom"] []
 qD:a9 mg "_law_anumber" t.uu
 vg:aA K "_law_aplus" EJ t.uv t.yd
 Jp:Binds K t.yd ["told","a","b"] []
 Jq:a9 mg "_law_aplus" t.uv
 zh:aA K "_law_atimes" EK t.uw t.ye
 QU:Binds K t.ye ["told","a","b"] []
 QV:a9 mg "_law_atimes" t.uw
 zi:aA K "_law_aworld" EL t.ux t.yf
 QW:Binds K t.yf ["tape"] []
 QX:a9 mg "_law_aworld" t.ux
 kq:aA K "_law_asome" EM t.uy t.yg
 pE:Binds K t.yg ["told","tape"] []
 pF:a9 mg "_law_asome" t.uy
 lC:aA K "_law_anought" EN t.uz t.yh
 qE:Binds K t.yh ["told"] []
 qF:a9 mg "_law_anought" t.uz
 zk:aA K "_law_atable" EO t.uA t.yi
 QY:Binds K t.yi ["told","tape","size","links"] []
 QZ:a9 mg "_law_atable" t.uA
 zl:aA K "_law_alinks" ER t.uB t.yj
 Q0:Binds K t.yj ["tape","size"] []
 Q1:a9 mg "_law_alinks" t.uB
 vh:aA K "_law_aorder" ES t.uC t.yk
 Jr:Binds K t.yk ["tape","size"] []
 Js:a9 mg "_law_aorder" t.uC
 vi:aA K "_law_arow" ET t.uD t.yl
 Jt:Binds K t.yl ["told","tape","size"] []
 Ju:a9 mg "_law_arow" t.uD
 zm:aA K "_law_acarried" EU t.uE t.ym
 Q2:Binds K t.ym ["told","table","row"] []
 Q3:a9 mg "_law_acarried" t.uE
 zp:aA K "_law_apiece" EV t.uF t.yo
 Q4:Binds K t.yo ["script","start"] []
 Q5:a9 mg "_law_apiece" t.uF
 zq:aA K "_law_akind" EW t.uH t.yq
 Q6:Binds K t.yq ["caught"] []
 Q7:a9 mg "_law_akind" t.uH
 qG:aA K "_law_aproduct" EX t.uI t.yr
 Fj:Binds K t.yr ["told","one","other"] []
 Fl:a9 mg "_law_aproduct" t.uI
 zt:aA K "_law_aare_factors" EY t.uJ t.yt
 Q8:Binds K t.yt ["told","table","order","lower","upper"] []
 Q9:a9 mg "_law_aare_factors" t.uJ
 zu:aA K "_law_aform" EZ t.uK t.yu
 Q_:Binds K t.yu ["told","tape","order"] []
 Ra:a9 mg "_law_aform" t.uK
 zw:aA K "_law_aother" E1 t.uM t.yv
 Rb:Binds K t.yv ["told","tape","order","lower","upper"] []
 Rc:a9 mg "_law_aother" t.uM
 qH:aA K "_law_asaid" E3 t.uN t.yw
 Fm:Binds K t.yw ["world","told","table","order","lower","upper"] []
 Fn:a9 mg "_law_asaid" t.uN
 zx:aA K "_law_abad_order" E4 t.uO t.yy
 Rf:Binds K t.yy ["tape","order"] []
 Rg:a9 mg "_law_abad_order" t.uO
 zy:aA K "_law_abad_table" E5 t.uP t.yz
 Rh:Binds K t.yz ["told","tape","table"] []
 Ri:a9 mg "_law_abad_table" t.uP
 vj:aA K "_law_arefused" E6 t.uQ t.yA
 Jv:Binds K t.yA ["world","table","order","lower","upper"] []
 Jw:a9 mg "_law_arefused" t.uQ
 zA:aA K "law" E7 t.qv t.uR
 acx:Binds K t.uR ["script"] []
 Rj:a9 mg "law" t.qv
 Bm:fg K "__init__" "World.__init__" E8 t.uS t.yB
 Rk:Binds K t.yB ["self","told"] []
 Fo:Mk K t.bg t.uS
 Rl:j_ K "of" "World.of" lA 1 t.pB t.Bi
 Rm:Binds K t.Bi ["self","top","bottom"] []
 Bn:∃v,Vals [V.int 1] [v]/\Binds K t.Bi ["self","top","bottom"] [v]
 acy:∀(s:Shared) (us ws:List Value),K.In s.heap->ws.length=1->us.length+1=(["self","top","bottom"]:List Str).length->BindsTo s t.Bi ⟨us,[("bottom":Str)].zip ws⟩ ((["self","top","bottom"]:List Str).zip (us++ws))
 vm:Meth K t.bg "of" t.pB
 Bp:fg K "minus" "World.minus" E9 t.uV t.yC
 Rn:Binds K t.yC ["self","a","b"] []
 Fp:Meth K t.bg "minus" t.uV
 Bq:fg K "times" "World.times" E_ t.uW t.yE
 Ro:Binds K t.yE ["self","a","b"] []
 Fq:Meth K t.bg "times" t.uW
 Br:fg K "over" "World.over" Fb t.uX t.yF
 Rp:Binds K t.yF ["self","a","b"] []
 Fs:Meth K t.bg "over" t.uX
 Bs:fg K "as_wholes" "World.as_wholes" Fe t.uY t.yG
 Jx:Binds K t.yG ["self","row"] []
 Bt:Meth K t.bg "as_wholes" t.uY
 e8:lZ K t.bg
 Rq:a9 mg "World" t.bg
 jK:rO K t.bg "prime"
 Jy:a9 mg "NoWorld" t.mK
 Bu:a9 mg "NoOver" t.iD
 Rr:a9 mg "WrightError" t.nM
 zB:a9 mg "NoFit" t.bV
 Rt:a9 mg "NoShape" t.qw
 Jz:a9 mg "NoOrder" t.bZ
 Ru:a9 mg "NoSize" t.qx
 Rv:a9 mg "NoLink" t.qy
 Rw:a9 mg "Tied" t.qz
 Rx:mg "ValueError"=none
 Fu:mg "abs"=none
 JA:mg "all"=none
 JB:mg "any"=none
 JD:mg "bool"=none
 vn:mg "enumerate"=none
 Bv:mg "int"=none
 iT:mg "isinstance"=none
 dI:mg "len"=none
 nQ:mg "list"=none
 Ry:mg "max"=none
 Rz:mg "min"=none
 dW:mg "range"=none
 acz:mg "reversed"=none
 JE:mg "sorted"=none
 RA:mg "sum"=none
 Fv:mg "tuple"=none
 RB:mg "zip"=none
 RC:∃u,mg "GREATEST_PRIME"=some u/\RelV (.int 997) u
 RD:∃u,mg "LONG"=some u/\RelV (.int 2048) u
 RE:Bj K t.mK
 Fw:Bj K t.iD
 zC:Bj K t.bV
 JF:Bj K t.bZ
 RF:Bj K t.nM
 RG:PySem.W.mroIn K t.bV (.ref t.nM)=some true
 RH:PySem.W.kitOne K (.ref t.bV) (.type "ValueError")=some true
 RI:PySem.W.kitOne K (.ref t.bV) (.ref t.mK)=some false
 RJ:PySem.W.kitOne K (.ref t.bV) (.ref t.iD)=some false
 RK:PySem.W.kitOne K (.ref t.bV) (.ref t.bV)=some true
 RL:PySem.W.kitOne K (.ref t.bV) (.ref t.qw)=some false
 RM:PySem.W.kitOne K (.ref t.bV) (.ref t.bZ)=some false
 RN:PySem.W.kitOne K (.ref t.bV) (.ref t.qx)=some false
 RO:PySem.W.kitOne K (.ref t.bV) (.ref t.qy)=some false
 RP:PySem.W.kitOne K (.ref t.bV) (.ref t.qz)=some false
 RQ:PySem.W.hasDictIn K t.bV=true
 RR:PySem.W.findIn K (.ref t.bV) "__getattribute__"=some (some (.builtin "BaseException.__getattribute__"))
 RS:PySem.W.findIn K (.ref t.bV) "__getattr__"=some none
 RT:PySem.W.findIn K (.ref t.bV) "__class__"=some (some (.builtin "object.__class__"))
 RU:PySem.W.mroIn K t.bV (.type "object")=some true
 RV:PySem.W.mroIn K t.bV (.type "BaseException")=some true
 RW:PySem.W.mroIn K t.bZ (.ref t.nM)=some true
 RX:PySem.W.kitOne K (.ref t.bZ) (.type "ValueError")=some true
 RY:PySem.W.kitOne K (.ref t.bZ) (.ref t.mK)=some false
 RZ:PySem.W.kitOne K (.ref t.bZ) (.ref t.iD)=some false
 R0:PySem.W.kitOne K (.ref t.bZ) (.ref t.bV)=some false
 R5:PySem.W.kitOne K (.ref t.bZ) (.ref t.qw)=some false
 R6:PySem.W.kitOne K (.ref t.bZ) (.ref t.bZ)=some true
 R7:PySem.W.kitOne K (.ref t.bZ) (.ref t.qx)=some false
 R8:PySem.W.kitOne K (.ref t.bZ) (.ref t.qy)=some false
 R9:PySem.W.kitOne K (.ref t.bZ) (.ref t.qz)=some false
 R_:PySem.W.hasDictIn K t.bZ=true
 Sa:PySem.W.findIn K (.ref t.bZ) "__getattribute__"=some (some (.builtin "BaseException.__getattribute__"))
 Sb:PySem.W.findIn K (.ref t.bZ) "__getattr__"=some none
 Sd:PySem.W.findIn K (.ref t.bZ) "__class__"=some (some (.builtin "object.__class__"))
 Se:PySem.W.mroIn K t.bZ (.type "object")=some true
 Sf:PySem.W.mroIn K t.bZ (.type "BaseException")=some true
section
variable {P:Program} {w:World} {K:aE} {mg:cU} {base:Heap} {t:Bh}
theorem acA:aZ ["thing"] ["thing"] (aK D7):=bf
theorem Sg(T:Txt K mg t):aN P w K mg base bH 1 t.tE t.xu ["thing"] X9:=by
 have S:=acA;refine T.u6.bN S (λ_ _ _ _ H _ Q _ hr h=>?_);intros bv4 h v rfl ha k;refine (ad _ (ak (aJ (wc (bS (i4 (K:=K)) rfl T.iT boot_isinstance (aa (pv 0) (aa (rC (v:=.ty "int") rfl T.Bv boot_int rfl) ae))) (CA (Vd (bS (i4 (K:=K)) rfl T.iT boot_isinstance (aa (pv 0) (aa (rC (v:=.ty "bool") rfl T.JD boot_bool rfl) ae)))))))) ?_);obtain ⟨Ty,ty,k1,k2,_⟩:=ha.Ht (K:=K);refine (ad _ rfl (xz _ _ _ _ rfl rfl ty k1 _ rfl (b7 (λh1=>?_) (λh1=>?_))))
 ·refine (ad _ rfl (xz _ _ _ _ rfl rfl ty k2 _ rfl ?_))
  have e:(!wF v)=wD v:=by
   cases h2:wF v with
   | true=>rw [X5 h2];rfl
   | false=>rw [h2,Bool.or_false] at h1;rw [h1];rfl
  show Q (.bl (!wF v)) H;rw [e];exact k
 ·have e:wD v=false:=by
   cases h2:wD v with
   | true=>rw [h2] at h1;exact absurd rfl h1
   | false=>rfl
  rw [e] at k;exact k
theorem acB:aZ ["one","other","left","shorter"] ["one","other"] (aK D8):=bf
theorem zD(T:Txt K mg t):aN P w K mg base bH 1 t.tG t.xv ["one","other"] X_:=by
 have S:=acB;obtain ⟨uL,hL,rL⟩:=T.RD;refine T.mL.bN S (λ_ _ _ _ H _ _ _ hr h=>?_);intros bv7 h a b rfl mb k
 refine (ad _ (aj (putL 0 S.nd (bS GZ rfl T.Fu boot_abs (aa (pv 0) ae)))
  (aj (putL 1 S.nd (bS GZ rfl T.Fu boot_abs (aa (pv 1) ae)))
  (aj (Aw de (bG rK (pv 1) ah) (aj (putL 2 S.nd (aD gh (pv 0) (pv 1)))
  (aj (putL 0 S.nd (pv 1))
  (aj (putL 1 S.nd (pv 2))
  (ak (bO (bG rK (M7 PySem.F.plainAttrs_int PySem.F.slot_int_bit_length PySem.F.type_int_bit_length X3 (pv 0)) (m8 (v:=.int 2048) rfl hL rL)) Vj bQ))))))
  (ak (aJ (pv 0)))))) ?_)
 refine (u8 _ rfl a rfl (ul _ rfl b rfl (λm σ H'=>H'=H/\∃(x y:Nat) (v u:Option V),σ=[some (.int (x:Int)),some (.int (y:Int)),v,u]/\m=y/\y<=b.natAbs/\Nat.gcd x y=Int.gcd a b) (ww b.natAbs rfl a.natAbs (re b.natAbs none none ?_ rfl (aV _) rfl)) ?_))
 ·show [some (V.int (if a<0 then -a else a)),some (V.int (if b<0 then -b else b)),none,none]=_
  rw [HF,HF]
 ·intro m σ H';intros bvA _ rfl bv22 x y v u rfl em hb hg
  refine (db _ rfl _ _ rfl rfl _ rfl (b7 (λhy=>?_) (λhy=>?_)))
  ·have hy:(0:Int)<y:=fD hy
   refine (ad (λσ' H2=>H2=H'/\σ'=[some (.int (y:Int)),some (.int (((x % y:Nat)):Int)),some (.int (((x % y:Nat)):Int)),u]) ?_ ?_)
   ·rintro σ' H2 ⟨rfl,rfl⟩
    exact ⟨x % y,by rw [em];exact Nat.mod_lt _ ⋯,rfl,y,x % y,_,_,rfl,rfl,aM (zU (Nat.mod_lt _ ⋯)) hb,by rw [X6];exact hg⟩
   ·have hm:cV (y:Int):=fz (by rw [vR];exact hb) mb
    have hbt:=X4 hm;refine (ad _ rfl (gl _ rfl _ _ rfl rfl hy _ rfl (be _ rfl _ rfl rfl (bv _ rfl rfl (ut _ _ rfl rfl _ rfl (b7 (λhz=>?_) (λ_=>⟨rfl,rfl⟩)))))));have hz:=fD hz;exact absurd hz ⋯
  ·have hy:¬(0:Int)<y:=λz=>hy (cK z)
   have y0:y=0:=by lia
   subst y0;rw [Nat.gcd_zero_right] at hg;rw [<-hg] at k;exact (ad _ rfl k)
theorem acC:aZ ["number","divisor"] ["number"] (aK D9):=bf
theorem acD(T:Txt K mg t):aN P w K mg base bH 1 t.tH t.xw ["number"] Ya:=by
 have S:=acC;refine T.yM.bN S (λ_ _ _ _ H _ Q _ hr h=>?_);intros bv9 h n rfl hn1 wg k
 refine (ad _ (aj (putL 1 S.nd ah)
  (aj (Aw de (bG GW (aD iq (pv 1) (pv 1)) (pv 0)) (aj (bO (bG dO (aD gh (pv 0) (pv 1)) ah) (ak (aJ gv)) bQ)
  (ak (Vp (i:=1) S.nd rfl (Or.inl rfl) ah Vs))))
  (ak (aJ (jV VM (pv 0) ah))))) ?_)
 refine (ad (λm σ H'=>H'=H/\∃d:Int,σ=[some (.int n),some (.int d)]/\2<=d/\d<=32/\m=(33-d).toNat/\∀e:Int,2<=e->e<d->n % e≠0) ⟨_,rfl,2,rfl,⋯,⋯,rfl,λe a b=>by lia⟩ ?_)
 intro m σ H';intros bvA _ rfl bv12 d rfl h1 h2 rfl h3;refine (on _ rfl _ rfl _ _ rfl rfl (.inl ⟨⋯,⋯⟩) (db _ rfl _ _ rfl rfl _ rfl (b7 (λhq=>?_) (λhq=>?_))))
 ·have hq:=fD hq
  have hd:d<32:=by
   by_cases z:d<32;·exact z
   ·have:d=32:=by lia
    subst this;lia
  refine (ad (λσ' H2=>H2=H'/\σ'=[some (.int n),some (.int (d+1))]/\n % d≠0) ?_ ?_)
  ·rintro σ' H2 ⟨rfl,rfl,hm⟩
   refine ⟨(33-(d+1)).toNat,⋯,rfl,d+1,rfl,⋯,⋯,rfl,λe a b=>?_⟩
   by_cases z:e=d;·subst z;exact hm
   ·exact h3 e a ⋯
  ·refine (on _ rfl _ rfl _ _ rfl rfl (show (0:Int)<d by lia) (ib rfl _ rfl (b7 (λhm=>?_) (λhm=>?_))))
   ·have hm:=V.int.inj (fD hm)
    rw [NA wg h1 hq hm] at k;exact k
   ·exact (ad _ rfl (sB _ _ rfl rfl rfl rfl (λz=>hm (cK (hV V.int z)))))
 ·have hq:¬d*d<=n:=λz=>hq (cK z)
  refine (io _ rfl _ _ rfl rfl ?_);rw [XQ (n:=n) (d:=d) ⋯ h1 h3] at k
  have e:decide ((2:Int)<=n)=true:=cK hn1;show Q (.bl (decide ((2:Int)<=n))) H';rw [e];exact k
theorem acF:aZ ["told"] ["told"] (aK EA):=bf
theorem acG(T:Txt K mg t):aN P w K mg base bH 1 t.ue t.x4 ["told"] Yb:=by
 have S:=acF;refine T.y_.bN S (λ_ _ _ _ H _ _ _ hr h=>?_);intros bv7 h p d rfl hp k;refine (ad _ (ak (aJ (wc (bS (i4 (K:=K)) rfl T.iT boot_isinstance (aa (pv 0) (aa (rC (v:=.ty "tuple") rfl T.Fv boot_tuple rfl) ae))) (wc (jV dO (bS eJ rfl T.dI dJ (aa (pv 0) ae)) ah) (CA (jV dO (ao aW (pv 0) ah) dq)))))) ?_);refine (ad _ rfl (xz _ _ _ true rfl rfl (.of (.tup hp)) C3 true rfl (gj ?_)));cases d with
 | a x=>refine (gl _ rfl p _ rfl (.inr (.of hp)) rfl true rfl (gj ?_));refine (ad _ rfl (ia p _ 0 (.str x) rfl rfl (.of hp) rfl rfl ?_));rw [HE];exact k
 | b x n=>exact (gl _ rfl p _ rfl (.inr (.of hp)) rfl false rfl (cA k))
theorem acH:aZ ["told"] ["told"] (aK EB):=bf
theorem acI(T:Txt K mg t):aN P w K mg base bH 2 t.ug t.x5 ["told"] Yc:=by
 have S:=acH;obtain ⟨uG,hG,rG⟩:=T.RC;refine T.za.bN S (λ_ _ _ _ H _ _ _ hr h=>?_);intros bv7 h p d rfl hp k
 refine (ad _ (aj (bO (PW.pt (pw_or (lP (iY (bS (i4 (K:=K)) rfl T.iT boot_isinstance (aa (pv 0) (aa (rC (v:=.ty "tuple") rfl T.Fv boot_tuple rfl) ae))))) (pw_or (bG i3 (bS eJ rfl T.dI dJ (aa (pv 0) ae)) ah) (pw_or1 (bG i3 (ao aW (pv 0) ah) dq))))) (ak (aJ gv)) bQ)
  (ak (aJ (wc (ay (Sg T) hr T.Je T.u6.kp T.Jd aC (aa (ao aW (pv 0) ah) ae)) (wc (VQ GW GW ah (ao aW (pv 0) ah) (m8 (v:=.int 997) rfl hG rG)) (CA (ay (acD T) hr T.Qb T.yM.kp T.Qa aC (aa (ao aW (pv 0) ah) ae)))))))) ?_)
 refine (ad _ rfl (xz _ _ _ true rfl rfl (.of (.tup hp)) C3 true rfl (cA ?_)));cases d with
 | a x=>exact (gl _ rfl p _ rfl (.inr (.of hp)) rfl true rfl (gj (gj k)))
 | b x n=>
  refine (gl _ rfl p _ rfl (.inr (.of hp)) rfl false rfl (cA ?_));refine (SC _ rfl p _ 0 (.str x) rfl rfl (.of hp) rfl (ib rfl _ rfl (b7 (λhw=>?_) (λhw=>?_))))
  ·have hw:¬x="wheel":=by rw [HE] at hw;simpa using hw
   have e:(Td.b x n).kU=false:=by simp [Td.kU,hw]
   rw [e] at k;exact k
  ·have hw:x="wheel":=by rw [HE] at hw;simpa using hw
   refine (SC _ rfl p _ 1 (.int n) rfl rfl (.of hp) rfl (ce (.int n) rfl (.int n) true rfl (gj ?_)));refine (SC _ rfl p _ 1 (.int n) rfl rfl (.of hp) rfl (ut _ _ rfl rfl _ rfl ?_));refine b7 (λh2=>?_) (λh2=>?_)
   ·have h2:=fD h2
    refine (ut _ _ rfl rfl _ rfl (b7 (λh3=>?_) (λh3=>?_)))
    ·have h3:=fD h3
     refine (SC _ rfl p _ 1 (.int n) rfl rfl (.of hp) rfl (o0 n rfl h2 h3 ?_));have e:(Td.b x n).kU=g9 n:=by simp [Td.kU,hw,h2,h3]
     rw [e] at k;exact k
    ·have h3:¬n<=997:=λz=>h3 (cK z)
     have e:(Td.b x n).kU=false:=by simp [Td.kU,h3]
     rw [e] at k;exact k
   ·have h2:¬2<=n:=λz=>h2 (cK z)
    have e:(Td.b x n).kU=false:=by simp [Td.kU,h2]
    rw [e] at k;exact (ad false rfl (cA k))
theorem acJ:aZ ["self","told"] ["self","told"] (aK E8):=bf
theorem acK(T:Txt K mg t):aN P w K mg base (df P w) 3 t.uS t.yB ["self","told"] (Yd t.bg t.mK):=by
 have S:=acJ;refine T.Bm.dQ S (λ_ _ _ _ H _ _ _ hr h L=>?_);intros bv29 h x dx p d rfl hx hp k1 k2;refine (ad _ (ak (bO (iY (ay (acG T) hr T.QL T.y_.kp T.QK aC (aa (pv 1) ae))) (ak (ML (pv 0) kJ rfl)) (ak (bO (iY (ay (acI T) hr T.QN T.za.kp T.QM aC (aa (pv 1) ae))) (ak (ML (pv 0) (ao aW (pv 1) ah) rfl)) (ak (oO L rfl mW T.RE rfl T.Jy (aa dq ae))))))) ?_);refine (db _ rfl p d rfl hp _ rfl (b7 (λhF=>?_) (λhF=>?_)))
 ·refine (ad _ rfl (ia x t.bg dx [] rfl hx T.e8 T.jK (by show 0<1000;decide) ?_))
  have e:d.prime=.aO:=by
   cases d with
   | a x=>rfl
   | b x n=>cases hF
  have k:=k1 (by unfold Td.good;rw [hF];rfl)
  rw [e] at k;exact k
 ·have hF:d.AI=false:=by simpa using hF
  refine (db _ rfl p d rfl hp _ rfl (b7 (λhW=>?_) (λhW=>?_)))
  ·have k:=k1 (by unfold Td.good;rw [hW,Bool.or_true])
   cases d with
   | a x=>cases hW
   | b y n=>exact (ad _ rfl (xz p _ 1 (.int n) rfl rfl (.of hp) rfl _ rfl (ia x t.bg dx [] rfl hx T.e8 T.jK (by show 0<1000;decide) k)))
  ·have hW:d.kU=false:=by simpa using hW
   exact ⟨by show 1<=sizeLine;decide,k2 (by unfold Td.good;rw [hF,hW];rfl)⟩
theorem acL:aZ ["top","bottom","shared"] ["top","bottom"] (aK Er):=bf
theorem acM(T:Txt K mg t):aN P w K mg base (df P w) 2 t.tY t.xR ["top","bottom"] (Yv t.iD):=by
 have S:=acL;refine T.yY.dQ S (λ_ _ _ _ H _ _ _ hr h L=>?_);intros bv10 h a b rfl mb kE k
 refine (ad _ (aj (bO (bG dO (pv 1) ah) (ak (oO L rfl mW T.Fw rfl T.Bu (aa dq ae))) bQ)
  (fb.lR (aj (putL 2 S.nd (ay (zD T) hr T.u9 T.mL.kp T.u7 aC (aa (pv 0) (aa (pv 1) ae))))
  (aj (bO (bG oJ (pv 1) ah) (ak (putL 2 S.nd (oH oI (pv 2)))) bQ)
  (ak (aJ (fT (aa (aD C1 (pv 0) (pv 2)) (aa (aD C1 (pv 1) (pv 2)) ae))))))))) ?_)
 have n2:2<=sizeLine:=by decide
 refine (ce _ rfl rfl _ rfl (b7 (λhz=>?_) (λhz=>?_)))
 ·have hz:b=0:=V.int.inj (fD hz)
  exact ⟨by show 1<=sizeLine;decide,kE hz⟩
 have hz:b≠0:=λz=>hz (cK (by rw [z]))
 have ok:=X8 (a:=a) hz mb;have kk:=k hz;unfold nh ni at kk;refine (ad _ rfl (io _ rfl a b rfl mb (db _ rfl _ _ rfl rfl _ rfl (b7 (λhn=>?_) (λhn=>?_)))))
 ·have hn:b<0:=fD hn
  have e:lowG a b=-(Int.gcd a b:Int):=by unfold lowG;rw [aq hn,vT]
  rw [e] at ok kk;refine (u8 _ rfl _ rfl (on _ rfl _ rfl _ _ rfl rfl ok (u8 _ rfl _ rfl (sB _ _ rfl rfl ok n2 (λr hr=>kk r _ (aG hr) au)))))
 ·have hn:¬b<0:=λz=>hn (cK z)
  have e:lowG a b=(Int.gcd a b:Int):=by unfold lowG;rw [az hn]
  rw [e] at ok kk;refine (on _ rfl _ rfl _ _ rfl rfl ok (u8 _ rfl _ rfl (sB _ _ rfl rfl ok n2 (λr hr=>kk r _ (aG hr) au))))
theorem acN:aZ ["prime","number","last","last_times","now","now_times","fits","left","left_times"] ["prime","number"] (aK Ey):=bf
theorem acO(T:Txt K mg t):aN P w K mg base (df P w) 1 t.uc t.xY ["prime","number"] (Yn t.iD):=by
 have S:=acN;refine T.y8.dQ S (λ_ _ _ _ H _ _ _ hr h L=>?_);intros bv0 h q b bv25 rfl q1 q2 q3 b0 b1 kE k
 refine (ad _ (aj (bO (bG dO (pv 1) ah) (ak (oO L rfl mW T.Fw rfl T.Bu (aa dq ae))) bQ)
  (fb.lR (aj (putL 2 S.nd (pv 0))
  (aj (putL 3 S.nd ah)
  (aj (putL 4 S.nd (pv 1))
  (aj (putL 5 S.nd ah)
  (aj (Aw de (bG rK (pv 4) ah) (aj (putL 6 S.nd (aD CJ (pv 2) (pv 4)))
  (aj (putL 7 S.nd (aD pX (pv 2) (aD iq (pv 6) (pv 4))))
  (aj (putL 8 S.nd (aD pX (pv 3) (aD iq (pv 6) (pv 5))))
  (aj (putL 2 S.nd (pv 4))
  (aj (putL 3 S.nd (pv 5))
  (aj (putL 4 S.nd (pv 7))
  (ak (putL 5 S.nd (pv 8))))))))))
  (ak (aJ (aD gh (pv 5) (pv 0))))))))))) ?_)
 refine (ce _ rfl rfl _ rfl (b7 (λhz=>?_) (λhz=>?_)))
 ·have hz:b=0:=V.int.inj (fD hz)
  exact ⟨by show 1<=sizeLine;decide,kE hz⟩
 have hz:b≠0:=λz=>hz (cK (by rw [z]))
 refine (ul _ rfl _ rfl (λm σ H'=>H'=H/\∃(l lt n nt:Int) (v1 v2 v3:Option V),σ=[some (.int q),some (.int b),some (.int l),some (.int lt),some (.int n),some (.int nt),v1,v2,v3]/\m=n.toNat/\oY q b l lt n nt/\l<=997) (ad b.toNat rfl (S' q 0 b 1 none (f8 none none rfl rfl (oY.start q1 q2 q3 ⋯ b1) q2))) ?_)
 intro m σ H';intros bv6 _ rfl l lt n bv22 nt v1 v2 v3 rfl em hb hl;have p1:=hb.pos;have p2:=hb.less;refine (db _ rfl _ _ rfl rfl _ rfl (b7 (λhy=>?_) (λhy=>?_)))
 ·have hy:1<n:=fD hy
  have hs:=hb.step hy;have f0:0<=l / n:=Ct ⋯ ⋯
  have f1:l / n<=l:=Int.ediv_le_self _ ⋯
  refine (ad (λσ' H2=>H2=H'/\σ'=[some (.int q),some (.int b),some (.int n),some (.int nt),some (.int (l-l / n*n)),some (.int (lt-l / n*nt)),some (.int (l / n)),some (.int (l-l / n*n)),some (.int (lt-l / n*nt))]) ?_ ?_)
  ·rintro σ' H2 ⟨rfl,rfl⟩
   exact (bv ((l-l / n*n).toNat) (by rw [em];lia) rfl (S' _ _ _ _ _ (f8 _ _ rfl rfl hs.1 ⋯)))
  ·exact (ad _ rfl (gl _ rfl _ _ rfl rfl ⟨⋯,⋯⟩ _ rfl (on _ rfl _ rfl _ _ rfl rfl (.inr ⟨⋯,⋯⟩) (ut _ _ rfl rfl _ rfl (on _ rfl _ rfl _ _ rfl rfl (.inl ⟨⋯,⋯⟩) (bi _ _ rfl rfl (u8 _ rfl _ rfl (be _ rfl _ rfl rfl rfl))))))))
 ·have hy:¬1<n:=λz=>hy (cK z)
  have n1:n=1:=by lia
  subst n1;exact (on _ rfl _ rfl _ _ rfl rfl (show (0:Int)<q by lia) (k hz _ (gu _ ⋯) (gF _ ⋯) (hb.done q1)))
theorem acP:aZ ["prime","a","b"] ["prime","a","b"] (aK Ez):=bf
theorem Sh(T:Txt K mg t):aN P w K mg base (df P w) 2 t.ud t.xZ ["prime","a","b"] (Yp t.iD):=by
 have S:=acP;refine T.ve.dQ S (λ_ _ _ _ H _ _ _ hr h L=>?_);intros bv14 h q i j rfl q1 bv25 q2 q3 i0 i1 j0 j1 kE k;refine (ad _ (ak (aJ (aD gh (aD iq (pv 1) (ay (acO T) hr T.QJ T.y8.kp T.QI (kP L) (aa (pv 0) (aa (pv 2) ae)))) (pv 0)))) ?_)
 exact (u8 _ rfl _ rfl (ww _ rfl q (wS j rfl q1 q2 q3 j0 j1 ⟨kE,λhj r r0 r1 lD=>(f8 _ _ rfl rfl (.inl ⟨⋯,⋯⟩) (sK _ rfl _ _ rfl rfl (show (0:Int)<q by lia) (k hj _ (gu _ ⋯) (gF _ ⋯) (Ys q1 i0 i1 lD))))⟩)))
theorem acQ:aZ ["self","top","bottom"] ["self","top","bottom"] (aK lA):=bf
theorem Bw(T:Txt K mg t):aN P w K mg base (df P w) 3 t.pB t.Bi ["self","top","bottom"] (Yw t.bg t.iD):=by
 have S:=acQ;refine T.Rl.CU S (λvs H Q E h=>?_) (λbh A outer s H vs Q E hr h L=>?_)
 ·intros bv0 h z q bv3 a b rfl _
  rfl
 ·obtain ⟨z,q,a,b,rfl,⟨dx,hx⟩,hq,mb,kE,k⟩:=h
  refine (ad _ (aj (bO (bG rM (l7 (pv 0) rfl) kJ) (ak (aJ (ay (acM T) hr T.Qz T.yY.kp T.Qy (kP L) (aa (pv 1) (aa (pv 2) ae))))) bQ)
   (ak (aJ (ay (Sh T) hr T.Jo T.ve.kp T.Jn (kP L) (aa (l7 (pv 0) rfl) (aa (aD gh (pv 1) (l7 (pv 0) rfl)) (aa (aD gh (pv 2) (l7 (pv 0) rfl)) ae))))))) ?_)
  refine (ww _ rfl z (ia t.bg dx _ _ rfl hx T.e8 T.jK (me _) (ib rfl _ rfl ?_)));rcases hq with rfl | ⟨q2,q3,q4⟩
  ·rw [aq rfl]
   refine gj (on _ rfl _ rfl a b rfl mb (λhb=>kE (by unfold nj;rw [aq rfl];exact hb)) (λhb r H' s' er=>k (λhn=>hb (by unfold nj at hn;rw [aq rfl] at hn;exact hn)) _ H' s' (.inl (ib rfl r rfl er))))
  ·have hq:q≠0:=by lia
   rw [az hq] at hx ⊢;have p0:(0:Int)<q:=by lia
   refine cA (ww _ rfl z (gt t.bg dx _ _ rfl hx T.e8 T.jK (ib (me _) _ rfl (ww _ rfl z (ia t.bg dx _ _ rfl hx T.e8 T.jK (me _) (bi _ _ rfl rfl (ib p0 _ rfl (ww _ rfl z (ia t.bg dx _ _ rfl hx T.e8 T.jK (me _) (f8 _ _ rfl rfl p0 ?_))))))))));have nv:nj q b↔b % q=0:=by unfold nj;rw [az hq]
   exact ⟨q,a % q,b % q,rfl,q2,q3,q4,gu _ hq,gF _ p0,gu _ hq,gF _ p0,λhj=>kE (nv.mpr hj),λhj r r0 r1 lD=>k (λz=>hj (nv.mp z)) _ H (af.refl H) (.inr ⟨q2,r,rfl,r0,r1,lD⟩)⟩
theorem acR:aZ ["a","b","shared","top","again"] ["a","b"] (aK Es):=bf
theorem acS(T:Txt K mg t):aN P w K mg base bH 2 t.tZ t.xS ["a","b"] Yj:=by
 have S:=acR;refine T.yZ.bN S (λ_ _ _ _ H _ _ _ hr h=>?_);intros bv28 h p q x m y n rfl hp bv25 hq la lb bx bm ja bn k
 refine (ad _ (aj (putL 2 S.nd (ay (zD T) hr T.u9 T.mL.kp T.u7 aC (aa (ao aW (pv 0) ah) (aa (ao aW (pv 1) ah) ae))))
  (aj (bO (bG dO (pv 2) ah) (ak (aJ (fT (aa (aD gg (aD iw (ao aW (pv 0) ah) (ao aW (pv 1) ah)) (aD iw (ao aW (pv 1) ah) (ao aW (pv 0) ah))) (aa (aD iw (ao aW (pv 0) ah) (ao aW (pv 1) ah)) ae))))) bQ)
  (aj (putL 3 S.nd (aD gg (aD iw (ao aW (pv 0) ah) (aD ma (ao aW (pv 1) ah) (pv 2))) (aD iw (ao aW (pv 1) ah) (aD ma (ao aW (pv 0) ah) (pv 2)))))
  (aj (putL 4 S.nd (ay (zD T) hr T.u9 T.mL.kp T.u7 aC (aa (pv 3) (aa (pv 2) ae))))
  (ak (aJ (fT (aa (aD ma (pv 3) (pv 4)) (aa (aD iw (aD ma (ao aW (pv 0) ah) (pv 2)) (aD ma (ao aW (pv 1) ah) (pv 4))) ae))))))))) ?_)
 have n2:2<=sizeLine:=by decide
 have m0:=la.pos;have n0:=lb.pos;refine (SC _ rfl p _ _ _ rfl rfl (.of hp) rfl (SC _ rfl q _ _ _ rfl rfl (.of hq) rfl (bi m n rfl bn.mid ?_)));have gp:(0:Int)<(Int.gcd m n:Int):=C7 ⋯
 have gb:cn (Int.gcd m n:Int):=bn.gcd ⋯
 refine (ce _ rfl rfl _ rfl (b7 (λe=>?_) (λ_=>?_)))
 ·have e:Int.gcd m n=1:=by have z:=fD e;have z:=V.int.inj z;lia
  exact (SC _ rfl p _ _ _ rfl rfl (.of hp) rfl (SC _ rfl q _ _ _ rfl rfl (.of hq) rfl (f8 _ _ rfl rfl ⟨bx.mid,bn.mid⟩ (SC _ rfl q _ _ _ rfl rfl (.of hq) rfl (SC _ rfl p _ _ _ rfl rfl (.of hp) rfl (f8 _ _ rfl rfl ⟨ja.mid,bm.mid⟩ (bi _ _ rfl rfl (SC _ rfl p _ _ _ rfl rfl (.of hp) rfl (SC _ rfl q _ _ _ rfl rfl (.of hq) rfl (sB _ _ rfl rfl ⟨bm.mid,bn.mid⟩ n2 (λr hr=>k r _ _ _ (aG hr) au (Yf la lb e) rfl)))))))))))
 refine (SC _ rfl p _ _ _ rfl rfl (.of hp) rfl (SC _ rfl q _ _ _ rfl rfl (.of hq) rfl (sK _ rfl _ _ rfl rfl ⟨gp,gb.mid⟩ (f8 _ _ rfl rfl ⟨bx.mid,bn.over.mid⟩ (SC _ rfl q _ _ _ rfl rfl (.of hq) rfl (SC _ rfl p _ _ _ rfl rfl (.of hp) rfl (sK _ rfl _ _ rfl rfl ⟨gp,gb.mid⟩ (f8 _ _ rfl rfl ⟨ja.mid,bm.over.mid⟩ (bi _ _ rfl rfl ?_)))))))))
 refine (ad _ rfl (io _ rfl _ _ rfl gb.mid ?_));have ap:(0:Int)<(Int.gcd (x*(n / (Int.gcd m n:Int))+y*(m / (Int.gcd m n:Int))) (Int.gcd m n:Int):Int):=C7 ⋯
 have ab:cn (Int.gcd (x*(n / (Int.gcd m n:Int))+y*(m / (Int.gcd m n:Int))) (Int.gcd m n:Int):Int):=gb.gcd ⋯
 have z:=Yg la lb _ _ rfl _ rfl rfl
 exact (on _ rfl _ rfl _ _ rfl rfl ⟨ap,ab.mid⟩ (SC _ rfl p _ _ _ rfl rfl (.of hp) rfl (sK _ rfl _ _ rfl rfl ⟨gp,gb.mid⟩ (SC _ rfl q _ _ _ rfl rfl (.of hq) rfl (sK _ rfl _ _ rfl rfl ⟨ap,ab.mid⟩ (sB _ _ rfl rfl ⟨bm.over.mid,bn.over.mid⟩ n2 (λr hr=>k r _ _ _ (aG hr) au z.1 z.2)))))))
theorem acT:aZ ["a","b"] ["a","b"] (aK Et):=bf
theorem acU(T:Txt K mg t):aN P w K mg base bH 3 t.t8 t.xT ["a","b"] Yk:=by
 have S:=acT;refine T.y4.bN S (λ_ _ _ _ H _ _ _ hr h=>?_);intros bv28 h p q x m y n rfl hp bv25 hq la lb bx bm ja bn k;refine (ad _ (ak (aJ (ay (acS T) hr T.QB T.yZ.kp T.QA aC (aa (pv 0) (aa (fT (aa (oH oI (ao aW (pv 1) ah)) (aa (ao aW (pv 1) ah) ae))) ae))))) ?_)
 exact (ad _ rfl (SC _ rfl q _ _ _ rfl rfl (.of hq) rfl (u8 _ rfl _ rfl (ia q _ _ _ rfl rfl (.of hq) rfl (by show 2<=sizeLine;decide) (λr hr=>(S' p r x m (-y) (Rs n rfl (aG hr _ _ hp) au la lb.neg bx bm ja.neg bn (λr' H' u d s' e l z=>k r' H' u d ((aG hr).trans s') e l (by rw [z,q5,Int.sub_eq_add_neg])))))))))
theorem acV:aZ ["a","b","first","second"] ["a","b"] (aK Eu):=bf
theorem JG(T:Txt K mg t):aN P w K mg base bH 2 t.t_ t.xV ["a","b"] Yl:=by
 have S:=acV;refine T.qB.bN S (λ_ _ _ _ H _ _ _ hr h=>?_);intros bv28 h p q x m y n rfl hp bv25 hq la lb bx bm ja bn k
 refine (ad _ (aj (putL 2 S.nd (ay (zD T) hr T.u9 T.mL.kp T.u7 aC (aa (ao aW (pv 0) ah) (aa (ao aW (pv 1) ah) ae))))
  (aj (putL 3 S.nd (ay (zD T) hr T.u9 T.mL.kp T.u7 aC (aa (ao aW (pv 1) ah) (aa (ao aW (pv 0) ah) ae))))
  (ak (aJ (fT (aa (aD iw (aD ma (ao aW (pv 0) ah) (pv 2)) (aD ma (ao aW (pv 1) ah) (pv 3))) (aa (aD iw (aD ma (ao aW (pv 0) ah) (pv 3)) (aD ma (ao aW (pv 1) ah) (pv 2))) ae))))))) ?_)
 have n2:2<=sizeLine:=by decide
 have m0:=la.pos;have n0:=lb.pos;have gp:(0:Int)<(Int.gcd x n:Int):=C7 ⋯
 have gb:cn (Int.gcd x n:Int):=bn.gcd ⋯
 have ap:(0:Int)<(Int.gcd y m:Int):=C7 ⋯
 have ab:cn (Int.gcd y m:Int):=bm.gcd ⋯
 refine (SC _ rfl p _ _ _ rfl rfl (.of hp) rfl (SC _ rfl q _ _ _ rfl rfl (.of hq) rfl (bi x n rfl bn.mid ?_)));refine (SC _ rfl q _ _ _ rfl rfl (.of hq) rfl (SC _ rfl p _ _ _ rfl rfl (.of hp) rfl (bi y m rfl bm.mid ?_)));have z:=Ye la lb
 exact (SC _ rfl p _ _ _ rfl rfl (.of hp) rfl (sK _ rfl _ _ rfl rfl ⟨gp,gb.mid⟩ (SC _ rfl q _ _ _ rfl rfl (.of hq) rfl (sK _ rfl _ _ rfl rfl ⟨ap,ab.mid⟩ (f8 _ _ rfl rfl ⟨bx.over.mid,ja.over.mid⟩ (SC _ rfl p _ _ _ rfl rfl (.of hp) rfl (sK _ rfl _ _ rfl rfl ⟨ap,ab.mid⟩ (SC _ rfl q _ _ _ rfl rfl (.of hq) rfl (sK _ rfl _ _ rfl rfl ⟨gp,gb.mid⟩ (sB _ _ rfl rfl ⟨bm.over.mid,bn.over.mid⟩ n2 (λr hr=>k r _ _ _ (aG hr) au z.1 z.2)))))))))))
theorem acW:aZ ["a","b"] ["a","b"] (aK Ew):=bf
theorem acX(T:Txt K mg t):aN P w K mg base (df P w) 3 t.ua t.xW ["a","b"] (Yo t.iD):=by
 have S:=acW;refine T.y6.dQ S (λ_ _ _ _ H _ _ _ hr h L=>?_);intros bv18 h p q x m y n bv34 rfl hp hq la lb bx bm ja bn kE k
 refine (ad _ (aj (bO (bG dO (ao aW (pv 1) ah) ah) (ak (oO L rfl mW T.Fw rfl T.Bu (aa dq ae))) bQ)
  (fb.lR (aj (bO (bG oJ (ao aW (pv 1) ah) ah) (ak (aJ (ay (JG T) hr T.Fi T.qB.kp T.Fh aC (aa (pv 0) (aa (fT (aa (oH oI (ao aW (pv 1) ah)) (aa (oH oI (ao aW (pv 1) ah)) ae))) ae))))) bQ)
  (ak (aJ (ay (JG T) hr T.Fi T.qB.kp T.Fh aC (aa (pv 0) (aa (fT (aa (ao aW (pv 1) ah) (aa (ao aW (pv 1) ah) ae))) ae)))))))) ?_)
 have n2:2<=sizeLine:=by decide
 refine (SC _ rfl q _ _ _ rfl rfl (.of hq) rfl (ib rfl _ rfl (b7 (λhz=>?_) (λhz=>?_))))
 ·have hz:y=0:=V.int.inj (fD hz)
  exact ⟨by show 1<=sizeLine;decide,kE hz⟩
 have hz:y≠0:=λz=>hz (cK (by rw [z]))
 refine (SC _ rfl q _ _ _ rfl rfl (.of hq) rfl (ut _ _ rfl rfl _ rfl (b7 (λhn=>?_) (λhn=>?_))))
 ·have hn:y<0:=fD hn
  exact (u8 _ rfl _ rfl (xz q _ _ _ rfl rfl (.of hq) rfl _ rfl (SC _ rfl q _ _ _ rfl rfl (.of hq) rfl (bv _ rfl n2 (λr hr=>(S' p r x m (-n) (Rs (-y) rfl (aG hr _ _ hp) au la (Yr lb hn) bx bm bn.neg ja.neg (λr' H' u d s' e l z=>k hz r' H' u d ((aG hr).trans s') e l (by rw [kC,kC,kC,q5] at z;omega)))))))))
 ·have hn:¬y<0:=λz=>hn (cK z)
  exact (u8 _ rfl _ rfl (xz q _ _ _ rfl rfl (.of hq) rfl _ rfl (ia q _ _ _ rfl rfl (.of hq) rfl n2 (λr hr=>(S' p r x m n (Rs y rfl (aG hr _ _ hp) au la (Yq lb ⋯) bx bm bn ja (λr' H' u d s' e l z=>k hz r' H' u d ((aG hr).trans s') e l z)))))))
theorem acY:aZ ["self","a","b"] ["self","a","b"] (aK E9):=bf
theorem acZ(T:Txt K mg t):aN P w K mg base bH 4 t.uV t.yC ["self","a","b"] (sj t.bg (λx m y n=>x*n-y*m) (λi j=>i-j)):=by
 have S:=acY;refine T.Bp.bN S (λ_ _ _ _ H _ _ _ hr h=>?_);intros bv16 h z q v u rfl q'56 hc;obtain ⟨dx,hx⟩:=q'56
 refine (ad _ (aj (bO (bG rM (l7 (pv 0) rfl) kJ) (ak (aJ (ay (acU T) hr T.QD T.y4.kp T.QC aC (aa (pv 1) (aa (pv 2) ae))))) bQ)
  (ak (aJ (aD gh (aD pX (pv 1) (pv 2)) (l7 (pv 0) rfl))))) ?_)
 refine (ww _ rfl z (ia t.bg dx _ _ rfl hx T.e8 T.jK (me _) (ib rfl _ rfl ?_)));rcases hc with ⟨rfl,p,r,x,m,y,n,rfl,rfl,h1⟩ | ⟨q2,i,j,rfl,rfl,i0,i1,k⟩
 ·rw [aq rfl]
  exact gj (u8 _ rfl _ rfl (S' p r x m y (ad n rfl h1)))
 ·have hq:q≠0:=by lia
  rw [az hq] at hx ⊢;exact cA (ad _ rfl (io _ rfl _ _ rfl rfl (ww _ rfl z (ia t.bg dx _ _ rfl hx T.e8 T.jK (me _) (f8 _ _ rfl rfl (show (0:Int)<q by lia) k)))))
theorem ac0:aZ ["self","a","b"] ["self","a","b"] (aK E_):=bf
theorem ac1(T:Txt K mg t):aN P w K mg base bH 4 t.uW t.yE ["self","a","b"] (sj t.bg (λx m y n=>x*y) (λi j=>i*j)):=by
 have S:=ac0;refine T.Bq.bN S (λ_ _ _ _ H _ _ _ hr h=>?_);intros bv16 h z q v u rfl q'57 hc;obtain ⟨dx,hx⟩:=q'57
 refine (ad _ (aj (bO (bG rM (l7 (pv 0) rfl) kJ) (ak (aJ (ay (JG T) hr T.Fi T.qB.kp T.Fh aC (aa (pv 1) (aa (pv 2) ae))))) bQ)
  (ak (aJ (aD gh (aD iq (pv 1) (pv 2)) (l7 (pv 0) rfl))))) ?_)
 refine (ww _ rfl z (ia t.bg dx _ _ rfl hx T.e8 T.jK (me _) (ib rfl _ rfl ?_)));rcases hc with ⟨rfl,p,r,x,m,y,n,rfl,rfl,h1⟩ | ⟨q2,i,j,rfl,rfl,i0,i1,k⟩
 ·rw [aq rfl]
  exact gj (u8 _ rfl _ rfl (S' p r x m y (ad n rfl h1)))
 ·have hq:q≠0:=by lia
  rw [az hq] at hx ⊢;exact cA (on _ rfl _ rfl _ _ rfl rfl (.inl ⟨⋯,⋯⟩) (ww _ rfl z (ia t.bg dx _ _ rfl hx T.e8 T.jK (me _) (f8 _ _ rfl rfl (show (0:Int)<q by lia) k))))
theorem ac2:aZ ["self","a","b"] ["self","a","b"] (aK Fb):=bf
theorem ac3(T:Txt K mg t):aN P w K mg base (df P w) 4 t.uX t.yF ["self","a","b"] (HG t.bg t.iD):=by
 have S:=ac2;refine T.Br.dQ S (λ_ _ _ _ H _ _ _ hr h L=>?_);intros bv16 h z q v u rfl q'58 hc;obtain ⟨dx,hx⟩:=q'58
 refine (ad _ (aj (bO (bG rM (l7 (pv 0) rfl) kJ) (ak (aJ (ay (acX T) hr T.QF T.y6.kp T.QE (kP L) (aa (pv 1) (aa (pv 2) ae))))) bQ)
  (ak (aJ (ay (Sh T) hr T.Jo T.ve.kp T.Jn (kP L) (aa (l7 (pv 0) rfl) (aa (pv 1) (aa (pv 2) ae))))))) ?_)
 refine (ww _ rfl z (ia t.bg dx _ _ rfl hx T.e8 T.jK (me _) (ib rfl _ rfl ?_)));rcases hc with ⟨rfl,p,r,x,m,y,n,rfl,rfl,h1⟩ | ⟨q2,i,j,rfl,rfl,h1⟩
 ·rw [aq rfl]
  exact gj (u8 _ rfl _ rfl (S' p r x m y (ad n rfl h1)))
 ·have hq:q≠0:=by lia
  rw [az hq] at hx ⊢;exact cA (ww _ rfl z (ia t.bg dx _ _ rfl hx T.e8 T.jK (me _) (ww _ rfl _ (wE rfl q i j rfl q2 h1))))
theorem ac4:aZ ["world","work","place","others","head","i","row","j"] ["world","work","place","others"] (aK Eh):=bf
theorem ac5(T:Txt K mg t):aN P w K mg base bH 5 t.tQ t.xI ["world","work","place","others"] (aas t.bg):=by
 have S:=ac4;have ac6:=ac3 (P:=P) (w:=w) (base:=base) T;have ac7:=acZ (P:=P) (w:=w) (base:=base) T;have ac8:=ac1 (P:=P) (w:=w) (base:=base) T;refine T.yT.bN S (λ_ A _ _ H _ _ _ hr h=>?_);intros bvE h z bv30 a b q n X p rs vf bv32 ms Tw U T' U' rfl hw hq hW eb bv34 bz pn JH nd Bx X1 A8 hF hB gQ kk
 refine (ad _ (aj (putL 4 S.nd (ao bw (pv 1) (pv 2)))
  (ak (eG de rfl (dN (pv 3)) (b_ (i:=5) S.nd rfl (Or.inl rfl))
   (aj (putL 6 S.nd (ao bw (pv 1) (pv 5)))
  (aj (@il _ _ _ _ _ _ (l9 (pv 0) T.e8 T.Fs ac6 (hr.mono ∅) T.Rp .nil j6 (aa (ao bw (pv 6) (pv 2)) (aa (ao bw (pv 4) (pv 2)) ae))) (jk (pv 6) (pv 2) set_list) (by rfl) (by rfl) (by rfl))
  (ak (eG de rfl (dN (pv 3)) (b_ (i:=7) S.nd rfl (Or.inl rfl))
   (ak (@il _ _ _ _ _ _ (l9 (pv 0) T.e8 T.Fp ac7 (hr.mono ∅) T.Rn .nil aC (aa (ao bw (pv 6) (pv 7)) (aa (l9 (pv 0) T.e8 T.Fq ac8 (hr.mono ∅) T.Ro .nil aC (aa (ao bw (pv 6) (pv 2)) (aa (ao bw (pv 4) (pv 7)) ae))) ae))) (jk (pv 6) (pv 7) set_list) (by rfl) (by rfl) (by rfl)))))))))) ?_)
 obtain ⟨dz,hz⟩:=id hw;have zr:∀{Hx:Hp},gA n rs H Hx->cP t.bg Hx z q:=fun{Hx} o=>⟨dz,o z _ (λi hi=>(bz i hi).2) hz⟩;have br:∀{Hx:Hp},gA n rs H Hx->Hx b=some (.lst (bW ms)):=fun{Hx} o=>o b _ (λi hi=>(bz i hi).1) eb;have By:X<=10 ^ 300:=aM A8 (by decide +kernel)
 have XX:X*X<=10 ^ 300:=aM (fQ A8 A8) (by decide +kernel)
 refine ax λ_ hR=>aP (ad _ rfl (SC _ rfl a _ _ _ rfl rfl (.of hW.lst) (cg pn) (hR _ _ ?_)));refine (be _ rfl b rfl ⟨_,.of eb⟩ ?_);refine lX (K:=K) (a:=b) (xs:=bW ms) (λk σ Hc=>∃(jD:Nat->Nat->V) (v5 v6 v7:Option V),σ=[some (.ref z),some (.ref a),some (.int (p:Int)),some (.ref b),some (.ref (rs p)),v5,v6,v7]/\gA n rs H Hc/\WTab Hc a n rs jD/\dR X Hc q n jD (kj (λi _=>decide (i∈ms.take k)) Tw T') (kj (λi _=>decide (i∈ms.take k)) U U')) ⟨vf,_,_,_,rfl,gA.refl _ _ _,hW,hF.to λi j _ _=>⟨eV (by simp),eV (by simp)⟩⟩ (λk σ Hc _ ⟨_,_,_,_,_,oc,_⟩=>.of (br oc)) ?_ ?_
 ·intro k x σ Hc hx;intros bv22 _ jD v5 v6 v7 rfl oc Wc Fc
  have q'59:=int_at hx;intros bv2 q'59 i hi rfl;have im:=kA hi;obtain ⟨dS,ip⟩:=JH i im;have ik:=OQ nd hi;have pk:p∉ms.take k:=λz=>(JH p (List.mem_of_mem_take z)).2 rfl;have fi:decide (i∈ms.take k)=false:=cZ ik;have fp:decide (p∈ms.take k)=false:=cZ pk;dsimp only [ck];refine ax λ_ hR=>aP (ad _ rfl (SC _ rfl a _ _ _ rfl rfl (.of Wc.lst) (cg dS) (hR _ _ ?_)));have vp:=Fc i p dS pn;have JI:=Fc p p pn pn;rw [eV fi,eV fi] at vp;rw [eV fp,eV fp] at JI;obtain ⟨Fx,Fy⟩:=zr oc;refine ax λ_ hR=>aP (tz _ rfl z Fx _ rfl Fy (mf (by decide +kernel)) (u8 _ rfl _ rfl (xz (rs i) _ _ _ rfl rfl (.of (Wc.at' i dS)) (cg pn) _ rfl (SC _ rfl (rs p) _ _ _ rfl rfl (.of (Wc.at' p pn)) (cg pn) ?_))))
  dsimp only [pY];show HG t.bg t.iD [.ref z,jD i p,jD p p] _ _ _;refine aar (Y':=(Tw i p*U p p).natAbs+(U i p*Tw p p).natAbs) (zr oc) hq vp JI By By gQ.sC ⋯ ⋯ λv' H1 s1 w1=>?_
  have W1:=Wc.mono s1;have w1:=(w1.eq hq (gQ.low i im) (gQ.nz i p dS pn)).bd (gQ.bt i p dS pn).1 (gQ.bt i p dS pn).2;refine (ad _ rfl (SC _ rfl (rs i) _ _ p rfl rfl (W1.at' i dS) (by rw [aR,cy];exact jC pn) (hR _ _ ?_)))
  have W2:=W1.put (j:=p) v' dS;have Fz:gA n rs H (upd H1 (rs i) (.lst (((List.range n).map (jD i)).set p v'))):=(oc.same s1).put dS;have F2:dR X (upd H1 (rs i) (.lst (((List.range n).map (jD i)).set p v'))) q n (iB jD i p v') (kj (λi' j'=>decide (i'∈ms.take k) || (decide (i'=i) && (decide (j'=p) || decide (j'∈ms.take 0)))) Tw T') (kj (λi' j'=>decide (i'∈ms.take k) || (decide (i'=i) && (decide (j'=p) || decide (j'∈ms.take 0)))) U U'):=Fc.put (λv t u h=>(h.mono s1).put (W1.at' i dS)) (by rw [gr (by simp),gr (by simp)];exact w1.put (W1.at' i dS)) λi' j' _ _ ne=>by
   by_cases h1:i'∈ms.take k
   ·rw [gr (by simp [h1]),gr (by simp [h1]),gr (by simp [h1]),gr (by simp [h1])]
    exact ⟨rfl,rfl⟩
   ·by_cases h2:i'=i
    ·have h3:j'≠p:=λz=>ne ⟨h2,z⟩
     rw [eV (by simp [h1,h3]),eV (by simp [h1]),eV (by simp [h1,h3]),eV (by simp [h1])]
     exact ⟨rfl,rfl⟩
    ·rw [eV (by simp [h1,h2]),eV (by simp [h1]),eV (by simp [h1,h2]),eV (by simp [h1])]
     exact ⟨rfl,rfl⟩
  generalize upd H1 (rs i) (.lst (((List.range n).map (jD i)).set p v'))=H2 at W2 Fz F2 ⊢;refine (be _ rfl b rfl ⟨_,.of (br Fz)⟩ ?_);refine lX (K:=K) (a:=b) (xs:=bW ms) (λl σ Hd=>∃(qI:Nat->Nat->V) (v7:Option V),σ=[some (.ref z),some (.ref a),some (.int (p:Int)),some (.ref b),some (.ref (rs p)),some (.int (i:Int)),some (.ref (rs i)),v7]/\gA n rs H Hd/\WTab Hd a n rs qI/\dR X Hd q n qI (kj (λi' j'=>decide (i'∈ms.take k) || (decide (i'=i) && (decide (j'=p) || decide (j'∈ms.take l)))) Tw T') (kj (λi' j'=>decide (i'∈ms.take k) || (decide (i'=i) && (decide (j'=p) || decide (j'∈ms.take l)))) U U')) (f8 _ _ rfl Fz W2 F2) (λl σ Hd _ ⟨_,_,_,od,_⟩=>.of (br od)) ?_ ?_
  ·clear F2 W2 Fz w1 W1 vp JI Fc Wc oc
   intro l x σ Hd hx;intros bv10 _ qI v7 rfl od Wd Fd;have q'60:=int_at hx;intros bv2 q'60 j hj rfl;have jm:=kA hj;obtain ⟨km,jp⟩:=JH j jm;have jl:=OQ nd hj;have JJ:=Fd i j dS km;have vp:=Fd i p dS pn;have JK:=Fd p j pn km;rw [eV (by simp [ik,jp,jl]),eV (by simp [ik,jp,jl])] at JJ
   rw [gr (by simp),gr (by simp)] at vp
   rw [eV (by simp [pk,Ne.symm ip]),eV (by simp [pk,Ne.symm ip])] at JK
   obtain ⟨Fx,Fy⟩:=zr od;dsimp only [ck];refine aP (tz _ rfl z Fx _ rfl Fy (mf (by decide +kernel)) (ad _ rfl (SC _ rfl (rs i) _ _ _ rfl rfl (.of (Wd.at' i dS)) (cg km) (tz _ rfl z Fx _ rfl Fy (mf (by decide +kernel)) (u8 _ rfl _ rfl (xz (rs i) _ _ _ rfl rfl (.of (Wd.at' i dS)) (cg pn) _ rfl (SC _ rfl (rs p) _ _ _ rfl rfl (.of (Wd.at' p pn)) (cg km) ?_)))))))
   have Bz:=vp.choose_spec.choose_spec.2.2;have BA:=JK.choose_spec.choose_spec.2.2;have nz3:=JJ.choose_spec.choose_spec.2.2;dsimp only [pY];show sj t.bg (λx m y n=>x*y) (λi j=>i*j) [.ref z,qI i p,qI p j] _ _ _;refine aaq (Y':=(T' i p*Tw p j).natAbs+(U' i p*U p j).natAbs) (zr od) hq vp JK By By (hE hq Bz BA) ⋯ ⋯ λv1 H1 s1 w1=>?_
   have w1:aQ (X*X) H1 q v1 (T' i p*Tw p j) (U' i p*U p j):=w1.bd (by rw [cS];exact fQ (gQ.bt i p dS pn).1 (hB p j pn km).1) (by rw [cS];exact fQ (gQ.bt i p dS pn).2 (hB p j pn km).2)
   show sj t.bg (λx m y n=>x*n-y*m) (λi j=>i-j) [.ref z,qI i j,v1] _ _ _;refine aap (Y':=(Tw i j*(U' i p*U p j)-T' i p*Tw p j*U i j).natAbs+(U i j*(U' i p*U p j)).natAbs) (zr (od.same s1)) hq (JJ.mono s1) w1 By XX (hE hq nz3 (hE hq Bz BA)) ⋯ ⋯ λv2 H2 s2 w2=>?_
   have W1:=Wd.mono (s1.trans s2);have w2:=(w2.eq hq (gQ.ent i im j jm) (gQ.nz i j dS km)).bd (gQ.bt i j dS km).1 (gQ.bt i j dS km).2;refine (ad _ rfl (SC _ rfl (rs i) _ _ j rfl rfl (W1.at' i dS) (by rw [aR,cy];exact jC km) ?_))
   refine (f8 _ _ rfl ((od.same (s1.trans s2)).put dS) (W1.put (j:=j) v2 dS) (Fd.put (λv t u h=>(h.mono (s1.trans s2)).put (W1.at' i dS)) (by rw [gr (by simp [take_snoc hj]),gr (by simp [take_snoc hj])];exact w2.put (W1.at' i dS)) λi' j' _ _ ne=>?_))
   have ej:(λi' j'=>decide (i'∈ms.take k) || (decide (i'=i) && (decide (j'=p) || decide (j'∈ms.take (l+1))))) i' j'=(λi' j'=>decide (i'∈ms.take k) || (decide (i'=i) && (decide (j'=p) || decide (j'∈ms.take l)))) i' j':=by
    dsimp only;by_cases h2:i'=i
    ·have h3:j'≠j:=λz=>ne ⟨h2,z⟩
     rw [take_snoc hj];simp [h3]
    ·simp [h2]
   constructor <;> (unfold kj;rw [ej])
  ·intro σ Hd;intros bv10 _ qI v7 rfl od Wd Fd
   refine (Exists.intro qI (re _ _ _ rfl od Wd (Fd.OR hq λi' j' b9 cB=>?_)));have ll:(bW ms).length=ms.length:=aR _;rw [ll,vV,take_snoc hi];by_cases h1:i'∈ms.take k
   ·refine .inl ?_
    rw [gr (by simp [h1]),gr (by simp [h1]),gr (by simp [h1]),gr (by simp [h1])]
    exact ⟨rfl,rfl⟩
   ·by_cases h2:i'=i
    ·subst h2
     by_cases h3:j'=p\/j'∈ms
     ·refine .inl ?_
      rw [gr (by simp),gr (by simpa [h1] using h3),gr (by simp),gr (by simpa [h1] using h3)]
      exact ⟨rfl,rfl⟩
     ·rw [not_or] at h3
      refine .inr ?_;have a1:∀A A':Nat->Nat->Int,kj (λi _=>decide (i∈ms.take k++[i'])) A A' i' j'=A' i' j':=λA A'=>gr (by simp)
      have a2:∀A A':Nat->Nat->Int,kj (λSi Sj=>decide (Si∈ms.take k) || (decide (Si=i') && (decide (Sj=p) || decide (Sj∈ms)))) A A' i' j'=A i' j':=λA A'=>eV (by simp [h1,h3.1,h3.2])
      rw [a1,a1,a2,a2];exact ⟨gQ.OP i' j' b9 cB (.inr h3),gQ.nz i' j' b9 cB,gQ.bt i' j' b9 cB⟩
    ·refine .inl ?_
     rw [eV (by simp [h1,h2]),eV (by simp [h1,h2]),eV (by simp [h1,h2]),eV (by simp [h1,h2])]
     exact ⟨rfl,rfl⟩
 ·intro σ Hc;intros bv22 _ jD v5 v6 v7 rfl oc Wc Fc
  have ll:(bW ms).length=ms.length:=aR _;rw [ll,vV] at Fc;refine kk Hc jD oc Wc (Fc.OR hq λi' j' b9 cB=>?_);by_cases h1:i'∈ms
  ·refine .inl ?_
   rw [gr (by simp [h1]),gr (by simp [h1])]
   exact ⟨rfl,rfl⟩
  ·refine .inr ?_
   rw [eV (by simp [h1]),eV (by simp [h1])]
   exact ⟨gQ.OP i' j' b9 cB (.inl h1),gQ.nz i' j' b9 cB,gQ.bt i' j' b9 cB⟩
theorem Sk:aZ ["table","wide"] ["table"] (aK DU):=bf
theorem JL(T:Txt K mg t):aN P w K mg base (df P w) 1 t.qt t.sR ["table"] (Zn t.bV):=by
 have S:=Sk;refine T.nN.dQ S (λ_ _ _ _ H vs _ _ hr h L=>?_);intros bv32 h a q B ag m rfl q'61 h1 lE hm k;intros bv4 q'61 vs ea hl hn
 refine (ad _ (aj (bO (bG dO (bS eJ rfl T.dI dJ (aa (pv 0) ae)) ah) (ak (aJ ah)) bQ)
  (aj (oX 1 S.nd (bS eJ rfl T.dI dJ (aa (ao bw (pv 0) ah) ae)))
  (aj (bO (iY (bS (NP (K:=K) rfl) rfl T.JB boot_any (aa (fH (N:=["row","wide"]) (ρ:=(λσ=>[σ[1]?.join])) (du [1] rfl) rfl (dN (pv 0)) (λ_ _ _=>.nil) (λ_ _ _=>(jV i3 (bS (HQ (K:=K)) rfl T.dI dJ (aa (pv 0) ae)) (pv 1)))) ae))) (ak (oO L rfl mW T.zC rfl T.zB (aa dq ae))) bQ)
  (ak (aJ (pv 1)))))) ?_)
 have h0:0<vs.length:=by lia
 refine (gl _ rfl a vs rfl (.inl (.of ea)) rfl false (by rw [i5,cZ ⋯]) (cA ?_))
 have hp0:0<ag.length:=by lia
 have q'62:=(hn 0 vs[0] ag[0] (by simp [h0]) (by simp [hp0]));intros bv15 q'62 r er us eu lu _
 have hm0:=hm ag[0] (f9 ..);refine (SC _ rfl a vs _ (vs[0]) rfl rfl (.of ea) (by exact kM (j:=0) (by simp [h0])) (bi r us (by rw [er]) (.inl (.of eu)) ?_))
 have em:(us.length:Int)=(m:Int):=by lia
 rw [em];dsimp only [ck];have ada:∀(i:Nat) (v:V),vs[i]?=some v->∃(r:Addr) (us:List V),v=.ref r/\H r=some (.lst us)/\us.length=m:=λi v e=>by
  have b9:i<ag.length:=by rw [<-hl];exact (bK.mp e).1
  obtain ⟨r,e1,us,e2,e3,_⟩:=hn i v ag[i] e (by simp [b9])
  exact (bi r us e1 e2 (by rw [e3];exact hm _ (f9 ..)))
 refine oZ (Y4 (Y5 (AU (HJ (xs:=vs) (λR h=>(be _ rfl a rfl ⟨_,.of ea⟩ (h _ _ (af.refl _) (iz (.of ea))))) (by rw [hl];exact cH ⋯) (λ_ i y _=>y=.bl false) (λ_ _ _ _ _ _ h _ _=>h) ?_ ?_))))
 ·intro D i v hi Hc R sc _ kc
  obtain ⟨r',Sl,rfl,e2,e3⟩:=ada i v hi;refine (io _ rfl r' Sl rfl (.inl (.of (sc _ _ e2))) (bv _ rfl rfl ?_));have zz:(!decide (V.int (Sl.length:Int)=V.int (m:Int)))=false:=by rw [i5,cK ⋯];rfl
  rw [zz];exact kc _ Hc (af.refl _) rfl
 ·intro D ys Hc sc eN hP eD
  refine (ut D (List.replicate ys.length false) rfl (.of (by rw [eD];exact hV _ (hV _ (HS hP)))) false (by rw [Y6]) (cA ?_))
  exact (ad _ rfl (k Hc sc))
theorem adb:aZ ["table"] ["table"] (aK DV):=bf
theorem Sm(T:Txt K mg t):aN P w K mg base (df P w) 2 t.sS t.xk ["table"] (Zo t.bV):=by
 have S:=adb;refine T.uZ.dQ S (λ_ _ _ _ H vs _ _ hr h L=>?_);intros bvE h a bv33 q B ag m rfl hA h1 lE hm kE k
 refine (ad _ (aj (bO (bG i3 (ay (JL T) hr T.Bl T.nN.kp T.Bk (kP L) (aa (pv 0) ae)) (bS eJ rfl T.dI dJ (aa (pv 0) ae))) (ak (oO L rfl mW T.zC rfl T.zB (aa dq ae))) bQ)
  (ak (aJ (bS eJ rfl T.dI dJ (aa (pv 0) ae))))) ?_)
 refine (ww _ rfl a (ia q B ag m rfl hA h1 lE hm (λH1 s1=>?_)));obtain ⟨vs,ea,lv,_⟩:=id (hA.mono s1);refine (gl _ rfl a vs rfl (.inl (.of ea)) rfl _ rfl (b7 (λjz=>?_) (λjz=>?_)))
 ·have jz:m≠ag.length:=λz=>by
   have:(m:Int)=(vs.length:Int):=by lia
   rw [i5,cK this] at jz;cases jz
  exact ⟨by show 1<=sizeLine;decide,kE jz H1 s1⟩
 ·have heq:m=ag.length:=by
   by_cases z:(m:Int)=(vs.length:Int);·lia
   ·exact absurd (by rw [i5,cZ z];rfl) jz
  have z:=k heq H1 s1;dsimp only [Ar];refine (io _ rfl a vs rfl (.inl (.of ea)) ?_);rw [show (vs.length:Int)=(m:Int) by lia]
  exact z
theorem ade:aZ ["world","table","i","nought"] ["world","table","i"] (aK D_):=bf
theorem adf(T:Txt K mg t):aN P w K mg base bH 4 t.tI t.xx ["world","table","i"] (Zv t.bg):=by
 have S:=ade;have nS:=Bw (P:=P) (w:=w) (base:=base) T;obtain ⟨dv,qJ,qK⟩:=T.Bn;refine T.yN.bN S (λ_ _ _ _ H vs _ _ hr h=>?_);intros bvE h z bv28 a q B ag n i rfl q'67 bv19 hq hT ln kr hm hi kk;obtain ⟨dz,hd⟩:=q'67;have hu:=hr.oK
 refine (ad _ (aj (oX 3 S.nd (l9 (pv 0) T.e8 T.vm nS (hr.mono ∅) qK qJ j6 (aa ah ae)))
  (ak (aJ (fH (N:=["j","i","table","nought"]) (ρ:=(λσ=>[σ[2]?.join,σ[1]?.join,σ[3]?.join])) (du [2,1,3] rfl) rfl (VB rfl T.dW (aa (aD gg (pv 2) ah) (aa (bS eJ rfl T.dI dJ (aa (pv 1) ae)) ae))) (λ_ _ _=>(.one (PW.pt (pw_or (bG (Oh (K:=K) hu) (ao (kh (K:=K)) (ao (kh (K:=K)) (pv 2) (pv 1)) (pv 0)) (pv 3)) (pw_or1 (bG (Oh (K:=K) hu) (ao (kh (K:=K)) (ao (kh (K:=K)) (pv 2) (pv 0)) (pv 1)) (pv 3))))))) (λ_ _ _=>(fT (aa (pv 1) (aa (pv 0) ae)))))))) ?_)
 have nv:=Dl hq;refine (tz _ rfl z dz _ rfl hd (mf (by decide +kernel)) (ia z q 0 1 rfl ⟨dz,hd⟩ hq (cV.of_lt ∅ ∅) (λh=>absurd h nv) (λ_ v0 H1 s1 ho=>?_)))
 have h0:=AX (B:=1000) ∅ ho hq (.inl rfl)
 dsimp only [ck];have q'68:=id (hT.mono s1);intros bv4 q'68 vs ea lv hv;have cell:∀i j,i<n->j<n->∃(r:Addr) (ws:List V) (v:V),vs[i]?=some (.ref r)/\H1 r=some (.lst ws)/\ws[j]?=some v/\aw B H1 q v ((ag.getD i []).getD j o1).1 ((ag.getD i []).getD j o1).2:=λi j hi hj=>by
  have i1:i<vs.length:=by lia
  have i2:i<ag.length:=by lia
  obtain ⟨r,e,ws,er,lw,fw⟩:=hv i vs[i] ag[i] (by simp [i1]) (by simp [i2])
  have lp:=hm ag[i] (f9 i2);have j1:j<ws.length:=by lia
  have j2:j<ag[i].length:=by lia
  refine (re r ws (ws[j]) (by rw [<-e];simp [i1]) er (by simp [j1]) ?_)
  rw [getD_at i2,getD_at j2];exact fw j _ _ (by simp [j1]) (by simp [j2])
 refine eL (Oj (xs:=(List.range (n-(i+1))).map λk:Nat=>V.int ((i:Int)+1+(k:Int))) (λk=>d_ ag i (i+1+k)) (λR h=>(io _ rfl _ _ rfl rfl (io _ rfl a vs rfl (.inl (.of ea)) (bi _ _ rfl ⟨⋯,⋯,⋯,⋯⟩ (h _ ?_))))) (by rw [aR,cy];exact cH ⋯) (λ_ k y Hx=>∃b:Addr,y=.ref b/\Hx b=some (.tup [.int (i:Int),.int ((i+1+k:Nat):Int)])) (λD k y Ha Hb ys ⟨b,h1,h2⟩ e f=>(ad b h1 (f b _ (λz=>by rw [z,e] at h2;cases h2) h2))) ?_ ?_ ?_)
 ·rw [show ((vs.length:Int)-((i:Int)+1)).toNat=n-(i+1) by lia]
  exact ke
 ·intro k x hx Hc R sc hR
  have hk:k<n-(i+1):=by have:=(bK.mp hx).1;simpa using this
  rw [bU,jN hk] at hx;cases hx;have ej:(i:Int)+1+(k:Int)=((i+1+k:Nat):Int):=by lia
  have q'70:=(cell i (i+1+k) hi ⋯);intros bv17 q'70 r1 w1 v1 a1 a2 a3 a4
  have q'71:=(cell (i+1+k) i ⋯ hi);intros bv17 q'71 r2 w2 v2 b1 b2 b3 b4
  have FA:=sc _ _ ea;refine (u8 _ rfl _ rfl (xz a vs _ (.ref r1) rfl rfl (.of FA) (kM a1) _ rfl (xz r1 w1 _ v1 rfl rfl (.of (sc _ _ a2)) (by show ir w1 ((i:Int)+1+(k:Int))=_;rw [ej];exact kM a3) _ rfl (Oi (a4.mono sc) (h0.mono sc) (ad _ rfl (b7 (λhb=>?_) (λhb=>?_)))))))
  ·have e:d_ ag i (i+1+k)=true:=by unfold d_ qi;rw [hb,Bool.true_or]
   rw [e] at hR;exact hR
  ·have e:d_ ag i (i+1+k)=qi ag (i+1+k) i:=by
    have Sn:qi ag i (i+1+k)=false:=by unfold qi;simpa using hb
    unfold d_;rw [Sn,vP]
   rw [e] at hR;refine (u8 _ rfl _ rfl (xz a vs _ (.ref r2) rfl rfl (.of FA) (by show ir vs ((i:Int)+1+(k:Int))=_;rw [ej];exact kM b1) _ rfl (xz r2 w2 _ v2 rfl rfl (.of (sc _ _ b2)) (kM b3) _ rfl (Oi (b4.mono sc) (h0.mono sc) (ad _ rfl hR)))))
 ·intro D k x hx Hc R sc _ kc
  have hk:k<n-(i+1):=by have:=(bK.mp hx).1;simpa using this
  rw [bU,jN hk] at hx;cases hx;refine (be _ rfl _ rfl (by show 2<=sizeLine;decide) (λtp gR=>?_))
  refine kc _ _ (aG gR) (ad tp rfl ?_);rw [au,show ((i+1+k:Nat):Int)=(i:Int)+1+(k:Int) by lia]
 ·intro D ys Hc nD sc iU hP eD
  rw [aR,cy] at iU hP;refine kk D ys Hc (s1.trans sc) (none_of s1 nD) eD ⟨by unfold nE;rw [aR];exact iU,λk v p h1 h2=>?_⟩
  unfold nE at h2;rw [bU] at h2;cases e:((List.range (n-(i+1))).filter λk=>d_ ag i (i+1+k))[k]? with
  | none=>rw [e] at h2;cases h2
  | some k'=>rw [e] at h2;cases h2;exact hP k k' v h1 e
theorem adg:aZ ["world","table","n","links","i"] ["world","table"] (aK Ea):=bf
theorem adh(T:Txt K mg t):aN P w K mg base (df P w) 6 t.tJ t.xy ["world","table"] (Zw t.bg t.bV):=by
 have S:=adg;refine T.yO.dQ S (λ_ _ _ _ H _ _ _ hr h L=>?_);intros bv28 h z a q B ag m rfl hz bv19 hq hT h1 lE hm kE kk
 refine (ad _ (aj (putL 2 S.nd (ay (Sm T) hr T.I0 T.uZ.kp T.IZ (kP L) (aa (pv 1) ae)))
  (fb.lR (aj (putL 3 S.nd (cJ ae))
  (aj (eG de rfl (fe rfl T.dW (aa (pv 2) ae)) (b_ (i:=4) S.nd rfl (Or.inl rfl))
   (ak (m9 (p5 oq PySem.F.slot_list_extend PySem.F.type_list_extend WD (pv 3) (aa (ay (adf T) hr T.Qd T.yN.kp T.Qc aC (aa (pv 0) (aa (pv 1) (aa (pv 4) ae)))) ae)))))
  (ak (aJ (fT (aa (pv 2) (aa (jY Wy rfl T.Fv boot_tuple (aa (pv 3) ae)) ae))))))))) ?_)
 refine (ww _ rfl a (sw q B ag m rfl hT h1 lE hm (λjz H1 s1=>kE jz H1 s1) (λheq H1 s1=>?_)));subst heq;have kk:=kk rfl;dsimp only [ck];refine ⟨by show 0<=sizeLine;decide,λfd nU=>?_⟩
 have s2:af H1 (upd H1 fd (.lst [])):=aG nU;have ef:upd H1 fd (.lst []) fd=some (.lst []):=au;dsimp only [ck];generalize upd H1 fd (.lst [])=H2 at s2 ef ⊢;have b6:=s1.trans s2;have adi:H fd=none:=none_of s1 nU;refine (ad _ rfl (o0 (ag.length:Int) rfl ⋯ ⋯ ?_))
 rw [dE];have few:∀i,i<=ag.length->(gL ag.length (d_ ag) i).length<=40*i:=λi=>by
  induction i with
  | zero=>intro _;exact aV _
  | succ i ih=>
   intro hi;have a:=ih ⋯
   show (gL ag.length (d_ ag) i++nE ag.length (d_ ag) i).length<=_;have b:(nE ag.length (d_ ag) i).length<=40:=by unfold nE;rw [aR];refine aM (Gw _ _) ?_;rw [cy];lia
   rw [dD];lia
 refine lY (λi σ Hc=>∃(us:List V) (v4:Option V),σ=[some (.ref z),some (.ref a),some (.int (ag.length:Int)),some (.ref fd),v4]/\af H Hc/\Hc fd=some (.lst us)/\eS Hc us (gL ag.length (d_ ag) i)) (f8 [] _ rfl b6 ef (eS.nil _)) ?_ ?_
 ·intro i σ Hc hi;intros bv10 _ us v4 rfl sc vq hL
  refine (bv _ rfl (.inl ⟨rfl,_,.of vq⟩) (ul _ rfl _ rfl _ rfl (wn z a q (sw B ag ag.length i ?_ (hz.mono sc) hq (hT.mono sc) rfl lE ⟨hm,hi,λr ws Hd sd nr er' hR=>?_⟩))))
  ·show [V.ref z,V.ref a,V.int (0+(i:Int))]=_
   rw [jh]
  have l1:=hL.1;have l2:=hR.1;have l3:=few (i+1) ⋯
  have e3:gL ag.length (d_ ag) (i+1)=gL ag.length (d_ ag) i++nE ag.length (d_ ag) i:=rfl;rw [e3,dD] at l3;refine (ia fd r us ws rfl rfl (sd _ _ vq) er' (aM (show _<=2000 by lia) ∅) (f8 (us++ws) _ rfl (iM (sc.trans sd) adi) au ?_))
  rw [e3];exact ((hL.mono sd).cat hR).bE (sd _ _ vq) λb o nb e=>by rw [aH nb];exact e
 ·intro σ Hc;intros bv10 _ us v4 rfl sc vq hL
  refine (u8 _ rfl _ rfl (ii fd us rfl (.inl ⟨.of vq,λlt nlt=>?_⟩)));have sl:af Hc (upd Hc lt (.tup us)):=aG nlt;have el:upd Hc lt (.tup us) lt=some (.tup us):=au;generalize upd Hc lt (.tup us)=Hd at sl el ⊢;refine ⟨by show 2<=sizeLine;decide,λtp gR=>?_⟩
  have st:af Hd (upd Hd tp (.tup [.int (ag.length:Int),.ref lt])):=aG gR;exact kk tp _ (sc.trans (sl.trans st)) (none_of (sc.trans sl) gR) (bi lt us au (st _ _ el) ((hL.mono sl).mono st))
theorem adn:aZ ["shape","linked","i","j"] ["shape"] (aK Eb):=bf
theorem ado(T:Txt K mg t):aN P w K mg base bH 1 t.tK t.xA ["shape"] ZU:=by
 have S:=adn;refine T.yP.bN S (λ_ _ _ _ H _ _ _ hr h=>?_);intros bv26 h tp n L rfl q'72 ok n9 kk;intros bv7 q'72 lt us jb elt hL;have hu:=fz (Nat.add_le_add_left (show 1<=64 by decide) _) hr.units
 have lrg:((List.range n).map λi:Nat=>V.int (0+(i:Int))).length=n:=by rw [aR,cy]
 refine (ad _ (aj (sk (i0:=1) (N:=["place"]) (ρ:=(λσ=>[])) (du [] rfl) rfl S.nd rfl (Or.inl rfl) (fe rfl T.dW (aa (ao aW (pv 0) ah) ae)) (λ_ _ _=>.nil) (λ_ _ _=>ZN))
  (aj (eG de rfl (Vy (ao aW (pv 0) ah)) (oC rfl (gc (b_ (i:=2) S.nd rfl (Or.inl rfl)) (gc (b_ (i:=3) S.nd rfl (Or.inl rfl)) oB)))
   (aj (Ih hu (ao bw (pv 1) (pv 2)) (pv 3) gv rfl)
  (ak (Ih hu (ao bw (pv 1) (pv 3)) (pv 2) gv rfl))))
  (ak (aJ (pv 1))))) ?_)
 refine oZ (aP (jB (xs:=(List.range n).map λi:Nat=>V.int (0+(i:Int))) (n:=n) lrg (λR h=>(SC _ rfl tp _ _ _ rfl rfl (.of jb) rfl (o0 (n:Int) rfl ⋯ ⋯ (h _ _ (af.refl _) (by rw [dE];exact ke))))) (cH ⋯) (λ_ i y Hx=>Hx y=some (.dK (dk []))/\H y=none) ?_ ?_ ?_))
 ·intro D i y Ha Hb ys ⟨h1,h2⟩ hy e f
  exact ⟨f y _ hy h1,h2⟩
 ·intro D i x hx Hc R sc _ kc
  refine λp np=>kc p _ (iM (af.refl _) np) np ⟨_,au⟩ ⟨au,?_⟩;cases e:H p with
  | none=>rfl
  | some o=>rw [sc _ _ e] at np;cases np
 ·intro D ds H1 nD s1 inj hA eD
  have K0:fj H1 D n ds (λ_=>True) (λ_=>[]):=⟨eD,inj,λi hi=>(hA i hi).2,λi hi _=>(hA i hi).1.1,λi _=>nF.nil n⟩;have fr:∀i,i<n->H (ds i)=none:=λi hi=>(hA i hi).1.2;dsimp only [ck];refine oZ (SC _ rfl tp _ _ _ rfl rfl (.of (s1 _ _ jb)) rfl (bv lt rfl ⟨_,.of (s1 _ _ elt)⟩ ?_));refine VE (K:=K) (a:=lt) (xs:=us) (λk σ Hc=>∃(f:Nat->List Nat) (v2 v3:Option V),σ=[some (.ref tp),some (.ref D),v2,v3]/\af H Hc/\fj Hc D n ds (λ_=>True) f/\pe n (L.take k) f) (re _ _ _ rfl s1 K0 (pe.nil n)) (λk σ Hc _ ⟨_,_,_,_,sc,_⟩=>.of (sc _ _ elt)) ?_ ?_
  ·intro k x σ Hc hx;intros bv17 _ f v2 v3 rfl sc KL nb
   have hk:k<L.length:=by rw [<-hL.1];exact (bK.mp hx).1
   obtain ⟨b,rfl,eb⟩:=hL.2 k x L[k] hx (by simp [hk])
   have pk:=ok L[k] (f9 hk);have tk:L.take (k+1)=L.take k++[L[k]]:=by rw [List.take_succ,cw hk];rfl
   generalize L[k]=p at eb pk tk;obtain ⟨p1,p2⟩:=p;dsimp only at pk eb;obtain ⟨i,rfl⟩:=An pk.1;obtain ⟨j,rfl⟩:=An pk.2.2.1;have hi:i<n:=by lia
   have hj:j<n:=by lia
   refine (zn b _ rfl (.of (sc _ _ eb)) rfl _ (io _ rfl _ _ rfl rfl ?_));obtain ⟨q1,K1⟩:=KL.put hi hj trivial n9;obtain ⟨q2,K2⟩:=K1.put hj hi trivial n9;refine (ad _ rfl (SC _ rfl D _ _ _ rfl rfl (.of KL.lst) (KL.ix hi) (io _ rfl _ _ rfl q1 ?_)));refine (ad _ rfl (SC _ rfl D _ _ _ rfl rfl (.of K1.lst) (K1.ix hj) (io _ rfl _ _ rfl q2 ?_)));have off:∀(Hx:Hp) (i:Nat) (o:HO),i<n->af H Hx->af H (upd Hx (ds i) o):=λHx i o hi sx a u e=>by
    rw [aH (λz=>by rw [z,fr i hi] at e;cases e)]
    exact sx _ _ e
   exact (re _ _ _ rfl (off _ _ _ hj (off _ _ _ hi sc)) K2 (by rw [tk];exact nb.more hi hj))
  ·intro σ Hc;intros bv17 _ f v2 v3 rfl sc KL nb
   rw [hL.1,vV] at nb;exact (ad _ rfl (kk _ _ _ _ sc nD fr KL nb))
theorem adq:aZ ["thing","n"] ["thing","n"] (aK Ec):=bf
theorem ads(T:Txt K mg t):aN P w K mg base bH 2 t.tL t.xB ["thing","n"] ZZ:=by
 have S:=adq;refine T.yQ.bN S (λ_ _ _ _ H _ _ _ hr h=>?_);intros bv26 h a zs n rfl ea vv n1 k;have jc:=hr.units
 refine (ad _ (aj (bO (PW.pt (pw_or (lP (iY (bS (i4 (K:=K)) rfl T.iT boot_isinstance (aa (pv 0) (aa (rC (v:=.ty "list") rfl T.nQ boot_list rfl) ae))))) (pw_or1 (lP (iY (bS (NC (K:=K) rfl) rfl T.JA boot_all (aa (fH (N:=["place"]) (ρ:=(λσ=>[])) (du [] rfl) rfl (dN (pv 0)) (λ_ _ _=>.nil) (λ_ _ _=>(ay (Sg T) hr T.Je T.u6.kp T.Jd aC (aa (pv 0) ae)))) ae))))))) (ak (aJ gv)) bQ)
  (ak (aJ (jV (ZW jc) (bS OA rfl T.JE PyProof.Rows.boot_sorted (aa (pv 0) ae)) (jY (XW rfl) rfl T.nQ boot_list (aa (jY XT rfl T.dW XZ (aa (pv 1) ae)) ae)))))) ?_)
 refine (ad _ rfl (xz _ _ _ true rfl rfl (.of (.lst ea)) C3 true rfl (cA ?_)));unfold Mo tB;refine AU (HJ (xs:=zs.map V.int) (λR h=>(be _ rfl a rfl ⟨_,.of ea⟩ (h _ _ (af.refl _) (iz (.of ea))))) (by rw [aR];exact cH ⋯) (λ_ i y _=>y=.bl true) (λ_ _ _ _ _ _ h _ _=>h) ?_ ?_)
 ·intro D i v hi Hc R sc _ kc
  obtain ⟨z,rfl⟩:∃z:Int,v=.int z:=by
   rw [bU] at hi;cases e:zs[i]? with
   | none=>rw [e] at hi;cases hi
   | some z=>rw [e] at hi;exact ⟨z,(Option.some.inj hi).symm⟩
  exact ⟨_,rfl,.int z,rfl,.int z,kc _ Hc (af.refl _) rfl⟩
 ·intro D ys Hc sc eN hP eD
  refine (bi D (List.replicate ys.length true) rfl (.of (by rw [eD];exact hV _ (hV _ (HS hP)))) ?_)
  rw [N4];refine (ad true rfl (cA ?_));dsimp only [Ar];have FA:=sc _ _ ea;refine (sK _ rfl a zs rfl FA vv (λws D2 p o n2=>?_));refine (u8 _ rfl (n:Int) rfl (λp1 JM=>(f8 p1 n rfl au ⋯ (λl nl=>?_))))
  have d1:D2≠p1:=λz=>by rw [<-z,au] at JM;cases JM
  have d2:D2≠l:=λz=>by rw [<-z,aH d1,au] at nl;cases nl
  refine (gt D2 l ws ((List.range n).map iN) rfl rfl (.of ?_) (.of ?_) ?_);·rw [aH d2,aH d1,au]
  ·rw [au]
   unfold wB;rw [gW];rfl
  ·rw [ZY p o]
   exact k _ (Dr (Dr (Dr sc n2) JM) nl)
theorem adt:aZ ["order","n"] ["order","n"] (aK Ed):=bf
theorem So(T:Txt K mg t):aN P w K mg base (df P w) 3 t.tM t.xD ["order","n"] (Z0 t.bZ):=by
 have S:=adt;refine T.u_.dQ S (λ_ _ _ _ H _ _ _ hr h L=>?_);intros bv27 h a zs n rfl ea vv n1 kE k;refine (ad _ (ak (bO (lP (iY (ay (ads T) hr T.Qj T.yQ.kp T.Qi aC (aa (pv 0) (aa (pv 1) ae))))) (ak (oO L rfl mW T.JF rfl T.Jz (aa dq ae))) bQ)) ?_);refine (u8 _ rfl _ rfl (pi a zs n rfl ea vv n1 (λH1 s1=>(ad _ rfl (b7 (λhb=>?_) (λhb=>?_))))));·exact ⟨by show 1<=sizeLine;decide,kE (by simpa using hb) _ s1⟩
 ·exact k (by simpa using hb) _ s1
theorem adu:aZ ["order","turns","turn","place"] ["order"] (aK Ee):=bf
theorem JN(T:Txt K mg t):aN P w K mg base bH 1 t.tN t.xE ["order"] Z2:=by
 have S:=adu;refine T.qA.bN S (λ_ _ _ _ H _ _ _ hr h=>?_);obtain ⟨a,n,o,rfl,⟨ea,ho⟩,n1,kk⟩:=h;have lo:=gN ho;have lm:(o.map λk:Nat=>V.int (k:Int)).length=n:=by rw [aR,lo]
 refine (ad _ (aj (putL 1 S.nd (aD WK (cJ (aa ah ae)) (bS eJ rfl T.dI dJ (aa (pv 0) ae))))
  (aj (eG de rfl (wM rfl T.vn (aa (pv 0) ae)) (oC rfl (gc (b_ (i:=2) S.nd rfl (Or.inl rfl)) (gc (b_ (i:=3) S.nd rfl (Or.inl rfl)) oB)))
   (ak (@il _ _ _ _ _ _ (pv 2) (jk (pv 1) (pv 3) set_list) (by rfl) (by rfl) (by rfl))))
  (ak (aJ (pv 1))))) ?_)
 refine ⟨by show 1<=sizeLine;decide,λl nl=>?_⟩
 have al:a≠l:=λz=>by rw [z,nl] at ea;cases ea
 refine (io _ rfl a _ rfl (.inl (.of (by rw [aH al];exact ea))) (wp l _ (wS _ rfl rfl au ⋯ (by rw [lm];lia) ?_ (λc nc=>?_))))
 ·rw [lm,dE]
  show 1*n<=sizeLine;rw [sizeLine_eq];lia
 rw [lm,dE,Z5 n o];have Sq:H c=none:=none_of (aG nl) nc;have s0:af H (upd (upd H l (.lst [.int 0])) c (.lst ((List.range n).map λp=>V.int (k4 o 0 p)))):=(aG nl).trans (aG nc);have e0:upd (upd H l (.lst [.int 0])) c (.lst ((List.range n).map λp=>V.int (k4 o 0 p))) c=_:=au;generalize upd (upd H l (.lst [.int 0])) c (.lst ((List.range n).map λp=>V.int (k4 o 0 p)))=H0 at s0 e0 ⊢;dsimp only [ck];refine oZ (be _ rfl a rfl ⟨_,.of (s0 _ _ ea)⟩ ?_)
 refine Oa (K:=K) (l:=a) (xs:=o.map λk:Nat=>V.int (k:Int)) (λi σ Hc=>af H Hc/\∃(v2 v3:Option V),σ=[some (.ref a),some (.ref c),v2,v3]/\Hc c=some (.lst ((List.range n).map λp=>V.int (k4 o i p))))
  ⟨s0,_,_,rfl,e0⟩ (λi σ Hc ⟨z,_⟩=>.of (z _ _ ea)) ?_ ?_
 ·intro i x σ Hc Tt hx;intros bv8 _ sc v2 v3 rfl ec;intro nT
  have hi:i<o.length:=by have:=(bK.mp hx).1;simpa using this
  have ex:x=.int ((o[i]:Nat):Int):=by rw [bU] at hx;simp [hi] at hx;exact hx.symm
  subst ex;have hp:o[i]<n:=(fk ho).mp (f9 hi);have sT:af Hc (upd Hc Tt (.tup [.int (i:Int),.int ((o[i]:Nat):Int)])):=aG nT;have eT:upd Hc Tt (.tup [.int (i:Int),.int ((o[i]:Nat):Int)]) Tt=_:=au;generalize upd Hc Tt (.tup [.int (i:Int),.int ((o[i]:Nat):Int)])=H1 at sT eT ⊢;refine (zn Tt _ rfl (.of eT) rfl _ (io _ rfl _ _ rfl rfl ?_));refine (u8 _ rfl _ rfl (SC _ rfl c _ _ (o[i]) rfl rfl (sT _ _ ec) (by rw [aR,cy];exact jC hp) ?_))
  exact ⟨iM (sc.trans sT) Sq,_,_,rfl,by rw [au,Z4 ho hi]⟩
 ·intro σ Hc;intros bv8 _ sc v2 v3 rfl ec
  rw [aR,Z6 ho] at ec;exact (ad _ rfl (kk c Hc sc Sq ec))
theorem adv:aZ ["linked","places","one","other"] ["linked","places"] (aK Ef):=bf
theorem adw(T:Txt K mg t):aN P w K mg base bH 1 t.tO t.xG ["linked","places"] Z7:=by
 have S:=adv;refine T.yR.bN S (λ_ _ _ _ H _ _ _ hr h=>?_);intros bv0 h D pl bv32 n ds un f ps rfl KL zE BB n9 kk;have hu:=fz (Nat.add_le_add_left (show 1<=64 by decide) _) hr.units
 have bE:∀i,i<n->un i->pl≠ds i:=λi hi ui z=>by rw [z,KL.at' i hi ui] at zE;cases zE
 have Sr:∀{i:Nat} {x:V},(ps.map λk:Nat=>V.int (k:Int))[i]?=some x->∃p:Nat,ps[i]?=some p/\x=.int (p:Int)/\p<n/\un p:=fun{i x} hx=>by
  rw [bU] at hx;cases e:ps[i]? with
  | none=>rw [e] at hx;cases hx
  | some p=>rw [e] at hx;exact ⟨p,rfl,(Option.some.inj hx).symm,BB p (kA e)⟩
 refine (ad _ (ak (eG de rfl (dN (pv 1)) (b_ (i:=2) S.nd rfl (Or.inl rfl))
   (ak (eG de rfl (dN (pv 1)) (b_ (i:=3) S.nd rfl (Or.inl rfl))
   (ak (bO (bG i3 (pv 2) (pv 3)) (ak (Ih hu (ao bw (pv 0) (pv 2)) (pv 3) gv rfl)) bQ)))))) ?_)
 refine (be _ rfl pl rfl ⟨_,.of zE⟩ ?_);refine lX (K:=K) (a:=pl) (xs:=ps.map λk:Nat=>V.int (k:Int)) (λi σ Hc=>∃(g:Nat->List Nat) (v2 v3:Option V),σ=[some (.ref D),some (.ref pl),v2,v3]/\qj n ds un H Hc/\fj Hc D n ds un g/\iQ n f ps i 0 g) (re f _ _ rfl (.refl) KL (iQ.start n f ps)) (λi σ Hc _ ⟨_,_,_,_,oc,_⟩=>.of (oc _ _ zE bE)) ?_ ?_
 ·intro i x σ Hc hx;intros bv17 _ g v2 v3 rfl oc Kc la
  have q'75:=Sr hx;intros bv9 q'75 p hp rfl pn up;refine (be _ rfl pl rfl ⟨_,.of (oc _ _ zE bE)⟩ ?_);refine lX (K:=K) (a:=pl) (xs:=ps.map λk:Nat=>V.int (k:Int)) (λj σ Hd=>∃(g:Nat->List Nat) (v3:Option V),σ=[some (.ref D),some (.ref pl),some (.int (p:Int)),v3]/\qj n ds un H Hd/\fj Hd D n ds un g/\iQ n f ps i j g) (f8 g _ rfl oc Kc la) (λi σ Hc _ ⟨_,_,_,oc,_⟩=>.of (oc _ _ zE bE)) ?_ ?_
  ·intro j y σ Hd hy;intros bv10 _ g v3 rfl od Kd la
   have q'76:=Sr hy;intros bv9 q'76 q hq rfl qn uq;refine (ad _ rfl (ce _ rfl rfl _ rfl (b7 (λhb=>?_) (λhb=>?_))))
   ·have ne:p≠q:=λz=>by subst z;rw [i5,cK rfl] at hb;cases hb
    obtain ⟨q1,K1⟩:=Kd.put pn qn up n9;exact (ad _ rfl (SC _ rfl D _ _ _ rfl rfl (.of Kd.lst) (Kd.ix pn) (io _ rfl _ _ rfl q1 (f8 _ _ rfl (od.put pn up) K1 (la.put hp hq ne)))))
   ·have e:p=q:=by
     by_cases z:(p:Int)=(q:Int);·lia
     ·exact absurd (by rw [i5,cZ z];rfl) hb
    subst e;exact (f8 _ _ rfl od Kd (la.same hp hq))
  ·intro σ Hd;intros bv10 _ g v3 rfl od Kd la
   rw [aR] at la;exact (re g _ _ rfl od Kd la.row)
 ·rintro σ Hc ⟨g,v2,v3,rfl,oc,Kc,la⟩
  rw [aR] at la;exact kk _ g oc Kc la.done
theorem adx:aZ ["shape","order","linked","turns","told","place"] ["shape","order"] (aK Eg):=bf
theorem ady(T:Txt K mg t):aN P w K mg base (df P w) 4 t.tP t.xH ["shape","order"] (aal t.bZ):=by
 have S:=adx;refine T.yS.dQ S (λ_ _ _ _ H _ _ _ hr h L=>?_);intros bvE h tp bv16 a n Lk zs rfl hS bv19 hL ns Bx ea vv kE kk;obtain ⟨lt,us,jb,elt,ng⟩:=id hS
 refine (ad _ (aj (m9 (ay (So T) hr T.Jg T.u_.kp T.Jf (kP L) (aa (pv 1) (aa (ao aW (pv 0) ah) ae))))
  (fb.lR (aj (putL 2 S.nd (ay (ado T) hr T.Qh T.yP.kp T.Qg aC (aa (pv 0) ae)))
  (aj (oX 3 S.nd (ay (JN T) hr T.Fg T.qA.kp T.Ff aC (aa (pv 1) ae)))
  (aj (sk (i0:=4) (N:=["place"]) (ρ:=(λσ=>[])) (du [] rfl) rfl S.nd rfl (Or.inl rfl) (dN (pv 1)) (λ_ _ _=>.nil) (λ_ _ _=>(cJ ae)))
  (aj (eG de rfl (dN (pv 1)) (b_ (i:=5) S.nd rfl (Or.inr rfl))
   (aj (@il _ _ _ _ _ _ (bS OA rfl T.JE PyProof.Rows.boot_sorted (aa (fH (N:=["other","turns","place"]) (ρ:=(λσ=>[σ[3]?.join,σ[5]?.join])) (du [3,5] rfl) rfl (ZC (ao bw (pv 2) (pv 5))) (λ_ _ _=>(.one (bG rK (ao (kh (K:=K)) (pv 1) (pv 0)) (ao (kh (K:=K)) (pv 1) (pv 2))))) (λ_ _ _=>(pv 0))) ae)) (jk (pv 4) (pv 5) set_list) (by rfl) (by rfl) (by rfl))
  (ak (m9 (ay (adw T) hr T.Ql T.yR.kp T.Qk aC (aa (pv 2) (aa (ao bw (pv 4) (pv 5)) ae)))))))
  (ak (aJ (pv 4))))))))) ?_)
 refine (ad _ rfl (SC _ rfl tp _ _ _ rfl rfl (.of jb) rfl (pi a zs n rfl ea vv ⋯ ⟨λno H1 s1=>kE no H1 s1,λyes H1 s1=>?_⟩)))
 obtain ⟨o,rfl,ho⟩:=aad yes;have kk:=kk o rfl ho;have lo:=gN ho;have nd:=wU ho;have BC:H a=some (.lst (o.map λk:Nat=>V.int (k:Int))):=by rw [ea,gW];rfl
 have lm:(o.map λk:Nat=>V.int (k:Int)).length=n:=by rw [aR,lo]
 refine (ad _ rfl (pi tp n Lk rfl ⟨lt,us,s1 _ _ jb,s1 _ _ elt,ng.mono s1⟩ hL ⋯ (λH2 D ds f s2 nD nds KL nb=>?_)))
 have nD0:=none_of s1 nD;have Ss:∀i,i<n->H (ds i)=none:=λi hi=>none_of s1 (nds i hi);have b6:=s1.trans s2;dsimp only [ck];refine (tz _ rfl a n o rfl ⟨b6 _ _ BC,ho⟩ ⋯ (λtr H3 s3 ntr e3=>?_))
 have fZ:=b6.trans s3;have amz:=none_of b6 ntr;have K3:=KL.mono s3;dsimp only [ck];refine oZ (aP (jB (xs:=o.map λk:Nat=>V.int (k:Int)) (n:=n) lm (λR h=>(be _ rfl a rfl ⟨_,.of (fZ _ _ BC)⟩ (h _ _ (af.refl _) (iz (.of (fZ _ _ BC)))))) (cH ⋯) (λ_ i y Hx=>H3 y=none) (λ_ _ _ _ _ _ h _ _ _=>h) ?_ ?_))
 ·intro D' i x hx Hc R sc _ kc
  refine ⟨by show 0<=sizeLine;exact cG _,λp np=>kc p _ (aG np) np ⟨_,au⟩ (none_of sc np)⟩
 ·intro c rs0 H4 nc s4 _ hA ec
  have gS:=fZ.trans s4;have Su:=none_of fZ nc;have K4:=K3.mono s4;have e4:=s4 _ _ e3;have cD:c≠D:=λz=>by rw [z,K3.lst] at nc;cases nc
  have ctr:c≠tr:=λz=>by rw [z,e3] at nc;cases nc
  dsimp only [ck];refine oZ (be _ rfl a rfl ⟨_,.of (gS _ _ BC)⟩ ?_)
  refine lX (K:=K) (a:=a) (xs:=o.map λk:Nat=>V.int (k:Int)) (λk σ Hc=>∃(rs:Nat->Addr) (f g:Nat->List Nat) (v5:Option V),σ=[some (.ref tp),some (.ref a),some (.ref D),some (.ref tr),some (.ref c),v5]/\af H Hc/\fj Hc D n ds (λp=>k<=o.idxOf p) f/\Hc tr=some (.lst ((List.range n).map λp=>V.int (o.idxOf p:Int)))/\Hc c=some (.lst ((List.range n).map λp=>V.ref (rs p))) /\
    (∀p,p<n->o.idxOf p<k->H (rs p)=none/\rs p≠c/\Hc (rs p)=some (.lst ((g p).map λk:Nat=>V.int (k:Int)))/\A3 n o p (g p)/\wW n Lk o p (g p))/\sA n Lk o k f) (sw rs0 f (λ_=>[]) _ rfl gS (K4.less (λ_ _ _=>trivial)) e4 ec (λp _ h=>absurd h (pL _)) (sA.start nb ns)) (λk σ Hc _ ⟨_,_,_,_,_,sc,_⟩=>.of (sc _ _ BC)) ?_ ?_
  ·intro k x σ Hc hx;intros bv33 _ rs f g v5 rfl sc Kc JO FC done JP
   have hk:k<o.length:=by have:=(bK.mp hx).1;simpa using this
   have ex:x=.int ((o[k]:Nat):Int):=by rw [bU] at hx;simp [hk] at hx;exact hx.symm
   subst ex;have hp:o[k]<n:=(fk ho).mp (f9 hk);have ip:o.idxOf o[k]=k:=A1 nd hk;generalize o[k]=p at hp ip ⊢;dsimp only [ck];have Sv:=Kc.at' p hp ⋯
   refine oZ (aP (AU (aaj (ad _ rfl (SC _ rfl D _ _ _ rfl rfl (.of Kc.lst) (Kc.ix hp) (ii (ds p) (dk (f p)) rfl (.inl ⟨Sv,λob=>?_⟩)))))));have Kf:fj (upd Hc (ds p) (.cL ob (.dK (dk (f p))))) D n ds (λq=>k+1<=o.idxOf q) f:=(Kc.less (λi hi (ui:k+1<=o.idxOf i)=>show k<=o.idxOf i by lia)).upd (Kc.ne p hp) (λi hi (ui:k+1<=o.idxOf i) z=>by have:=Kc.inj i p hi hp z;subst this;lia)
   have JQ:∀{b:Addr} {xs:List V},Hc b=some (.lst xs)->b≠ds p:=fun{b xs} e z=>by rw [z,Sv] at e;cases e
   have FD:upd Hc (ds p) (.cL ob (.dK (dk (f p)))) tr=_:=(aH (JQ JO)).trans JO;have FE:upd Hc (ds p) (.cL ob (.dK (dk (f p)))) c=_:=(aH (JQ FC)).trans FC;have sf:af H (upd Hc (ds p) (.cL ob (.dK (dk (f p))))):=λb u e=>by
    rw [aH (λz=>by rw [z,Ss p hp] at e;cases e)]
    exact sc _ _ e
   have JR:∀q,q<n->o.idxOf q<k->H (rs q)=none/\rs q≠c/\upd Hc (ds p) (.cL ob (.dK (dk (f p)))) (rs q)=some (.lst ((g q).map λk:Nat=>V.int (k:Int)))/\A3 n o q (g q)/\wW n Lk o q (g q):=λq hq FF=>by obtain ⟨d1,d2,d3,d4⟩:=done q hq FF;exact ⟨d1,d2,(aH (JQ d3)).trans d3,d4⟩
   have SA:upd Hc (ds p) (.cL ob (.dK (dk (f p)))) (ds p)=some (.cL ob (.dK (dk (f p)))):=au;generalize upd Hc (ds p) (.cL ob (.dK (dk (f p))))=Hf at Kf FD FE sf JR SA ⊢;have BD:=Kc.pl p hp;refine aab SA (λq=>decide ((o.idxOf p:Int)<(o.idxOf q:Int))) (fz BD.len (cH ⋯)) ?_ ?_ ?_
   ·intro q hq Hx R sx hR
    have qn:=BD.2 q hq;exact (u8 _ rfl _ rfl (xz tr _ _ _ rfl rfl (.of (sx _ _ FD)) (cg qn) _ rfl (SC _ rfl tr _ _ _ rfl rfl (.of (sx _ _ FD)) (cg hp) (ut _ _ rfl rfl _ rfl hR))))
   ·intro q hq Hx R hR
    exact (ad _ rfl hR)
   ·intro D1 H1 lF SD SE
    rw [aai] at SE;have fl:((f p).filter λq=>decide (o.idxOf p<o.idxOf q)).length<=n:=aM (Gw _ _) BD.len;refine (f8 D1 (((f p).filter λq=>decide (o.idxOf p<o.idxOf q)).map iN) rfl (by rw [SE,gW];rfl) (by rw [aR];lia) (λws D2 pw so SF=>?_))
    obtain ⟨ms,rfl,pm⟩:=OE pw;have qk:=aac BD pm so;have hm:∀q,q∈ms↔q∈f p/\k<o.idxOf q:=λq=>by rw [pm.mem_iff,vI,Al,ip]
    have adD:wW n Lk o p ms:=λq=>by
     rw [hm q,ip];constructor
     ·rintro ⟨h1,h2⟩
      have qn:=BD.2 q h1;exact ⟨qn,h2,((JP p q hp qn ⋯ ⋯).mp h1).2⟩
     ·rintro ⟨h1,h2,h3⟩
      exact ⟨(JP p q hp h1 ⋯ ⋯).mpr ⟨λe=>by subst e;lia,h3⟩,h2⟩
    have vw:af Hf (upd H1 D2 (.lst ((ms.map iN).map V.int))):=Dr SD SF;have FG:upd H1 D2 (.lst ((ms.map iN).map V.int)) D2=some (.lst (ms.map λk:Nat=>V.int (k:Int))):=by rw [au,gW];rfl
    have JS:Hf D2=none:=none_of SD SF;have adE:H D2=none:=none_of sf JS;generalize upd H1 D2 (.lst ((ms.map iN).map V.int))=Hg at vw FG ⊢;have SG:D2≠c:=λz=>by rw [z,FE] at JS;cases JS
    refine (ad _ rfl (SC _ rfl c _ _ p rfl rfl (vw _ _ FE) (by rw [aR,cy];exact jC hp) ?_))
    rw [aae];have Kg:=Kf.mono vw;have Kh:fj (upd Hg c (.lst ((List.range n).map λq=>V.ref (k_ rs p D2 q)))) D n ds (λq=>k+1<=o.idxOf q) f:=Kg.upd cD (λi hi ui z=>by have:=Kg.at' i hi ui;rw [z,vw _ _ FE] at this;cases this)
    have sh:af H (upd Hg c (.lst ((List.range n).map λq=>V.ref (k_ rs p D2 q)))):=iM (sf.trans vw) Su;have JT:upd Hg c (.lst ((List.range n).map λq=>V.ref (k_ rs p D2 q))) c=_:=au;have SH:upd Hg c (.lst ((List.range n).map λq=>V.ref (k_ rs p D2 q))) tr=_:=(aH (Ne.symm ctr)).trans (vw _ _ FD);have JU:upd Hg c (.lst ((List.range n).map λq=>V.ref (k_ rs p D2 q))) D2=_:=(aH SG).trans FG;have SI:∀q,q<n->o.idxOf q<k->upd Hg c (.lst ((List.range n).map λq=>V.ref (k_ rs p D2 q))) (rs q)=some (.lst ((g q).map λk:Nat=>V.int (k:Int))):=λq hq FF=>by obtain ⟨d1,d2,d3,d4⟩:=JR q hq FF;exact (aH d2).trans (vw _ _ d3)
    generalize upd Hg c (.lst ((List.range n).map λq=>V.ref (k_ rs p D2 q)))=Hh at Kh sh JT SH JU SI ⊢;refine (u8 _ rfl _ rfl (SC _ rfl c _ _ _ rfl rfl (.of JT) (cg hp) ?_));rw [OG];refine (wn D D2 n (ia ds _ f ms rfl Kh JU (λq hq=>⟨qk.lt q hq,by have:=qk.la q hq;lia⟩) ⋯ (λH5 g5 off K5 con=>?_)))
    have bE:∀{b:Addr} {xs:List V},Hh b=some (.lst xs)->H5 b=some (.lst xs):=fun{b xs} e=>off _ _ e λi hi ui z=>by rw [z,Kh.at' i hi ui] at e;cases e
    refine (sw (k_ rs p D2) g5 (gM g p ms) _ rfl (λb u e=>off _ _ (sh _ _ e) (λi hi _ z=>by rw [z,Ss i hi] at e;cases e)) K5 (bE SH) (bE JT) (λq hq FF=>?_) (JP.step ho hp ip hm qk.lt con))
    by_cases e:q=p
    ·subst e
     rw [OG,aag];exact ⟨adE,SG,bE JU,qk,adD⟩
    ·rw [aaf e,aah e]
     have ne:=A4 ho hq hp e;have SJ:o.idxOf q<k:=by lia
     obtain ⟨d1,d2,d3,d4⟩:=JR q hq SJ;exact ⟨d1,d2,bE (SI q hq SJ),d4⟩
  ·intro σ Hc;intros bv33 _ rs f g v5 rfl sc Kc JO FC done _
   rw [lm] at done;have lt:∀p,p<n->o.idxOf p<n:=λp hp=>by have:=(iP ((fk ho).mpr hp)).1;lia
   exact (ad _ rfl (kk Hc c rs g sc Su (λp hp=>(done p hp (lt p hp)).1) ⟨FC,λp hp=>(done p hp (lt p hp)).2.2.1⟩ λp hp=>(done p hp (lt p hp)).2.2.2))
theorem adF:aZ ["world","table","order","others","work","turn","place"] ["world","table","order"] (aK Ei):=bf
theorem adG(T:Txt K mg t):aN P w K mg base bH 8 t.tR t.xJ ["world","table","order"] (aaD t.bg t.bZ):=by
 have S:=adF;have nS:=Bw (P:=P) (w:=w) (base:=base) T;obtain ⟨dv,qJ,qK⟩:=T.Bn;refine T.yU.bN S (λ_ _ _ _ H _ _ _ hr h=>?_);intros bv30 h z a d q B X n ag bv17 o M D rfl hw hq bv34 hT SK ln n1 kr wd ed ho iC kS kF;have jc:=hr.units;have hu:=fz (Nat.add_le_add_left (show 1<=64 by decide) _) hr.units
 have hu:=hr.oK;have lo:=gN ho;have OU:=wU ho
 refine (ad _ (aj (putL 3 S.nd (ay (ady T) hr T.Qn T.yS.kp T.Qm j6 (aa (ay (adh T) hr T.Qf T.yO.kp T.Qe j6 (aa (pv 0) (aa (pv 1) ae))) (aa (pv 2) ae))))
  (aj (sk (i0:=4) (N:=["row"]) (ρ:=(λσ=>[])) (du [] rfl) rfl S.nd rfl (Or.inl rfl) (dN (pv 1)) (λ_ _ _=>.nil) (λ_ _ _=>(jY (Di (K:=K)) rfl T.nQ boot_list (aa (pv 0) ae))))
  (aj (eG de rfl (wM rfl T.vn (aa (pv 2) ae)) (oC rfl (gc (b_ (i:=5) S.nd rfl (Or.inl rfl)) (gc (b_ (i:=6) S.nd rfl (Or.inl rfl)) oB)))
   (aj (bO (bG (NG hu) (ao bw (ao bw (pv 4) (pv 6)) (pv 6)) (l9 (pv 0) T.e8 T.vm nS (hr.mono ∅) qK qJ j6 (aa ah ae))) (ak (aJ (fT (aa (pv 4) (aa (pv 3) (aa (aD gg (pv 5) ah) ae)))))) bQ)
  (ak (m9 (ay (ac5 T) hr T.Qp T.yT.kp T.Qo aC (aa (pv 0) (aa (pv 4) (aa (pv 6) (aa (ao bw (pv 3) (pv 6)) ae)))))))))
  (ak (aJ (fT (aa (pv 4) (aa (pv 3) (aa kJ ae))))))))) ?_)
 have lt:∀zz∈gL n (d_ ag) n,0<=zz.1/\zz.1<zz.2/\zz.2<(n:Int):=aaF;have inn:Ii n (gL n (d_ ag) n):=λzz hz=>by have:=lt zz hz;exact ⟨this.1,⋯,⋯,this.2.2⟩
 have ns:Ik (gL n (d_ ag) n):=λzz hz=>by have:=lt zz hz;lia
 refine ax λ_ hR=>aP (u8 _ rfl _ rfl (wp z a (sw q B ag n rfl hw hq hT ⋯ ⋯ ⟨wd,λne=>absurd ln.symm ne,λ_ tp H1 s1 gR sh=>(ww _ rfl tp (sw d n (gL n (d_ ag) n) (o.map iN) rfl sh inn ns ⋯ (by rw [s1 _ _ ed,gW];rfl) ⟨by rw [aR];lia,λno=>absurd (ho.map iN) no,λo' ez kI H2 ot ls g s2 not FH la JV=>hR _ _ ?_⟩))⟩)))
 have eo:o'=o:=by
  have inj:∀{a b:List Nat},a.map iN=b.map iN->a=b:=fun{a b} e=>by
   have:=hV (List.map Int.toNat) e;rw [gW,gW] at this;have id':(Int.toNat ∘ iN)=id:=by funext x;exact dE x
   rwa [id',List.map_id,List.map_id] at this
  exact (inj ez).symm
 subst eo;have b6:=s1.trans s2;have q'81:=aaE (hT.mono b6) ln wd;intros bv7 q'81 ra vf ea er num;have di:((List.range n).map λi=>V.ref (ra i)).length=n:=by rw [aR,cy]
 refine ax λ_ hR=>aP (jB (xs:=(List.range n).map λi=>V.ref (ra i)) (n:=n) di (λR h=>(be _ rfl a rfl ⟨_,.of ea⟩ (h _ _ (af.refl _) (iz (.of ea))))) (cH ⋯) (λ_ i y Hx=>Hx y=some (.lst ((List.range n).map (vf i)))/\H2 y=none) ?_ ?_ ?_)
 ·intro D i y Ha Hb ys ⟨h1,h2⟩ hy e f
  exact ⟨f y _ hy h1,h2⟩
 ·intro D i x hx Hc R sc _ kc
  have hi:i<n:=by
   have:=(bK.mp hx).1
   rwa [di] at this
  have ex:x=.ref (ra i):=by rw [bU,jN hi] at hx;exact (Option.some.inj hx).symm
  subst ex;exact ⟨_,rfl,ra i,_,rfl,.inl (.of (sc _ _ (er i hi))),λl nl=>kc l _ (aG nl) nl ⟨_,au⟩ ⟨au,none_of sc nl⟩⟩
 ·intro wk rs H3 nwk s3 inj hA ewk
  refine hR _ _ ?_;have W3:WTab H3 wk n rs vf:=⟨ewk,inj,λi hi=>(hA i hi).2,λi hi=>(hA i hi).1.1⟩;have mM:∀i,i<n->H2 (rs i)=none:=λi hi=>(hA i hi).1.2;have fZ:=b6.trans s3;have F3:dR X H3 q n vf (sT M D o' 0) (sU M D o' 0):=λi j hi hj=>by
   have e1:sT M D o' 0 i j=M i j:=by unfold sT;rw [aq ⟨cG _,cG _⟩];exact OJ
   have e2:sU M D o' 0 i j=D i:=by unfold sU;rw [aq ⟨cG _,cG _⟩];exact gD _
   have b:=iC.bd 0 i j (cG _);rw [e1,e2] at b ⊢;exact sD ((num i j hi hj).mono s3) (iC.mB i j hi hj) (iC.dn i) b.1 b.2
  have nv:=Dl hq;obtain ⟨dz,hz⟩:=id hw;have FI:∀{Hc:Hp},gA n rs H3 Hc->af H2 Hc:=fun{Hc} oc b u e=>oc b u (λi hi zz=>by rw [zz,mM i hi] at e;cases e) (s3 _ _ e)
  have sH:∀{Hc:Hp},gA n rs H3 Hc->af H Hc:=fun{Hc} oc=>b6.trans (FI oc);have adL:∀i,i<n->ot≠rs i:=λi hi zz=>by have h:=la.1;rw [zz,mM i hi] at h;cases h
  have SM:∀i,i<n->∀j,j<n->ls j≠rs i:=λi hi j hj zz=>by have h:=la.2 j hj;rw [zz,mM i hi] at h;cases h
  have adM:∀i,i<n->z≠rs i:=λi hi zz=>by have h:=hz;rw [zz,none_of b6 (mM i hi)] at h;cases h
  have pack:∀{Hc:Hp} {vf:Nat->Nat->V} {k:Nat},gA n rs H3 Hc->WTab Hc wk n rs vf->dR X Hc q n vf (sT M D o' k) (sU M D o' k)->Iw H Hc q n X (gL n (d_ ag) n) o' M D k wk ot rs vf ls g:=fun{Hc vf k} oc Wc Fc=>⟨Wc,⟨none_of b6 nwk,λi hi=>none_of b6 (mM i hi)⟩,Fc,⟨FI oc _ _ la.1,λp hp=>FI oc _ _ (la.2 p hp)⟩,JV,λi hi=>⟨adL i hi,SM i hi⟩⟩;refine ax λ_ hR=>(be _ rfl d rfl ⟨_,.of (fZ _ _ ed)⟩ ?_);refine Oa (K:=K) (l:=d) (xs:=bW o') (λk σ Hc=>∃(vf:Nat->Nat->V) (v5 v6:Option V),σ=[some (.ref z),some (.ref a),some (.ref d),some (.ref ot),some (.ref wk),v5,v6]/\gA n rs H3 Hc/\WTab Hc wk n rs vf/\dR X Hc q n vf (sT M D o' k) (sU M D o' k)/\gq q M (cO o' k)) (pi vf _ _ rfl (gA.refl _ _ _) W3 F3 trivial) (λk σ Hc ⟨_,_,_,_,oc,_⟩=>.of (sH oc _ _ ed)) ?_ ?_
  ·intro k x σ Hc Tt hx;intros bv26 _ vf v5 v6 rfl oc Wc Fc gd;intro nT
   have q'82:=int_at hx;intros bv2 q'82 p hk rfl;have kl:k<o'.length:=(bK.mp hk).1;have pk:o'[k]=p:=(bK.mp hk).2;have hp:p<n:=(fk ho).mp (kA hk);have ip:o'.idxOf p=k:=by rw [<-pk];exact A1 OU kl
   have FJ:af Hc (upd Hc Tt (.tup [.int (k:Int),.int (p:Int)])):=aG nT;have eT:upd Hc Tt (.tup [.int (k:Int),.int (p:Int)]) Tt=some (.tup [.int (k:Int),.int (p:Int)]):=au;generalize upd Hc Tt (.tup [.int (k:Int),.int (p:Int)])=H4 at FJ eT ⊢;have JW:=oc.same FJ;have W4:=Wc.mono FJ;have F4:dR X H4 q n vf (sT M D o' k) (sU M D o' k):=λi j hi hj=>(Fc i j hi hj).mono FJ;refine (zn Tt _ rfl (.of eT) rfl _ (io _ rfl _ _ rfl rfl ?_));have SN:sT M D o' k p p=cf M (cO o' k) (M p) p:=by unfold sT;rw [aq ⟨⋯,⋯⟩]
   have q'83:=F4 p p hp hp;intros bv7 q'83 x m h1 h2 h3;have FK:=sH JW _ _ hz;refine ax λ_ hR=>(ad _ rfl (SC _ rfl wk _ _ _ rfl rfl (.of W4.lst) (cg hp) (SC _ rfl (rs p) _ _ _ rfl rfl (.of (W4.at' p hp)) (cg hp) (tz _ rfl z dz _ rfl FK (mf (by decide +kernel)) (ia z q 0 1 rfl ⟨dz,FK⟩ hq (cV.of_lt ∅ ∅) (λh=>absurd h nv) (λ_ v0 H5 s5 vx=>?_))))))
   refine N7 (h1.mono s5) (AX (B:=1000) ∅ vx hq (.inl rfl)) (ad _ rfl (b7 (λhb=>?_) (λhb=>?_)))
   ·have x0:x=0:=fD hb
    have FL:q∣cf M (cO o' k) (M p) p:=by rw [<-SN];exact (Dt hq (bi x m h1 h2 h3)).mpr (ii x m h1 x0)
    have BE:=JW.same s5;refine eL (ad _ rfl (on _ rfl _ rfl _ _ rfl rfl (by show 3<=sizeLine;decide) (λtp gR=>kS k kl gd (by rw [pk];exact FL) tp wk ot _ rs ls vf g ((sH BE).trans (aG gR)) au (pack (BE.same (aG gR)) ((W4.mono s5).mono (aG gR)) λi j hi hj=>((F4 i j hi hj).mono s5).mono (aG gR)))))
   ·have x0:¬x=0:=λzz=>hb (cK zz)
    have sC:¬q∣cf M (cO o' k) (M p) p:=λFL=>by rw [<-SN] at FL;obtain ⟨x',m',g1,g2⟩:=(Dt hq (bi x m h1 h2 h3)).mp FL;exact x0 ((wZ h1 g1).1.trans g2)
    refine hR _ _ ?_;have BE:=JW.same s5;have S5:=FI BE;have gQ:=aaC (L:=gL n (d_ ag) n) (ms:=g p) (X:=X) hq ho hp ip gd sC iC.dn (λa' b' ha hb ab na=>iC.zero a' b' ha hb (aaG ha hb ab na)) (JV p hp).2 iC.bd;have lk:=(JV p hp).1;refine (ad _ rfl (ul _ rfl _ rfl _ rfl (SC _ rfl ot _ _ _ rfl rfl (.of (S5 _ _ la.1)) (cg hp) (wn z wk (ls p) (Re q n X p rs vf (g p) (sT M D o' k) (sU M D o' k) (sT M D o' (k+1)) (Rs (sU M D o' (k+1)) rfl ⟨dz,s5 _ _ FK⟩ hq (W4.mono s5) (S5 _ _ (la.2 p hp)) (λi hi=>⟨SM i hi p hp,adM i hi⟩) hp (λm' dH=>⟨lk.lt m' dH,λzz=>by have:=lk.la m' dH;rw [zz] at this;lia⟩) (lk.up.imp (λh=>dY h)) ⟨⋯,iC.X1,iC.A8,λi j hi hj=>(F4 i j hi hj).mono s5,λi j _ _=>iC.bd k i j ⋯,gQ,λH6 vf6 off W6 F6=>?_⟩))))))
    exact (pi vf6 _ _ rfl (λb u nb e=>off b u nb (BE b u nb e)) W6 F6 (by rw [Dw kl,pk];exact ⟨gd,sC⟩))
  ·intro σ Hc;intros bv26 _ vf v5 v6 rfl oc Wc Fc gd
   refine hR _ _ ?_;have ll:(bW o').length=n:=by unfold bW;rw [aR,lo]
   rw [ll] at Fc gd;refine eL (be _ rfl _ rfl (by show 3<=sizeLine;decide) (λtp gR=>kF gd tp wk ot _ rs ls vf g ((sH oc).trans (aG gR)) au (pack (oc.same (aG gR)) (Wc.mono (aG gR)) λi j hi hj=>(Fc i j hi hj).mono (aG gR))))
theorem adO:aZ ["world","row","turns","i","told"] ["world","row","turns","i"] (aK Ej):=bf
theorem adP(T:Txt K mg t):aN P w K mg base bH 5 t.tS t.xK ["world","row","turns","i"] (abo t.bg):=by
 have S:=adO;have nS:=Bw (P:=P) (w:=w) (base:=base) T;obtain ⟨dv,qJ,qK⟩:=T.Bn;refine T.yV.bN S (λ_ _ _ _ H vs _ _ hr h=>?_);intros bv30 h z w' tn q X n i o bv17 wv Tw U rfl hw hq bv34 kr hi ho ew et X1 bd vy JX JY kk;have nv:=Dl hq;obtain ⟨dz,hz⟩:=id hw
 refine (ad _ (aj (acq (i0:=4) (N:=["j","number","turns","i","world"]) (ρ:=(λσ=>[σ[2]?.join,σ[3]?.join,σ[0]?.join])) (AQ [2,3,0] rfl) rfl S.nd rfl (Or.inl rfl) (wM rfl T.vn (aa (pv 1) ae)) (λ_ _ _=>.nil) (λ_ _ _=>(Mp (bG oJ (ao (kh (K:=K)) (pv 2) (pv 0)) (ao (kh (K:=K)) (pv 2) (pv 3))) (pv 1) (l9 (pv 4) T.e8 T.vm nS (hr.mono ∅) qK qJ j6 (aa ah ae)))))
  (aj (@il _ _ _ _ _ _ (l9 (pv 0) T.e8 T.vm nS (hr.mono ∅) qK qJ j6 (aa ah ae)) (jk (pv 4) (pv 3) set_list) (by rfl) (by rfl) (by rfl))
  (ak (aJ (pv 4))))) ?_)
 refine ax λ_ hR=>aP (Dm (Z:=λzs _=>zs=(((List.range ((List.range n).map wv).length).zip ((List.range n).map wv)).map λp=>(V.int (p.1:Int),p.2))) (λR h=>(be _ rfl w' rfl ⟨_,.of ew⟩ (h _ _ _ (af.refl _) (Dv (.of ew)) (by rw [qo];exact cH ⋯) rfl))) (λ_ j y Hx=>j≠i->aQ X Hx q y (Tw j) (U j)) (λD j y Ha Hb ys h e f ne=>(h ne).bE e f) ?_ ?_)
 ·rintro zs H1 rfl s1 D j x y pG Hc R sc _ kc
  obtain ⟨hj,rfl,rfl⟩:=DB pG;have s2:=s1.trans sc;have BF:=s2 _ _ et;have nV:=s2 _ _ hz;refine (u8 _ rfl _ rfl (xz tn _ _ _ rfl rfl (.of BF) (cg hj) _ rfl (SC _ rfl tn _ _ _ rfl rfl (.of BF) (cg hi) (ut _ _ rfl rfl _ rfl (b7 (λhb=>?_) (λhb=>?_))))))
  ·have hb:=fD hb
   exact (ad _ rfl (kc _ Hc (af.refl _) λ_=>(vy j hj ⋯).mono s2))
  ·refine (tz _ rfl z dz _ rfl nV (mf (by decide +kernel)) (ia z q 0 1 rfl ⟨dz,nV⟩ hq (cV.of_lt ∅ ∅) (λh=>absurd h nv) (λ_ v0 H5 s5 vx=>kc v0 H5 s5 λne=>?_)))
   have h0:=AX (B:=1000) ∅ vx hq (.inl rfl)
   have lt:o.idxOf i<o.idxOf j:=by have h1:¬((o.idxOf j:Nat):Int)<((o.idxOf i:Nat):Int):=λz=>hb (cK z);have h2:=A4 ho hj hi ne;lia
   rw [JX j hj lt];exact sD h0 (by rw [iX,iX];exact jg q) (bd j hj).2.2 (cG _) (bd j hj).2.1
 ·rintro zs H1 rfl s1 D vs Hc nD sc lG pH eD
  rw [qo] at lG;have s2:=s1.trans sc;refine hR _ _ ?_;have ev:vs=(List.range n).map λj=>vs.getD j .aO:=by
   refine eP (by simp [lG]) λj h1 h2=>?_
   rw [d8,e_,getD_at h1]
  have hv:∀j,j<n->j≠i->aQ X Hc q (vs.getD j .aO) (Tw j) (U j):=λj hj ne=>by
   have cB:j<vs.length:=by lia
   rw [getD_at cB];exact pH j _ (cw cB) ne
  obtain ⟨lv,elv,hv⟩:∃lv:Nat->V,vs=(List.range n).map lv/\∀j,j<n->j≠i->aQ X Hc q (lv j) (Tw j) (U j):=⟨λj=>vs.getD j .aO,ev,hv⟩;rw [elv] at eD;have nV:=s2 _ _ hz;refine ax λ_ hR=>aP (tz _ rfl z dz _ rfl nV (mf (by decide +kernel)) (ia z q 1 1 rfl ⟨dz,nV⟩ hq (cV.of_lt ∅ ∅) (λh=>absurd h nv) (λ_ v1 H4 s4 vx=>?_)))
  have h1:=AX (B:=1000) ∅ vx hq (.inr rfl)
  have JZ:=s4 _ _ eD;refine (ad _ rfl (SC _ rfl D _ _ i rfl rfl JZ (by rw [aR,cy];exact jC hi) (hR _ _ ?_)))
  rw [map_set];refine (ad _ rfl (kk D _ _ (iM (s2.trans s4) nD) nD au λj hj=>?_))
  split
  ·rename_i e
   subst e;rw [JY];refine aQ.put ?_ JZ;exact sD h1 (by rw [Int.one_mul,gD,lM];exact jg q) (bd j hj).2.2 (bd j hj).2.1 (bd j hj).2.1
  ·rename_i ne
   exact ((hv j hj ne).mono s4).put JZ
theorem adR:aZ ["world","row","turns","i"] ["world","row","turns","i"] (aK Ek):=bf
theorem adS(T:Txt K mg t):aN P w K mg base bH 5 t.tT t.xM ["world","row","turns","i"] (abp t.bg):=by
 have S:=adR;have nS:=Bw (P:=P) (w:=w) (base:=base) T;obtain ⟨dv,qJ,qK⟩:=T.Bn;refine T.yW.bN S (λ_ _ _ _ H vs _ _ hr h=>?_);intros bv18 h z w' tn q X n bv32 i o wv Tw U rfl hw hq kr hi bv25 ho ew et X1 bd J0 vy kk;have nv:=Dl hq;obtain ⟨dz,hz⟩:=id hw;refine (ad _ (ak (aJ (Df (N:=["j","number","turns","i","world"]) (ρ:=(λσ=>[σ[2]?.join,σ[3]?.join,σ[0]?.join])) (AQ [2,3,0] rfl) rfl (wM rfl T.vn (aa (pv 1) ae)) (λ_ _ _=>.nil) (λ_ _ _=>(Mp (bG oJ (ao (kh (K:=K)) (pv 2) (pv 0)) (ao (kh (K:=K)) (pv 2) (pv 3))) (l9 (pv 4) T.e8 T.vm nS (hr.mono ∅) qK qJ j6 (aa ah ae)) (pv 1)))))) ?_)
 refine eL (Dm (Z:=λzs _=>zs=(((List.range ((List.range n).map wv).length).zip ((List.range n).map wv)).map λp=>(V.int (p.1:Int),p.2))) (λR h=>(be _ rfl w' rfl ⟨_,.of ew⟩ (h _ _ _ (af.refl _) (Dv (.of ew)) (by rw [qo];exact cH ⋯) rfl))) (λ_ j y Hx=>aQ X Hx q y (Tw j) (U j)) (λD j y Ha Hb ys h e f=>h.bE e f) ?_ ?_)
 ·rintro zs H1 rfl s1 D j x y pG Hc R sc _ kc
  obtain ⟨hj,rfl,rfl⟩:=DB pG;have s2:=s1.trans sc;have BF:=s2 _ _ et;have nV:=s2 _ _ hz;refine (u8 _ rfl _ rfl (xz tn _ _ _ rfl rfl (.of BF) (cg hj) _ rfl (SC _ rfl tn _ _ _ rfl rfl (.of BF) (cg hi) (ut _ _ rfl rfl _ rfl (b7 (λhb=>?_) (λhb=>?_))))))
  ·have hb:=fD hb
   refine (tz _ rfl z dz _ rfl nV (mf (by decide +kernel)) (ia z q 0 1 rfl ⟨dz,nV⟩ hq (cV.of_lt ∅ ∅) (λh=>absurd h nv) (λ_ v0 H5 s5 vx=>kc v0 H5 s5 ?_)))
   have h0:=AX (B:=1000) ∅ vx hq (.inl rfl)
   rw [vy j hj ⋯]
   exact sD h0 (by rw [iX,iX];exact jg q) (bd j hj).2.2 (cG _) (bd j hj).2.1
  ·have h1:¬((o.idxOf j:Nat):Int)<((o.idxOf i:Nat):Int):=λz=>hb (cK z)
   exact (ad _ rfl (kc _ Hc (af.refl _) ((J0 j hj ⋯).mono s2)))
 ·rintro zs H1 rfl s1 D vs Hc nD sc lG pH eD
  rw [qo] at lG;have ev:vs=(List.range n).map λj=>vs.getD j .aO:=by
   refine eP (by simp [lG]) λj h1 h2=>?_
   rw [d8,e_,getD_at h1]
  refine kk D (λj=>vs.getD j .aO) Hc (s1.trans sc) nD (by unfold gB;rw [<-ev];exact eD) λj hj=>?_
  have cB:j<vs.length:=by lia
  rw [getD_at cB];exact pH j _ (cw cB)
theorem adT:aZ ["world","table","turns"] ["world","table","turns"] (aK El):=bf
theorem SO(T:Txt K mg t):aN P w K mg base bH 6 t.tU t.xN ["world","table","turns"] (abq t.bg):=by
 have S:=adT;refine T.vb.bN S (λ_ _ _ _ H vs _ _ hr h=>?_);intros bv18 h z a tn q X n bv32 o ra vf Tw U rfl hw hq kr ho bv25 hT et X1 bd vy JX JY kk;refine (ad _ (ak (aJ (Df (N:=["i","row","world","turns"]) (ρ:=(λσ=>[σ[0]?.join,σ[2]?.join])) (AQ [0,2] rfl) rfl (wM rfl T.vn (aa (pv 1) ae)) (λ_ _ _=>.nil) (λ_ _ _=>(ay (adP T) hr T.Qt T.yV.kp T.Qs aC (aa (pv 2) (aa (pv 1) (aa (pv 3) (aa (pv 0) ae))))))))) ?_);refine eL (Dm (Z:=λzs _=>zs=(((List.range ((List.range n).map λi=>V.ref (ra i)).length).zip ((List.range n).map λi=>V.ref (ra i))).map λp=>(V.int (p.1:Int),p.2))) (λR h=>(be _ rfl a rfl ⟨_,.of hT.lst⟩ (h _ _ _ (af.refl _) (Dv (.of hT.lst)) (by rw [qo];exact cH ⋯) rfl))) (λD i y Hx=>∃(r:Addr) (lv:Nat->V),y=.ref r/\r≠D/\H r=none/\gB Hx r n lv/\∀j,j<n->aQ X Hx q (lv j) (Tw i j) (U i j)) (λD j y Ha Hb ys ⟨r,lv,e1,e2,e3,e4,e5⟩ e f=>(sB r lv e1 e2 e3 (f r _ e2 e4) (λj hj=>(e5 j hj).bE e f))) ?_ ?_)
 ·rintro zs H1 rfl s1 D i x y pG Hc R sc ⟨ys,J1⟩ kc
  obtain ⟨hi,rfl,rfl⟩:=DB pG;have s2:=s1.trans sc;refine (ad _ rfl (ul _ rfl _ rfl _ rfl (Re z (ra i) tn q X n i o (vf i) (Tw i) (Rs (U i) rfl (hw.mono s2) hq kr hi ho (s2 _ _ (hT.at' i hi)) (s2 _ _ et) X1 ⟨λj hj=>bd i j hi hj,λj hj h=>(vy i j hi hj h).mono s2,λj hj h=>JX i j hi hj h,JY i hi,λr lv H3 s3 nr er ew=>kc (.ref r) H3 s3 (sB r lv rfl (λzz=>by rw [zz,J1] at nr;cases nr) (none_of s2 nr) er ew)⟩))))
 ·rintro zs H1 rfl s1 D vs Hc nD sc lG pH eD
  rw [qo] at lG;have row:∀i,i<n->∃(r:Addr) (lv:Nat->V),vs.getD i .aO=.ref r/\H r=none/\gB Hc r n lv/\∀j,j<n->aQ X Hc q (lv j) (Tw i j) (U i j):=λi hi=>by
   have b9:i<vs.length:=by lia
   obtain ⟨r,lv,e1,e2,e3,e4,e5⟩:=pH i _ (cw b9);exact (f8 r lv (by rw [getD_at b9,e1]) e3 e4 e5)
  refine kk D (λi=>if h:i<n then (row i h).choose else 0) (λi=>if h:i<n then (row i h).choose_spec.choose else λ_=>.aO) Hc (s1.trans sc) nD (λi hi=>?_) ⟨?_,λi hi=>?_⟩ λi j hi hj=>?_
  ·rw [fP hi]
   exact (row i hi).choose_spec.choose_spec.2.1
  ·rw [eD]
   congr 2
   refine eP (by simp [lG]) λi h1 h2=>?_
   have hi:i<n:=by lia
   rw [d8,e_,fP hi,<-(row i hi).choose_spec.choose_spec.1,getD_at h1]
  ·rw [fP hi,fP hi]
   exact (row i hi).choose_spec.choose_spec.2.2.1
  ·dsimp only
   rw [fP hi];exact (row i hi).choose_spec.choose_spec.2.2.2 j hj
theorem adU:aZ ["world","table","turns"] ["world","table","turns"] (aK Em):=bf
theorem SQ(T:Txt K mg t):aN P w K mg base bH 6 t.tV t.xO ["world","table","turns"] (abr t.bg):=by
 have S:=adU;refine T.vc.bN S (λ_ _ _ _ H vs _ _ hr h=>?_);intros bv18 h z a tn q X n bv32 o ra vf Tw U rfl hw hq kr ho bv19 hT et X1 bd J0 vy kk;refine (ad _ (ak (aJ (Df (N:=["i","row","world","turns"]) (ρ:=(λσ=>[σ[0]?.join,σ[2]?.join])) (AQ [0,2] rfl) rfl (wM rfl T.vn (aa (pv 1) ae)) (λ_ _ _=>.nil) (λ_ _ _=>(ay (adS T) hr T.Qv T.yW.kp T.Qu aC (aa (pv 2) (aa (pv 1) (aa (pv 3) (aa (pv 0) ae))))))))) ?_);refine eL (Dm (Z:=λzs _=>zs=(((List.range ((List.range n).map λi=>V.ref (ra i)).length).zip ((List.range n).map λi=>V.ref (ra i))).map λp=>(V.int (p.1:Int),p.2))) (λR h=>(be _ rfl a rfl ⟨_,.of hT.lst⟩ (h _ _ _ (af.refl _) (Dv (.of hT.lst)) (by rw [qo];exact cH ⋯) rfl))) (λD i y Hx=>∃(r:Addr) (lv:Nat->V),y=.ref r/\r≠D/\H r=none/\gB Hx r n lv/\∀j,j<n->aQ X Hx q (lv j) (Tw i j) (U i j)) (λD j y Ha Hb ys ⟨r,lv,e1,e2,e3,e4,e5⟩ e f=>(sB r lv e1 e2 e3 (f r _ e2 e4) (λj hj=>(e5 j hj).bE e f))) ?_ ?_)
 ·rintro zs H1 rfl s1 D i x y pG Hc R sc ⟨ys,J1⟩ kc
  obtain ⟨hi,rfl,rfl⟩:=DB pG;have s2:=s1.trans sc;refine (ad _ rfl (ul _ rfl _ rfl _ rfl (Re z (ra i) tn q X n i o (vf i) (Tw i) (Rs (U i) rfl (hw.mono s2) hq kr hi ho (s2 _ _ (hT.at' i hi)) (s2 _ _ et) X1 ⟨λj hj=>bd i j hi hj,λj hj h=>(J0 i j hi hj h).mono s2,λj hj h=>vy i j hi hj h,λr lv H3 s3 nr er ew=>kc (.ref r) H3 s3 (sB r lv rfl (λzz=>by rw [zz,J1] at nr;cases nr) (none_of s2 nr) er ew)⟩))))
 ·rintro zs H1 rfl s1 D vs Hc nD sc lG pH eD
  rw [qo] at lG;have row:∀i,i<n->∃(r:Addr) (lv:Nat->V),vs.getD i .aO=.ref r/\H r=none/\gB Hc r n lv/\∀j,j<n->aQ X Hc q (lv j) (Tw i j) (U i j):=λi hi=>by
   have b9:i<vs.length:=by lia
   obtain ⟨r,lv,e1,e2,e3,e4,e5⟩:=pH i _ (cw b9);exact (f8 r lv (by rw [getD_at b9,e1]) e3 e4 e5)
  refine kk D (λi=>if h:i<n then (row i h).choose else 0) (λi=>if h:i<n then (row i h).choose_spec.choose else λ_=>.aO) Hc (s1.trans sc) nD (λi hi=>?_) ⟨?_,λi hi=>?_⟩ λi j hi hj=>?_
  ·rw [fP hi]
   exact (row i hi).choose_spec.choose_spec.2.1
  ·rw [eD]
   congr 2
   refine eP (by simp [lG]) λi h1 h2=>?_
   have hi:i<n:=by lia
   rw [d8,e_,fP hi,<-(row i hi).choose_spec.choose_spec.1,getD_at h1]
  ·rw [fP hi,fP hi]
   exact (row i hi).choose_spec.choose_spec.2.2.1
  ·dsimp only
   rw [fP hi];exact (row i hi).choose_spec.choose_spec.2.2.2 j hj
theorem adV:aZ ["world","table","order","told","turns"] ["world","table","order"] (aK Eo):=bf
theorem adW(T:Txt K mg t):aN P w K mg base bH 9 t.tW t.xP ["world","table","order"] (abt t.bg):=by
 have S:=adV;refine T.yX.bN S (λ_ _ _ _ H _ _ _ hr h=>?_);intros bv30 h z a d q B X n ag bv26 o M D rfl hw hq hT bv34 SK ln n1 kr wd ed ho iC FN kS kF
 refine (ad _ (aj (putL 3 S.nd (ay (adG T) hr T.Qr T.yU.kp T.Qq aC (aa (pv 0) (aa (pv 1) (aa (pv 2) ae)))))
  (aj (bO (bG VN (ao aW (pv 3) ah) kJ) (ak (aJ kJ)) bQ)
  (aj (putL 4 S.nd (ay (JN T) hr T.Fg T.qA.kp T.Ff aC (aa (pv 2) ae)))
  (ak (aJ (fT (aa (ay (SO T) hr T.Ji T.vb.kp T.Jh aC (aa (pv 0) (aa (ao aW (pv 3) ah) (aa (pv 4) ae)))) (aa (ay (SQ T) hr T.Jk T.vc.kp T.Jj aC (aa (pv 0) (aa (ao aW (pv 3) ah) (aa (pv 4) ae)))) ae)))))))) ?_)
 refine ax λ_ hR=>aP (ul _ rfl _ rfl _ rfl (Re z a d q B X n ag o M (Rs D rfl hw hq hT SK ln n1 kr wd ⟨ed,ho,iC,λk hk gd dv tp wk ot H1 rs ls vf g s1 jb pk=>hR _ _ ?_,λgd tp wk ot H1 rs ls vf g s1 jb pk=>hR _ _ ?_⟩)))
 ·refine ax λ_ hR=>(SC _ rfl tp _ _ _ rfl rfl (.of jb) rfl (ib rfl true (by simp) (gj ?_)))
  exact kS k hk gd dv H1 s1
 ·clear hR
  have idx:∀{k},k<n->o.idxOf k<n:=fun{k} hk=>by have:=(iP ((fk ho).mpr hk)).1;have:=gN ho;lia
  have dz:∀j,j<=n->¬q∣eU M (cO o j):=λj hj=>wX hq (Dx gd hj);refine ax λ_ hR=>(SC _ rfl tp _ _ _ rfl rfl (.of jb) rfl (ib rfl false (by simp) (cA (hR _ _ ?_))))
  refine ax λ_ hR=>aP (tz _ rfl d n o rfl ⟨s1 _ _ ed,ho⟩ ⋯ (λtn H2 s2 SR et=>hR _ _ ?_))
  have b6:=s1.trans s2;have SS:=s2 _ _ jb;have SU:=pk.tab.r.mono s2;have F2:dR X H2 q n vf (sT M D o n) (sU M D o n):=λi j hi hj=>(pk.mB i j hi hj).mono s2;refine eL (u8 _ rfl _ rfl (xz tp _ _ _ rfl rfl (.of SS) rfl _ rfl (Re z wk tn q X n o rs vf (lh M D o) (Rs (mD M D o) rfl (hw.mono b6) hq kr ho SU et iC.X1 (λi j hi hj=>⟨(FN i j hi hj).1,(FN i j hi hj).2.1,hE hq (iC.dn i) (dz _ (by have:=idx hj;lia))⟩) ⟨λi j hi hj h=>?_,λi j hi hj h=>abm hq ho gd hi hj h,λi hi=>abl hq ho hi,λlo rl lf H3 s3 J2 nrl low wl=>?_⟩))))
  ·have:=F2 i j hi hj
   rwa [(Pg hq ho hi hj h).1,(Pg hq ho hi hj h).2] at this
  ·refine (u8 _ rfl _ rfl (xz tp _ _ _ rfl rfl (.of (s3 _ _ SS)) rfl _ rfl (Re z wk tn q X n o rs vf (ph M o) (Rs (pj M D o) rfl (hw.mono (b6.trans s3)) hq kr ho (SU.mono s3) (s3 _ _ et) iC.X1 (λi j hi hj=>⟨(FN i j hi hj).2.2.1,(FN i j hi hj).2.2.2,hE hq (iC.dn i) (dz _ (by have:=idx hi;lia))⟩) ⟨λi j hi hj h=>?_,λi j hi hj h=>abn ho hj h,λup ru uf H4 s4 zF nru pz wu=>?_⟩))))
   ·have:=(F2 i j hi hj).mono s3
    rwa [(Ph ho hi h).1,(Ph ho hi h).2] at this
   ·refine ⟨by show 2<=sizeLine;decide,λfd nU=>?_⟩
    have s5:af H4 (upd H4 fd (.tup [.ref lo,.ref up])):=aG nU;have gS:=b6.trans (s3.trans s4);exact kF gd fd lo up rl ru lf uf _ (gS.trans s5) ⟨au,(low.mono s4).mono s5,pz.mono s5,λi j hi hj=>((wl i j hi hj).mono s4).mono s5,λi j hi hj=>(wu i j hi hj).mono s5,none_of gS nU,none_of b6 J2,none_of (b6.trans s3) zF,λi hi=>⟨none_of b6 (nrl i hi),none_of (b6.trans s3) (nru i hi)⟩⟩
theorem adZ:aZ ["one","other"] ["one","other"] (aK EG):=bf
theorem ad0(T:Txt K mg t):aN P w K mg base bH 1 t.uo t.ya ["one","other"] aaM:=by
 have S:=adZ;refine T.zf.bN S (λ_ _ _ _ H _ _ _ hr h=>?_);intros bv3 h a b rfl k
 refine (ad _ (aj (Aw de (bG i3 (pv 1) ah) (ak (CG (i:=0) (j:=1) rfl S.nd rfl rfl ∅ rfl rfl (aa (pv 1) (aa (aD VI (pv 0) (pv 1)) ae)) rfl)))
  (ak (aJ (bS GZ rfl T.Fu boot_abs (aa (pv 0) ae))))) ?_)
 refine oZ (ad (λm σ H'=>H'=H/\∃(x y:Int),σ=[some (.int x),some (.int y)]/\m=y.natAbs/\Int.gcd x y=Int.gcd a b) (io b.natAbs rfl a b rfl rfl rfl) ?_);intro m σ H';intros bv11 _ rfl x y rfl em hg;refine (ce _ rfl rfl _ rfl (b7 (λhy=>?_) (λhy=>?_)))
 ·have hy:y≠0:=λz=>by subst z;revert hy;decide
  refine (ad (λσ' H2=>H2=H'/\σ'=[some (.int y),some (.int (x.fmod y))]) ?_ ?_)
  ·rintro σ' H2 ⟨rfl,rfl⟩
   exact ⟨(x.fmod y).natAbs,by rw [em];exact aaL hy,rfl,y,x.fmod y,rfl,rfl,by rw [O0];exact hg⟩
  ·exact (ad _ rfl (on _ rfl _ rfl _ _ rfl rfl hy (bi _ _ rfl rfl rfl)))
 ·have y0:y=0:=by
   by_cases z:y=0;·exact z
   ·refine absurd ?_ hy
    rw [i5,cZ z];rfl
  subst y0;rw [Int.gcd_zero_right] at hg;refine (u8 _ rfl x rfl ?_);rw [HF,hg];exact k
theorem ad1:aZ ["number","p","one","other","left","right","part"] ["number","p"] (aK EH):=bf
theorem ad2(T:Txt K mg t):aN P w K mg base bH 1 t.ur t.yb ["number","p"] aaN:=by
 have S:=ad1;refine T.zg.bN S (λ_ _ _ _ H _ _ _ hr h=>?_);intros bv24 h c p rfl p2 SV hp nc k;have pp:0<p:=by lia
 have m0:=gu c (show p≠0 by lia)
 have m1:=gF c pp;have md:p∣c-c % p:=⟨c / p,by have:=Aj c p;lia⟩
 have mz:1<=c % p:=by have:c % p≠0:=λz=>nc (vU z);lia
 have g0:Int.gcd (c % p) p=1:=by rw [Int.gcd_comm];exact C8 p2 SV hp mz m1
 refine (ad _ (aj (CG (i:=2) (j:=3) rfl S.nd rfl rfl ∅ rfl rfl (aa (aD gh (pv 0) (pv 1)) (aa (pv 1) ae)) rfl)
  (aj (@il _ _ _ _ _ _ (fT (aa ah (aa ah ae))) (oC rfl (gc (b_ (i:=4) S.nd rfl (Or.inl rfl)) (gc (b_ (i:=5) S.nd rfl (Or.inl rfl)) oB))) (by rfl) (by rfl) (by rfl))
  (aj (Aw de (bG i3 (pv 3) ah) (aj (putL 6 S.nd (aD CJ (pv 2) (pv 3)))
  (aj (CG (i:=2) (j:=3) rfl S.nd rfl rfl ∅ rfl rfl (aa (pv 3) (aa (aD pX (pv 2) (aD iq (pv 6) (pv 3))) ae)) rfl)
  (ak (CG (i:=4) (j:=5) rfl S.nd rfl rfl ∅ rfl rfl (aa (pv 5) (aa (aD pX (pv 4) (aD iq (pv 6) (pv 5))) ae)) rfl)))))
  (ak (aJ (aD gh (pv 4) (pv 1))))))) ?_)
 refine ax λ_ hR=>(ad _ rfl (gl _ rfl _ _ rfl rfl pp _ rfl (ii _ _ rfl (hR _ _ ?_))));refine ax λ_ hR=>aP ⟨by show 2<=sizeLine;decide,λtq FO=>(zn tq _ rfl (.of au) rfl _ (io _ rfl _ _ rfl rfl (hR _ _ ?_)))⟩
 have s1:af H (upd H tq (.tup [.int 1,.int 0])):=aG FO;generalize upd H tq (.tup [.int 1,.int 0])=H1 at s1 ⊢;refine ax λ_ hR=>(ad (λm σ H'=>H'=H1/\∃(x y l r:Int) (v6:Option V),σ=[some (.int c),some (.int p),some (.int x),some (.int y),some (.int l),some (.int r),v6]/\m=y.natAbs/\0<=x/\x<=997/\0<=y/\y<=997/\p∣l*c-x/\p∣r*c-y/\Int.gcd x y=1) (ww _ rfl (c % p) (sw p 1 0 _ rfl rfl m0 ⋯ ⋯ SV ⟨by rw [Int.one_mul];exact md,by rw [iX,vT];exact Int.dvd_neg.mpr (iW p),g0⟩)) ?_)
 intro m σ H';intros bv6 _ rfl x y l bv3 r v6 rfl bv25 em x0 x1 y0 y1 hl lD hg;refine (ce _ rfl rfl _ rfl (b7 (λhy=>?_) (λhy=>?_)))
 ·have hy:y≠0:=λz=>by subst z;revert hy;decide
  have yp:0<y:=by lia
  have dm:=Aj x y;have e0:=gu x hy;have e1:=gF x yp;have d0:0<=x / y:=Ct x0 y0;have d1:x / y<=997:=Int.le_trans (Int.ediv_le_self _ x0) x1;have ex:x-x / y*y=x % y:=by rw [eE];lia
  refine (ad (λσ' H2=>H2=H'/\σ'=[some (.int c),some (.int p),some (.int y),some (.int (x-x / y*y)),some (.int r),some (.int (l-x / y*r)),some (.int (x / y))]) ?_ ?_)
  ·rintro σ' H2 ⟨rfl,rfl⟩
   refine (bv ((x % y).natAbs) ⋯ rfl (Exists.intro y (sw (x-x / y*y) r (l-x / y*r) _ rfl (by rw [ex]) y0 y1 ⋯ ⋯ ⟨lD,?_,?_⟩)))
   ·obtain ⟨a1,b1⟩:=hl
    obtain ⟨a2,b2⟩:=lD;exact ⟨a1-x / y*a2,by grind⟩
   ·rw [ex]
    have:=O0 x y;rw [Int.fmod_eq_emod,aq (.inl y0),Int.add_zero] at this;rw [this];exact hg
  ·refine ax λ_ hR=>aP (on _ rfl _ rfl _ _ rfl rfl ⟨yp,⋯⟩ (hR _ _ ?_))
   refine ax λ_ hR=>(u8 _ rfl _ rfl (on _ rfl _ rfl _ _ rfl rfl (.inl ⟨⋯,⋯⟩) (bi _ _ rfl rfl (ii _ _ rfl (hR _ _ ?_)))))
   exact (u8 _ rfl _ rfl (on _ rfl _ rfl _ _ rfl rfl (.inl ⟨⋯,⋯⟩) (bi _ _ rfl rfl (bi _ _ rfl rfl rfl))))
 ·have y0:y=0:=by
   by_cases z:y=0;·exact z
   ·refine absurd ?_ hy
    rw [i5,cZ z];rfl
  subst y0;rw [Int.gcd_zero_right] at hg;have x1:x=1:=by lia
  subst x1;refine hR _ _ ?_;refine (on _ rfl _ rfl _ _ rfl rfl pp (k _ _ s1 (gu _ ⋯) (gF _ pp) ?_))
  have:=Aj l p;obtain ⟨a1,b1⟩:=hl;exact ⟨a1-l / p*c,by grind⟩
theorem ad3:aZ ["told","top","bottom","sign","shared"] ["told","top","bottom"] (aK EI):=bf
theorem vz(T:Txt K mg t):aN P w K mg base bH 2 t.uu t.yc ["told","top","bottom"] aaO:=by
 have S:=ad3;refine T.lB.bN S (λ_ _ _ _ H _ _ _ hr h=>?_);intros bv32 h td q a b Y rfl tw hq nb bA bv1 bB bY k
 refine (ad _ (aj (bO (bG dO (ao aW (pv 0) ah) dq) (ak (aJ (aD gh (aD iq (pv 1) (ay (ad2 T) hr T.QT T.zg.kp T.QS aC (aa (pv 2) (aa (ao aW (pv 0) ah) ae)))) (ao aW (pv 0) ah)))) bQ)
  (aj (putL 3 S.nd (aD pX ah (aD iq ah (jY G0 rfl T.Bv boot_int (aa (jV oJ (pv 2) ah) ae)))))
  (aj (putL 4 S.nd (ay (ad0 T) hr T.QR T.zf.kp T.QQ aC (aa (pv 1) (aa (pv 2) ae))))
  (ak (aJ (fT (aa (aD C1 (aD iq (pv 3) (pv 1)) (pv 4)) (aa (aD C1 (aD iq (pv 3) (pv 2)) (pv 4)) ae)))))))) ?_)
 rcases tw with ⟨rfl,tw⟩ | ⟨qn,tw⟩
 ·have b0:b≠0:=λz=>nb (by rw [z];exact iW 0)
  refine ax λ_ hR=>(SC _ rfl td _ _ _ rfl rfl (.of tw) rfl (ib rfl false (by decide +kernel) (cA (hR _ _ ?_))))
  have gp:0<Int.gcd a b:=Int.gcd_pos_of_ne_zero_right a b0;have gle:Int.gcd a b<=b.natAbs:=Nat.le_of_dvd ⋯ (Int.ofNat_dvd.mp (by rw [Int.dvd_natAbs];exact jf a b))
  have cd:Hz 0 (Int.gcd a b:Int):=⟨⋯,by show (Int.gcd a b:Int).natAbs<2 ^ 2048;rw [vR];exact fz (aM gle (aM bB bY)) (by decide +kernel)⟩
  obtain ⟨sg,J4⟩:∃sg:Int,sg=if b<0 then -1 else 1:=⟨_,rfl⟩
  have sg1:sg=1\/sg=-1:=by rw [J4];split <;> simp
  refine ax λ_ hR=>aP (io _ rfl _ _ rfl rfl (.inr (sK (decide (b<0)) rfl _ _ rfl rfl (.inl ⟨∅,∅⟩) (bi _ _ rfl rfl (hR _ _ ?_)))))
  rw [show (λi j=>V.int (i-j)) 1 (2*if decide (b<0)=true then 1 else 0)=V.int sg by
   show V.int _=_;rw [J4];by_cases h:b<0;·rw [aq (cK h),aq h];rfl
   ·rw [az (by simpa using h),az h];rfl]
  refine ax λ_ hR=>aP (u8 _ rfl _ rfl (ii a b rfl (hR _ _ ?_)));obtain ⟨lw,le⟩:=aaP (a:=a) b0 sg J4;refine eL (on _ rfl _ rfl _ _ rfl rfl (.inl ⟨⋯,⋯⟩) (gl _ rfl _ _ rfl rfl cd _ rfl (gl _ rfl _ _ rfl rfl (.inl ⟨⋯,⋯⟩) _ rfl (sB _ _ rfl rfl cd (by show 2<=sizeLine;decide) (λtp gR=>k _ _ (aG gR) ?_)))))
  have W:aQ (((sg*a).fdiv (Int.gcd a b:Int)).natAbs+((sg*b).fdiv (Int.gcd a b:Int)).natAbs) (upd H tp (.tup [.int ((sg*a).fdiv (Int.gcd a b:Int)),.int ((sg*b).fdiv (Int.gcd a b:Int))])) 0 (.ref tp) a b:=(bi _ _ (.aU au lw ⋯ ⋯) (by rw [le,lM];exact iW 0) nb)
  exact W.bd bA bB
 ·have eQ:2<=q/\q<=997/\g9 q=true:=by rcases hq with h | h;exact absurd h qn;exact h
  have qp:0<q:=by lia
  refine ax λ_ hR=>(SC _ rfl td _ _ _ rfl rfl (.of tw) rfl (ib rfl true (by decide +kernel) (gj ?_)))
  refine (u8 _ rfl _ rfl (SC _ rfl td _ _ _ rfl rfl (.of tw) rfl (sB b q rfl eQ.1 eQ.2.1 eQ.2.2 ⟨nb,λr H1 s1 r0 r1 rd=>?_⟩)));refine (f8 _ _ rfl rfl (.inr ⟨⋯,⋯⟩) (SC _ rfl td _ _ _ rfl rfl (.of (s1 _ _ tw)) rfl (f8 _ _ rfl rfl qp (k _ _ s1 (bi _ 1 (.rem (gu _ ⋯) (gF _ qp) eQ.2.1) ?_ nb)))))
  have c:Cg q (a*r % q*b) (a*r*b):=(AY q _).mulR b;have c2:Cg q (a*r*b) (a*1):=(Cg.of_eq (show a*r*b=a*(r*b) by grind)).trans (Cg.mulL a rd)
  exact c.trans c2
theorem ad5:aZ ["told","a","b"] ["told","a","b"] (aK EJ):=bf
theorem SW(T:Txt K mg t):aN P w K mg base bH 3 t.uv t.yd ["told","a","b"] (O1 (λT U T' U'=>T*U'+T'*U) (λT U T' U'=>U*U')):=by
 have S:=ad5;refine T.vg.bN S (λ_ _ _ _ H _ _ _ hr h=>?_);intros bv18 h td v u q Tw U bv16 Tv U' X Y rfl tw bv25 hq hv hu gO nb bt bb k
 refine (ad _ (aj (bO (bG dO (ao aW (pv 0) ah) dq) (ak (aJ (aD gh (aD gg (pv 1) (pv 2)) (ao aW (pv 0) ah)))) bQ)
  (ak (aJ (ay (vz T) hr T.qD T.lB.kp T.qC aC (aa (pv 0) (aa (aD gg (aD iw (ao aW (pv 1) ah) (ao aW (pv 2) ah)) (aD iw (ao aW (pv 2) ah) (ao aW (pv 1) ah))) (aa (aD iw (ao aW (pv 1) ah) (ao aW (pv 2) ah)) ae))))))) ?_)
 intros bv7 hv x m h1 h2 h3;intros bv7 hu y n g1 g2 g3;obtain ⟨a1,ha⟩:=h2;obtain ⟨b1,hb⟩:=g2;have key:q∣(x*n+y*m)*(U*U')-(Tw*U'+Tv*U)*(m*n):=⟨n*U'*a1+m*U*b1,by grind⟩
 rcases tw with ⟨rfl,tw⟩ | ⟨qn,tw⟩
 ·cases h1 with
  | rem _ _ _=>lia
  | @aU p _ _ ep l bx bm=>
   cases g1 with
   | rem _ _ _=>lia
   | @aU r _ _ er l' ja bn=>
    have mx:=ql bx gO;have mm:=ql bm gO;have my:=ql ja gO;have mn:=ql bn gO;have m0:=l.pos;have n0:=l'.pos;have J5:m*n≠0:=Int.ne_of_gt (lL ⋯ ⋯)
    refine ax λ_ hR=>(SC _ rfl td _ _ _ rfl rfl (.of tw) rfl (ib rfl false (by decide +kernel) (cA (hR _ _ ?_))))
    refine (ad _ rfl (SC _ rfl p _ _ _ rfl rfl (.of ep) rfl (SC _ rfl r _ _ _ rfl rfl (.of er) rfl (f8 _ _ rfl rfl ⟨mx,mn⟩ (SC _ rfl r _ _ _ rfl rfl (.of er) rfl (SC _ rfl p _ _ _ rfl rfl (.of ep) rfl (f8 _ _ rfl rfl ⟨my,mm⟩ (bi _ _ rfl rfl (SC _ rfl p _ _ _ rfl rfl (.of ep) rfl (SC _ rfl r _ _ _ rfl rfl (.of er) rfl (zn _ _ rfl rfl ⟨mm,mn⟩ td (sw 0 (x*n+y*m) (m*n) (10 ^ 300) rfl (.inl ⟨rfl,tw⟩) (.inl rfl) (λz=>J5 (e9.mp z)) ?_ (aM (A9 bm bn gO) (by decide +kernel)) ⟨aV _,λv' H' s' w'=>k v' H' s' ?_⟩))))))))))))
    ·have h1:=A9 bx bn gO
     have h2:=A9 ja bm gO;exact aM (show _<=10 ^ 280+10 ^ 280 by lia) (by decide +kernel)
    ·refine (w'.eq (.inl rfl) ?_ nb).bd bt bb
     have:=e9.mp key;exact Cg.of_eq (by dsimp only;grind)
 ·have eQ:2<=q/\q<=997/\g9 q=true:=by rcases hq with h | h;exact absurd h qn;exact h
  have qp:0<q:=by lia
  cases h1 with
  | aU _ _ _ _=>exact absurd rfl qn
  | rem x0 x1 x2=>
   cases g1 with
   | aU _ _ _ _=>exact absurd rfl qn
   | rem y0 y1 y2=>
    refine ax λ_ hR=>(SC _ rfl td _ _ _ rfl rfl (.of tw) rfl (ib rfl true (by decide +kernel) (gj ?_)))
    refine (ad _ rfl (io _ rfl _ _ rfl rfl (SC _ rfl td _ _ _ rfl rfl (.of tw) rfl (f8 _ _ rfl rfl qp (k _ _ (af.refl _) (bi _ 1 (.rem (gu _ ⋯) (gF _ qp) eQ.2.1) ?_ nb))))))
    have c:Cg q ((x+y) % q*(U*U')) ((x+y)*(U*U')):=(AY q _).mulR (U*U');have c2:Cg q ((x+y)*(U*U')) ((Tw*U'+Tv*U)*1):=by
     have e:(x*1+y*1)*(U*U')-(Tw*U'+Tv*U)*(1*1)=(x+y)*(U*U')-(Tw*U'+Tv*U)*1:=by grind
     unfold Cg;rw [<-e];exact key
    exact c.trans c2
theorem ad6:aZ ["told","a","b"] ["told","a","b"] (aK EK):=bf
theorem ad7(T:Txt K mg t):aN P w K mg base bH 3 t.uw t.ye ["told","a","b"] (O1 (λT U T' U'=>T*T') (λT U T' U'=>U*U')):=by
 have S:=ad6;refine T.zh.bN S (λ_ _ _ _ H _ _ _ hr h=>?_);intros bv18 h td v u q Tw U bv16 Tv U' X Y rfl tw bv25 hq hv hu gO nb bt bb k
 refine (ad _ (aj (bO (bG dO (ao aW (pv 0) ah) dq) (ak (aJ (aD gh (aD iq (pv 1) (pv 2)) (ao aW (pv 0) ah)))) bQ)
  (ak (aJ (ay (vz T) hr T.qD T.lB.kp T.qC aC (aa (pv 0) (aa (aD iw (ao aW (pv 1) ah) (ao aW (pv 2) ah)) (aa (aD iw (ao aW (pv 1) ah) (ao aW (pv 2) ah)) ae))))))) ?_)
 intros bv7 hv x m h1 h2 h3;intros bv7 hu y n g1 g2 g3;obtain ⟨a1,ha⟩:=h2;obtain ⟨b1,hb⟩:=g2;have key:q∣(x*y)*(U*U')-(Tw*Tv)*(m*n):=⟨y*U'*a1+Tw*m*b1,by grind⟩
 rcases tw with ⟨rfl,tw⟩ | ⟨qn,tw⟩
 ·cases h1 with
  | rem _ _ _=>lia
  | @aU p _ _ ep l bx bm=>
   cases g1 with
   | rem _ _ _=>lia
   | @aU r _ _ er l' ja bn=>
    have mx:=ql bx gO;have mm:=ql bm gO;have my:=ql ja gO;have mn:=ql bn gO;have m0:=l.pos;have n0:=l'.pos;have J5:m*n≠0:=Int.ne_of_gt (lL ⋯ ⋯)
    refine ax λ_ hR=>(SC _ rfl td _ _ _ rfl rfl (.of tw) rfl (ib rfl false (by decide +kernel) (cA (hR _ _ ?_))))
    refine (ad _ rfl (SC _ rfl p _ _ _ rfl rfl (.of ep) rfl (SC _ rfl r _ _ _ rfl rfl (.of er) rfl (f8 _ _ rfl rfl ⟨mx,my⟩ (SC _ rfl p _ _ _ rfl rfl (.of ep) rfl (SC _ rfl r _ _ _ rfl rfl (.of er) rfl (zn _ _ rfl rfl ⟨mm,mn⟩ td (sw 0 (x*y) (m*n) (10 ^ 300) rfl (.inl ⟨rfl,tw⟩) (.inl rfl) (λz=>J5 (e9.mp z)) ?_ (aM (A9 bm bn gO) (by decide +kernel)) ⟨aV _,λv' H' s' w'=>k v' H' s' ?_⟩))))))))
    ·exact aM (A9 bx ja gO) (by decide +kernel)
    ·refine (w'.eq (.inl rfl) ?_ nb).bd bt bb
     have:=e9.mp key;exact Cg.of_eq (by dsimp only;grind)
 ·have eQ:2<=q/\q<=997/\g9 q=true:=by rcases hq with h | h;exact absurd h qn;exact h
  have qp:0<q:=by lia
  cases h1 with
  | aU _ _ _ _=>exact absurd rfl qn
  | rem x0 x1 x2=>
   cases g1 with
   | aU _ _ _ _=>exact absurd rfl qn
   | rem y0 y1 y2=>
    refine ax λ_ hR=>(SC _ rfl td _ _ _ rfl rfl (.of tw) rfl (ib rfl true (by decide +kernel) (gj ?_)))
    refine (on _ rfl _ rfl _ _ rfl rfl (.inl ⟨⋯,⋯⟩) (SC _ rfl td _ _ _ rfl rfl (.of tw) rfl (f8 _ _ rfl rfl qp (k _ _ (af.refl _) (bi _ 1 (.rem (gu _ ⋯) (gF _ qp) eQ.2.1) ?_ nb)))))
    have c:Cg q ((x*y) % q*(U*U')) ((x*y)*(U*U')):=(AY q _).mulR (U*U');have c2:Cg q ((x*y)*(U*U')) ((Tw*Tv)*1):=by
     have e:(x*y)*(U*U')-(Tw*Tv)*(1*1)=(x*y)*(U*U')-(Tw*Tv)*1:=by grind
     unfold Cg;rw [<-e];exact key
    exact c.trans c2
theorem ad8:aZ ["told"] ["told"] (aK EN):=bf
theorem vA(T:Txt K mg t):aN P w K mg base bH 3 t.uz t.yh ["told"] aaQ:=by have S:=ad8;refine T.lC.bN S (λ_ _ _ s H _ _ _ hr h=>?_);intros bv10 h td q rfl tw hq k;refine (ad _ (ak (aJ (ay (vz T) hr T.qD T.lB.kp T.qC aC (aa (pv 0) (aa ah (aa ah ae)))))) ?_);exact (ww _ rfl td (sw q 0 1 1000 rfl tw hq (ki hq) ∅ ∅ ⟨by decide +kernel,λv H' s w=>k v H' s (aaR hq w ∅)⟩))
theorem ad9:aZ ["script","k"] ["script","k"] (aK EC):=bf
theorem ad_(T:Txt K mg t):aN P w K mg base bH 1 t.uh t.x8 ["script","k"] (aav K):=by
 have S:=ad9;refine T.zb.bN S (λ_ _ _ _ H _ _ _ hr h=>?_);intros bv14 h a ns k rfl hS kk
 refine (ad _ (aj (bO (bG oJ (pv 1) (bS eJ rfl T.dI dJ (aa (pv 0) ae))) (ak (aJ (ao bw (pv 0) (pv 1)))) bQ)
  (ak (aJ ah))) ?_)
 refine ax λ_ hR=>(ad _ rfl (io _ rfl a _ rfl (.inl hS) (ut _ _ rfl rfl _ rfl (b7 (λhb=>?_) (λhb=>hR _ _ (kk 0))))));have hb:=fD hb;rw [aR] at hb;have hk:k<ns.length:=by lia
 exact (ad _ rfl (SC _ rfl a _ _ _ rfl rfl hS (kM (by rw [bU,cw hk];rfl)) (kk _)))
theorem aea:aZ ["tape","many","found"] ["tape","many"] (aK EE):=bf
theorem gs(T:Txt K mg t):aN P w K mg base bH 1 t.um t.x_ ["tape","many"] aax:=by
 have S:=aea;refine T.ee.bN S (λ_ _ _ _ H _ _ _ hr h=>?_);obtain ⟨Tp,m,rfl,⟨x,e⟩,m1,m2,kk⟩:=h
 refine (ad _ (aj (putL 2 S.nd (aD gh (ao bw (pv 0) ah) (pv 1)))
  (aj (@il _ _ _ _ _ _ (aD CJ (ao bw (pv 0) ah) (pv 1)) (jk (pv 0) ah set_list) (by rfl) (by rfl) (by rfl))
  (ak (aJ (pv 2))))) ?_)
 have p0:(0:Int)<(m:Int):=by lia
 refine ax λ_ hR=>aP (SC _ rfl Tp _ _ _ rfl rfl (.of e) rfl (sK _ rfl _ _ rfl rfl p0 (hR _ _ ?_)));refine ax λ_ hR=>(SC _ rfl Tp _ _ _ rfl rfl (.of e) rfl (sK _ rfl _ _ rfl rfl ⟨p0,⋯⟩ (SC _ rfl Tp _ 0 0 rfl rfl e rfl (hR _ _ ?_))))
 have d0:=gu x (show (m:Int)≠0 by lia)
 have d1:=gF x p0;obtain ⟨d,ed⟩:=An d0;refine (ad _ rfl ?_);dsimp only;rw [ed];exact kk d _ ⋯ aI.upd ⟨_,au⟩
theorem aeb:aZ ["script","k","cell","p","number","last","turn"] ["script","k"] (aK ED):=bf
theorem BG(T:Txt K mg t):aN P w K mg base bH 2 t.uj t.x9 ["script","k"] (aaw K):=by
 have S:=aeb;refine T.nO.bN S (λ_ _ _ _ H _ _ _ hr h=>?_);intros bv17 h a ns k rfl hS k1 kk
 refine (ad _ (aj (putL 2 S.nd (ay (ad_ T) hr T.QP T.zb.kp T.QO aC (aa (pv 0) (aa (pv 1) ae))))
  (aj (bO (bG dO (aD gh (pv 2) ah) ah) (ak (aJ (cJ (aa (aD CJ (pv 2) ah) ae)))) bQ)
  (aj (putL 3 S.nd ah)
  (aj (putL 4 S.nd ah)
  (aj (putL 5 S.nd (aD gh (aD gg (aD gg (aD iq (aD gh (pv 2) (pv 3)) ah) (aD iq ah (pv 1))) ah) (pv 3)))
  (aj (eG de rfl (fe rfl T.dW (aa ah ae)) (b_ (i:=6) S.nd rfl (Or.inl rfl))
   (aj (putL 4 S.nd (aD gg (aD iq (pv 4) (pv 3)) (pv 5)))
  (ak (putL 5 S.nd (aD gh (aD gg (aD gg (aD iq (pv 5) (pv 5)) (aD iq ah (pv 1))) (pv 6)) (pv 3))))))
  (ak (aJ (cJ (aa (pv 4) ae)))))))))) ?_)
 have p2:(0:Int)<2:=by decide
 have pp:(0:Int)<2305843009213693951:=by decide
 refine ax λ_ hR=>aP (ww _ rfl _ (wE rfl a ns k rfl hS (λz=>hR _ _ ?_)));refine ax λ_ hR=>(sK _ rfl _ _ rfl rfl p2 (ib rfl _ rfl (b7 (λhb=>?_) (λhb=>hR _ _ ?_))))
 ·refine (ad _ rfl (sB _ _ rfl rfl ⟨p2,∅⟩ (by show 1<=sizeLine;decide) (λTp BH=>?_)))
  exact kk Tp _ (aG BH) BH ⟨_,au⟩
 ·refine ax λ_ hR=>aP (hR _ _ ?_)
  refine ax λ_ hR=>aP (hR _ _ ?_);refine ax λ_ hR=>aP (on _ rfl _ rfl _ _ rfl rfl pp (f8 _ _ rfl rfl (.inr ⟨∅,∅⟩) (sK _ rfl _ _ rfl rfl (.inl ⟨∅,∅⟩) (bi _ _ rfl rfl (bi _ _ rfl rfl (sK _ rfl _ _ rfl rfl pp (hR _ _ ?_)))))))
  have l0:=gu (z % 2305843009213693951*48271+69621*(k:Int)+11) (show (2305843009213693951:Int)≠0 by decide)
  have l1:=gF (z % 2305843009213693951*48271+69621*(k:Int)+11) pp;dsimp only;generalize (z % 2305843009213693951*48271+69621*(k:Int)+11) % 2305843009213693951=la at l0 l1 ⊢;refine ax λ_ hR=>(o0 7 rfl ∅ ∅ ?_)
  refine lY (λi σ Hc=>Hc=H/\∃(nu la:Int) (v6:Option V),σ=[some (.ref a),some (.int (k:Int)),some (.int z),some (.int 2305843009213693951),some (.int nu),some (.int la),v6]/\0<=la/\la<2305843009213693951) (wE rfl _ _ _ rfl l0 l1) ?_ ?_
  ·intro i σ Hc hi;intros bvA _ rfl bv14 nu la v6 rfl l0 l1
   dsimp only [ck];refine ax λ_ hR=>aP (on _ rfl _ rfl _ _ rfl rfl (.inr ⟨∅,∅⟩) (io _ rfl _ _ rfl rfl (hR _ _ ?_)))
   refine (on _ rfl _ rfl _ _ rfl rfl (.inl ⟨⋯,⋯⟩) (sK _ rfl _ _ rfl rfl (.inl ⟨∅,∅⟩) (bi _ _ rfl rfl (io _ rfl _ _ rfl rfl (sK _ rfl _ _ rfl rfl pp ?_)))))
   refine (wE rfl _ _ _ rfl ?_ ?_);·exact gu _ ∅
   ·exact gF _ pp
  ·rintro σ Hc ⟨rfl,nu,la,v6,rfl,_,_⟩
   refine hR _ _ ?_;refine (bv _ rfl (by show 1<=sizeLine;decide) (λTp BH=>?_))
   exact kk Tp _ (aG BH) BH ⟨_,au⟩
theorem aec:aZ ["told","tape","top"] ["told","tape"] (aK EM):=bf
theorem qL(T:Txt K mg t):aN P w K mg base bH 3 t.uy t.yg ["told","tape"] aaS:=by
 have S:=aec;refine T.kq.bN S (λ_ _ _ _ H _ _ _ hr h=>?_);intros bv26 h td Tp q rfl tw hq tc k
 refine (ad _ (aj (bO (PW.pt (pw_and (bG dO (ao aW (pv 0) ah) dq) (pw_and1 (bG dO (ay (gs T) hr T.fL T.ee.kp T.fK aC (aa (pv 1) (aa ah ae))) ah)))) (ak (aJ (ay (gs T) hr T.fL T.ee.kp T.fK aC (aa (pv 1) (aa (ao aW (pv 0) ah) ae))))) bQ)
  (aj (putL 2 S.nd (aD pX (ay (gs T) hr T.fL T.ee.kp T.fK aC (aa (pv 1) (aa ah ae))) ah))
  (aj (bO (bG dO (ao aW (pv 0) ah) dq) (ak (aJ (aD gh (pv 2) (ao aW (pv 0) ah)))) bQ)
  (ak (aJ (ay (vz T) hr T.qD T.lB.kp T.qC aC (aa (pv 0) (aa (pv 2) (aa (ao bw (cJ (aa ah (aa ah (aa ah (aa ah (aa ah ae)))))) (ay (gs T) hr T.fL T.ee.kp T.fK aC (aa (pv 1) (aa ah ae)))) ae))))))))) ?_)
 rcases id tw with ⟨q0,e0⟩ | ⟨qn,e0⟩
 ·refine ax λ_ hR=>(SC _ rfl td _ _ _ rfl rfl (.of e0) rfl (ib rfl false (by decide +kernel) (cA (cA (hR _ _ ?_)))))
  refine ax λ_ hR=>aP (ad _ rfl (sB Tp 7 rfl tc ∅ ∅ (λd H1 d7 o1 t1=>(bi _ _ rfl rfl (hR _ _ ?_)))))
  have tw1:=tw.off o1 tc;obtain ⟨_,e1⟩ | ⟨qn,_⟩:=id tw1
  ·refine ax λ_ hR=>(SC _ rfl td _ _ _ rfl rfl (.of e1) rfl (ib rfl false (by decide +kernel) (cA (hR _ _ ?_))))
   refine (be _ rfl _ rfl (by show 5<=sizeLine;decide) (λl nl=>?_))
   have sl:af H1 (upd H1 l (.lst [.int 1,.int 1,.int 1,.int 2,.int 3])):=aG nl;have el:upd H1 l (.lst [.int 1,.int 1,.int 1,.int 2,.int 3]) l=some (.lst [.int 1,.int 1,.int 1,.int 2,.int 3]):=au;have lT:l≠Tp:=t1.ne nl;generalize upd H1 l (.lst [.int 1,.int 1,.int 1,.int 2,.int 3])=H2 at sl el ⊢;have t2:=t1.mono sl;refine (ad _ rfl (sB Tp 5 rfl t2 ∅ ∅ (λj H3 j5 o3 t3=>?_)))
   obtain ⟨b,eb,hb⟩:∃b:Int,ir [V.int 1,.int 1,.int 1,.int 2,.int 3] (j:Int)=some (.int b)/\(b=1\/b=2\/b=3):=by
    match j,j5 with
    | 0,_=>exact (ad 1 rfl (.inl rfl))
    | 1,_=>exact (ad 1 rfl (.inl rfl))
    | 2,_=>exact (ad 1 rfl (.inl rfl))
    | 3,_=>exact (ad 2 rfl (.inr (.inl rfl)))
    | 4,_=>exact (ad 3 rfl (.inr (.inr rfl)))
   have tw3:=(tw1.mono sl).off o3 t2;refine (gt l _ _ _ rfl rfl (.of (o3 _ _ lT el)) eb (Exists.intro td (sw q ((d:Int)-3) b 1000 rfl tw3 hq ?_ ⋯ ⋯ ⟨by decide +kernel,λv H4 s4 w4=>?_⟩)))
   ·rw [q0]
    intro z;have:=e9.mp z;lia
   ·obtain ⟨x,m,g1,g2,g3⟩:=IA w4 ⋯ ⋯ q0
    exact k v x m H4 (o1.trans ((aI.of sl).trans (o3.trans (aI.of s4)))) (t3.mono s4) g1 λ_=>⟨⋯,h_ g3 (by rcases hb with rfl | rfl | rfl <;> decide)⟩
  ·exact absurd q0 qn
 ·have eQ:2<=q/\q<=997/\g9 q=true:=by rcases hq with h | h;exact absurd h qn;exact h
  have qp:0<q:=by lia
  refine ax λ_ hR=>(SC _ rfl td _ _ _ rfl rfl (.of e0) rfl (ib rfl true (by decide +kernel) (gj ?_)))
  refine (ad _ rfl (sB Tp 4 rfl tc ∅ ∅ (λd H1 d4 o1 t1=>?_)))
  have tw1:=tw.off o1 tc;obtain ⟨z,_⟩ | ⟨_,e1⟩:=id tw1;·exact absurd z qn
  refine (ib rfl _ rfl (b7 (λhb=>?_) (λhb=>hR _ _ ?_)))
  ·refine (ad _ rfl (SC _ rfl td _ _ _ rfl rfl (.of e1) rfl (sB Tp q.toNat (by show [V.ref Tp,V.int q]=_;rw [Int.toNat_of_nonneg ⋯]) t1 ⋯ ⋯ (λd2 H2 d2l o2 t2=>?_))))
   exact k _ (d2:Int) 1 H2 (o1.trans o2) t2 (.rem ⋯ ⋯ eQ.2.1) λz=>absurd z qn
  ·refine ax λ_ hR=>aP (ad _ rfl (sB Tp 7 rfl t1 ∅ ∅ (λd2 H2 d7 o2 t2=>(bi _ _ rfl rfl (hR _ _ ?_)))))
   have tw2:=tw1.off o2 t1;obtain ⟨z,_⟩ | ⟨_,e2⟩:=id tw2;·exact absurd z qn
   refine ax λ_ hR=>(SC _ rfl td _ _ _ rfl rfl (.of e2) rfl (ib rfl true (by decide +kernel) (gj ?_)))
   refine (ad _ rfl (SC _ rfl td _ _ _ rfl rfl (.of e2) rfl (f8 _ _ rfl rfl qp (k _ _ 1 H2 (o1.trans o2) t2 (.rem (gu _ ⋯) (gF _ qp) eQ.2.1) λz=>absurd z qn))))
theorem aed:aZ ["tape","way","wheels"] ["tape"] (aK EL):=bf
theorem aee(T:Txt K mg t):aN P w K mg base bH 2 t.ux t.yf ["tape"] aaT:=by
 have S:=aed;have SX:=gs (P:=P) (w:=w) (base:=base) T;refine T.zi.bN S (λ_ _ _ _ H _ _ _ hr h=>?_);intros bv4 h Tp rfl tc k
 refine (ad _ (@aj _ _ _ _ _ (@C2 _ _ 1 _ _ _ _ (by rfl) (by first | exact .inl rfl | exact .inr rfl | assumption) S.nd rfl (Or.inl rfl) (G3 SX (hr.mono ∅) rfl T.fL T.ee.kp T.fK .nil aC (@fV _ _ _ _ _ (by rfl) (pv 0) (@fV _ _ _ _ _ (by rfl) ah ae))))
   (@aj _ _ _ _ _ (@C2 _ _ 2 _ _ _ _ (by rfl) (by first | exact .inl rfl | exact .inr rfl | assumption) S.nd rfl (Or.inl rfl) (@cJ _ _ _ _ (@fV _ _ _ _ _ (by rfl) ah (@fV _ _ _ _ _ (by rfl) ah (@fV _ _ _ _ _ (by rfl) ah (@fV _ _ _ _ _ (by rfl) ah (@fV _ _ _ _ _ (by rfl) ah (@fV _ _ _ _ _ (by rfl) ah (@fV _ _ _ _ _ (by rfl) ah (@fV _ _ _ _ _ (by rfl) (@AB _ _ _ _ _ _ _ bw (@cJ _ _ _ _ (@fV _ _ _ _ _ (by rfl) ah (@fV _ _ _ _ _ (by rfl) ah (@fV _ _ _ _ _ (by rfl) ah ae)))) (G3 SX (hr.mono ∅) rfl T.fL T.ee.kp T.fK .nil aC (@fV _ _ _ _ _ (by rfl) (pv 0) (@fV _ _ _ _ _ (by rfl) ah ae))) (λ_ _=>rfl)) ae))))))))))
   (@ak _ _ _ (@aJ _ _ _ _ (@AB _ _ _ _ _ _ _ bw (@cJ _ _ _ _ (@fV _ _ _ _ _ (by rfl) (@fT _ _ _ _ _ (@fV _ _ _ _ _ (by rfl) dq (@fV _ _ _ _ _ (by rfl) (@AB _ _ _ _ _ _ _ bw (pv 2) (pv 1) (λ_ _=>rfl)) ae))) (@fV _ _ _ _ _ (by rfl) (@fT _ _ _ _ _ (@fV _ _ _ _ _ (by rfl) dq ae)) ae))) (jY G0 rfl T.Bv boot_int (@fV _ _ _ _ _ (by rfl) (@MG _ _ _ _ _ _ _ _ dO (@AB _ _ _ _ _ _ _ bw (pv 2) (pv 1) (λ_ _=>rfl)) ah (GX _)) ae)) (λ_ _=>rfl)))))) ?_)
 refine ax λ_ hR=>aP (ad _ rfl (sB Tp 8 rfl tc ∅ ∅ (λwy H1 w8 o1 t1=>hR _ _ ?_)))
 refine ax λ_ hR=>aP ⟨by show 3<=sizeLine;decide,λl1 n1=>?_⟩
 have s1:af H1 (upd H1 l1 (.lst [.int 97,.int 13,.int 11])):=aG n1;have e1:upd H1 l1 (.lst [.int 97,.int 13,.int 11]) l1=some (.lst [.int 97,.int 13,.int 11]):=au;have lT:l1≠Tp:=t1.ne n1;generalize upd H1 l1 (.lst [.int 97,.int 13,.int 11])=H2 at s1 e1 ⊢;have t2:=t1.mono s1;refine (ad _ rfl (sB Tp 3 rfl t2 ∅ ∅ (λj H3 j3 o3 t3=>?_)))
 obtain ⟨w3,ew,hw⟩:∃w3:Int,ir [V.int 97,.int 13,.int 11] (j:Int)=some (.int w3)/\(w3=97\/w3=13\/w3=11):=by
  match j,j3 with
  | 0,_=>exact (ad 97 rfl (.inl rfl))
  | 1,_=>exact (ad 13 rfl (.inr (.inl rfl)))
  | 2,_=>exact (ad 11 rfl (.inr (.inr rfl)))
 refine (ia l1 _ _ _ rfl rfl (.of (o3 _ _ lT e1)) ew (by show 8<=sizeLine;decide) (λl2 n2=>hR _ _ ?_))
 have s3:af H3 (upd H3 l2 (.lst [.int 0,.int 2,.int 3,.int 5,.int 7,.int 0,.int 997,.int w3])):=aG n2;have e3:upd H3 l2 (.lst [.int 0,.int 2,.int 3,.int 5,.int 7,.int 0,.int 997,.int w3]) l2=some (.lst [.int 0,.int 2,.int 3,.int 5,.int 7,.int 0,.int 997,.int w3]):=au;generalize upd H3 l2 (.lst [.int 0,.int 2,.int 3,.int 5,.int 7,.int 0,.int 997,.int w3])=H4 at s3 e3 ⊢;have t4:=t3.mono s3;have o4:aI Tp H H4:=o1.trans ((aI.of s1).trans (o3.trans (aI.of s3)));obtain ⟨q,SY,hq⟩:∃q:Int,ir [V.int 0,.int 2,.int 3,.int 5,.int 7,.int 0,.int 997,.int w3] (wy:Int)=some (.int q)/\IC q=true:=by
  match wy,w8 with
  | 0,_=>exact (ad 0 rfl ∅)
  | 1,_=>exact (ad 2 rfl ∅)
  | 2,_=>exact (ad 3 rfl ∅)
  | 3,_=>exact (ad 5 rfl ∅)
  | 4,_=>exact (ad 7 rfl ∅)
  | 5,_=>exact (ad 0 rfl ∅)
  | 6,_=>exact (ad 997 rfl ∅)
  | 7,_=>exact (ad w3 rfl (by rcases hw with rfl | rfl | rfl <;> decide))
 have hq:=aaU hq;refine (u8 _ rfl _ rfl (ia l2 _ _ _ rfl rfl (.of e3) SY (by show 2<=sizeLine;decide) (λa1 m1=>?_)))
 have s5:af H4 (upd H4 a1 (.tup [.str (Str.ofString "wheel"),.int q])):=aG m1;have e5:upd H4 a1 (.tup [.str (Str.ofString "wheel"),.int q]) a1=some (.tup [sV "wheel",.int q]):=au;generalize upd H4 a1 (.tup [.str (Str.ofString "wheel"),.int q])=H5 at s5 e5 ⊢;refine ⟨by show 1<=sizeLine;decide,λa2 m2=>?_⟩
 have s6:af H5 (upd H5 a2 (.tup [.str (Str.ofString "fractions")])):=aG m2;have e6:upd H5 a2 (.tup [.str (Str.ofString "fractions")]) a2=some (.tup [sV "fractions"]):=au;generalize upd H5 a2 (.tup [.str (Str.ofString "fractions")])=H6 at s6 e6 ⊢;refine ⟨by show 2<=sizeLine;decide,λl3 n3=>?_⟩
 have s7:af H6 (upd H6 l3 (.lst [.ref a1,.ref a2])):=aG n3;have e7:upd H6 l3 (.lst [.ref a1,.ref a2]) l3=some (.lst [.ref a1,.ref a2]):=au;generalize upd H6 l3 (.lst [.ref a1,.ref a2])=H7 at s7 e7 ⊢;have J6:=s5.trans (s6.trans s7);have o7:aI Tp H H7:=o4.trans (aI.of J6);have t7:=t4.mono J6;refine (u8 _ rfl _ rfl (ia l2 _ _ _ rfl rfl (.of (J6 _ _ e3)) SY rfl (.inr (ad (decide (V.int q=V.int 0)) rfl ?_))));by_cases z:q=0
 ·rw [aq (by rw [z];decide)]
  exact (gt l3 _ _ _ rfl rfl (.of e7) rfl (k a2 q H7 o7 t7 (.inl ⟨z,s7 _ _ e6⟩) hq))
 ·rw [az (by rw [i5,cZ z];exact dC)]
  exact (gt l3 _ _ _ rfl rfl (.of e7) rfl (k a1 q H7 o7 t7 (.inr ⟨z,s7 _ _ (s6 _ _ e5)⟩) hq))
theorem aef:aZ ["told","tape","size"] ["told","tape","size"] (aK ET):=bf
theorem S0(T:Txt K mg t):aN P w K mg base bH 4 t.uD t.yl ["told","tape","size"] aaW:=by
 have S:=aef;refine T.vi.bN S (λ_ _ _ _ H _ _ _ hr h=>?_);intros bvE h td bv27 Tp q n rfl tw hq tc Bx k;refine (ad _ (ak (aJ (fH (N:=["j","told","tape"]) (ρ:=(λσ=>[σ[0]?.join,σ[1]?.join])) (du [0,1] rfl) rfl (fe rfl T.dW (aa (pv 2) ae)) (λ_ _ _=>.nil) (λ_ _ _=>(ay (qL T) hr T.pF T.kq.kp T.pE aC (aa (pv 1) (aa (pv 2) ae))))))) ?_);refine eL (aaV (n:=n) (cH ⋯) tc (λR h=>⟨_,rfl,(n:Int),rfl,⋯,⋯,by rw [dE];exact h⟩) (λ_ i y Hx=>∃x m,aw 1000 Hx q y x m/\cX q x m) (λD i y Ha Hb ys ⟨x,m,h1,h2⟩ t e f=>⟨x,m,h1.off t e f,h2⟩) (λD i hi Hc R oc fv _ _ _ kR=>(u8 _ rfl _ rfl (pi td Tp q rfl (tw.off oc tc) hq fv (λv x m H' o' t' nu sm=>kR v H' o' t' (ii x m nu sm))))) λD ys Hc DT nD oc fv ly hP eD=>?_)
 have ex:∃ps:List (Int×Int),ps.length=n/\∀i,i<n->aw 1000 Hc q (ys.getD i .aO) (ps.getD i (0,1)).1 (ps.getD i (0,1)).2/\cX q (ps.getD i (0,1)).1 (ps.getD i (0,1)).2:=by
  have one:∀i,i<n->∃p:Int×Int,aw 1000 Hc q (ys.getD i .aO) p.1 p.2/\cX q p.1 p.2:=λi hi=>by
   have hy:i<ys.length:=by lia
   obtain ⟨x,m,h1,h2⟩:=hP i ys[i] (cw hy);exact ⟨(x,m),by rw [getD_at hy];exact h1,h2⟩
  refine ⟨(List.range n).map λi=>if h:i<n then (one i h).choose else (0,1),by simp,λi hi=>?_⟩
  have e:((List.range n).map λi=>if h:i<n then (one i h).choose else (0,1)).getD i (0,1)=(one i hi).choose:=by rw [gE,bU,jN hi];simp [hi]
  rw [e];exact (one i hi).choose_spec
 intros bv2 ex ps lp hp;refine k D ps Hc oc fv nD (bv ys eD ⋯ (λi v p h1 h2=>?_)) lp λp hpm=>?_
 ·have i1:=(bK.mp h1).1
  have i2:=(bK.mp h2).1;have:=(hp i ⋯).1
  rwa [getD_at i1,getD_at i2,(bK.mp h1).2,(bK.mp h2).2] at this
 ·obtain ⟨i,hi,e⟩:=List.getElem_of_mem hpm
  have:=(hp i ⋯).2
  rwa [getD_at hi,e] at this
theorem aeh:aZ ["tape","size","links","often","j","i"] ["tape","size"] (aK ER):=bf
theorem aei(T:Txt K mg t):aN P w K mg base bH 2 t.uB t.yj ["tape","size"] aaX:=by
 have S:=aeh;refine T.zl.bN S (λ_ _ _ _ H _ _ _ hr h=>?_);intros bv10 h Tp n rfl tc n20 k
 refine (ad _ (aj (putL 2 S.nd (cJ ae))
  (aj (putL 3 S.nd (aD gg ah (ay (gs T) hr T.fL T.ee.kp T.fK aC (aa (pv 0) (aa ah ae)))))
  (aj (eG de rfl (fe rfl T.dW (aa (pv 1) ae)) (b_ (i:=4) S.nd rfl (Or.inl rfl))
   (ak (eG de rfl (fe rfl T.dW (aa (pv 4) ae)) (b_ (i:=5) S.nd rfl (Or.inl rfl))
   (ak (bO (bG oJ (ay (gs T) hr T.fL T.ee.kp T.fK aC (aa (pv 0) (aa ah ae))) (pv 3)) (ak (m9 (p5 oq Gy Gz p6 (pv 2) (aa (fT (aa (pv 5) (aa (pv 4) ae))) ae)))) bQ)))))
  (ak (aJ (pv 2)))))) ?_)
 refine ax λ_ hR=>aP ⟨cG _,λD nD=>hR _ _ ?_⟩;have DT:D≠Tp:=tc.ne nD;have o1:aI Tp H (upd H D (.lst [])):=aI.of (aG nD);have t1:aY (upd H D (.lst [])) Tp:=tc.mono (aG nD);have e1:upd H D (.lst []) D=some (.lst []):=au;generalize upd H D (.lst [])=H1 at o1 t1 e1 ⊢;refine ax λ_ hR=>aP (ad _ rfl (sB Tp 4 rfl t1 ∅ ∅ (λof H2 of4 o2 t2=>(bi _ _ rfl rfl (hR _ _ ?_)))))
 have e2:=o2 _ _ DT e1;refine ax λ_ hR=>(ad _ rfl (o0 (n:Int) rfl ⋯ ⋯ ?_))
 rw [dE];refine lY (λj σ Hc=>∃(us:List V) (L:bR) (v4 v5:Option V),σ=[some (.ref Tp),some (.int (n:Int)),some (.ref D),some (.int (1+(of:Int))),v4,v5]/\aI Tp H Hc/\aY Hc Tp/\Hc D=some (.lst us)/\eS Hc us L/\(∀z∈L,0<=z.1/\z.1<z.2/\z.2<(n:Int))/\L.length<=20*j) (sw [] [] _ _ rfl (o1.trans o2) t2 e2 (eS.nil _) (λz hz=>nomatch hz) (cG _)) ?_ ?_
 ·intro j σ Hc hj;intros bv33 _ us L v4 v5 rfl oc fv ec hL lt ll
  dsimp only [ck];refine (ad _ rfl (o0 (0+(j:Int)) rfl ⋯ ⋯ ?_))
  rw [show (0+(j:Int)).toNat=j by lia]
  refine lY (λi σ Hd=>∃(us:List V) (L:bR) (v5:Option V),σ=[some (.ref Tp),some (.int (n:Int)),some (.ref D),some (.int (1+(of:Int))),some (.int (0+(j:Int))),v5]/\aI Tp H Hd/\aY Hd Tp/\Hd D=some (.lst us)/\eS Hd us L/\(∀z∈L,0<=z.1/\z.1<z.2/\z.2<(n:Int))/\L.length<=20*j+i) (wp us L (wS _ rfl oc fv ec hL lt ll)) ?_ ?_
  ·clear hL ec lt ll oc fv
   intro i σ Hd hi;intros bv31 _ us L v5 rfl od FP ed hL lt ll;dsimp only [ck];refine (ad _ rfl (sB Tp 4 rfl FP ∅ ∅ (λd H3 d4 o3 t3=>?_)))
   have FQ:=o3 _ _ DT ed;have S1:=hL.cF FP o3;have S7:=od.trans o3;refine (db _ rfl _ _ rfl rfl _ rfl (b7 (λhb=>?_) (λhb=>(wp us L (wS _ rfl S7 t3 FQ S1 lt ⋯)))))
   have lu:=hL.1;refine (bv _ rfl (.inl ⟨rfl,_,.of FQ⟩) (be _ rfl _ rfl (by show 2<=sizeLine;decide) (λtq FO=>(pi D us _ rfl rfl ((aG FO) _ _ FQ) (cH ⋯) ?_))))
   have st:af H3 (upd H3 tq (.tup [.int (0+(i:Int)),.int (0+(j:Int))])):=aG FO;have S9:upd H3 tq (.tup [.int (0+(i:Int)),.int (0+(j:Int))]) tq=some (.tup [.int (i:Int),.int (j:Int)]):=by rw [au,jh,jh]
   generalize upd H3 tq (.tup [.int (0+(i:Int)),.int (0+(j:Int))])=He at st S9 ⊢;refine (wp (us++[.ref tq]) (L++[((i:Int),(j:Int))]) (wS _ rfl (λb u ne e=>by rw [aH (λzz=>by rw [zz,nD] at e;cases e)];exact st _ _ (S7 b u ne e)) ?_ au ?_ (λz hz=>?_) (by rw [dD,Gn];lia)))
   ·obtain ⟨x,ex⟩:=t3.mono st
    exact ⟨x,(aH (Ne.symm DT)).trans ex⟩
   ·exact ((S1.mono st).cat (show eS He [.ref tq] [((i:Int),(j:Int))] from ⟨rfl,λk v p h1 h2=>by
     match k,h1,h2 with
     | 0,h1,h2=>cases h1;cases h2;exact (ad tq rfl S9)
     | k+1,h1,h2=>simp at h1⟩)).bE (st _ _ FQ) λb o nb e=>by rw [aH nb];exact e
   ·rcases mR.mp hz with hz | hz
    ·exact lt z hz
    ·rw [jM.mp hz]
     dsimp only;lia
  ·intro σ Hd;intros bv31 _ us L v5 rfl od FP ed hL lt ll
   exact (sw us L _ _ rfl od FP ed hL lt ⋯)
 ·intro σ Hc;intros bv33 _ us L v4 v5 rfl oc fv ec hL lt ll
  exact hR _ _ (ad _ rfl (k D us L Hc oc fv nD ec hL lt ⋯))
theorem aej:aZ ["tape","size","order","k"] ["tape","size"] (aK ES):=bf
theorem S_(T:Txt K mg t):aN P w K mg base bH 2 t.uC t.yk ["tape","size"] aaA:=by
 have S:=aej;refine T.vh.bN S (λ_ _ _ _ H _ _ _ hr h=>?_);intros bv10 h Tp n rfl tc Bx kk
 refine (ad _ (aj (putL 2 S.nd (cJ ae))
  (aj (eG de rfl (fe rfl T.dW (aa (pv 1) ae)) (b_ (i:=3) S.nd rfl (Or.inl rfl))
   (ak (m9 (p5 oq PySem.F.slot_list_insert PySem.F.type_list_insert aaz (pv 2) (aa (ay (gs T) hr T.fL T.ee.kp T.fK aC (aa (pv 0) (aa (aD gg (pv 3) ah) ae))) (aa (pv 3) ae))))))
  (ak (aJ (pv 2))))) ?_)
 refine ax λ_ hR=>aP ⟨cG _,λD nD=>hR _ _ ?_⟩;have DT:D≠Tp:=tc.ne nD;have o1:aI Tp H (upd H D (.lst [])):=aI.of (aG nD);have t1:aY (upd H D (.lst [])) Tp:=tc.mono (aG nD);have e1:upd H D (.lst []) D=some (.lst (nI [])):=au;generalize upd H D (.lst [])=H1 at o1 t1 e1 ⊢;refine ax λ_ hR=>(ad _ rfl (o0 (n:Int) rfl ⋯ ⋯ ?_))
 rw [dE];refine lY (λk σ Hc=>∃(o:List Nat) (v3:Option V),σ=[some (.ref Tp),some (.int (n:Int)),some (.ref D),v3]/\aI Tp H Hc/\aY Hc Tp/\Hc D=some (.lst (nI o))/\o.Perm (List.range k)) (sB [] _ rfl o1 t1 e1 (List.Perm.refl _)) ?_ ?_
 ·intro k σ Hc hk;intros bv21 _ o v3 rfl oc fv eD pm
  dsimp only [ck];refine (ce _ rfl (.inl ⟨rfl,_,.of eD⟩) _ rfl (io _ rfl _ _ rfl rfl (sB Tp (k+1) (by show [V.ref Tp,V.int ((0+(k:Int))+1)]=_;rw [show (0+(k:Int))+1=((k+1:Nat):Int) by lia]) fv ⋯ ⋯ (λd H2 hd od td=>?_))))
  have FG:=od _ _ DT eD;have lo:(nI o).length=k:=by unfold nI;rw [aR,pm.length_eq,cy]
  refine (ww _ rfl D (sw (nI o) d _ _ rfl rfl rfl FG ⋯ ⋯ ?_))
  have pk:(o.take d++k::o.drop d).Perm (List.range (k+1)):=by rw [kD];refine List.perm_middle.trans ?_;rw [List.take_append_drop];exact ((List.Perm.cons k pm).trans (List.perm_append_comm (l₁:=[k])))
  refine (sB (o.take d++k::o.drop d) _ rfl (λb u ne e=>?_) ?_ ?_ pk)
  ·rw [aH (λz=>by rw [z,nD] at e;cases e)]
   exact (oc.trans od) b u ne e
  ·obtain ⟨x,ex⟩:=td
   exact ⟨x,(aH (Ne.symm DT)).trans ex⟩
  ·rw [au]
   unfold nI;rw [kG,ky,List.map_take,List.map_drop,jh]
 ·rintro σ Hc ⟨o,v3,rfl,oc,fv,eD,pm⟩
  exact hR _ _ (ad _ rfl (kk D o _ oc fv nD eD pm))
theorem aek:aZ ["told","tape","size","links","table","i","j","way"] ["told","tape","size","links"] (aK EO):=bf
theorem ael(T:Txt K mg t):aN P w K mg base bH 6 t.uA t.yi ["told","tape","size","links"] aa0:=by
 have S:=aek;refine T.zk.bN S (λ_ _ _ _ H _ _ _ hr h=>?_);intros bvE h td bv28 Tp lk q n us L rfl tw bv25 hq tc Bx lT zG hL cm kk;have hu:=hr.oK
 refine (ad _ (aj (sk (i0:=4) (N:=["i","size","told"]) (ρ:=(λσ=>[σ[2]?.join,σ[0]?.join])) (du [2,0] rfl) rfl S.nd rfl (Or.inl rfl) (fe rfl T.dW (aa (pv 2) ae)) (λ_ _ _=>.nil) (λ_ _ _=>(fH (N:=["j","told"]) (ρ:=(λσ=>[σ[2]?.join])) (du [2] rfl) rfl (fe rfl T.dW (aa (pv 1) ae)) (λ_ _ _=>.nil) (λ_ _ _=>(ay (vA T) hr T.qF T.lC.kp T.qE aC (aa (pv 1) ae))))))
  (aj (eG de rfl (fe rfl T.dW (aa (pv 2) ae)) (b_ (i:=5) S.nd rfl (Or.inl rfl))
   (aj (@il _ _ _ _ _ _ (ay (qL T) hr T.pF T.kq.kp T.pE aC (aa (pv 0) (aa (pv 1) ae))) (jk (ao bw (pv 4) (pv 5)) (pv 5) set_list) (by rfl) (by rfl) (by rfl))
  (ak (bO (PW.pt (pw_and (bG (NG hu) (ao bw (ao bw (pv 4) (pv 5)) (pv 5)) (ay (vA T) hr T.qF T.lC.kp T.qE aC (aa (pv 0) ae))) (pw_and1 (bG rK (ay (gs T) hr T.fL T.ee.kp T.fK aC (aa (pv 1) (aa ah ae))) ah)))) (ak (@il _ _ _ _ _ _ (ay (vz T) hr T.qD T.lB.kp T.qC aC (aa (pv 0) (aa ah (aa ah ae)))) (jk (ao bw (pv 4) (pv 5)) (pv 5) set_list) (by rfl) (by rfl) (by rfl))) bQ))))
  (aj (eG de rfl (dN (pv 3)) (oC rfl (gc (b_ (i:=5) S.nd rfl (Or.inl rfl)) (gc (b_ (i:=6) S.nd rfl (Or.inl rfl)) oB)))
   (aj (putL 7 S.nd (ay (gs T) hr T.fL T.ee.kp T.fK aC (aa (pv 1) (aa ah ae))))
  (aj (bO (bG i3 (pv 7) ah) (ak (@il _ _ _ _ _ _ (ay (qL T) hr T.pF T.kq.kp T.pE aC (aa (pv 0) (aa (pv 1) ae))) (jk (ao bw (pv 4) (pv 5)) (pv 6) set_list) (by rfl) (by rfl) (by rfl))) bQ)
  (ak (bO (bG i3 (pv 7) ah) (ak (@il _ _ _ _ _ _ (ay (qL T) hr T.pF T.kq.kp T.pE aC (aa (pv 0) (aa (pv 1) ae))) (jk (ao bw (pv 4) (pv 6)) (pv 5) set_list) (by rfl) (by rfl) (by rfl))) bQ)))))
  (ak (aJ (pv 4)))))) ?_)
 have di:((List.range n).map λi:Nat=>V.int (0+(i:Int))).length=n:=by rw [aR,cy]
 refine ax λ_ hR=>aP (jB (xs:=(List.range n).map λi:Nat=>V.int (0+(i:Int))) (n:=n) di (λR h=>⟨_,rfl,(n:Int),rfl,⋯,⋯,by rw [dE];exact h _ _ (af.refl _) ke⟩) (cH ⋯) (λ_ i y Hx=>(∃ys,Hx y=some (.lst ys)/\ys.length=n/\∀(j:Nat) (v:V),ys[j]?=some v->aw 1000 Hx q v 0 1)/\H y=none) ?_ ?_ ?_)
 ·intro D i y Ha Hb ys ⟨⟨zs,h1,h3,h4⟩,h2⟩ hy e f
  exact ⟨⟨zs,f y _ hy h1,h3,λj v hv=>(h4 j v hv).bE e f⟩,h2⟩
 ·intro D i x hx Hc R sc _ kc
  refine kY (xs:=(List.range n).map λi:Nat=>V.int (0+(i:Int))) (λR h=>⟨_,rfl,(n:Int),rfl,⋯,⋯,by rw [dE];exact h _ _ (af.refl _) ke⟩) (by rw [di];exact cH ⋯) (λ_ j y Hx=>aw 1000 Hx q y 0 1) (λD' i' y' Ha Hb Ta h e f=>h.bE e f) ?_ ?_
  ·intro D1 j x' Av Hd R' sd _ kd
   exact (sK _ rfl td q rfl (tw.mono (sc.trans sd)) hq (λv0 H2 s2 h0=>kd v0 H2 s2 h0))
  ·intro D1 ys Hd lF sd iU eN eD
   rw [di] at iU;exact kc D1 Hd sd lF ⟨_,eD⟩ ⟨(bv ys eD iU eN),none_of sc lF⟩
 ·intro D rs H1 nD s1 inj hA eD
  refine hR _ _ ?_;have mM:∀i,i<n->H (rs i)=none:=λi hi=>(hA i hi).1.2;have row:∀i,i<n->∃f:Nat->V,H1 (rs i)=some (.lst ((List.range n).map f))/\∀j,j<n->aw 1000 H1 q (f j) 0 1:=λi hi=>by
   obtain ⟨ys,h1,h2,h3⟩:=(hA i hi).1.1;refine ⟨λj=>ys.getD j .aO,?_,λj hj=>?_⟩
   ·rw [h1]
    congr 2
    refine eP (by simp [h2]) λj g1 g2=>?_
    rw [d8,e_,getD_at g1]
   ·have cB:j<ys.length:=by lia
    dsimp only;rw [getD_at cB];exact h3 j _ (cw cB)
  obtain ⟨vf,hv⟩:∃vf:Nat->Nat->V,∀i,i<n->H1 (rs i)=some (.lst ((List.range n).map (vf i)))/\∀j,j<n->aw 1000 H1 q (vf i j) 0 1:=⟨λi=>if h:i<n then (row i h).choose else λ_=>.aO,λi hi=>by dsimp only;rw [fP hi];exact (row i hi).choose_spec⟩
  have W1:WTab H1 D n rs vf:=⟨eD,inj,λi hi=>(hA i hi).2,λi hi=>(hv i hi).1⟩;have F1:mC H1 q n vf:=λi j hi hj=>⟨0,1,(hv i hi).2 j hj,λ_=>⟨∅,∅⟩⟩
  clear hA row hv eD inj;have DT:=tc.ne nD;have rT:∀i,i<n->rs i≠Tp:=λi hi=>tc.ne (mM i hi);have o1:aI Tp H H1:=aI.of s1;have t1:=tc.mono s1;have step:∀{Ha Hb:Hp} {vf:Nat->Nat->V} {i j:Nat} {v:V} {x d:Int},i<n->j<n->aI Tp H Ha->WTab Ha D n rs vf->mC Ha q n vf->aY Ha Tp->aI Tp Ha Hb->aY Hb Tp->aw 1000 Hb q v x d->cX q x d->aI Tp H (upd Hb (rs i) (.lst (((List.range n).map (vf i)).set j v)))/\aY (upd Hb (rs i) (.lst (((List.range n).map (vf i)).set j v))) Tp/\WTab (upd Hb (rs i) (.lst (((List.range n).map (vf i)).set j v))) D n rs (iB vf i j v)/\mC (upd Hb (rs i) (.lst (((List.range n).map (vf i)).set j v))) q n (iB vf i j v):=fun{Ha Hb vf i j v x d} hi hj oa Wa Fa ta ob tb nu sm=>by
   have Wb:WTab Hb D n rs vf:=Wa.bE λb o hb e=>ob b o (by rcases hb with rfl | ⟨k,hk,rfl⟩;exact DT;exact rT k hk) e
   refine ⟨λb o ne e=>?_,?_,Wb.put v hi,λi' j' b9 cB=>?_⟩
   ·rw [aH (λz=>by rw [z,mM i hi] at e;cases e)]
    exact ob b o ne (oa b o ne e)
   ·obtain ⟨x,ex⟩:=tb
    exact ⟨x,by rw [aH (Ne.symm (rT i hi))];exact ex⟩
   ·have up:∀{v:V} {x d:Int},aw 1000 Hb q v x d->aw 1000 (upd Hb (rs i) (.lst (((List.range n).map (vf i)).set j v))) q v x d:=fun{v x d} h=>h.bE (Wb.at' i hi) λb o ne e=>by rw [aH ne];exact e
    unfold iB
    split
    ·exact (ii x d (nu.bE (Wb.at' i hi) λb o ne e=>by rw [aH ne];exact e) sm)
    ·obtain ⟨x',d',h1,h2⟩:=Fa i' j' b9 cB
     exact (ii x' d' ((h1.cF ta ob).bE (Wb.at' i hi) λb o ne e=>by rw [aH ne];exact e) h2)
  have bE:∀{Ha Hb:Hp} {vf:Nat->Nat->V},WTab Ha D n rs vf->mC Ha q n vf->aY Ha Tp->aI Tp Ha Hb->WTab Hb D n rs vf/\mC Hb q n vf:=fun{Ha Hb vf} Wa Fa ta ob=>⟨Wa.bE λb o hb e=>ob b o (by rcases hb with rfl | ⟨k,hk,rfl⟩;exact DT;exact rT k hk) e,λi j hi hj=>by obtain ⟨x',d',h1,h2⟩:=Fa i j hi hj;exact ⟨x',d',h1.cF ta ob,h2⟩⟩
  refine ax λ_ hR=>(ad _ rfl (o0 (n:Int) rfl ⋯ ⋯ ?_))
  rw [dE];refine lY (λk σ Hc=>∃(vf:Nat->Nat->V) (v5 v6 v7:Option V),σ=[some (.ref td),some (.ref Tp),some (.int (n:Int)),some (.ref lk),some (.ref D),v5,v6,v7]/\aI Tp H Hc/\aY Hc Tp/\WTab Hc D n rs vf/\mC Hc q n vf) (gt vf _ _ _ rfl o1 t1 W1 F1) ?_ ?_
  ·clear W1 F1 o1 t1
   intro k σ Hc hk;intros bv29 _ vf v5 v6 v7 rfl oc fv Wc Fc;dsimp only [ck];rw [jh];refine ax λ_ hR=>aP (u8 _ rfl _ rfl (pi td Tp q rfl (tw.off oc tc) hq fv (λv x d H2 o2 t2 nu sm=>?_)));obtain ⟨W2,F2⟩:=bE Wc Fc fv o2;obtain ⟨o3,t3,W3,F3⟩:=step hk hk oc Wc Fc fv o2 t2 nu sm;refine (ad _ rfl (SC _ rfl D _ _ _ rfl rfl (.of W2.lst) (cg hk) (SC _ rfl (rs k) _ _ k rfl rfl (W2.at' k hk) (by rw [aR,cy];exact jC hk) (hR _ _ ?_))))
   generalize upd H2 (rs k) (.lst (((List.range n).map (vf k)).set k v))=H3 at o3 t3 W3 F3 ⊢;generalize iB vf k k v=vf3 at W3 F3;clear W2 F2 o2 t2 nu;have q'94:=F3 k k hk hk;intros bv3 q'94 x3 d3 h3 _;refine (ad _ rfl (SC _ rfl D _ _ _ rfl rfl (.of W3.lst) (cg hk) (SC _ rfl (rs k) _ _ _ rfl rfl (.of (W3.at' k hk)) (cg hk) (sK _ rfl td q rfl (tw.off o3 tc) hq (λv0 H4 s4 h0=>N7 (h3.mono s4) h0 (ad _ rfl (b7 (λhb=>?_) (λhb=>?_))))))))
   ·refine (ad _ rfl (sB Tp 3 rfl (t3.mono s4) ∅ ∅ (λg H5 g3 o5 t5=>(ut _ _ rfl rfl _ rfl (b7 (λhb=>?_) (λhb=>?_))))))
    ·have BI:=(aI.of s4:aI Tp H3 H4).trans o5
     refine aP (ww _ rfl td (sw q 1 1 1000 rfl (tw.off (o3.trans BI) tc) hq (ki hq) ∅ ∅ ⟨by decide +kernel,λv' H6 s6 w6=>?_⟩))
     obtain ⟨x6,d6,n6,sm6⟩:=aaZ hq w6;have Tb:=BI.trans (aI.of s6);obtain ⟨W6,F6⟩:=bE W3 F3 t3 Tb;obtain ⟨o7,t7,W7,F7⟩:=step hk hk o3 W3 F3 t3 Tb (t5.mono s6) n6 sm6;exact (ad _ rfl (SC _ rfl D _ _ _ rfl rfl (.of W6.lst) (cg hk) (SC _ rfl (rs k) _ _ k rfl rfl (W6.at' k hk) (by rw [aR,cy];exact jC hk) (gt _ _ _ _ rfl o7 t7 W7 F7))))
    ·have BI:=(aI.of s4:aI Tp H3 H4).trans o5
     obtain ⟨W6,F6⟩:=bE W3 F3 t3 BI;exact (gt _ _ _ _ rfl (o3.trans BI) t5 W6 F6)
   ·obtain ⟨W6,F6⟩:=bE W3 F3 t3 (aI.of s4)
    exact (gt _ _ _ _ rfl (o3.trans (aI.of s4)) (t3.mono s4) W6 F6)
  ·intro σ Hc;intros bv29 _ vf v5 v6 v7 rfl oc fv Wc Fc
   refine hR _ _ ?_;refine ax λ_ hR=>(be _ rfl lk rfl ⟨_,.of (oc _ _ lT zG)⟩ ?_);refine lX (K:=K) (a:=lk) (xs:=us) (λk σ Hc=>∃(vf:Nat->Nat->V) (v5 v6 v7:Option V),σ=[some (.ref td),some (.ref Tp),some (.int (n:Int)),some (.ref lk),some (.ref D),v5,v6,v7]/\aI Tp H Hc/\aY Hc Tp/\WTab Hc D n rs vf/\mC Hc q n vf) (gt vf _ _ _ rfl oc fv Wc Fc) (λk σ Hc _ ⟨_,_,_,_,_,oc,_⟩=>.of (oc _ _ lT zG)) ?_ ?_
   ·clear Wc Fc oc fv
    intro k x σ Hc hx;intros bv29 _ vf v5 v6 v7 rfl oc fv Wc Fc;have hk:k<L.length:=by rw [<-hL.1];exact (bK.mp hx).1
    have q'96:=(hL.cF tc oc).2 k x L[k] hx (cw hk);intros bv2 q'96 b rfl eb;obtain ⟨z1,z2,z3⟩:=cm L[k] (f9 hk);obtain ⟨i,ei⟩:=An z1;obtain ⟨j,ej⟩:=An (show 0<=(L[k]).2 by lia)
    rw [ei,ej] at eb;have hi:i<n:=by lia
    have hj:j<n:=by lia
    dsimp only [ck];refine (zn b _ rfl (.of eb) rfl _ (io _ rfl _ _ rfl rfl ?_));refine ax λ_ hR=>aP (ad _ rfl (sB Tp 5 rfl fv ∅ ∅ (λwy H1 _ o1 t1=>hR _ _ ?_)))
    obtain ⟨W1,F1⟩:=bE Wc Fc fv o1;have J7:=oc.trans o1;clear Wc Fc;refine ax λR hR=>?_;have next:∀(vf:Nat->Nat->V) (Hd:Hp),aI Tp H Hd->aY Hd Tp->WTab Hd D n rs vf->mC Hd q n vf->R [some (.ref td),some (.ref Tp),some (.int (n:Int)),some (.ref lk),some (.ref D),some (.int (i:Int)),some (.int (j:Int)),some (.int (wy:Int))] Hd:=λvf Hd od zH Wd Fd=>hR _ _ (by refine (ce _ rfl rfl _ rfl (b7 (λhb=>?_) (λhb=>(gt _ _ _ _ rfl od zH Wd Fd))));refine aP (u8 _ rfl _ rfl (pi td Tp q rfl (tw.off od tc) hq zH (λv x d H2 o2 t2 nu sm=>?_)));obtain ⟨W2,F2⟩:=bE Wd Fd zH o2;obtain ⟨o3,t3,W3,F3⟩:=step hj hi od Wd Fd zH o2 t2 nu sm;exact (ad _ rfl (SC _ rfl D _ _ _ rfl rfl (.of W2.lst) (cg hj) (SC _ rfl (rs j) _ _ i rfl rfl (W2.at' j hj) (by rw [aR,cy];exact jC hi) (gt _ _ _ _ rfl o3 t3 W3 F3)))))
    refine (ce _ rfl rfl _ rfl (b7 (λhb=>?_) (λhb=>next vf H1 J7 t1 W1 F1)))
    refine aP (u8 _ rfl _ rfl (pi td Tp q rfl (tw.off J7 tc) hq t1 (λv x d H2 o2 t2 nu sm=>?_)));obtain ⟨W2,F2⟩:=bE W1 F1 t1 o2;obtain ⟨o3,t3,W3,F3⟩:=step hi hj J7 W1 F1 t1 o2 t2 nu sm;exact (ad _ rfl (SC _ rfl D _ _ _ rfl rfl (.of W2.lst) (cg hi) (SC _ rfl (rs i) _ _ j rfl rfl (W2.at' i hi) (by rw [aR,cy];exact jC hj) (next _ _ o3 t3 W3 F3))))
   ·intro σ Hc;intros bv29 _ vf v5 v6 v7 rfl oc fv Wc Fc
    exact hR _ _ (ad _ rfl (kk D rs vf Hc oc fv nD mM Wc Fc))
theorem aen:aZ ["script","start","tape","told","size","order","links","table"] ["script","start"] (aK EV):=bf
theorem aeo(T:Txt K mg t):aN P w K mg base bH 7 t.uF t.yo ["script","start"] (abd K):=by
 have S:=aen;refine T.zp.bN S (λ_ _ _ s H vs _ _ hr h=>?_);intros bv17 h sc ns k rfl hS amF kk
 refine (ad _ (aj (putL 2 S.nd (ay (BG T) hr T.ze T.nO.kp T.zc aC (aa (pv 0) (aa (pv 1) ae))))
  (aj (putL 3 S.nd (ay (aee T) hr T.QX T.zi.kp T.QW aC (aa (pv 2) ae)))
  (aj (putL 4 S.nd (aD gg ah (ay (gs T) hr T.fL T.ee.kp T.fK aC (aa (pv 2) (aa ah ae)))))
  (aj (putL 5 S.nd (ay (S_ T) hr T.Js T.vh.kp T.Jr aC (aa (pv 2) (aa (pv 4) ae))))
  (aj (putL 6 S.nd (ay (aei T) hr T.Q1 T.zl.kp T.Q0 aC (aa (ay (BG T) hr T.ze T.nO.kp T.zc aC (aa (pv 0) (aa (aD gg (pv 1) ah) ae))) (aa (pv 4) ae))))
  (aj (putL 7 S.nd (ay (ael T) hr T.QZ T.zk.kp T.QY aC (aa (pv 3) (aa (ay (BG T) hr T.ze T.nO.kp T.zc aC (aa (pv 0) (aa (aD gg (pv 1) ah) ae))) (aa (pv 4) (aa (pv 6) ae))))))
  (ak (aJ (fT (aa (pv 3) (aa (pv 7) (aa (pv 5) (aa (ay (S0 T) hr T.Ju T.vi.kp T.Jt aC (aa (pv 3) (aa (ay (BG T) hr T.ze T.nO.kp T.zc aC (aa (pv 0) (aa (aD gg (pv 1) ah) ae))) (aa (pv 4) ae)))) ae))))))))))))) ?_)
 have join:∀{Ha Hb Hc:Hp} {T:Addr},af Ha Hb->Ha T=none->aI T Hb Hc->af Ha Hc:=fun{Ha Hb Hc T} s nT o b u e=>o b u (λz=>by rw [z,nT] at e;cases e) (s _ _ e)
 refine ax λ_ hR=>aP (ad _ rfl (tz _ rfl sc ns k rfl hS ⋯ (λT1 H1 s1 Tc vB=>hR _ _ ?_)))
 refine ax λ_ hR=>aP (be _ rfl T1 rfl vB (λtd q H2 o2 vC tw hq=>hR _ _ ?_));refine ax λ_ hR=>aP (ad _ rfl (sB T1 6 rfl vC ∅ ∅ (λd H3 d6 o3 ku=>(bi _ _ rfl rfl (hR _ _ ?_)))))
 obtain ⟨n,en⟩:∃n,n=1+d:=⟨_,rfl⟩;have eI:(1:Int)+(d:Int)=(n:Int):=by lia
 dsimp only [L2.start,vY,vZ];rw [eI];refine ax λ_ hR=>aP (on _ rfl _ rfl T1 n rfl ku ⋯ (λod o H4 o4 BJ J8 mO ho=>hR _ _ ?_))
 have S4:af H H4:=join s1 Tc (o2.trans (o3.trans o4));have tw4:eW H4 td q:=tw.off (o3.trans o4) vC;have aep:H od=none:=none_of (join s1 Tc (o2.trans o3)) J8;refine ax λ_ hR=>aP (ad _ rfl (io _ rfl _ _ rfl rfl (re sc ns (k+1) rfl (S4.seq hS) ⋯ (λT2 H5 s5 nT2 zI=>(sK _ rfl T2 n rfl zI ⋯ (λlk us L H6 o6 tc6 nlk zG hL cm hlen=>hR _ _ ?_))))))
 have BK:af H4 H6:=join s5 nT2 o6;have S6:=S4.trans BK;refine ax λ_ hR=>aP (u8 _ rfl _ rfl (io _ rfl _ _ rfl rfl (re sc ns (k+2) rfl (S6.seq hS) ⋯ (λT3 H7 s7 Te tc7=>?_))))
 refine (u8 _ rfl _ rfl (SB td T3 lk q n us (Rs L rfl ((tw4.mono BK).mono s7) hq tc7 ⋯ (λz=>by rw [z,Te] at zG;cases zG) (s7 _ _ zG) (hL.mono s7) cm (λtab rs vf H8 o8 tc8 aes mM Wt Ft=>hR _ _ ?_))))
 have FR:af H6 H8:=join s7 Te o8;have S8:=S6.trans FR;refine eL (u8 _ rfl _ rfl (ul _ rfl _ rfl _ rfl (io _ rfl _ _ rfl rfl (re sc ns (k+3) rfl (S8.seq hS) ⋯ (λT4 H9 s9 nT4 tc9=>?_)))))
 refine (ad _ rfl (ia td T4 q n rfl (((tw4.mono BK).mono FR).mono s9) hq tc9 ⋯ (λam ps vD BL amJ nam rg Tf J9=>?_)))
 have Tg:af H8 vD:=join s9 nT4 BL;have S10:=S8.trans Tg;refine ⟨by show 4<=sizeLine;decide,λtp gR=>?_⟩
 have BM:af vD (upd vD tp (.tup [.ref td,.ref tab,.ref od,.ref am])):=aG gR;have jb:upd vD tp (.tup [.ref td,.ref tab,.ref od,.ref am]) tp=some (.tup [.ref td,.ref tab,.ref od,.ref am]):=au;generalize upd vD tp (.tup [.ref td,.ref tab,.ref od,.ref am])=nW at BM jb ⊢;obtain ⟨vs,evs,lG,pH⟩:=id rg;have FT:=Tg.trans BM;have ra:gB nW am n (λi=>vs.getD i .aO):=by
  unfold gB;rw [BM _ _ evs]
  congr 2
  refine eP (by simp;lia) λj g1 g2=>?_
  rw [d8,e_,getD_at g1]
 have na:∀i,i<n->∃x m,aw 1000 nW q ((λi=>vs.getD i V.aO) i) x m/\cX q x m:=λi hi=>by
  have g1:i<vs.length:=by lia
  have g2:i<ps.length:=by lia
  refine ⟨ps[i].1,ps[i].2,?_,J9 _ (f9 g2)⟩;dsimp only;rw [getD_at g1];exact (pH i _ _ (cw g1) (cw g2)).mono BM
 have Ft':mC nW q n vf:=λi j hi hj=>by obtain ⟨x,m,h1,h2⟩:=Ft i j hi hj;exact ⟨x,m,h1.mono FT,h2⟩
 obtain ⟨f,f1,f2,f3⟩:=abe Ft' na;exact kk tp td tab od am q n o rs vf _ f nW (S10.trans BM) jb (((tw4.mono BK).mono FR).mono FT) hq ⋯ ⋯ ⟨Wt.mono FT,FT _ _ (FR _ _ (BK _ _ mO)),ho,ra,f1,f2,f3⟩ (none_of (S6.trans s7) aes) aep (none_of (S8.trans s9) nam) λi hi=>none_of (S6.trans s7) (mM i hi)
theorem aez:aZ ["told","table","row","found","line","total","j"] ["told","table","row"] (aK EU):=bf
theorem aeA(T:Txt K mg t):aN P w K mg base bH 6 t.uE t.ym ["told","table","row"] aaY:=by
 have S:=aez;refine T.zm.bN S (λ_ _ _ _ H _ _ _ hr h=>?_);intros bvE h td bv30 a r q X Y n m ra bv30 vf lv Tw U tt u Sw R bv34 rfl tw hq hT hw Bx m60 hF hL cp kk
 refine (ad _ (aj (putL 3 S.nd (cJ ae))
  (aj (eG de rfl (dN (pv 1)) (b_ (i:=4) S.nd rfl (Or.inl rfl))
   (aj (putL 5 S.nd (ay (vA T) hr T.qF T.lC.kp T.qE aC (aa (pv 0) ae)))
  (aj (eG de rfl (fe rfl T.dW (aa (bS eJ rfl T.dI dJ (aa (pv 2) ae)) ae)) (b_ (i:=6) S.nd rfl (Or.inl rfl))
   (ak (putL 5 S.nd (ay (SW T) hr T.Jq T.vg.kp T.Jp aC (aa (pv 0) (aa (pv 5) (aa (ay (ad7 T) hr T.QV T.zh.kp T.QU aC (aa (pv 0) (aa (ao bw (pv 4) (pv 6)) (aa (ao bw (pv 2) (pv 6)) ae)))) ae)))))))
  (ak (m9 (p5 oq Gy Gz p6 (pv 3) (aa (pv 5) ae)))))))
  (ak (aJ (pv 3))))) ?_)
 refine ax λ_ hR=>aP ⟨cG _,λD nD=>hR _ _ ?_⟩;have s1:af H (upd H D (.lst [])):=aG nD;have e1:upd H D (.lst []) D=some (.lst []):=au;generalize upd H D (.lst [])=H1 at s1 e1 ⊢;have di:((List.range n).map λi=>V.ref (ra i)).length=n:=by rw [aR,cy]
 refine ax λ_ hR=>(be _ rfl a rfl ⟨_,.of (s1 _ _ hT.lst)⟩ ?_);refine lX (K:=K) (a:=a) (xs:=(List.range n).map λi=>V.ref (ra i)) (λk σ Hc=>∃(wv:Nat->V) (v4 v5 v6:Option V),σ=[some (.ref td),some (.ref a),some (.ref r),some (.ref D),v4,v5,v6]/\af H Hc/\Hc D=some (.lst ((List.range k).map wv))/\∀i,i<k->aQ X Hc q (wv i) (Sw i m) (R i)) ⟨λ_=>.aO,_,_,_,rfl,s1,e1,λi hi=>absurd hi (pL _)⟩ (λk σ Hc _ ⟨_,_,_,_,_,sc,_⟩=>.of (sc _ _ hT.lst)) ?_ ?_
 ·intro i x σ Hc hx;intros bv22 _ wv v4 v5 v6 rfl sc ec Fc
  have hi:i<n:=by
   have:=(bK.mp hx).1
   rwa [di] at this
  have ex:x=.ref (ra i):=by rw [bU,jN hi] at hx;exact (Option.some.inj hx).symm
  subst ex;dsimp only [ck];refine ax λ_ hR=>aP (sK _ rfl td q rfl (tw.mono sc) hq (λv0 H2 s2 h0=>hR _ _ ?_));have J_:=sc.trans s2;have w0:aQ X H2 q v0 (Sw i 0) (R i):=sD h0 (by rw [cp.s0 i hi,iX,iX];exact jg q) (cp.nz i hi) (cp.bd i 0 hi (cG _)).1 (cp.bd i 0 hi (cG _)).2
  refine ax λ_ hR=>(io _ rfl r _ rfl (.inl (.of (J_ _ _ hw))) (o0 (m:Int) (by rw [aR,cy]) ⋯ ⋯ ?_))
  rw [dE];refine lY (λj σ Hd=>∃(v:V) (v6:Option V),σ=[some (.ref td),some (.ref a),some (.ref r),some (.ref D),some (.ref (ra i)),some v,v6]/\af H2 Hd/\aQ X Hd q v (Sw i j) (R i)) (bi v0 _ rfl (af.refl _) w0) ?_ ?_
  ·intro j σ Hd hj;intros bv7 _ v v6 rfl sd wd
   dsimp only [ck];have S2:=J_.trans sd;rw [jh];refine aP (u8 _ rfl _ rfl (ul _ rfl _ rfl _ rfl (xz (ra i) _ _ _ rfl rfl (.of (S2 _ _ (hT.at' i hi))) (cg hj) _ rfl (SC _ rfl r _ _ _ rfl rfl (.of (S2 _ _ hw)) (cg hj) ?_))));dsimp only [pY];have w1:=(hF i j hi hj).mono S2;have w2:=(hL j hj).mono S2;have Bz:=w1.choose_spec.choose_spec.2.2;have BA:=w2.choose_spec.choose_spec.2.2;have pb:=cp.pr i j hi hj;refine (wn td _ _ (SB q (Tw i j) (U i j) (tt j) (u j) X (Rs Y rfl (tw.mono S2) hq w1 w2 cp.gO (hE hq Bz BA) pb.1 pb.2 (λv' H3 s3 w3=>?_))));have XY:X<=X+Y:=by lia
   refine (wn td _ _ (SB q (Sw i j) (R i) (Tw i j*tt j) (U i j*u j) (max X Y) (Rs _ rfl (tw.mono (S2.trans s3)) hq ((wd.mono s3).bd (aM (cp.bd i j hi ⋯).1 (Nat.le_max_left ..)) (aM (cp.bd i j hi ⋯).2 (Nat.le_max_left ..))) (w3.bd (aM pb.1 (Nat.le_max_right ..)) (aM pb.2 (Nat.le_max_right ..))) (Nat.max_le.mpr ⟨cp.gO,cp.IE⟩) (hE hq (cp.nz i hi) (hE hq Bz BA)) (rf _ _) (Nat.le_add_left _ _) (λv'' H4 s4 w4=>?_))))
   refine (bi v'' _ rfl (sd.trans (s3.trans s4)) ((w4.eq hq (cp.ID i j hi hj) (cp.nz i hi)).bd (cp.bd i (j+1) hi ⋯).1 (cp.bd i (j+1) hi ⋯).2))
  ·intro σ Hd;intros bv7 _ v v6 rfl sd wd
   refine hR _ _ ?_;have S2:=J_.trans sd;have ed:=sd _ _ (s2 _ _ ec);refine (ce _ rfl (.inl ⟨rfl,_,.of ed⟩) _ rfl (pi D _ _ rfl rfl ed (by rw [aR,cy];exact cH ⋯) ?_))
   refine ⟨λj=>if j=i then v else wv j,_,_,_,rfl,λb o e=>by rw [aH (λzz=>by rw [zz,nD] at e;cases e)];exact S2 b o e,?_,λj hj=>?_⟩
   ·rw [au,kD,kG,pP,aq rfl]
    congr 3
    refine gU λj hj=>?_;rw [az (by have:=dA.mp hj;lia)]
   ·dsimp only
    by_cases e:j=i
    ·subst e
     rw [aq rfl];exact wd.put ed
    ·rw [az e]
     exact ((Fc j ⋯).mono (s2.trans sd)).put ed
 ·intro σ Hc;intros bv22 _ wv v4 v5 v6 rfl sc ec Fc
  rw [di] at ec Fc;exact hR _ _ (ad _ rfl (kk D wv Hc sc nD ec Fc))
theorem aeC:aZ ["told","one","other","size","columns_v","rows","line"] ["told","one","other"] (aK EX):=bf
theorem Ka(T:Txt K mg t):aN P w K mg base bH 7 t.uI t.yr ["told","one","other"] aca:=by
 have S:=aeC;refine T.qG.bN S (λ_ _ _ _ H _ _ _ hr h=>?_);intros bv5 h td a b bv30 q X Y n ra rb lf uf bv28 lT lU uT uU Sw R rfl tw bv25 hq hA hB kr wl wu cp kk
 refine (ad _ (aj (oX 3 S.nd (bS eJ rfl T.dI dJ (aa (pv 1) ae)))
  (aj (NT (i0:=4) (N:=["j","size","other"]) (ρ:=(λσ=>[σ[3]?.join,σ[2]?.join])) ⟨rfl,rfl,(λ_=>rfl),(λ_=>rfl),by decide +kernel,(vQ.mpr ⟨rfl,(vQ.mpr ⟨rfl,(Cd _)⟩)⟩),NQ (by rfl),rfl,by decide +kernel,rfl,(λσ j v h=>match j,h with | 0,h=>(sB 3 _ rfl rfl (join_some h) (Or.inr (Or.inl rfl)) ⟨.inl rfl,.inl rfl⟩) | 1,h=>(sB 2 _ rfl rfl (join_some h) (Or.inr (Or.inl rfl)) ⟨.inl rfl,.inl rfl⟩) | j+2,h=>by cases h),(λ_ _=>rfl)⟩ rfl S.nd rfl (Or.inl rfl) (fe rfl T.dW (aa (pv 3) ae)) (λ_ _ _=>.nil) (λ_ _ _=>(fH (N:=["i","other","j"]) (ρ:=(λσ=>[σ[2]?.join,σ[0]?.join])) (du [2,0] rfl) rfl (fe rfl T.dW (aa (pv 1) ae)) (λ_ _ _=>.nil) (λ_ _ _=>(ao (kh (K:=K)) (ao (kh (K:=K)) (pv 1) (pv 0)) (pv 2))))))
  (aj (putL 5 S.nd (cJ ae))
  (aj (eG de rfl (dN (pv 1)) (b_ (i:=6) S.nd rfl (Or.inl rfl))
   (ak (m9 (p5 oq Gy Gz p6 (pv 5) (aa (ay (aeA T) hr T.Q3 T.zm.kp T.Q2 aC (aa (pv 0) (aa (pv 4) (aa (pv 6) ae)))) ae)))))
  (ak (aJ (pv 5))))))) ?_)
 have di:∀f:Nat->V,((List.range n).map f).length=n:=λf=>by rw [aR,cy]
 refine ax λ_ hR=>aP (io _ rfl a _ rfl (.inl (.of hA.lst)) (hR _ _ ?_));rw [di];refine ax λ_ hR=>aP (jB (xs:=(List.range n).map λi:Nat=>V.int (0+(i:Int))) (n:=n) (di _) (λR h=>⟨_,rfl,(n:Int),rfl,⋯,⋯,by rw [dE];exact h _ _ (af.refl _) ke⟩) (cH ⋯) (λ_ j y Hx=>Hx y=some (.lst ((List.range n).map λi=>uf i j))/\H y=none) ?_ ?_ ?_)
 ·intro D i y Ha Hb ys ⟨h1,h2⟩ hy e f
  exact ⟨f y _ hy h1,h2⟩
 ·intro D j x hx Hc R sc _ kc
  obtain ⟨hj,rfl⟩:=fY hx;refine kY (xs:=(List.range n).map λi:Nat=>V.int (0+(i:Int))) (λR h=>⟨_,rfl,(n:Int),rfl,⋯,⋯,by rw [dE];exact h _ _ (af.refl _) ke⟩) (by rw [di];exact cH ⋯) (λ_ i y _=>y=uf i j) (λ_ _ _ _ _ _ h _ _=>h) ?_ ?_
  ·intro D1 i x hx Hd R' sd _ kd
   obtain ⟨hi,rfl⟩:=fY hx;have S2:=sc.trans sd;rw [jh,jh];exact (ad _ rfl (SC _ rfl b _ _ _ rfl rfl (.of (S2 _ _ hB.lst)) (cg hi) (SC _ rfl (rb i) _ _ _ rfl rfl (.of (S2 _ _ (hB.at' i hi))) (cg hj) (kd _ Hd (af.refl _) rfl))))
  ·intro D1 ys Hd lF sd iU eN eD
   rw [di] at iU;refine kc D1 Hd sd lF ⟨_,eD⟩ ⟨?_,none_of sc lF⟩;rw [eD]
   congr 2
   refine eP (by simp [iU]) λi h1 h2=>?_
   rw [d8,e_];exact eN i _ (cw h1)
 ·intro cl rc H1 ncl s1 inj hC ecl
  refine hR _ _ ?_;have hC':cI H1 cl n n rc (λj i=>uf i j):=⟨ecl,λj hj=>(hC j hj).1.1⟩;refine ax λ_ hR=>aP ⟨cG _,λD nD=>hR _ _ ?_⟩;have s2:af H1 (upd H1 D (.lst [])):=aG nD;have eD:upd H1 D (.lst []) D=some (.lst []):=au;generalize upd H1 D (.lst [])=H2 at s2 eD ⊢;have b6:=s1.trans s2;have nDH:H D=none:=none_of s1 nD;refine ax λ_ hR=>(be _ rfl a rfl ⟨_,.of (b6 _ _ hA.lst)⟩ ?_);refine lX (K:=K) (a:=a) (xs:=(List.range n).map λi=>V.ref (ra i)) (λk σ Hc=>∃(rr:Nat->Addr) (pf:Nat->Nat->V) (v6:Option V),σ=[some (.ref td),some (.ref a),some (.ref b),some (.int (n:Int)),some (.ref cl),some (.ref D),v6]/\af H1 Hc/\Hc D=some (.lst ((List.range k).map λi=>V.ref (rr i)))/\(∀i,i<k->H (rr i)=none/\gB Hc (rr i) n (pf i)/\rr i≠D/\∀j,j<n->aQ X Hc q (pf i j) (Sw i j n) (R i j))) (re (λ_=>0) (λ_ _=>.aO) _ rfl s2 eD (λi hi=>by lia)) (λk σ Hc _ ⟨_,_,_,_,sc,_⟩=>.of (sc _ _ (s1 _ _ hA.lst))) ?_ ?_
  ·intro i x σ Hc hx;intros bv17 _ rr pf v6 rfl sc ec Fc
   obtain ⟨hi,rfl⟩:=fY hx;dsimp only [ck];have S2:=s1.trans sc;refine (bv _ rfl (.inl ⟨rfl,_,.of ec⟩) (ul _ rfl _ rfl _ rfl (SB td cl (ra i) q X Y (Re n n rc (λj i=>uf i j) (lf i) _ _ (lT i) (lU i) (Sw i) (Rs (R i) rfl (tw.mono S2) hq (hC'.mono sc) (S2 _ _ (hA.at' i hi)) ⋯ ⋯ (λj k hj hk=>(wu k j hk hj).mono S2) (λk hk=>(wl i k hi hk).mono S2) ⟨cp i hi,λr wv H3 s3 nr er ew=>?_⟩)))))
   have Kb:=s3 _ _ ec;have rD:r≠D:=λzz=>by rw [zz,ec] at nr;cases nr
   refine (pi D _ _ rfl rfl Kb (by rw [aR,cy];exact cH ⋯) ?_)
   refine (re (λj=>if j=i then r else rr j) (λj=>if j=i then wv else pf j) _ rfl (λb u e=>?_) ?_ (λj hj=>?_))
   ·rw [aH (λzz=>by rw [zz,nD] at e;cases e)]
    exact s3 _ _ (sc b u e)
   ·rw [au,kD,kG,pP]
    dsimp only;rw [aq rfl]
    congr 3
    refine gU λj hj=>?_;rw [az (by have:=dA.mp hj;lia)]
   ·dsimp only
    by_cases e:j=i
    ·subst e
     rw [aq rfl,aq rfl];exact ⟨none_of S2 nr,by unfold gB;rw [aH rD];exact er,rD,λk hk=>(ew k hk).put Kb⟩
    ·rw [az e,az e]
     obtain ⟨f0,f1,f2,f3⟩:=Fc j ⋯
     exact ⟨f0,by unfold gB;rw [aH f2];exact s3 _ _ f1,f2,λk hk=>((f3 k hk).mono s3).put Kb⟩
  ·intro σ Hc;intros bv17 _ rr pf v6 rfl sc ec Fc
   rw [di] at ec Fc;exact hR _ _ (ad _ rfl (kk D rr pf Hc (s1.trans sc) nDH (λi hi=>(Fc i hi).1) ⟨ec,λi hi=>(Fc i hi).2.1⟩ λi j hi hj=>(Fc i hi).2.2.2 j hj))
theorem aeG:aZ ["row","bottom","number"] ["row"] (aK Ex):=bf
theorem aeH(T:Txt K mg t):aN P w K mg base bH 2 t.ub t.xX ["row"] abG:=by
 have S:=aeG;refine T.y7.bN S (λ_ _ _ _ H vs _ _ hr h=>?_);intros bv33 h a ps B D rfl q'3 Th i9 hD hB bvA bD k;intros bv4 q'3 vs ea hl hn
 refine (ad _ (aj (oX 1 S.nd ah)
  (aj (eG de rfl (dN (pv 0)) (b_ (i:=2) S.nd rfl (Or.inl rfl))
   (ak (oX 1 S.nd (aD iw (aD ma (pv 1) (ay (zD T) hr T.u9 T.mL.kp T.u7 aC (aa (pv 1) (aa (ao aW (pv 2) ah) ae)))) (ao aW (pv 2) ah)))))
  (ak (aJ (fT (aa (fH (N:=["number","bottom"]) (ρ:=(λσ=>[σ[1]?.join])) (du [1] rfl) rfl (dN (pv 0)) (λ_ _ _=>.nil) (λ_ _ _=>(aD iw (ao (NZ (K:=K)) (pv 0) ah) (aD ma (pv 1) (ao (NZ (K:=K)) (pv 0) ah))))) (aa (pv 1) ae))))))) ?_)
 have D1:=i9.1 rfl;have parts:∀(i:Nat) (v:V),vs[i]?=some v->∃(r:Addr) (x m:Int),v=.ref r/\H r=some (.tup [.int x,.int m])/\ps[i]?=some (x,m)/\cb x m/\x.natAbs<=B/\m∣D:=λi v e=>by
  have hi:i<ps.length:=by rw [<-hl];exact (bK.mp e).1
  have ep:ps[i]?=some ps[i]:=by simp [hi]
  have h1:=hn i v ps[i] e ep;have h2:=hD _ (f9 hi);generalize ps[i]=p at h1 ep h2;obtain ⟨x,m⟩:=p;cases h1 with
  | aU er l bx bm=>exact (pi _ x m rfl er ep l ⟨bx,h2⟩)
  | rem h0 h1 h2=>lia
 have zJ:∀{y:Int},y∣D->cV y:=λh=>fz (HU h ⋯) bD
 refine (be _ rfl a rfl ⟨_,.of ea⟩ ?_)
 refine lX (K:=K) (a:=a) (xs:=vs) (λi σ Hc=>Hc=H/\∃(b:Int) (v2:Option V),σ=[some (.ref a),some (.int b),v2]/\1<=b/\b∣D/\∀(j:Nat) (p:Int×Int),j<i->ps[j]?=some p->p.2∣b)
  ⟨rfl,1,none,rfl,∅,vX D,λj p hj=>by lia⟩ (λi σ Hc _ ⟨z,_⟩=>by rw [z];exact .of ea) ?_ ?_
 ·intro i v σ Hc hi;intros bv20 _ rfl b v2 rfl b1 bb hd
  have q'4:=parts i v hi;intros bv27 q'4 r x m rfl er ep l bx bm;have m1:=l.pos;obtain ⟨s1,s2,s3,s4⟩:=Y3 b1 m1;have gp:=wG (a:=b) (b:=m) ⋯
  have gm:cV (Int.gcd b m:Int):=zJ (h_ (jf ..) bm);refine (u8 _ rfl _ rfl (SC _ rfl r _ _ _ rfl rfl (.of er) rfl (bi b m rfl (zJ bm) (f8 _ _ rfl rfl ⟨⋯,gm⟩ (SC _ rfl r _ _ _ rfl rfl (.of er) rfl (f8 _ _ rfl rfl ⟨?_,zJ bm⟩ ?_))))))
  ·exact fz (om ..) (zJ bb)
  ·refine ⟨rfl,_,_,rfl,s1,lcm_dvd b1 m1 bb bm,λj p hj hp=>?_⟩
   by_cases z:j=i
   ·subst z
    rw [ep] at hp;cases hp;exact s2
   ·exact h_ (hd j p ⋯ hp) s3
 ·intro σ Hc;intros bv20 _ rfl b v2 rfl b1 bb hd
  rw [hl] at hd;have mb:cV b:=zJ bb;dsimp only;refine eL (Y0 (kY (xs:=vs) (λR h=>(be _ rfl a rfl ⟨_,.of ea⟩ (h _ _ (af.refl _) (iz (.of ea))))) (by rw [hl];exact cH ⋯) (λ_ i y _=>∃(p:Int×Int),ps[i]?=some p/\y=.int (p.1*(b / p.2))) (λ_ _ _ _ _ _ h _ _=>h) ?_ ?_))
  ·intro D' i v hi Hd R sd _ kd
   have q'5:=parts i v hi;intros bv27 q'5 r x m rfl er ep l bx bm;have m1:=l.pos;have hbm:cV (b / m):=fz (om ..) mb;exact (ad _ rfl (xz r _ _ _ rfl rfl (.of (sd _ _ er)) rfl _ rfl (SC _ rfl r _ _ _ rfl rfl (.of (sd _ _ er)) rfl (f8 _ _ rfl rfl ⟨⋯,zJ bm⟩ (f8 _ _ rfl rfl ⟨fz bx hB,hbm⟩ (kd _ Hd (af.refl _) (ad (x,m) ep rfl)))))))
  ·intro D' ys Hd nD sd eN hP eD
   have ey:ys=(ps.map λp=>p.1*(b / p.2)).map V.int:=HR (by rw [eN,hl,aR]) λi v e=>by obtain ⟨p,e1,e2⟩:=hP i v e;exact ⟨p.1*(b / p.2),by rw [bU,e1];rfl,e2⟩
   refine (bv _ rfl (by show 2<=sizeLine;decide) (λr lD=>?_))
   refine k _ _ (ps.map λp=>p.1*(b / p.2)) b (sd.trans (aG lD)) (f8 r D' rfl au (aG lD _ _ (by rw [eD,ey])) nD) ⟨by rw [aR],⟨λ_=>b1,λz=>absurd rfl z⟩,bb,λi hi=>?_⟩
   have Ke:i<vs.length:=by lia
   have e1:(ps.map λp=>p.1*(b / p.2)).getD i 0=ps[i].1*(b / ps[i].2):=by rw [getD_at (by rw [aR];exact hi),d8]
   rw [e1,getD_at hi];have q'7:=(parts i vs[i] (by simp [Ke]));intros bv27 q'7 r' x m _ _ ep l bx bm
   have FU:ps[i]=(x,m):=by
    rw [show ps[i]?=some ps[i] by simp [hi]] at ep
    exact Option.some.inj ep
   rw [FU];dsimp only;have m1:=l.pos;obtain ⟨c,ec⟩:=hd i (x,m) hi (by rw [<-FU];simp [hi])
   dsimp only at ec;have eq:b / m=c:=by rw [ec];exact gT _ ⋯
   refine ⟨by rw [eq,ec];grind,?_⟩
   rw [cS];exact fQ bx (aM (om ..) (HU bb ⋯))
theorem aeJ:aZ ["self","row"] ["self","row"] (aK Fe):=bf
theorem Ti(T:Txt K mg t):aN P w K mg base bH 3 t.uY t.yG ["self","row"] (abH t.bg):=by
 have S:=aeJ;refine T.Bs.bN S (λ_ _ _ _ H vs _ _ hr h=>?_);intros bv18 h z a q ps B D bv34 rfl q'8 hq pI Th i9 hD hB b1 bD k;obtain ⟨dx,hx⟩:=q'8
 refine (ad _ (aj (bO (bG rM (l7 (pv 0) rfl) kJ) (ak (aJ (ay (aeH T) hr T.QH T.y7.kp T.QG aC (aa (pv 1) ae)))) bQ)
  (ak (aJ (fT (aa (jY CM rfl T.nQ boot_list (aa (pv 1) ae)) (aa ah ae)))))) ?_)
 refine (ww _ rfl z (ia t.bg dx _ _ rfl hx T.e8 T.jK (me _) (ib rfl _ rfl ?_)));rcases hq with rfl | ⟨q2,q3,q4⟩
 ·rw [aq rfl]
  exact gj (ad _ rfl (sw a ps B D rfl pI Th i9 hD hB ⟨bD,k⟩))
 ·have hq:q≠0:=by lia
  rw [az hq] at hx ⊢;intros bv4 pI vs ea hl hn;have parts:∀(i:Nat) (v:V),vs[i]?=some v->∃x:Int,v=.int x/\ps[i]?=some (x,1)/\0<=x/\x<q:=λi v e=>by
   have hi:i<ps.length:=by rw [<-hl];exact (bK.mp e).1
   have ep:ps[i]?=some ps[i]:=by simp [hi]
   have h1:=hn i v ps[i] e ep;generalize ps[i]=p at h1 ep;obtain ⟨x,m⟩:=p;cases h1 with
   | aU er l bx bm=>exact absurd rfl hq
   | rem h0 h1 h2=>exact (o0 x rfl ep h0 h1)
  have ey:vs=(ps.map λp=>p.1).map V.int:=HR (by rw [hl,aR]) λi v e=>by obtain ⟨x,e1,e2,_⟩:=parts i v e;exact ⟨x,by rw [bU,e2];rfl,e1⟩
  have eD:=i9.2 hq;refine cA (io _ rfl a vs rfl (.inl (.of ea)) (λl nl=>⟨by show 2<=sizeLine;decide,λr lD=>?_⟩))
  refine k _ _ (ps.map λp=>p.1) 1 ((aG nl).trans (aG lD)) (f8 r l rfl au (aG lD _ _ (by rw [au,ey])) nl) ⟨by rw [aR],cW.one,vX D,λi hi=>?_⟩
  have Ke:i<vs.length:=by lia
  rw [getD_at (by rw [aR];exact hi),d8,getD_at hi]
  obtain ⟨x,_,ep,x0,x1⟩:=parts i vs[i] (by simp [Ke])
  have FU:ps[i]=(x,1):=by
   rw [show ps[i]?=some ps[i] by simp [hi]] at ep
   exact Option.some.inj ep
  rw [FU];refine ⟨rfl,?_⟩;rw [eD];show x.natAbs<=B*1;lia
theorem aeK:aZ ["table","place"] ["table","place"] (aK DX):=bf
theorem Tj(T:Txt K mg t):aN P w K mg base bH 1 t.sX t.xn ["table","place"] abE:=by
 have S:=aeK;refine T.u4.bN S (λ_ _ _ _ H vs _ _ hr h=>?_);intros bvE h a bv32 q B j ag m rfl q'11 lE hm hj k;intros bv4 q'11 vs ea hl hn;refine (ad _ (ak (aJ (fH (N:=["row","place"]) (ρ:=(λσ=>[σ[1]?.join])) (du [1] rfl) rfl (dN (pv 0)) (λ_ _ _=>.nil) (λ_ _ _=>(ao (kh (K:=K)) (pv 0) (pv 1)))))) ?_);refine eL (kY (xs:=vs) (λR h=>(be _ rfl a rfl ⟨_,.of ea⟩ (h _ _ (af.refl _) (iz (.of ea))))) (by rw [hl];exact cH ⋯) (λD i y Hx=>∃ps,ag[i]?=some ps/\aw B Hx q y (ps.getD j (0,1)).1 (ps.getD j (0,1)).2) (λ_ _ _ _ _ _ ⟨ps,h1,h2⟩ e f=>(ad ps h1 (h2.bE e f))) ?_ ?_)
 ·intro D i v hi Hc R sc _ kc
  have b9:i<ag.length:=by rw [<-hl];exact (bK.mp hi).1
  have ep:ag[i]?=some ag[i]:=by simp [b9]
  obtain ⟨r,rfl,us,er,lr,f⟩:=hn i v ag[i] hi ep;have hlen:=hm ag[i] (f9 ..);have Tn:j<us.length:=by lia
  have To:j<ag[i].length:=by lia
  refine ⟨_,rfl,_,rfl,r,us,_,us[j],rfl,rfl,.of (sc _ _ er),kM (by simp [Tn]),kc _ Hc (af.refl _) (ad (ag[i]) ep ?_)⟩
  have eg:ag[i].getD j (0,1)=ag[i][j]:=by simp [To]
  rw [eg];exact (f j us[j] ag[i][j] (by simp [Tn]) (by simp [To])).mono sc
 ·intro D ys Hc nD sc eN hP eD
  refine k D Hc sc nD (bv ys eD (by rw [eN,hl,aR]) (λi v p h1 h2=>?_))
  obtain ⟨ps,e1,e2⟩:=hP i v h1;rw [bU,e1] at h2;cases h2;exact e2
theorem Tq:aZ ["table"] ["table"] (aK DY):=bf
theorem aeL(T:Txt K mg t):aN P w K mg base bH 2 t.qu t.sY ["table"] (abF t.bV):=by
 have S:=Tq;refine T.u5.bN S (λ_ _ _ _ H vs _ _ hr h=>?_);intros bvE h a bv33 q B ag m rfl hA h1 lE hm m40 k;refine (ad _ (ak (aJ (fH (N:=["place","table"]) (ρ:=(λσ=>[σ[0]?.join])) (du [0] rfl) rfl (fe rfl T.dW (aa (ay (JL T) hr T.Bl T.nN.kp T.Bk j6 (aa (pv 0) ae)) ae)) (λ_ _ _=>.nil) (λ_ _ _=>(ay (Tj T) hr T.Jc T.u4.kp T.Jb aC (aa (pv 1) (aa (pv 0) ae))))))) ?_);refine eL (kY (xs:=(List.range m).map λi:Nat=>V.int (0+(i:Int))) (λR h=>(ww _ rfl a (ia q B ag m rfl hA h1 lE hm (λH1 s1=>⟨(m:Int),rfl,⋯,⋯,h _ _ s1 (by rw [dE];exact ke)⟩)))) (by rw [aR,cy];exact cH ⋯) (λD i y Hx=>∃r,y=.ref r/\r≠D/\i8 B Hx q r (ag.map λps:List (Int×Int)=>ps.getD i ((0:Int),(1:Int)))) (λD i y Ha Hb ys ⟨r,h1,h2,vs,e1,e2,e3⟩ e f=>⟨r,h1,h2,vs,f _ _ h2 e1,e2,λj v p x y=>(e3 j v p x y).bE e f⟩) ?_ ?_)
 ·intro D i v hi Hc R sc ⟨zs,eD⟩ kc
  have b9:i<m:=by have:=(bK.mp hi).1;simpa using this
  have ev:v=.int (i:Int):=by rw [bU] at hi;simp [b9] at hi;exact hi.symm
  subst ev;refine (u8 _ rfl _ rfl (wp a q (ia B i ag m rfl (hA.mono sc) lE hm b9 (λb H' s' nb hb=>kc _ H' s' (bv b rfl (λz=>by (rw [z,eD] at nb;cases nb)) hb)))))
 ·intro D ys Hc nD sc eN hP eD
  refine k D Hc sc nD (bv ys eD (by unfold iR;rw [eN,aR,aR]) (λi v ps h1 h2=>?_))
  obtain ⟨r,e1,_,e3⟩:=hP i v h1;have b9:i<m:=by have:=(bK.mp h2).1;simpa [iR] using this
  unfold iR at h2;rw [bU] at h2;simp [b9] at h2;subst h2;exact (ad r e1 e3)
theorem aeM:aZ ["world","one","other","total"] ["world","one","other"] (aK DZ):=bf
theorem aeN(T:Txt K mg t):aN P w K mg base bH 4 t.sZ t.xo ["world","one","other"] (Y1 t.bg):=by
 have S:=aeM;have nS:=Bw (P:=P) (w:=w) (base:=base) T;refine T.yH.bN S (λ_ _ _ _ H vs _ _ hr h=>?_);obtain ⟨z,q,v,u,ts,us,b,c,rfl,⟨dz,hd⟩,hq,⟨tp,l,rfl,e1,e2⟩,⟨Tr,l',rfl,j9,Ts⟩,ht,NN,mt,mu,mb,mc,mbc,nz,k⟩:=h
 refine (ad _ (aj (putL 3 S.nd (bS (YK (K:=K) rfl) rfl T.RA boot_sum (aa (Df (N:=["a","b"]) (ρ:=(λσ=>[])) (AQ [] rfl) rfl (YF rfl T.RB (aa (ao aW (pv 1) ah) (aa (ao aW (pv 2) ah) ae))) (λ_ _ _=>.nil) (λ_ _ _=>(aD iw (pv 0) (pv 1)))) ae)))
  (ak (aJ (l9 (pv 0) T.e8 T.vm nS (hr.mono ∅) T.Rm .nil j6 (aa (pv 3) (aa (aD iw (ao aW (pv 1) ah) (ao aW (pv 2) ah)) ae)))))) ?_)
 have hlen:((ts.map V.int).zip (us.map V.int)).length=min ts.length us.length:=by simp
 refine oZ (aP (AU (YW (zs:=(ts.map V.int).zip (us.map V.int)) (λR h=>(SC _ rfl tp _ _ _ rfl rfl (.of e1) rfl (SC _ rfl Tr _ _ _ rfl rfl (.of j9) rfl (f8 l l' rfl ⟨_,.of e2⟩ ⟨_,.of Ts⟩ (h _ _ (af.refl _) (YV (.of e2) (.of Ts))))))) (by rw [hlen];exact cH ⋯) (λi v=>∃w:Int,(List.zipWith (· * ·) ts us)[i]?=some w/\v=.int w) ?_ ?_)))
 ·intro i x y pG Hc R sc kc
  obtain ⟨t0,u0,rfl,rfl,a1,a2⟩:=Y2 pG;exact (on _ rfl _ rfl _ _ rfl rfl ⟨mt t0 (kA a1),mu u0 (kA a2)⟩ (kc _ Hc (af.refl _) ⟨t0*u0,by rw [List.getElem?_zipWith,a1,a2],rfl⟩))
 ·intro D vs Hc sc hl hP eD
  have ev:vs=(List.zipWith (· * ·) ts us).map V.int:=HR (by rw [hl,hlen,List.length_zipWith]) hP
  subst ev;refine (bi D _ rfl (.of eD) ?_);refine (tz _ rfl z dz _ rfl (sc _ _ hd) (mf (by decide +kernel)) (ad _ rfl (SC _ rfl tp _ _ _ rfl rfl (.of (sc _ _ e1)) rfl (SC _ rfl Tr _ _ _ rfl rfl (.of (sc _ _ j9)) rfl (f8 _ _ rfl rfl ⟨mb,mc⟩ (ia z q _ _ rfl ⟨dz,sc _ _ hd⟩ hq mbc (λh=>absurd h (Yz nz)) (λ_ v' H' s' ho=>k v' H' (sc.trans s') (YA ho hq nz))))))))
theorem aeP:aZ ["world","rows","row"] ["world","rows","row"] (aK D3):=bf
theorem aeQ(T:Txt K mg t):aN P w K mg base bH 5 t.s_ t.xp ["world","rows","row"] (abJ t.bg):=by
 have S:=aeP;refine T.yI.bN S (λ_ _ _ _ H vs _ _ hr h=>?_);intros bv18 h z a q u ws us bv26 c E' F rfl hz hq q'19 bv34 lE hb jc lu hut okc bc E2 F2 EF k;obtain ⟨vs,ea,hl,hn⟩:=q'19;refine (ad _ (ak (aJ (fH (N:=["each","world","row"]) (ρ:=(λσ=>[σ[0]?.join,σ[2]?.join])) (du [0,2] rfl) rfl (dN (pv 1)) (λ_ _ _=>.nil) (λ_ _ _=>(ay (aeN T) hr T.P0 T.yH.kp T.PZ aC (aa (pv 1) (aa (pv 0) (aa (pv 2) ae)))))))) ?_);refine eL (kY (xs:=vs) (λR h=>(be _ rfl a rfl ⟨_,.of ea⟩ (h _ _ (af.refl _) (iz (.of ea))))) (by rw [hl];exact cH ⋯) (λD i y Hx=>∃w,ws[i]?=some w/\iy Hx q y (kZ (Prod.fst w) us) (Prod.snd w*c)) (λ_ _ _ _ _ _ ⟨w,h1,h2⟩ e f=>(ad w h1 (h2.bE e f))) ?_ ?_)
 ·intro D i v hi Hc R sc _ kc
  have b9:i<ws.length:=by rw [<-hl];exact (bK.mp hi).1
  have ep:ws[i]?=some ws[i]:=by simp [b9]
  have hw:=hn i v ws[i] hi ep;have hwb:=hb ws[i] (f9 ..);obtain ⟨lw,ht,okb,bb⟩:=hwb;refine (u8 _ rfl _ rfl (ww _ rfl z (SB q v u (ws[i].1) us (ws[i].2) (Rs c rfl (hz.mono sc) hq (hw.mono sc) (jc.mono sc) ⋯ ⋯ (λt h=>fz (ht t h) E2) (λt h=>fz (hut t h) F2) ⟨fz bb E2,fz bc F2,?_,N1 hq (okb.nz hq) (okc.nz hq),λv' H' s' hv=>kc v' H' s' (ad (ws[i]) ep hv)⟩))))
  refine fz ?_ EF;rw [cS];exact fQ bb bc
 ·intro D ys Hc nD sc eN hP eD
  refine k D Hc sc nD (bv ys eD (by rw [eN,hl,aR]) (λi v p h1 h2=>?_))
  obtain ⟨w',e1,e2⟩:=hP i v h1;rw [bU,e1] at h2;cases h2;exact e2
theorem aeV:aZ ["world","rows"] ["world","rows"] (aK D4):=bf
theorem aeW(T:Txt K mg t):aN P w K mg base bH 4 t.tj t.xq ["world","rows"] (abI t.bg):=by
 have S:=aeV;have Ki:=Ti (P:=P) (w:=w) (base:=base) T;refine T.yJ.bN S (λ_ _ _ _ H vs _ _ hr h=>?_);intros bv28 h z a q B E' ag rfl q'21 bv25 hq q'22 B1 B2 E2 lE BB k;obtain ⟨dz,hd⟩:=q'21;intros bv4 q'22 vs ea hl hn;refine (ad _ (ak (aJ (fH (N:=["row","world"]) (ρ:=(λσ=>[σ[0]?.join])) (du [0] rfl) rfl (dN (pv 1)) (λ_ _ _=>.nil) (λ_ _ _=>(l9 (pv 1) T.e8 T.Bt Ki (hr.mono ∅) T.Jx .nil aC (aa (pv 0) ae)))))) ?_)
 refine eL (kY (xs:=vs) (λR h=>(be _ rfl a rfl ⟨_,.of ea⟩ (h _ _ (af.refl _) (iz (.of ea))))) (by rw [hl];exact cH ⋯) (λD i y Hx=>∃ps w,ag[i]?=some ps/\qf D Hx y (Prod.fst w) (Prod.snd w)/\DK q E' ps (Prod.fst w) (Prod.snd w)) (λ_ _ _ _ _ _ ⟨ps,w,h1,h2,h3⟩ e f=>(bi ps w h1 (h2.keep e f) h3)) ?_ ?_)
 ·intro D i v hi Hc R sc ⟨zs,eD⟩ kc
  have b9:i<ag.length:=by rw [<-hl];exact (bK.mp hi).1
  have ep:ag[i]?=some ag[i]:=by simp [b9]
  obtain ⟨r,rfl,pI⟩:=hn i v ag[i] hi ep;obtain ⟨vE,D',x,i9,bD,dv,hx⟩:=BB _ (f9 b9);exact (tz _ rfl z dz _ rfl (sc _ _ hd) (mf (by decide +kernel)) (ad _ rfl (S' z r q (ag[i]) B (Rs D' rfl ⟨dz,sc _ _ hd⟩ hq (pI.mono sc) ⋯ i9 dv B2 B1 ⟨fz bD E2,λv' H' ts b s' hw ho=>kc v' H' s' ⟨ag[i],(ts,b),ep,hw.bE eD,Po hq ho pI i9 bD hx⟩⟩))))
 ·intro D ys Hc nD sc eN hP eD
  obtain ⟨ws,lw,hw⟩:=pick (R:=λi y w=>∃ps,ag[i]?=some ps/\qf D Hc y (Prod.fst w) (Prod.snd w)/\DK q E' ps (Prod.fst w) (Prod.snd w)) (λi y e=>by obtain ⟨ps,w,h1,h2,h3⟩:=hP i y e;exact (bi w ps h1 h2 h3))
  refine k D Hc ws sc nD ⟨(bv ys eD lw.symm (λi v w' h1 h2=>?_))⟩ (by rw [lw,eN,hl]) λi ps w' h1 h2=>?_
  ·obtain ⟨ps,_,h4,_⟩:=hw i v w' h1 h2
   exact h4.at
  ·have hi:i<ys.length:=by rw [<-lw];exact (bK.mp h2).1
   obtain ⟨ps',h3,_,h5⟩:=hw i ys[i] w' (by simp [hi]) h2
   rw [h1] at h3;cases h3;exact h5
theorem aeY:aZ ["world","rows","others","wholes"] ["world","rows","others"] (aK D5):=bf
theorem aeZ(T:Txt K mg t):aN P w K mg base bH 6 t.tu t.xr ["world","rows","others"] (Pp t.bg):=by
 have S:=aeY;have Ki:=Ti (P:=P) (w:=w) (base:=base) T;refine T.yK.bN S (λ_ _ _ _ H vs _ _ hr h=>?_);intros bv18 h z a o q Ba Bo bv33 E' F ag cR rfl hz hq hA hO a1 bv34 a2 Kj o2 E2 F2 EF lE ae0 BB Tu k
 refine (ad _ (aj (oX 3 S.nd (ay (aeW T) hr T.P6 T.yJ.kp T.P5 aC (aa (pv 0) (aa (pv 2) ae))))
  (ak (aJ (fH (N:=["row","world","wholes"]) (ρ:=(λσ=>[σ[0]?.join,σ[3]?.join])) (du [0,3] rfl) rfl (dN (pv 1)) (λ_ _ _=>.nil) (λ_ _ _=>(ay (aeQ T) hr T.P4 T.yI.kp T.P1 aC (aa (pv 1) (aa (pv 2) (aa (l9 (pv 1) T.e8 T.Bt Ki (hr.mono ∅) T.Jx .nil aC (aa (pv 0) ae)) ae))))))))) ?_)
 refine (u8 _ rfl _ rfl (S' z o q Bo F (Rs cR rfl hz hq hO Kj o2 F2 ae0 Tu (λwa H1 ws s1 nwa hWs lws aB=>?_))));have ae3:∀ps∈cR,∀p∈ps,cW q p.2:=λps h1 p h2=>(hO.nums hq ps h1 p h2).2.1;have Kk:=hz.mono s1;obtain ⟨dz,hd⟩:=Kk;have q'29:=hA.mono s1;intros bv4 q'29 vs ea hl hn;have wb:∀x∈ws,x.1.length<=40/\(∀t∈x.1,t.natAbs<=F)/\cW q x.2/\x.2.natAbs<=F:=λx hx=>by
  obtain ⟨i,hi,ei⟩:=List.getElem_of_mem hx;have b9:i<cR.length:=by lia
  have w:=aB i cR[i] x (by simp [b9]) (by rw [<-ei];simp [hi])
  exact ⟨by rw [w.len];exact (Tu _ (f9 ..)).1,w.bd,w.ok,w.bb⟩
 dsimp only [ck];refine eL (kY (xs:=vs) (λR h=>(be _ rfl a rfl ⟨_,.of ea⟩ (h _ _ (af.refl _) (iz (.of ea))))) (by rw [hl];exact cH ⋯) (λD i y Hx=>∃ps r,ag[i]?=some ps/\y=.ref r/\H r=none/\Dk D Hx q r (cR.map λrs=>fJ rs ps (0,1))) (λ_ _ _ _ _ _ ⟨ps,r,h1,h2,h3,h4⟩ e f=>(f8 ps r h1 h2 h3 (h4.keep e f))) ?_ ?_)
 ·intro D i v hi Hc R sc ⟨zs,eD⟩ kc
  have b9:i<ag.length:=by rw [<-hl];exact (bK.mp hi).1
  have ep:ag[i]?=some ag[i]:=by simp [b9]
  obtain ⟨r,rfl,pI⟩:=hn i v ag[i] hi ep;have ae4:∀p∈ag[i],cW q p.2:=λp hp=>(pI.nums hq p hp).2.1;have q'31:=BB ag[i] (f9 ..);intros bv20 q'31 vE D' x i9 bD dv hx;refine (u8 _ rfl _ rfl (tz _ rfl z dz _ rfl (sc _ _ hd) (mf (by decide +kernel)) (ad _ rfl (S' z r q (ag[i]) Ba (Rs D' rfl ⟨dz,sc _ _ hd⟩ hq (pI.mono sc) ⋯ i9 dv a2 a1 ⟨fz bD E2,λu H2 us c s2 hu2 hwd=>?_⟩)))))
  have zK:=Po hq hwd pI i9 bD hx;refine (wp z wa (SB q u ws us c F (Rs E' rfl ⟨dz,s2 _ _ (sc _ _ hd)⟩ hq (hWs.mono (sc.trans s2)) ⋯ wb hu2.at (by rw [zK.len];exact vE) zK.bd ⟨zK.ok,zK.bb,F2,E2,EF,λb H3 s3 nb hN=>?_⟩)))
  have Hb:H b=none:=by
   cases e:H b with
   | none=>rfl
   | some o'=>rw [s2 _ _ (sc _ _ (s1 _ _ e))] at nb;cases nb
  refine kc _ H3 (s2.trans s3) (f8 (ag[i]) b ep rfl Hb ⟨(λz'=>by (rw [z',s2 _ _ eD] at nb;cases nb)),?_⟩)
  intros bv4 hN ys eb ly f;refine (bv ys eb (by rw [ly,aR,aR,lws]) (λj y p h1 h2=>?_))
  have hj:j<ws.length:=by rw [<-aR (f:=λx:List Int×Int=>(kZ x.1 us,x.2*c)),<-ly];exact (bK.mp h1).1
  have cB:j<cR.length:=by lia
  have er:cR[j]?=some cR[j]:=by simp [cB]
  have ew:ws[j]?=some ws[j]:=by simp [hj]
  rw [bU,er] at h2;cases h2;have v1:=f j y _ h1 (by rw [bU,ew];rfl)
  have ok:=aB j cR[j] ws[j] er ew;have e:=N2 (ps:=cR[j]) (rs:=ag[i]) (ts:=ws[j].1) (us:=us) (B:=ws[j].2) (C:=c) (S:=0) (acc:=(0,1)) ok.len zK.len ok.eq zK.eq (by simp)
  rw [jh] at e;exact v1.to hq e (N3 (ae3 _ (f9 ..)) ae4 ⟨λ_=>by decide,λ_=>rfl⟩)
 ·intro D ys Hc nD sc eN hP eD
  have HD:H D=none:=by
   cases e:H D with
   | none=>rfl
   | some o'=>rw [s1 _ _ e] at nD;cases nD
  refine k D Hc ys (s1.trans sc) HD eD (by rw [eN,hl]) λi v ps h1 h2=>?_
  obtain ⟨ps',r,e1,e2,e3,e4⟩:=hP i v h1;rw [h2] at e1;cases e1;exact (bv r e2 e3 e4.2)
theorem Tx(T:Txt K mg t):aN P w K mg base (df P w) 1 t.qt t.sR ["table"] abM:=by
 have S:=Sk;refine T.nN.dQ S (λ_ _ _ _ H _ _ _ hr h L=>?_);intros bv4 h a rfl ea k
 refine (ad _ (aj (bO (bG dO (bS eJ rfl T.dI dJ (aa (pv 0) ae)) ah) (ak (aJ ah)) bQ)
  (aj (oX 1 S.nd (bS eJ rfl T.dI dJ (aa (ao bw (pv 0) ah) ae)))
  (aj (bO (iY (bS (NP (K:=K) rfl) rfl T.JB boot_any (aa (fH (N:=["row","wide"]) (ρ:=(λσ=>[σ[1]?.join])) (du [1] rfl) rfl (dN (pv 0)) (λ_ _ _=>.nil) (λ_ _ _=>(jV i3 (bS (HQ (K:=K)) rfl T.dI dJ (aa (pv 0) ae)) (pv 1)))) ae))) (ak (oO L rfl mW T.zC rfl T.zB (aa dq ae))) bQ)
  (ak (aJ (pv 1)))))) ?_)
 exact (gl _ rfl a [] rfl (.inl (.of ea)) rfl true rfl (gj k))
theorem ae7(T:Txt K mg t):aN P w K mg base bH 2 t.qu t.sY ["table"] abO:=by
 have S:=Tq;refine T.u5.bN S (λ_ _ _ _ H _ _ _ hr h=>?_);intros bv4 h a rfl ea k;refine (ad _ (ak (aJ (fH (N:=["place","table"]) (ρ:=(λσ=>[σ[0]?.join])) (du [0] rfl) rfl (fe rfl T.dW (aa (ay (Tx T) hr T.Bl T.nN.kp T.Bk j6 (aa (pv 0) ae)) ae)) (λ_ _ _=>.nil) (λ_ _ _=>(ay (Tj T) hr T.Jc T.u4.kp T.Jb aC (aa (pv 1) (aa (pv 0) ae))))))) ?_);refine eL (kY (xs:=[]) (λR h=>(be _ rfl a rfl ea (o0 (0:Int) rfl ∅ ∅ (h _ _ (af.refl _) (ke (n:=0)))))) ∅ (λ_ _ _ _=>True) (λ_ _ _ _ _ _ _ _ _=>trivial) (λD i v hi=>by simp at hi) ?_)
 intro D ys Hc nD sc eN _ eD;have ey:ys=[]:=vW.mp eN;subst ey;exact k D Hc sc nD eD
theorem ae8:aZ ["world","one","other"] ["world","one","other"] (aK D6):=bf
theorem ae9(T:Txt K mg t):aN P w K mg base (df P w) 7 t.tD t.xt ["world","one","other"] (abP t.bg):=by
 have S:=ae8;have ae_:=My.aN.or (JL (P:=P) (w:=w) (base:=base) T) (Tx (P:=P) (w:=w) (base:=base) T);have afa:=My.aN.or (aeL (P:=P) (w:=w) (base:=base) T) (ae7 (P:=P) (w:=w) (base:=base) T);refine T.yL.dQ S (λ_ _ _ _ H vs Q _ hr h L=>?_);intros bv18 h z a o q Ba Bo bv32 E' F r ag cR rfl hz hq hA hO bv19 a1 a2 Kj o2 E2 F2 bv25 EF Kl lp lr hp wr hc k
 refine (ad _ (aj (bO (bG i3 (ay ae_ hr T.Bl T.nN.kp T.Bk (kP L) (aa (pv 1) ae)) (bS eJ rfl T.dI dJ (aa (pv 2) ae))) (ak (oO L rfl mW T.zC rfl T.zB (aa dq ae))) bQ)
  (ak (aJ (ay (aeZ T) hr T.P8 T.yK.kp T.P7 aC (aa (pv 0) (aa (pv 1) (aa (ay afa hr T.PY T.u5.kp T.PX aC (aa (pv 2) ae)) ae))))))) ?_)
 have q'33:=id hA;intros bv4 q'33 va ea lva fva;have q'34:=id hO;intros bv4 q'34 vo eo lvo fvo;have rest:∀(H1:Hp),af H H1->∀(c:Addr) (H2:Hp),af H1 H2->d9 Bo H2 q c (iR r cR)->Pp t.bg [.ref z,.ref a,.ref c] H2 Q E0:=λH1 s1 c H2 s2 hC=>by
  have b6:=s1.trans s2;refine (wn z a c (SB q Ba Bo E' F ag (Rs (iR r cR) rfl (hz.mono b6) hq (hA.mono b6) hC a1 a2 Kj o2 ⟨E2,F2,EF,⋯,by rw [DJ];exact Kl,λps h=>⟨by rw [(hp ps h).1];lia,(hp ps h).2⟩,λps h=>⟨by rw [abN ps h,lr];exact Kl,hc ps h⟩,λb H' vs s' nb eb lb hb=>k b H' vs (b6.trans s') (none_of b6 nb) eb lb λi v ps h1 h2=>?_⟩)))
  obtain ⟨r',e1,e2,e3⟩:=hb i v ps h1 h2;exact (bv r' e1 (none_of b6 e2) e3)
 by_cases r0:r=0
 ·subst r0
  have ev:va=[]:=vW.mp ⋯
  have ew:vo=[]:=vW.mp ⋯
  subst ev ew;refine (ad _ rfl (.inr (bv a rfl ea (gl _ rfl o [] rfl (.inl (.of eo)) rfl false rfl (cA ?_)))));dsimp only [Ar];refine (ul _ rfl _ rfl _ rfl (.inr (bv o rfl eo (λc H2 s2 nc ec=>?_))));exact rest H (af.refl H) c H2 s2 (bv [] ec rfl (λi v ps h=>by simp at h))
 ·have f1:(!decide (V.int (r:Int)=V.int (vo.length:Int)))=false:=by rw [i5,cK ⋯];rfl
  refine (ad _ rfl (.inl (Exists.intro a (ia q Ba ag r rfl hA ⋯ ⋯ (λps h=>(hp ps h).1) (λH1 s1=>(gl _ rfl o vo rfl (.inl (.of (s1 _ _ eo))) rfl false (by rw [f1]) (cA ?_)))))))
  dsimp only [Ar];refine (ul _ rfl _ rfl _ rfl (.inl (Exists.intro o (sw q Bo cR r rfl (hO.mono s1) ⋯ ⋯ wr Kl (λc H2 s2 nc hC=>?_)))))
  exact rest H1 s1 c H2 s2 hC
theorem afb:aZ ["table","n","m"] ["table","n","m"] (aK DW):=bf
theorem Tz(T:Txt K mg t):aN P w K mg base bH 1 t.sW t.xl ["table","n","m"] abL:=by
 have S:=afb;refine T.u3.bN S (λ_ _ _ _ H _ _ _ hr h=>?_);intros bvE h a bv27 n m xs rfl ea lx kr hx k;refine (ad _ (ak (aJ (wc (jV dO (bS eJ rfl T.dI dJ (aa (pv 0) ae)) (pv 1)) (CA (bS (NC (K:=K) rfl) rfl T.JA boot_all (aa (fH (N:=["row","m"]) (ρ:=(λσ=>[σ[2]?.join])) (du [2] rfl) rfl (dN (pv 0)) (λ_ _ _=>.nil) (λ_ _ _=>(jV dO (bS (HQ (K:=K)) rfl T.dI dJ (aa (pv 0) ae)) (pv 1)))) ae)))))) ?_);refine (io _ rfl a xs rfl (.inl (.of ea)) (ce _ rfl rfl true (by rw [i5,cK ⋯]) (gj ?_)))
 refine AU (HJ (xs:=xs) (λR h=>(be _ rfl a rfl ⟨_,.of ea⟩ (h _ _ (af.refl _) (iz (.of ea))))) (cH ⋯) (λ_ i y _=>y=.bl true) (λ_ _ _ _ _ _ h _ _=>h) ?_ ?_)
 ·intro D i v hi Hc R sc _ kc
  obtain ⟨r,us,rfl,e2,e3⟩:=hx v (kA hi);refine (io _ rfl r us rfl (.inl (.of (sc _ _ e2))) (bv _ rfl rfl ?_));rw [i5,cK ⋯]
  exact kc _ Hc (af.refl _) rfl
 ·intro D ys Hc sc eN hP eD
  refine ⟨D,List.replicate ys.length true,rfl,.of (by rw [eD];exact hV _ (hV _ (HS hP))),?_⟩
  rw [N4];exact k Hc sc
theorem Txt.afc(T:Txt K mg t):oP K t.bV:=⟨T.RQ,T.RR,T.RS,T.RT,T.RU,T.RV⟩
theorem Txt.afd(T:Txt K mg t):oP K t.bZ:=⟨T.R_,T.Sa,T.Sb,T.Sd,T.Se,T.Sf⟩
def afe(N O:Addr):Sp:=λvs H Q _=>∃ea:Addr,vs=[.ref ea]/\((H ea=some (oN ea N)/\∀H',af H H'->Q (sV "fit") H')\/(H ea=some (oN ea O)/\∀H',af H H'->Q (sV "order") H'))
theorem aff:aZ ["caught","some"] ["caught"] (aK EW):=bf
theorem afg(T:Txt K mg t):aN P w K mg base bH 1 t.uH t.yq ["caught"] (afe t.bV t.bZ):=by
 have S:=aff;refine T.zq.bN S (λ_ _ _ s H _ _ _ hr h=>?_);intros bv2 h ea rfl ca
 refine (ad _ (aj (putL 1 S.nd (cJ (aa (bS (i4 (K:=K)) rfl T.iT boot_isinstance (aa (pv 0) (aa (m8 (v:=.ref _) rfl T.zB rfl) ae))) (aa (bS (i4 (K:=K)) rfl T.iT boot_isinstance (aa (pv 0) (aa (m8 (v:=.ref _) rfl T.Rv rfl) ae))) (aa (bS (i4 (K:=K)) rfl T.iT boot_isinstance (aa (pv 0) (aa (m8 (v:=.ref _) rfl T.Jz rfl) ae))) ae)))))
  (aj (putL 1 S.nd (aD iu (pv 1) (cJ (aa (bS (i4 (K:=K)) rfl T.iT boot_isinstance (aa (pv 0) (aa (m8 (v:=.ref _) rfl T.Bu rfl) ae))) (aa (bS (i4 (K:=K)) rfl T.iT boot_isinstance (aa (pv 0) (aa (m8 (v:=.ref _) rfl T.Rt rfl) ae))) (aa (bS (i4 (K:=K)) rfl T.iT boot_isinstance (aa (pv 0) (aa (m8 (v:=.ref _) rfl T.Ru rfl) ae))) ae))))))
  (aj (putL 1 S.nd (aD iu (pv 1) (cJ (aa (bS (i4 (K:=K)) rfl T.iT boot_isinstance (aa (pv 0) (aa (m8 (v:=.ref _) rfl T.Jy rfl) ae))) (aa (bS (i4 (K:=K)) rfl T.iT boot_isinstance (aa (pv 0) (aa (m8 (v:=.ref _) rfl T.Rw rfl) ae))) ae)))))
  (aj (bO (PW.pt (pw_or (bG i3 (p5 oq PySem.F.slot_list_count PySem.F.type_list_count acn (pv 1) (aa gv ae)) ah) (pw_or1 (lP (iY (bS (i4 (K:=K)) rfl T.iT boot_isinstance (aa (pv 0) (aa (rC (v:=.ty "ValueError") rfl T.Rx XO rfl) ae)))))))) (ak (aJ dq)) bQ)
  (ak (aJ (ao bw (cJ (aa dq (aa dq (aa dq (aa dq (aa dq (aa dq (aa dq (aa dq ae))))))))) (p5 oq Gx PySem.F.type_list_index acp (pv 1) (aa gv ae))))))))) ?_)
 rcases ca with ⟨Km,kk⟩ | ⟨Km,kk⟩
 ·have ty:∀{H':Hp},af H H'->rY K H' (.ref ea) (.ref t.bV):=λs=>.exc (s _ _ Km) T.afc
  have y0:=ty (af.refl H);refine ax λ_ hR=>aP (ad _ rfl (xz _ _ _ _ rfl rfl y0 T.RK _ rfl (xz _ _ _ _ rfl rfl y0 T.RO _ rfl (ia _ _ _ _ rfl rfl y0 T.RM (by show 3<=sizeLine;decide) (λl1 n1=>hR _ _ ?_)))))
  have s1:af H (upd H l1 (.lst [.bl true,.bl false,.bl false])):=aG n1;have e1:upd H l1 (.lst [.bl true,.bl false,.bl false]) l1=some (.lst [.bl true,.bl false,.bl false]):=au;generalize upd H l1 (.lst [.bl true,.bl false,.bl false])=H1 at s1 e1 ⊢;have y1:=ty s1;refine ax λ_ hR=>aP (u8 _ rfl _ rfl (xz _ _ _ _ rfl rfl y1 T.RJ _ rfl (xz _ _ _ _ rfl rfl y1 T.RL _ rfl (ia _ _ _ _ rfl rfl y1 T.RN (by show 3<=sizeLine;decide) (λl2 n2=>?_)))))
  have s2:af H1 (upd H1 l2 (.lst [.bl false,.bl false,.bl false])):=aG n2;have e2:upd H1 l2 (.lst [.bl false,.bl false,.bl false]) l2=some (.lst [.bl false,.bl false,.bl false]):=au;generalize upd H1 l2 (.lst [.bl false,.bl false,.bl false])=H2 at s2 e2 ⊢;refine (ia l1 l2 _ _ rfl rfl (s2 _ _ e1) e2 (by show 6<=sizeLine;decide) (λl3 n3=>hR _ _ ?_))
  have s3:af H2 (upd H2 l3 (.lst ([.bl true,.bl false,.bl false]++[.bl false,.bl false,.bl false]))):=aG n3;have e3:upd H2 l3 (.lst ([.bl true,.bl false,.bl false]++[.bl false,.bl false,.bl false])) l3=some (.lst ([.bl true,.bl false,.bl false]++[.bl false,.bl false,.bl false])):=au;generalize upd H2 l3 (.lst ([.bl true,.bl false,.bl false]++[.bl false,.bl false,.bl false]))=H3 at s3 e3 ⊢;have fZ:=s1.trans (s2.trans s3);have y3:=ty fZ;refine ax λ_ hR=>aP (u8 _ rfl _ rfl (xz _ _ _ _ rfl rfl y3 T.RI _ rfl (ia _ _ _ _ rfl rfl y3 T.RP (by show 2<=sizeLine;decide) (λl4 n4=>?_))))
  have s4:af H3 (upd H3 l4 (.lst [.bl false,.bl false])):=aG n4;have e4:upd H3 l4 (.lst [.bl false,.bl false]) l4=some (.lst [.bl false,.bl false]):=au;generalize upd H3 l4 (.lst [.bl false,.bl false])=H4 at s4 e4 ⊢;refine (ia l3 l4 _ _ rfl rfl (s4 _ _ e3) e4 (by show 8<=sizeLine;decide) (λl5 n5=>hR _ _ ?_))
  have s5:af H4 (upd H4 l5 (.lst (([.bl true,.bl false,.bl false]++[.bl false,.bl false,.bl false])++[.bl false,.bl false]))):=aG n5;have e5:upd H4 l5 (.lst (([.bl true,.bl false,.bl false]++[.bl false,.bl false,.bl false])++[.bl false,.bl false])) l5=some (.lst (([true,false,false,false,false,false,false,false]:List Bool).map V.bl)):=au;generalize upd H4 l5 (.lst (([.bl true,.bl false,.bl false]++[.bl false,.bl false,.bl false])++[.bl false,.bl false]))=H5 at s5 e5 ⊢;have nY:=fZ.trans (s4.trans s5);have y5:=ty nY;refine ax λ_ hR=>(bv _ rfl (.inl ⟨rfl,_,.of e5⟩) (f8 l5 [true,false,false,false,false,false,false,false] rfl rfl e5 (ib rfl false (by decide +kernel) (cA (ad _ rfl (xz _ _ _ _ rfl rfl y5 T.RH true rfl (cA (hR _ _ ?_))))))))
  refine ⟨by show 8<=sizeLine;decide,λl6 n6=>?_⟩
  have s6:af H5 (upd H5 l6 (.lst [.str (Str.ofString "fit"),.str (Str.ofString "link"),.str (Str.ofString "order"),.str (Str.ofString "over"),.str (Str.ofString "shape"),.str (Str.ofString "size"),.str (Str.ofString "world"),.str (Str.ofString "tied")])):=aG n6;have e6:upd H5 l6 (.lst [.str (Str.ofString "fit"),.str (Str.ofString "link"),.str (Str.ofString "order"),.str (Str.ofString "over"),.str (Str.ofString "shape"),.str (Str.ofString "size"),.str (Str.ofString "world"),.str (Str.ofString "tied")]) l6=some (.lst [sV "fit",sV "link",sV "order",sV "over",sV "shape",sV "size",sV "world",sV "tied"]):=au;generalize upd H5 l6 (.lst [.str (Str.ofString "fit"),.str (Str.ofString "link"),.str (Str.ofString "order"),.str (Str.ofString "over"),.str (Str.ofString "shape"),.str (Str.ofString "size"),.str (Str.ofString "world"),.str (Str.ofString "tied")])=H6 at s6 e6 ⊢;refine (bv _ rfl (.inl ⟨rfl,_,.of (s6 _ _ e5)⟩) (wp l5 [true,false,false,false,false,false,false,false] (wS 0 rfl rfl (s6 _ _ e5) rfl (λm hm=>?_) ∅ (gt l6 _ _ (sV "fit") rfl rfl (.of e6) rfl (kk _ (nY.trans s6))))))
  exact absurd hm (pL _)
 ·have ty:∀{H':Hp},af H H'->rY K H' (.ref ea) (.ref t.bZ):=λs=>.exc (s _ _ Km) T.afd
  have y0:=ty (af.refl H);refine ax λ_ hR=>aP (ad _ rfl (xz _ _ _ _ rfl rfl y0 T.R0 _ rfl (xz _ _ _ _ rfl rfl y0 T.R8 _ rfl (ia _ _ _ _ rfl rfl y0 T.R6 (by show 3<=sizeLine;decide) (λl1 n1=>hR _ _ ?_)))))
  have s1:af H (upd H l1 (.lst [.bl false,.bl false,.bl true])):=aG n1;have e1:upd H l1 (.lst [.bl false,.bl false,.bl true]) l1=some (.lst [.bl false,.bl false,.bl true]):=au;generalize upd H l1 (.lst [.bl false,.bl false,.bl true])=H1 at s1 e1 ⊢;have y1:=ty s1;refine ax λ_ hR=>aP (u8 _ rfl _ rfl (xz _ _ _ _ rfl rfl y1 T.RZ _ rfl (xz _ _ _ _ rfl rfl y1 T.R5 _ rfl (ia _ _ _ _ rfl rfl y1 T.R7 (by show 3<=sizeLine;decide) (λl2 n2=>?_)))))
  have s2:af H1 (upd H1 l2 (.lst [.bl false,.bl false,.bl false])):=aG n2;have e2:upd H1 l2 (.lst [.bl false,.bl false,.bl false]) l2=some (.lst [.bl false,.bl false,.bl false]):=au;generalize upd H1 l2 (.lst [.bl false,.bl false,.bl false])=H2 at s2 e2 ⊢;refine (ia l1 l2 _ _ rfl rfl (s2 _ _ e1) e2 (by show 6<=sizeLine;decide) (λl3 n3=>hR _ _ ?_))
  have s3:af H2 (upd H2 l3 (.lst ([.bl false,.bl false,.bl true]++[.bl false,.bl false,.bl false]))):=aG n3;have e3:upd H2 l3 (.lst ([.bl false,.bl false,.bl true]++[.bl false,.bl false,.bl false])) l3=some (.lst ([.bl false,.bl false,.bl true]++[.bl false,.bl false,.bl false])):=au;generalize upd H2 l3 (.lst ([.bl false,.bl false,.bl true]++[.bl false,.bl false,.bl false]))=H3 at s3 e3 ⊢;have fZ:=s1.trans (s2.trans s3);have y3:=ty fZ;refine ax λ_ hR=>aP (u8 _ rfl _ rfl (xz _ _ _ _ rfl rfl y3 T.RY _ rfl (ia _ _ _ _ rfl rfl y3 T.R9 (by show 2<=sizeLine;decide) (λl4 n4=>?_))))
  have s4:af H3 (upd H3 l4 (.lst [.bl false,.bl false])):=aG n4;have e4:upd H3 l4 (.lst [.bl false,.bl false]) l4=some (.lst [.bl false,.bl false]):=au;generalize upd H3 l4 (.lst [.bl false,.bl false])=H4 at s4 e4 ⊢;refine (ia l3 l4 _ _ rfl rfl (s4 _ _ e3) e4 (by show 8<=sizeLine;decide) (λl5 n5=>hR _ _ ?_))
  have s5:af H4 (upd H4 l5 (.lst (([.bl false,.bl false,.bl true]++[.bl false,.bl false,.bl false])++[.bl false,.bl false]))):=aG n5;have e5:upd H4 l5 (.lst (([.bl false,.bl false,.bl true]++[.bl false,.bl false,.bl false])++[.bl false,.bl false])) l5=some (.lst (([false,false,true,false,false,false,false,false]:List Bool).map V.bl)):=au;generalize upd H4 l5 (.lst (([.bl false,.bl false,.bl true]++[.bl false,.bl false,.bl false])++[.bl false,.bl false]))=H5 at s5 e5 ⊢;have nY:=fZ.trans (s4.trans s5);have y5:=ty nY;refine ax λ_ hR=>(bv _ rfl (.inl ⟨rfl,_,.of e5⟩) (f8 l5 [false,false,true,false,false,false,false,false] rfl rfl e5 (ib rfl false (by decide +kernel) (cA (ad _ rfl (xz _ _ _ _ rfl rfl y5 T.RX true rfl (cA (hR _ _ ?_))))))))
  refine ⟨by show 8<=sizeLine;decide,λl6 n6=>?_⟩
  have s6:af H5 (upd H5 l6 (.lst [.str (Str.ofString "fit"),.str (Str.ofString "link"),.str (Str.ofString "order"),.str (Str.ofString "over"),.str (Str.ofString "shape"),.str (Str.ofString "size"),.str (Str.ofString "world"),.str (Str.ofString "tied")])):=aG n6;have e6:upd H5 l6 (.lst [.str (Str.ofString "fit"),.str (Str.ofString "link"),.str (Str.ofString "order"),.str (Str.ofString "over"),.str (Str.ofString "shape"),.str (Str.ofString "size"),.str (Str.ofString "world"),.str (Str.ofString "tied")]) l6=some (.lst [sV "fit",sV "link",sV "order",sV "over",sV "shape",sV "size",sV "world",sV "tied"]):=au;generalize upd H5 l6 (.lst [.str (Str.ofString "fit"),.str (Str.ofString "link"),.str (Str.ofString "order"),.str (Str.ofString "over"),.str (Str.ofString "shape"),.str (Str.ofString "size"),.str (Str.ofString "world"),.str (Str.ofString "tied")])=H6 at s6 e6 ⊢;refine (bv _ rfl (.inl ⟨rfl,_,.of (s6 _ _ e5)⟩) (wp l5 [false,false,true,false,false,false,false,false] (wS 2 rfl rfl (s6 _ _ e5) rfl (λm hm=>?_) ∅ (gt l6 _ _ (sV "order") rfl rfl (.of e6) rfl (kk _ (nY.trans s6))))))
  match m,hm with
  | 0,_=>rfl
  | 1,_=>rfl
theorem afh:aZ ["world","table","order","lower","upper","n","turns"] ["world","table","order","lower","upper"] (aK Ep):=bf
theorem TB(T:Txt K mg t):aN P w K mg base (df P w) 9 t.tX t.xQ ["world","table","order","lower","upper"] (ab3 t.bg t.bV t.bZ):=by
 have S:=afh;refine T.vd.CU S (λvs H Q E h=>?_) (λbh A outer s H vs Q E hr h L=>?_);·rcases h with ⟨z,a,d,lo,up,q,C,n,o,ra,rl,ru,vf,lf,uf,f,L',U,rfl,_⟩ | ⟨z,a,d,v,u,rfl,_⟩ <;> rfl
 ·have jc:=hr.units
  have hu:=hr.oK
  refine (ad _ (aj (putL 5 S.nd (ay (Sm T) hr T.I0 T.uZ.kp T.IZ (kP L) (aa (pv 1) ae)))
   (aj (m9 (ay (So T) hr T.Jg T.u_.kp T.Jf (kP L) (aa (pv 2) (aa (pv 5) ae))))
   (aj (bO (PW.pt (pw_or (lP (iY (ay (Tz T) hr T.Ja T.u3.kp T.I_ aC (aa (pv 3) (aa (pv 5) (aa (pv 5) ae)))))) (pw_or1 (lP (iY (ay (Tz T) hr T.Ja T.u3.kp T.I_ aC (aa (pv 4) (aa (pv 5) (aa (pv 5) ae))))))))) (ak (aJ gv)) bQ)
   (aj (putL 6 S.nd (ay (JN T) hr T.Fg T.qA.kp T.Ff aC (aa (pv 2) ae)))
   (aj (bO (PW.pt (pw_or (bG (Pn (n:=2) jc) (ay (SO T) hr T.Ji T.vb.kp T.Jh aC (aa (pv 0) (aa (pv 3) (aa (pv 6) ae)))) (pv 3)) (pw_or1 (bG (Pn (n:=2) jc) (ay (SQ T) hr T.Jk T.vc.kp T.Jj aC (aa (pv 0) (aa (pv 4) (aa (pv 6) ae)))) (pv 4))))) (ak (aJ gv)) bQ)
   (ak (aJ (jV (Pm (n:=2) jc) (ay (ae9 T) hr T.P_ T.yL.kp T.P9 (kP L) (aa (pv 0) (aa (pv 3) (aa (pv 4) ae)))) (pv 1))))))))) ?_)
  rcases h with h | h
  ·intros bv18 h z a d lo up q bv18 C n o ra rl ru bv28 vf lf uf f L' U rfl hw bv34 hq n1 n6 eo ho hA nA hL hU bc kk
   have zL:=gN ho;have ez:bW o=(o.map iN).map V.int:=by unfold bW;rw [gW];rfl
   refine ax λ_ hR=>aP (ww _ rfl a (sw q 2000 (fq n n f) n rfl (xb hA nA) (by rw [jE];exact n1) (by rw [jE];lia) xa (λne=>absurd jE.symm ne) (λ_ H1 s1=>hR _ _ ?_)))
   refine ax λ_ hR=>(u8 _ rfl _ rfl (pi d (o.map iN) n rfl (by rw [s1 _ _ eo,ez]) (by rw [aR];lia) ⋯ ⟨λno=>absurd (ho.map iN) no,λ_ H2 s2=>hR _ _ ?_⟩))
   have b6:=s1.trans s2;refine ax λ_ hR=>(ul _ rfl _ rfl _ rfl (ia lo n n _ rfl (b6 _ _ hL.tab.lst) (by simp) ⋯ (PH (hL.tab.mono b6)) (λH3 s3=>(ad true rfl (cA ?_)))))
   have fZ:=b6.trans s3;refine (ul _ rfl _ rfl _ rfl (ia up n n _ rfl (fZ _ _ hU.tab.lst) (by simp) ⋯ (PH (hU.tab.mono fZ)) (λH4 s4=>(ad true rfl (cA (hR _ _ ?_))))))
   have gS:=fZ.trans s4;refine ax λ_ hR=>aP (tz _ rfl d n o rfl ⟨gS _ _ eo,ho⟩ ⋯ (λtn H5 s5 SR et=>hR _ _ ?_))
   have nY:=gS.trans s5;have BN:=hL.mono nY;have hU5:=hU.mono nY;refine ax λ_ hR=>(ul _ rfl _ rfl _ rfl (Re z lo tn q (10 ^ 20) n o rl lf (λi j=>if o.idxOf j<o.idxOf i then (L' i j).1 else if i=j then 1 else 0) (Rs (λi j=>if o.idxOf j<o.idxOf i then (L' i j).2 else 1) rfl (hw.mono nY) hq ⋯ ho BN.tab et ∅ (λi j hi hj=>?_) ⟨λi j hi hj h=>?_,λi j hi hj h=>?_,λi hi=>?_,λKn TC jI H6 s6 amS amT TF TH=>?_⟩)))
   ·obtain ⟨b1,b2⟩:=(BN.num i j hi hj).top ∅
    have nz:=(xg hq (BN.num i j hi hj)).nz;dsimp only
    split
    ·exact ⟨b1,b2,nz⟩
    ·split <;> exact ⟨∅,∅,ki hq⟩
   ·dsimp only
    rw [aq h,aq h];exact xg hq (BN.num i j hi hj)
   ·dsimp only
    rw [az ⋯,az (λe=>by subst e;lia)]
   ·simp
   have FV:=BN.mono s6;have BO:=hU5.mono s6;have Ko:=nY.trans s6;refine (ww _ rfl Kn (sw lo _ _ _ rfl rfl (.of TF.lst) (.of FV.tab.lst) (by simp) (DI TF FV.tab (e:=iS q o L') (λi j hi hj=>by rw [<-PD];exact DG hq (TH i j hi hj) (FV.num i j hi hj)) (λi j hi hj e=>by rw [<-PD];exact DH hq (TH i j hi hj) (by rw [e];exact FV.num i j hi hj))) ?_))
   rw [aR,cy];have no:∀{Hx:Hp},af H Hx->lq q C n o L' U f=false->Q (.bl false) Hx:=fun{Hx} sx z=>by
    have:=kk Hx sx
    rwa [z] at this
   refine (ad _ rfl (b7 (λhz=>gj ?_) (λhz=>?_)))
   ·refine no Ko ?_
    have hz:(!sI q n o L')=true:=hz;have hz:sI q n o L'=false:=by simpa using hz
    unfold lq;rw [hz];rfl
   have hz:¬(!sI q n o L')=true:=hz;have hl:sI q n o L'=true:=by simpa using hz
   clear hz;refine (ul _ rfl _ rfl _ rfl (Re z up tn q (10 ^ 20) n o ru uf (λi j=>if o.idxOf i<=o.idxOf j then (U i j).1 else 0) (Rs (λi j=>if o.idxOf i<=o.idxOf j then (U i j).2 else 1) rfl (hw.mono Ko) hq ⋯ ho BO.tab (s6 _ _ et) ∅ (λi j hi hj=>?_) ⟨λi j hi hj h=>?_,λi j hi hj h=>?_,λko TJ jJ H7 s7 amU amV TK TL=>?_⟩)))
   ·obtain ⟨b1,b2⟩:=(BO.num i j hi hj).top ∅
    have nz:=(xg hq (BO.num i j hi hj)).nz;dsimp only
    split
    ·exact ⟨b1,b2,nz⟩
    ·exact ⟨∅,∅,ki hq⟩
   ·dsimp only
    rw [aq h,aq h];exact xg hq (BO.num i j hi hj)
   ·dsimp only
    rw [az ⋯]
   have zM:=BO.mono s7;have FW:=Ko.trans s7;refine (ww _ rfl ko (sw up _ _ _ rfl rfl (.of TK.lst) (.of zM.tab.lst) (by simp) (DI TK zM.tab (e:=i_ q o U) (λi j hi hj=>by rw [<-PF];exact DG hq (TL i j hi hj) (zM.num i j hi hj)) (λi j hi hj e=>by rw [<-PF];exact DH hq (TL i j hi hj) (by rw [e];exact zM.num i j hi hj))) ?_))
   rw [aR,cy];refine (ad _ rfl (b7 (λhz=>?_) (λhz=>hR _ _ ?_)))
   ·refine no FW ?_
    have hz:(!sJ q n o U)=true:=hz;have hz:sJ q n o U=false:=by simpa using hz
    unfold lq;rw [hz,Bool.and_false];rfl
   have hz:¬(!sJ q n o U)=true:=hz;have hv:sJ q n o U=true:=by simpa using hz
   clear hz;have TM:=hL.mono FW;have xL:=λi j hi hj=>hL.sM bc (i:=i) (j:=j) hi hj;have xU:=λi j hi hj=>hU.sM bc (i:=i) (j:=j) hi hj;refine eL (ul _ rfl _ rfl _ rfl (Re z lo up q (10 ^ 20) (10 ^ 20) (10 ^ 60) (10 ^ 60) n (fq n n L') (Rs (fq n n U) rfl (hw.mono FW) hq (xb TM.tab TM.num) (xb zM.tab zM.num) ∅ (by decide +kernel) ∅ (by decide +kernel) ⟨by decide +kernel,by decide +kernel,by decide +kernel,⋯,jE,jE,λps hp=>?_,xa,λps hp=>?_,λb H8 vs s8 nb eb lb hb=>?_⟩)))
   ·refine ⟨xa ps hp,?_⟩
    unfold fq at hp;obtain ⟨i,hi,rfl⟩:=iF.mp hp;have hi:=dA.mp hi;exact Pz bc (λk hk=>hL.dv i k hi hk) λk hk=>xL i k hi hk
   ·obtain ⟨j,hj,rfl⟩:=Cq.mp hp
    have cB:j<n:=by rw [DJ] at hj;exact hj
    have e:=PB (n:=n) (f:=U) cB;rw [getD_at hj] at e;rw [e];exact Pz bc (λk hk=>hU.dv k j hk cB) λk hk=>xU k j hk cB
   have FX:=FW.trans s8;obtain ⟨rr,pf,hP,wP⟩:=ab0 (m:=n) (R:=λi j v=>i<n->j<n->aQ (10 ^ 140) H8 q v (jG C L' U i j n) (C*C)) eb (by rw [lb,jE]) λi hi=>by
    have b9:i<vs.length:=by rw [lb,jE];exact hi
    obtain ⟨r',e1,_,us,e2,e3,e4⟩:=hb i _ _ (cw b9) (abX hi);refine (f8 r' us (by rw [cw b9,e1]) e2 (by rw [e3,aR,DJ]) (λj v hj _ cB=>?_))
    have w:=e4 j v _ hj (by rw [bU,abY cB];rfl)
    exact abZ hq bc hL.dv hU.dv xL xU n6 hi cB w
   have w3:∀i j,i<n->j<n->aQ (10 ^ 140) H8 q (pf i j) (jG C L' U i j n) (C*C):=λi j hi hj=>wP i j hi hj hi hj;have TN:=λi j hi hj=>(nA i j hi hj).mono FX;refine (ww _ rfl b (sw a _ _ _ rfl rfl (.of hP.lst) (.of (hA.mono FX).lst) (by simp) (DI hP (hA.mono FX) (λi j hi hj=>DG hq (w3 i j hi hj) (TN i j hi hj)) (λi j hi hj e=>DH hq (w3 i j hi hj) (by rw [e];exact TN i j hi hj))) ?_))
   rw [aR,cy];have:=kk H8 FX;unfold lq at this;rw [hl,hv] at this;exact this
  ·intros bv5 h z a d bv3 v u rfl bv30 z' a' d' q B m ag zs bv25 e hw hq hA l1 vE wd bad
   cases e;rcases bad with ⟨ne,kE⟩ | ⟨em,ed,l64,no,kE⟩;·refine ax λ_ hR=>aP (ww _ rfl a (sw q B ag m rfl hA l1 vE wd (λ_ H1 s1=>kE H1 s1) (λe=>absurd e ne)))
   ·refine ax λ_ hR=>aP (ww _ rfl a (sw q B ag m rfl hA l1 vE wd (λne=>absurd em ne) (λ_ H1 s1=>hR _ _ ?_)))
    refine ax λ_ hR=>(u8 _ rfl _ rfl (pi d zs m rfl (s1 _ _ ed) l64 ⋯ ⟨λ_ H2 s2=>kE H2 (s1.trans s2),λok=>absurd ok no⟩))
theorem afk:aZ ["told","table","order","lower","upper","turns","i","j"] ["told","table","order","lower","upper"] (aK EY):=bf
theorem afl(T:Txt K mg t):aN P w K mg base bH 8 t.uJ t.yt ["told","table","order","lower","upper"] ab4:=by
 have S:=afk;refine T.zt.bN S (λ_ _ _ _ H _ Q _ hr h=>?_);intros bv18 h td tab od lo up q bv18 C n o rt rl ru bv28 vf lf uf f L' U rfl tw bv34 hq n1 n6 eo ho hA nA hL hU bc kk;have hu:=hr.oK;have jc:=hr.units
 refine (ad _ (aj (sk (i0:=5) (N:=["k","order"]) (ρ:=(λσ=>[σ[2]?.join])) (du [2] rfl) rfl S.nd rfl (Or.inl rfl) (fe rfl T.dW (aa (bS eJ rfl T.dI dJ (aa (pv 2) ae)) ae)) (λ_ _ _=>.nil) (λ_ _ _=>(abw (K:=K) oq Gx PySem.F.type_list_index aau (pv 1) (aa (pv 0) ae))))
  (aj (eG de rfl (fe rfl T.dW (aa (bS eJ rfl T.dI dJ (aa (pv 2) ae)) ae)) (b_ (i:=6) S.nd rfl (Or.inl rfl))
   (ak (eG de rfl (fe rfl T.dW (aa (bS eJ rfl T.dI dJ (aa (pv 2) ae)) ae)) (b_ (i:=7) S.nd rfl (Or.inl rfl))
   (aj (bO (PW.pt (pw_and (bG dO (pv 6) (pv 7)) (pw_and1 (bG (Dc hu) (ao bw (ao bw (pv 3) (pv 6)) (pv 7)) (ay (vz T) hr T.qD T.lB.kp T.qC aC (aa (pv 0) (aa ah (aa ah ae)))))))) (ak (aJ gv)) bQ)
  (aj (bO (PW.pt (pw_and (bG rK (ao bw (pv 5) (pv 7)) (ao bw (pv 5) (pv 6))) (pw_and1 (bG (Dc hu) (ao bw (ao bw (pv 3) (pv 6)) (pv 7)) (ay (vA T) hr T.qF T.lC.kp T.qE aC (aa (pv 0) ae)))))) (ak (aJ gv)) bQ)
  (ak (bO (PW.pt (pw_and (bG oJ (ao bw (pv 5) (pv 7)) (ao bw (pv 5) (pv 6))) (pw_and1 (bG (Dc hu) (ao bw (ao bw (pv 4) (pv 6)) (pv 7)) (ay (vA T) hr T.qF T.lC.kp T.qE aC (aa (pv 0) ae)))))) (ak (aJ gv)) bQ)))))))
  (ak (aJ (jV (Pm (n:=2) jc) (ay (Ka T) hr T.Fl T.qG.kp T.Fj aC (aa (pv 0) (aa (pv 3) (aa (pv 4) ae)))) (pv 1)))))) ?_)
 have zL:=gN ho;have ll:(bW o).length=n:=by unfold bW;rw [aR,zL]
 have ez:bW o=(o.map iN).map V.int:=by unfold bW;rw [gW];rfl
 refine ax λ_ hR=>aP (kY (xs:=(List.range n).map λi:Nat=>V.int (0+(i:Int))) (λR h=>(io _ rfl od _ rfl (.inl (.of eo)) (o0 _ rfl (by rw [ll];lia) (by rw [ll];lia) (by rw [ll,dE];exact h _ _ (af.refl _) ke)))) (by simp;exact cH ⋯) (λ_ j y _=>y=.int ((o.idxOf j:Nat):Int)) (λ_ _ _ _ _ _ h _ _=>h) ?_ ?_)
 ·intro D j x hx Hc R sc _ kc
  obtain ⟨hj,rfl⟩:=fY hx;obtain ⟨g1,g2⟩:=abu ho hj;rw [jh];exact (ce _ rfl (.inl ⟨rfl,_,.of (sc _ _ eo)⟩) _ rfl (sw od (o.map iN) (o.idxOf j) _ rfl rfl (by rw [<-ez];exact sc _ _ eo) (by rw [aR];lia) g1 g2 (kc _ Hc (af.refl _) rfl)))
 ·intro tn ys H1 SR s1 iU eN Kp
  refine hR _ _ ?_;have ey:ys=(List.range n).map λj=>V.int ((o.idxOf j:Nat):Int):=by
   refine eP (by simpa using iU) λj h1 h2=>?_
   rw [d8,e_];exact eN j _ (cw h1)
  rw [ey] at Kp;refine ax λ_ hR=>(io _ rfl od _ rfl (.inl (.of (s1 _ _ eo))) (o0 _ rfl (by rw [ll];lia) (by rw [ll];lia) ?_))
  rw [ll,dE];refine lY (λi σ Hc=>∃(v6 v7:Option V),σ=[some (.ref td),some (.ref tab),some (.ref od),some (.ref lo),some (.ref up),some (.ref tn),v6,v7]/\af H1 Hc/\∀x y,x<i->y<n->iS q o L' x y=true/\i_ q o U x y=true) (bi _ _ rfl (af.refl _) (λx y h=>by lia)) ?_ ?_
  ·intro i σ Hc hi;intros bv7 _ v6 v7 rfl sc ok
   dsimp only [ck];rw [jh];refine (io _ rfl od _ rfl (.inl (.of (sc _ _ (s1 _ _ eo)))) (o0 _ rfl (by rw [ll];lia) (by rw [ll];lia) ?_))
   rw [ll,dE];refine lY (λj σ Hd=>∃(v7:Option V),σ=[some (.ref td),some (.ref tab),some (.ref od),some (.ref lo),some (.ref up),some (.ref tn),some (.int (i:Int)),v7]/\af H1 Hd/\∀y,y<j->iS q o L' i y=true/\i_ q o U i y=true) (bv _ rfl sc (λy h=>by lia)) ?_ ?_
   ·clear sc
    intro j σ Hc hj;intros bv4 _ v7 rfl sc Kq;dsimp only [ck];rw [jh];have iI:∀{a b:Nat},((a:Nat):Int)=(b:Int)->a=b:=fun{a b} h=>by lia
    have bad:∀Hd,af H1 Hd->(iS q o L' i j=false\/i_ q o U i j=false)->Q (.bl false) Hd:=λHd sd z=>by
     have:=kk Hd (s1.trans sd)
     rwa [abQ hi hj z] at this
    refine ax λR1 BP=>?_;have one:∀Hd,af H1 Hd->(i=j->ft q (L' i j) 1 1=true)->R1 [some (.ref td),some (.ref tab),some (.ref od),some (.ref lo),some (.ref up),some (.ref tn),some (.int (i:Int)),some (.int (j:Int))] Hd:=λHd sd fA=>BP _ _ (by
     refine ax λR2 pJ=>?_;have two:∀He,af H1 He->(o.idxOf i<o.idxOf j->ft q (L' i j) 0 1=true)->R2 [some (.ref td),some (.ref tab),some (.ref od),some (.ref lo),some (.ref up),some (.ref tn),some (.int (i:Int)),some (.int (j:Int))] He:=λHe se fB=>pJ _ _ (by
      have S3:=s1.trans se;have BQ:=se _ _ Kp;have last:(o.idxOf j<o.idxOf i->ft q (U i j) 0 1=true)->∀y,y<j+1->iS q o L' i y=true/\i_ q o U i y=true:=λfC y hy=>by
       by_cases e:y=j
       ·subst e
        exact abS ho hi hj fA fB fC
       ·exact Kq y ⋯
      refine (u8 _ rfl _ rfl (xz tn _ _ _ rfl rfl (.of BQ) (cg hj) _ rfl (SC _ rfl tn _ _ _ rfl rfl (.of BQ) (cg hi) (ut _ _ rfl rfl _ rfl (b7 (λhb=>?_) (λhb=>cA (bv _ rfl se (last λlt=>?_))))))))
      ·have lt:o.idxOf j<o.idxOf i:=by have:=fD hb;lia
       refine (ad _ rfl (SC _ rfl up _ _ _ rfl rfl (.of (S3 _ _ hU.tab.lst)) (cg hi) (SC _ rfl (ru i) _ _ _ rfl rfl (.of (S3 _ _ (hU.tab.at' i hi))) (cg hj) (sK _ rfl td q rfl (tw.mono S3) hq (λv0 H6 s6 h0=>?_)))));refine IP hq ((hU.num i j hi hj).mono (S3.trans s6)) (Pw hq h0) (ad _ rfl (b7 (λhz=>?_) (λhz=>?_)));·exact bad _ (se.trans s6) (.inr (abV lt (by simpa using hz)))
       ·exact ⟨_,rfl,se.trans s6,last λ_=>by simpa using hz⟩
      ·rw [Cc] at hb
       lia)
     have S3:=s1.trans sd;have BQ:=sd _ _ Kp;refine (u8 _ rfl _ rfl (xz tn _ _ _ rfl rfl (.of BQ) (cg hj) _ rfl (SC _ rfl tn _ _ _ rfl rfl (.of BQ) (cg hi) (ut _ _ rfl rfl _ rfl (b7 (λhb=>?_) (λhb=>cA (two Hd sd λlt=>?_)))))))
     ·have lt:o.idxOf i<o.idxOf j:=by have:=fD hb;lia
      refine (ad _ rfl (SC _ rfl lo _ _ _ rfl rfl (.of (S3 _ _ hL.tab.lst)) (cg hi) (SC _ rfl (rl i) _ _ _ rfl rfl (.of (S3 _ _ (hL.tab.at' i hi))) (cg hj) (sK _ rfl td q rfl (tw.mono S3) hq (λv0 H6 s6 h0=>?_)))));refine IP hq ((hL.num i j hi hj).mono (S3.trans s6)) (Pw hq h0) (ad _ rfl (b7 (λhz=>?_) (λhz=>?_)));·exact bad _ (sd.trans s6) (.inl (abT lt (by simpa using hz)))
      ·exact two H6 (sd.trans s6) λ_=>by simpa using hz
     ·rw [Cc] at hb
      lia)
    have S3:=s1.trans sc;refine (ad _ rfl (ce _ rfl rfl _ rfl (b7 (λhb=>?_) (λhb=>cA (one Hc sc λe=>?_)))))
    ·have e:i=j:=by rw [i5] at hb;have:=fD hb;lia
     subst e;refine (ad _ rfl (SC _ rfl lo _ _ _ rfl rfl (.of (S3 _ _ hL.tab.lst)) (cg hi) (SC _ rfl (rl i) _ _ _ rfl rfl (.of (S3 _ _ (hL.tab.at' i hi))) (cg hi) (ww _ rfl td (sw q 1 1 1000 rfl (tw.mono S3) hq (ki hq) ∅ ∅ ⟨by decide +kernel,λv1 H6 s6 w6=>?_⟩)))))
     refine IP hq ((hL.num i i hi hi).mono (S3.trans s6)) w6 (ad _ rfl (b7 (λhz=>?_) (λhz=>?_)));·exact bad _ (sc.trans s6) (.inl (abU (by simpa using hz)))
     ·exact one H6 (sc.trans s6) λ_=>by simpa using hz
    ·subst e
     simp at hb
   ·intro σ Hd;intros bv4 _ v7 rfl sd Kq
    exact (bi _ _ rfl sd (λx y hx hy=>by
     by_cases e:x=i;·subst e;exact Kq y hy
     ·exact ok x y ⋯ hy))
  ·intro σ Hc;intros bv7 _ v6 v7 rfl sc ok
   refine hR _ _ ?_;have S2:=s1.trans sc;have xL:=λi j hi hj=>hL.sM bc (i:=i) (j:=j) hi hj;have xU:=λi j hi hj=>hU.sM bc (i:=i) (j:=j) hi hj;refine eL (ul _ rfl _ rfl _ rfl (SB td lo up q (10 ^ 140) (10 ^ 140) (Re n rl ru lf uf _ _ _ _ _ (Rs _ rfl (tw.mono S2) hq (hL.tab.mono S2) (hU.tab.mono S2) ⋯ (λi j hi hj=>(hL.mB hq bc hi hj).mono S2) (λi j hi hj=>(hU.mB hq bc hi hj).mono S2) (λi hi=>IS hq bc xL xU n6 hi) (λD rr pf H3 s3 nD _ hP wP=>?_)))))
   have S3:=S2.trans s3;have nab:D≠tab:=λz=>by have:=none_of S2 nD;rw [z,hA.lst] at this;cases this
   have ask:=kk H3 S3;rw [abR ok] at ask;have TQ:=λi j hi hj=>(nA i j hi hj).mono S3;have w3:∀i j,i<n->j<n->aQ (10 ^ 140) H3 q (pf i j) (jG C L' U i j n) (C*C):=λi j hi hj=>Px hq (wP i j hi hj) (hE hq (qr hq bc) (qr hq bc)) (aM (DM xL xU n6 hi hj (aV _)) (by decide +kernel)) (aM (DN bc) (by decide +kernel))
   refine (ww _ rfl D (sw tab _ _ _ rfl rfl (.of hP.lst) (.of (hA.mono S3).lst) (by simp) (DI hP (hA.mono S3) (λi j hi hj=>DG hq (w3 i j hi hj) (TQ i j hi hj)) (λi j hi hj e=>DH hq (w3 i j hi hj) (by rw [e];exact TQ i j hi hj))) ?_))
   rw [aR,cy];exact ask
theorem afm:aZ ["told","tape","order","size","lower","upper","k","other"] ["told","tape","order"] (aK EZ):=bf
theorem afn(T:Txt K mg t):aN P w K mg base bH 6 t.uK t.yu ["told","tape","order"] ab5:=by
 have S:=afm;refine T.zu.bN S (λ_ _ _ _ H _ _ _ hr h=>?_);intros bv28 h td Tp od q n o rfl tw bv19 hq tc gP eo ho n9 kk;have hu:=hr.oK
 refine (ad _ (aj (oX 3 S.nd (bS eJ rfl T.dI dJ (aa (pv 2) ae)))
  (aj (NT (i0:=4) (N:=["i","size","told"]) (ρ:=(λσ=>[σ[3]?.join,σ[0]?.join])) ⟨rfl,rfl,(λ_=>rfl),(λ_=>rfl),by decide +kernel,(vQ.mpr ⟨rfl,(vQ.mpr ⟨rfl,(Cd _)⟩)⟩),NQ (by rfl),rfl,by decide +kernel,rfl,(λσ j v h=>match j,h with | 0,h=>(sB 3 _ rfl rfl (join_some h) (Or.inr (Or.inl rfl)) ⟨.inl rfl,.inl rfl⟩) | 1,h=>(sB 0 _ rfl rfl (join_some h) (Or.inr (Or.inl rfl)) ⟨.inl rfl,.inl rfl⟩) | j+2,h=>by cases h),(λ_ _=>rfl)⟩ rfl S.nd rfl (Or.inl rfl) (fe rfl T.dW (aa (pv 3) ae)) (λ_ _ _=>.nil) (λ_ _ _=>(fH (N:=["j","told","i"]) (ρ:=(λσ=>[σ[2]?.join,σ[0]?.join])) (du [2,0] rfl) rfl (fe rfl T.dW (aa (pv 1) ae)) (λ_ _ _=>.nil) (λ_ _ _=>(ay (vz T) hr T.qD T.lB.kp T.qC aC (aa (pv 1) (aa (jY G0 rfl T.Bv boot_int (aa (jV dO (pv 2) (pv 0)) ae)) (aa ah ae))))))))
  (aj (sk (i0:=5) (N:=["i","size","told"]) (ρ:=(λσ=>[σ[3]?.join,σ[0]?.join])) (du [3,0] rfl) rfl S.nd rfl (Or.inl rfl) (fe rfl T.dW (aa (pv 3) ae)) (λ_ _ _=>.nil) (λ_ _ _=>(fH (N:=["j","told"]) (ρ:=(λσ=>[σ[2]?.join])) (du [2] rfl) rfl (fe rfl T.dW (aa (pv 1) ae)) (λ_ _ _=>.nil) (λ_ _ _=>(ay (vA T) hr T.qF T.lC.kp T.qE aC (aa (pv 1) ae))))))
  (aj (eG de rfl (fe rfl T.dW (aa (pv 3) ae)) (b_ (i:=6) S.nd rfl (Or.inl rfl))
   (aj (eG de rfl (dN (jt ju (pv 2) jq (jr (pv 6)))) (b_ (i:=7) S.nd rfl (Or.inl rfl))
   (aj (@il _ _ _ _ _ _ (ay (qL T) hr T.pF T.kq.kp T.pE aC (aa (pv 0) (aa (pv 1) ae))) (jk (ao bw (pv 4) (ao bw (pv 2) (pv 6))) (pv 7) set_list) (by rfl) (by rfl) (by rfl))
  (ak (@il _ _ _ _ _ _ (ay (qL T) hr T.pF T.kq.kp T.pE aC (aa (pv 0) (aa (pv 1) ae))) (jk (ao bw (pv 5) (pv 7)) (ao bw (pv 2) (pv 6)) set_list) (by rfl) (by rfl) (by rfl)))))
  (ak (@il _ _ _ _ _ _ (ay (qL T) hr T.pF T.kq.kp T.pE aC (aa (pv 0) (aa (pv 1) ae))) (jk (ao bw (pv 5) (ao bw (pv 2) (pv 6))) (ao bw (pv 2) (pv 6)) set_list) (by rfl) (by rfl) (by rfl)))))
  (ak (aJ (fT (aa (pv 4) (aa (pv 5) ae))))))))) ?_)
 have zL:=gN ho;have ll:(bW o).length=n:=by unfold bW;rw [aR,zL]
 have di:((List.range n).map λi:Nat=>V.int (0+(i:Int))).length=n:=by rw [aR,cy]
 refine ax λ_ hR=>aP (io _ rfl od _ rfl (.inl (.of eo)) (hR _ _ ?_));rw [ll];have mono:∀(H0:Hp) (D:Addr) (i:Nat) (y:Addr) (Ha Hb:Hp) (ys:List V),((∃zs,Ha y=some (.lst zs)/\zs.length=n/\∀(j:Nat) (v:V),zs[j]?=some v->∃x d,aw 1000 Ha q v x d/\cX q x d)/\H0 y=none)->y≠D->Ha D=some (.lst ys)->(∀b o,b≠D->Ha b=some o->Hb b=some o)->(∃zs,Hb y=some (.lst zs)/\zs.length=n/\∀(j:Nat) (v:V),zs[j]?=some v->∃x d,aw 1000 Hb q v x d/\cX q x d)/\H0 y=none:=λH0 D i y Ha Hb ys ⟨⟨zs,h1,h3,h4⟩,h2⟩ hy e f=>⟨⟨zs,f y _ hy h1,h3,λj v hv=>let ⟨x,d,a,b⟩:=h4 j v hv;⟨x,d,a.bE e f,b⟩⟩,h2⟩
 refine ax λ_ hR=>aP (jB (xs:=(List.range n).map λi:Nat=>V.int (0+(i:Int))) (n:=n) di (λR h=>⟨_,rfl,(n:Int),rfl,⋯,⋯,by rw [dE];exact h _ _ (af.refl _) ke⟩) (cH ⋯) (λ_ i y Hx=>(∃ys,Hx y=some (.lst ys)/\ys.length=n/\∀(j:Nat) (v:V),ys[j]?=some v->∃x d,aw 1000 Hx q v x d/\cX q x d)/\H y=none) (mono H) ?_ ?_)
 ·intro D i x hx Hc R sc _ kc
  obtain ⟨hi,rfl⟩:=fY hx;refine kY (xs:=(List.range n).map λi:Nat=>V.int (0+(i:Int))) (λR h=>⟨_,rfl,(n:Int),rfl,⋯,⋯,by rw [dE];exact h _ _ (af.refl _) ke⟩) (by rw [di];exact cH ⋯) (λ_ j y Hx=>∃x d,aw 1000 Hx q y x d/\cX q x d) (λD' i' y' Ha Hb Ta ⟨x,d,a,b⟩ e f=>⟨x,d,a.bE e f,b⟩) ?_ ?_
  ·intro D1 j x' Av Hd R' sd _ kd
   obtain ⟨hj,rfl⟩:=fY Av;have a3:∀b:Bool,(if b=true then (1:Int) else 0).natAbs<=3:=by decide
   have a4:∀b:Bool,(if b=true then (1:Int) else 0).natAbs<=1000:=by decide
   exact (ad _ rfl (be _ rfl _ rfl rfl (.inr (ww _ rfl td (sw q _ 1 1000 rfl (tw.mono (sc.trans sd)) hq (ki hq) (a4 _) ∅ ⟨by decide +kernel,λv H2 s2 w2=>kd v H2 s2 (acv hq w2 (a3 _))⟩)))))
  ·intro D1 ys Hd lF sd iU eN eD
   rw [di] at iU;exact kc D1 Hd sd lF ⟨_,eD⟩ ⟨(bv ys eD iU eN),none_of sc lF⟩
 ·intro lo rl H1 J2 s1 TR FY BR
  refine hR _ _ ?_;refine ax λ_ hR=>aP (jB (xs:=(List.range n).map λi:Nat=>V.int (0+(i:Int))) (n:=n) di (λR h=>⟨_,rfl,(n:Int),rfl,⋯,⋯,by rw [dE];exact h _ _ (af.refl _) ke⟩) (cH ⋯) (λ_ i y Hx=>(∃ys,Hx y=some (.lst ys)/\ys.length=n/\∀(j:Nat) (v:V),ys[j]?=some v->∃x d,aw 1000 Hx q v x d/\cX q x d)/\H1 y=none) (mono H1) ?_ ?_)
  ·intro D i x hx Hc R sc _ kc
   refine kY (xs:=(List.range n).map λi:Nat=>V.int (0+(i:Int))) (λR h=>⟨_,rfl,(n:Int),rfl,⋯,⋯,by rw [dE];exact h _ _ (af.refl _) ke⟩) (by rw [di];exact cH ⋯) (λ_ j y Hx=>∃x d,aw 1000 Hx q y x d/\cX q x d) (λD' i' y' Ha Hb Ta ⟨x,d,a,b⟩ e f=>⟨x,d,a.bE e f,b⟩) ?_ ?_
   ·intro D1 j x' Av Hd R' sd _ kd
    exact (sK _ rfl td q rfl (tw.mono (s1.trans (sc.trans sd))) hq (λv0 H2 s2 h0=>kd v0 H2 s2 ⟨0,1,h0,λ_=>⟨∅,∅⟩⟩))
   ·intro D1 ys Hd lF sd iU eN eD
    rw [di] at iU;exact kc D1 Hd sd lF ⟨_,eD⟩ ⟨(bv ys eD iU eN),none_of sc lF⟩
  ·intro up ru H2 zF s2 TU FZ TV
   refine hR _ _ ?_;obtain ⟨lf,l1,l2⟩:=PR (R:=λv=>∃x d,aw 1000 H1 q v x d/\cX q x d) λi hi=>(FY i hi).1.1;obtain ⟨uf,u1,u2⟩:=PR (R:=λv=>∃x d,aw 1000 H2 q v x d/\cX q x d) λi hi=>(FZ i hi).1.1;have nl:∀i,i<n->H (rl i)=none:=λi hi=>(FY i hi).1.2;have Kr:∀i,i<n->H1 (ru i)=none:=λi hi=>(FZ i hi).1.2;have nu:∀i,i<n->H (ru i)=none:=λi hi=>none_of s1 (Kr i hi);have TW:eY H2 q 1000 (cX q) Tp lo up n rl ru lf uf:=⟨tc.mono (s1.trans s2),⟨(λz=>by rw [z,zF] at BR;cases BR),tc.ne J2,(tc.mono s1).ne zF,λi hi=>tc.ne (nl i hi),λi hi=>tc.ne (nu i hi),(λi hi z=>by rw [<-z,l1 i hi] at zF;cases zF),(λi hi z=>by have:=Kr i hi;rw [z,BR] at this;cases this),(λi j hi hj z=>by have:=Kr j hj;rw [<-z,l1 i hi] at this;cases this)⟩,⟨s2 _ _ BR,TR,λi hi=>(FY i hi).2,λi hi=>s2 _ _ (l1 i hi)⟩,⟨TV,TU,λi hi=>(FZ i hi).2,u1⟩,λi j hi hj=>let ⟨x,d,a,b⟩:=l2 i j hi hj;⟨x,d,a.mono s2,b⟩,u2⟩
   have o2:aI Tp H H2:=aI.of (s1.trans s2);clear FY FZ TR TU l1 l2 u1 u2 BR TV;refine ax λ_ hR=>(ad _ rfl (o0 (n:Int) rfl ⋯ ⋯ ?_))
   rw [dE];have putL:∀{Hx:Hp} {lf uf:Nat->Nat->V} {i j:Nat} {v:V} {x d:Int},aI Tp H Hx->eY Hx q 1000 (cX q) Tp lo up n rl ru lf uf->i<n->aw 1000 Hx q v x d->cX q x d->aI Tp H (upd Hx (rl i) (.lst (((List.range n).map (lf i)).set j v)))/\eY (upd Hx (rl i) (.lst (((List.range n).map (lf i)).set j v))) q 1000 (cX q) Tp lo up n rl ru (iB lf i j v) uf:=fun{Hx lf uf i j v x d} ox tx hi nv sv=>⟨λb u ne e=>by rw [aH (λz=>by rw [z,nl i hi] at e;cases e)];exact ox b u ne e,tx.putL hi nv sv⟩
   have TY:∀{Hx:Hp} {lf uf:Nat->Nat->V} {i j:Nat} {v:V} {x d:Int},aI Tp H Hx->eY Hx q 1000 (cX q) Tp lo up n rl ru lf uf->i<n->aw 1000 Hx q v x d->cX q x d->aI Tp H (upd Hx (ru i) (.lst (((List.range n).map (uf i)).set j v)))/\eY (upd Hx (ru i) (.lst (((List.range n).map (uf i)).set j v))) q 1000 (cX q) Tp lo up n rl ru lf (iB uf i j v):=fun{Hx lf uf i j v x d} ox tx hi nv sv=>⟨λb u ne e=>by rw [aH (λz=>by rw [z,nu i hi] at e;cases e)];exact ox b u ne e,(tx.flip.putL hi nv sv).flip⟩
   refine lY (λk σ Hc=>∃(lf uf:Nat->Nat->V) (v6 v7:Option V),σ=[some (.ref td),some (.ref Tp),some (.ref od),some (.int (n:Int)),some (.ref lo),some (.ref up),v6,v7]/\aI Tp H Hc/\eY Hc q 1000 (cX q) Tp lo up n rl ru lf uf) (wp lf uf (bi _ _ rfl o2 TW)) ?_ ?_
   ·clear TW o2
    intro k σ Hc hk;intros bv16 _ lf uf v6 v7 rfl oc tt;dsimp only [ck];rw [jh];have kl:k<o.length:=by lia
    have pk:o[k]<n:=(fk ho).mp (f9 kl);have F0:∀{m:Nat} (hm:m<o.length),ir (bW o) (m:Int)=some (.int (o[m]:Int)):=fun{m} hm=>kM (by unfold bW;rw [bU,cw hm];rfl)
    refine ax λ_ hR=>(u8 _ rfl _ rfl (io (k:Int) rfl od _ rfl (.of (oc _ _ gP eo)) (λp np=>(bv p rfl ⟨_,.of au⟩ ?_))));rw [ND];have sp:=aG (o:=.lst ((bW o).take k)) np;have ep:upd Hc p (.lst ((bW o).take k)) p=some (.lst ((bW o).take k)):=au;have pT:p≠Tp:=tt.tc.ne np;have pl:∀i,i<n->p≠rl i:=λi hi z=>by rw [z,tt.wl.at' i hi] at np;cases np
    have pu:∀i,i<n->p≠ru i:=λi hi z=>by rw [z,tt.wu.at' i hi] at np;cases np
    have kX:=oc.trans (aI.of sp);have fI:=tt.mono sp;clear oc tt;generalize upd Hc p (.lst ((bW o).take k))=Hp' at sp ep kX fI ⊢;refine lX (K:=K) (a:=p) (xs:=(bW o).take k) (λm σ Hd=>∃(lf uf:Nat->Nat->V) (v7:Option V),σ=[some (.ref td),some (.ref Tp),some (.ref od),some (.int (n:Int)),some (.ref lo),some (.ref up),some (.int (k:Int)),v7]/\aI Tp H Hd/\Hd p=some (.lst ((bW o).take k))/\eY Hd q 1000 (cX q) Tp lo up n rl ru lf uf) (re lf uf _ rfl kX ep fI) (λm σ Hd _ ⟨_,_,_,_,_,e,_⟩=>.of e) ?_ ?_
    ·clear kX fI ep sp
     intro m x σ Hd hx;intros bv17 _ lf uf v7 rfl eK ep tt;obtain ⟨c,hc,rfl⟩:∃c,c<n/\x=.int ((c:Nat):Int):=by have:=List.mem_of_mem_take (kA hx);unfold bW at this;obtain ⟨c,hc,e⟩:=iF.mp this;exact ⟨c,(fk ho).mp hc,e.symm⟩
     dsimp only [ck];refine ax λ_ hR=>aP (u8 _ rfl _ rfl (pi td Tp q rfl (tw.off eK tc) hq tt.tc (λv x d H2 o2 t2 nu sm=>?_)));have T2:=tt.off o2 t2;have Ks:=eK.trans o2;obtain ⟨o3,T3⟩:=putL (j:=c) Ks T2 pk nu sm;have e3:(upd H2 (rl o[k]) (.lst (((List.range n).map (lf o[k])).set c v))) p=some (.lst ((bW o).take k)):=by rw [aH (pl _ pk)];exact o2 _ _ pT ep
     refine (u8 _ rfl _ rfl (SC _ rfl od _ _ _ rfl rfl (.of (Ks _ _ gP eo)) (F0 kl) (gt lo _ _ _ rfl rfl (.of T2.wl.lst) (cg pk) (SC _ rfl (rl o[k]) _ _ c rfl rfl (T2.wl.at' _ pk) (by rw [aR,cy];exact jC hc) (hR _ _ ?_)))))
     generalize upd H2 (rl o[k]) (.lst (((List.range n).map (lf o[k])).set c v))=H3 at o3 T3 e3 ⊢;generalize iB lf o[k] c v=TZ at T3;clear T2 Ks o2 t2 nu sm ep;refine aP (u8 _ rfl _ rfl (pi td Tp q rfl (tw.off o3 tc) hq T3.tc (λv x d H4 o4 t4 nu sm=>?_)));have T4:=T3.off o4 t4;have zN:=o3.trans o4;obtain ⟨o5,T5⟩:=TY (j:=o[k]) zN T4 hc nu sm;exact (u8 _ rfl _ rfl (xz up _ _ _ rfl rfl (.of T4.wu.lst) (cg hc) _ rfl (SC _ rfl od _ _ _ rfl rfl (.of (zN _ _ gP eo)) (F0 kl) (gt (ru c) _ _ (o[k]) rfl rfl (T4.wu.at' _ hc) (by rw [aR,cy];exact jC pk) (re _ _ _ rfl o5 (by rw [aH (pu _ hc)];exact o4 _ _ pT e3) T5)))))
    ·intro σ Hd;intros bv17 _ lf uf v7 rfl eK _ tt
     refine hR _ _ (aP (u8 _ rfl _ rfl (pi td Tp q rfl (tw.off eK tc) hq tt.tc (λv x d H4 o4 t4 nu sm=>?_))));have T4:=tt.off o4 t4;have zN:=eK.trans o4;obtain ⟨o5,T5⟩:=TY (j:=o[k]) zN T4 pk nu sm;exact (u8 _ rfl _ rfl (SC _ rfl od _ _ _ rfl rfl (.of (zN _ _ gP eo)) (F0 kl) (xz up _ _ _ rfl rfl (.of T4.wu.lst) (cg pk) _ rfl (SC _ rfl od _ _ _ rfl rfl (.of (zN _ _ gP eo)) (F0 kl) (gt (ru o[k]) _ _ (o[k]) rfl rfl (T4.wu.at' _ pk) (by rw [aR,cy];exact jC pk) (wp _ _ (bi _ _ rfl o5 T5)))))))
   ·intro σ Hc;intros bv16 _ lf uf v6 v7 rfl oc tt
    refine hR _ _ (eL ?_);exact (be _ rfl _ rfl (by show 2<=sizeLine;decide) (λfd nU=>kk fd lo up rl ru lf uf _ (oc.trans (aI.of (aG nU))) au (tt.mono (aG nU))))
theorem afo:aZ ["tape","order","size","some","at","twice"] ["tape","order"] (aK E4):=bf
theorem afp(T:Txt K mg t):aN P w K mg base bH 2 t.uO t.yy ["tape","order"] abA:=by
 have S:=afo;refine T.zx.bN S (λ_ _ _ s H vs Q _ hr h=>?_);intros bv33 h Tp od n o rfl tc gP mO ho n1 bvA n9 kk
 refine (ad _ (aj (putL 2 S.nd (bS eJ rfl T.dI dJ (aa (pv 1) ae)))
  (aj (putL 3 S.nd (cJ (aa (jt ju (pv 1) (jr ah) jq) (aa (aD iu (pv 1) (jt ju (pv 1) jq (jr ah))) (aa (aD iu (jt ju (pv 1) jq (jr (oH oI ah))) (cJ (aa (pv 2) ae))) (aa (aD iu (jt ju (pv 1) jq (jr (oH oI ah))) (cJ (aa (oH oI ah) ae))) (aa (cJ ae) (aa (aD iu (pv 1) (cJ (aa (pv 2) ae))) ae))))))))
  (aj (putL 3 S.nd (aD iu (pv 3) (cJ (aa (aD iu (aD iu (jt ju (pv 1) jq (jr (oH oI ah))) (jt ju (pv 1) jq (jr ah))) (cJ (aa (aD gg (pv 2) ah) ae))) (aa (aD iu (cJ (aa (aD VJ ah ah) ae)) (jt ju (pv 1) (jr ah) jq)) ae)))))
  (aj (putL 4 S.nd (ay (gs T) hr T.fL T.ee.kp T.fK aC (aa (pv 0) (aa (pv 2) ae))))
  (aj (bO (bG rK (pv 2) ah) (aj (putL 5 S.nd (aD iu (aD iu (jt ju (pv 1) jq (jr (pv 4))) (cJ (aa (ao bw (pv 1) (aD pX (pv 4) ah)) ae))) (jt ju (pv 1) (jr (aD gg (pv 4) ah)) jq)))
  (ak (putL 3 S.nd (aD iu (pv 3) (cJ (aa (pv 5) (aa (pv 5) (aa (aD iu (aD iu (jt ju (pv 1) jq (jr (pv 4))) (cJ (aa (pv 2) ae))) (jt ju (pv 1) (jr (aD gg (pv 4) ah)) jq)) ae)))))))) bQ)
  (ak (aJ (ao bw (pv 3) (ay (gs T) hr T.fL T.ee.kp T.fK aC (aa (pv 0) (aa (bS eJ rfl T.dI dJ (aa (pv 3) ae)) ae))))))))))) ?_)
 have lo:=gN ho;have ez:bW o=(o.map iN).map V.int:=by unfold bW;rw [gW];rfl
 obtain ⟨zo,Kt⟩:∃zo,zo=o.map iN:=⟨_,rfl⟩;have lz:zo.length=n:=by rw [Kt,aR,lo]
 have bz:∀z∈zo,0<=z/\z<(n:Int):=λz hz=>by rw [Kt] at hz;obtain ⟨k,hk,e⟩:=iF.mp hz;have:=(fk ho).mp hk;rw [<-e];show 0<=(k:Int)/\(k:Int)<n;lia
 rw [ez,<-Kt] at mO;have mF:DD λHx:Hp=>Hx od=some (.lst (zo.map V.int))/\aY Hx Tp:=λs e=>⟨s _ _ e.1,e.2.mono s⟩;have hF:∀Hx:Hp,(λHx:Hp=>Hx od=some (.lst (zo.map V.int))/\aY Hx Tp) Hx->Hx od=some (.lst (zo.map V.int)):=λ_ e=>e.1;have tF:∀Hx:Hp,(λHx:Hp=>Hx od=some (.lst (zo.map V.int))/\aY Hx Tp) Hx->aY Hx Tp:=λ_ e=>e.2;refine ax λ_ hR=>aP (io _ rfl od _ rfl (.inl (.of mO)) (hR _ _ ?_));rw [aR,lz];have dl:(zo.map V.int).dropLast=zo.dropLast.map V.int:=List.map_dropLast.symm;have T6:∀{σ:St} {i:Nat} {te:TO},σ[i]?=some (some (.ref od))->(∀(R:Option Int->Hp->Prop) (H:Hp),R (some 1) H->te σ H R)->LE Tp (λHx:Hp=>Hx od=some (.lst (zo.map V.int))/\aY Hx Tp) σ (rQ (p4 K) (lO i) te wm) (zo.drop 1):=λhσ ht=>Bd tF hσ hF ht (λR H r=>r) (OI zo 1 ⋯)
 have slt:∀{σ:St} {i:Nat} {te:TO},σ[i]?=some (some (.ref od))->(∀(R:Option Int->Hp->Prop) (H:Hp),R (some 1) H->te σ H R)->LE Tp (λHx:Hp=>Hx od=some (.lst (zo.map V.int))/\aY Hx Tp) σ (rQ (p4 K) (lO i) wm te) (zo.take 1):=λhσ ht=>Bd tF hσ hF (λR H r=>r) ht (OH zo 1);have Ku:∀{σ:St} {i:Nat} {te:TO},σ[i]?=some (some (.ref od))->(∀(R:Option Int->Hp->Prop) (H:Hp),R (some (-1)) H->te σ H R)->LE Tp (λHx:Hp=>Hx od=some (.lst (zo.map V.int))/\aY Hx Tp) σ (rQ (p4 K) (lO i) wm te) zo.dropLast:=λhσ ht=>Bd tF hσ hF (λR H r=>r) ht (by rw [Zd,dl])
 have vr:∀{σ:St} {i:Nat},σ[i]?=some (some (.ref od))->LE Tp (λHx:Hp=>Hx od=some (.lst (zo.map V.int))/\aY Hx Tp) σ (lO i) zo:=λhσ=>IJ hσ hF gP;have bn:¬(0<=(n:Int)/\(n:Int)<(n:Int)):=by lia
 have Ym:(zo.take 1).length=1:=by rw [oh];lia
 have T8:(zo.drop 1).length=n-1:=by rw [vN];lia
 have F5:zo.dropLast.length=n-1:=by rw [List.length_dropLast];lia
 refine ax λ_ hR=>aP (ll (T:=Tp) (F:=λHx:Hp=>Hx od=some (.lst (zo.map V.int))/\aY Hx Tp) (n:=n) (m:=6) ?_ ∅ ⟨mO,tc⟩ λl1 vs1 H1 nl1 s1 e1 afr b1=>hR _ _ ?_)
 ·refine mH mF ?_ (mH mF ?_ (mH mF ?_ (mH mF ?_ (mH mF ?_ (mH mF ?_ IK)))))
  ·exact mG (T6 rfl λR H r=>(ad 1 rfl r)) ⋯ (IL ⋯)
  ·exact mG (mE tF mF (vr rfl) (slt rfl λR H r=>(ad 1 rfl r)) ⋯) (by rw [dD];lia) (IL (by rw [dD];lia))
  ·exact mG (mE tF mF (Ku rfl λR H r=>(u8 1 rfl (-1) rfl r)) (sF tF (z:=(n:Int)) λR H f r=>(ad _ rfl r)) (by rw [F5];simp;lia)) (by rw [dD,F5];simp;lia) (xf (z:=(n:Int)) (by simp) bn)
  ·exact mG (mE tF mF (Ku rfl λR H r=>(u8 1 rfl (-1) rfl r)) (sF tF (z:=-1) λR H f r=>(ad 1 rfl r)) (by rw [F5];simp;lia)) (by rw [dD,F5];simp;lia) (xf (z:=-1) (by simp) ⋯)
  ·exact mG (le_nil tF) ∅ (IL (by simp;lia))
  ·exact mG (mE tF mF (vr rfl) (sF tF (z:=(n:Int)) λR H f r=>(ad _ rfl r)) (by simp;lia)) (by rw [dD];simp;lia) (xf (z:=(n:Int)) (by simp) bn)
 refine ax λ_ hR=>aP (Pk (T:=Tp) (F:=λHx:Hp=>Hx od=some (.lst (zo.map V.int))/\aY Hx Tp) (n:=n) (m:=2) (m0:=6) (l0:=l1) (xc:=vs1) ?_ ∅ ⟨s1 _ _ mO,tc.mono s1⟩ e1 afr ∅ b1 rfl λl2 Kv H2 Kw s2 e2 amZ b2=>hR _ _ ?_)
 ·refine mH mF ?_ (mH mF ?_ IK)
  ·exact mG (mE tF mF (mE tF mF (Ku rfl λR H r=>(u8 1 rfl (-1) rfl r)) (slt rfl λR H r=>(ad 1 rfl r)) ⋯) (sF tF (z:=(n:Int)+3) λR H f r=>(io _ rfl _ _ rfl rfl r)) (by rw [dD];simp;lia)) (by rw [dD,dD];simp;lia) (xf (z:=(n:Int)+3) (by simp) ⋯)
  ·exact mG (mE tF mF (sF tF (z:=10 ^ Int.toNat 20) λR H f r=>(f8 _ _ rfl rfl ⟨∅,∅,∅⟩ r)) (T6 rfl λR H r=>(ad 1 rfl r)) (by rw [T8];simp;lia)) (by rw [dD,T8];simp;lia) (xf (z:=10 ^ Int.toNat 20) (B5 _ (jM.mpr rfl)) (λh=>by
    have h2:=h.2;have e:(10:Int) ^ Int.toNat 20=100000000000000000000:=by decide
    rw [e] at h2;lia))
 have b6:=s1.trans s2;refine ax λ_ hR=>aP (u8 _ rfl _ rfl (sB Tp n rfl (tc.mono b6) n1 ⋯ (λat' H3 hat o3 ku=>hR _ _ ?_)))
 have Kx:aI Tp H H3:=(aI.of b6).trans o3;have T9:l2≠Tp:=(tc.mono s1).ne Kw;have b3:∀v∈Kv,jF Tp n H3 v:=λv hv=>(b2 v hv).off o3;have e3:=o3 _ _ T9 e2;have T_:=Kx _ _ gP mO;refine ax λR hR=>?_;have fin:∀(l:Addr) (vs:List V) (Hx:Hp) (v5:Option V),aI Tp H Hx->aY Hx Tp->l≠Tp->Hx l=some (.lst vs)->1<=vs.length->vs.length<=20->(∀v∈vs,jF Tp n Hx v)->R [some (.ref Tp),some (.ref od),some (.int (n:Int)),some (.ref l),some (.int (at':Int)),v5] Hx:=λl vs Hx v5 ox tx lT el h1 h20 bad=>hR _ _ (by
  refine eL (u8 _ rfl _ rfl (io _ rfl l vs rfl (.inl (.of el)) (sB Tp vs.length rfl tx h1 ⋯ (λd Hy hd oy ty=>?_))))
  have ey:=oy _ _ lT el;have hb:=(bad vs[d] (f9 hd)).off oy;exact (gt l vs _ (vs[d]) rfl rfl (.of ey) (kM (cw hd)) (kk _ Hy (ox.trans oy) ty hb)))
 simp only [vY,vZ,L2.start];refine (db _ rfl _ _ rfl rfl _ rfl (b7 (λhb=>?_) (λhb=>fin l2 Kv H3 _ Kx ku T9 e3 ⋯ ⋯ b3)))
 have n2:1<n:=by have:=fD hb;lia
 obtain ⟨z,Kk,nV⟩:∃z:Int,ir (zo.map V.int) ((at':Int)-1)=some (.int z)/\¬(zo.take at'++[z]++zo.drop (at'+1)).Nodup:=by
  by_cases z0:at'=0
  ·subst z0
   have hl:n-1<zo.length:=by lia
   refine ⟨zo[n-1],?_,λnd=>?_⟩
   ·unfold ir m_
    rw [aR,lz,az ⋯,aq ⋯,show (((0:Nat):Int)-1+(n:Int)).toNat=n-1 by lia]
    show (zo.map V.int)[n-1]?=_;rw [bU,cw hl];rfl
   ·rw [List.take_zero,List.nil_append,List.singleton_append,zY] at nd
    refine nd.1 (kA (i:=n-2) ?_);rw [List.getElem?_drop,bK];exact ⟨⋯,by congr 1;lia⟩
  ·have hl:at'-1<zo.length:=by lia
   refine ⟨zo[at'-1],?_,λnd=>?_⟩
   ·rw [show (at':Int)-1=((at'-1:Nat):Int) by lia]
    exact kM (by rw [bU,cw hl];rfl)
   ·rw [Cs] at nd
    have nd:=nd.1;rw [Cs] at nd;refine nd.2.2 zo[at'-1] (kA (i:=at'-1) ?_) zo[at'-1] (jM.mpr rfl) rfl;rw [List.getElem?_take,aq ⋯,cw hl]
 have ie:∀{σ:St} {i:Nat} {te:TO},σ[i]?=some (some (.ref od))->(∀(R:Option Int->Hp->Prop) (H:Hp),R (some (at':Int)) H->te σ H R)->LE Tp (λHx:Hp=>Hx od=some (.lst (zo.map V.int))/\aY Hx Tp) σ (rQ (p4 K) (lO i) wm te) (zo.take at'):=λhσ ht=>Bd tF hσ hF (λR H r=>r) ht (OH zo at');have Ua:∀{σ:St} {i:Nat} {te:TO},σ[i]?=some (some (.ref od))->(∀(R:Option Int->Hp->Prop) (H:Hp),R (some ((at':Int)+1)) H->te σ H R)->LE Tp (λHx:Hp=>Hx od=some (.lst (zo.map V.int))/\aY Hx Tp) σ (rQ (p4 K) (lO i) te wm) (zo.drop (at'+1)):=λhσ ht=>Bd tF hσ hF ht (λR H r=>r) (by
  have:=OI zo (at'+1) ⋯
  rw [<-this]
  push_cast
  rfl)
 have lta:(zo.take at').length=at':=by rw [oh];lia
 have lda:(zo.drop (at'+1)).length=n-(at'+1):=by rw [vN];lia
 refine ax λ_ pJ=>aP ((mE tF mF (mE tF mF (ie rfl λR H r=>⟨_,rfl,_,rfl,r⟩) (sF tF (z:=z) λR H f r=>⟨_,rfl,_,rfl,_,_,rfl,rfl,od,_,_,_,rfl,rfl,.of f.1,Kk,r⟩) (by simp;lia)) (Ua rfl λR H r=>⟨_,rfl,_,_,rfl,rfl,_,rfl,r⟩) (by rw [dD];simp;lia)) H3 _ ⟨T_,ku⟩ λtw H4 s4 Ub Uc=>pJ _ _ ?_)
 have bad:¬iA (zo.take at'++[z]++zo.drop (at'+1)) n:=abz nV;obtain ⟨tl,Ud⟩:∃tl,tl=zo.take at'++[z]++zo.drop (at'+1):=⟨_,rfl⟩;have ltl:tl.length=n:=by rw [Ud,dD,dD];simp;lia
 rw [<-Ud] at Uc bad;have Ky:DD λHx:Hp=>(Hx od=some (.lst (zo.map V.int))/\aY Hx Tp)/\Hx tw=some (.lst (tl.map V.int)):=λs e=>⟨⟨s _ _ e.1.1,e.1.2.mono s⟩,s _ _ e.2⟩;have tF2:∀Hx:Hp,(λHx:Hp=>(Hx od=some (.lst (zo.map V.int))/\aY Hx Tp)/\Hx tw=some (.lst (tl.map V.int))) Hx->aY Hx Tp:=λ_ e=>e.1.2;have wk:∀{σ:St} {te:TE} {zs:List Int},LE Tp (λHx:Hp=>Hx od=some (.lst (zo.map V.int))/\aY Hx Tp) σ te zs->LE Tp (λHx:Hp=>(Hx od=some (.lst (zo.map V.int))/\aY Hx Tp)/\Hx tw=some (.lst (tl.map V.int))) σ te zs:=λh H Q f k=>h H Q f.1 k;refine aP (Pk (T:=Tp) (F:=λHx:Hp=>(Hx od=some (.lst (zo.map V.int))/\aY Hx Tp)/\Hx tw=some (.lst (tl.map V.int))) (n:=n) (m:=3) (m0:=8) (l0:=l2) (xc:=Kv) ?_ ∅ ⟨⟨s4 _ _ T_,ku.mono s4⟩,Uc⟩ (s4 _ _ e3) ⋯ ∅ (λv hv=>(b3 v hv).mono s4) rfl λl5 vs5 H5 nl5 s5 e5 am6 b5=>?_)
 ·refine mH Ky ?_ (mH Ky ?_ (mH Ky ?_ IK))
  ·exact mG (IJ rfl (λHx e=>e.2) Ub) ⋯ bad
  ·exact mG (IJ rfl (λHx e=>e.2) Ub) ⋯ bad
  ·exact mG (wk (mE tF mF (mE tF mF (ie rfl λR H r=>(u8 _ rfl _ rfl r)) (sF tF (z:=(n:Int)) λR H f r=>(ad _ rfl r)) (by simp;lia)) (Ua rfl λR H r=>(db _ rfl _ _ rfl rfl _ rfl r)) (by rw [dD];simp;lia))) (by rw [dD,dD];simp;lia) (xf (z:=(n:Int)) (by simp) bn)
 ·have Ue:=s4.trans s5
  exact fin l5 vs5 H5 _ (Kx.trans (aI.of Ue)) (ku.mono Ue) ((ku.mono s4).ne nl5) e5 ⋯ ⋯ b5
theorem afu:aZ ["told","tape","table","row"] ["told","tape","table"] (aK E5):=bf
theorem afv(T:Txt K mg t):aN P w K mg base bH 5 t.uP t.yz ["told","tape","table"] acb:=by
 have S:=afu;refine T.zy.bN S (λ_ _ _ _ H _ _ _ hr h=>?_);intros bv30 h td Tp tab q n rt vf f bv34 rfl tw hq tc hT zO mP num n1 n9 kk
 refine (ad _ (aj (putL 3 S.nd (ay (S0 T) hr T.Ju T.vi.kp T.Jt aC (aa (pv 0) (aa (pv 1) (aa (bS eJ rfl T.dI dJ (aa (ao bw (pv 2) ah) ae)) ae)))))
  (aj (bO (PW.pt (pw_or (bG dO (bS eJ rfl T.dI dJ (aa (pv 2) ae)) ah) (pw_or1 (bG dO (ay (gs T) hr T.fL T.ee.kp T.fK aC (aa (pv 1) (aa ah ae))) ah)))) (ak (aJ (ao bw (cJ (aa (aD iu (pv 2) (cJ (aa (pv 3) ae))) (aa (fH (N:=["line","told"]) (ρ:=(λσ=>[σ[0]?.join])) (du [0] rfl) rfl (dN (pv 2)) (λ_ _ _=>.nil) (λ_ _ _=>(aD iu (pv 0) (cJ (aa (ay (vA T) hr T.qF T.lC.kp T.qE aC (aa (pv 1) ae)) ae))))) ae))) (ay (gs T) hr T.fL T.ee.kp T.fK aC (aa (pv 1) (aa ah ae)))))) bQ)
  (ak (aJ (ao bw (cJ (aa (jt ju (pv 2) (jr ah) jq) (aa (fH (N:=["line"]) (ρ:=(λσ=>[])) (du [] rfl) rfl (dN (pv 2)) (λ_ _ _=>.nil) (λ_ _ _=>(jt (Zs (K:=K)) (pv 0) (jr ah) jq))) ae))) (ay (gs T) hr T.fL T.ee.kp T.fK aC (aa (pv 1) (aa ah ae)))))))) ?_)
 have di:∀{m:Nat} (g:Nat->V),((List.range m).map g).length=m:=λg=>by rw [aR,cy]
 refine ax λ_ hR=>aP (u8 _ rfl _ rfl (SC _ rfl tab _ _ _ rfl rfl (.of hT.lst) (cg n1) (bi (rt 0) _ rfl (.inl (.of (hT.at' 0 n1))) ?_)));rw [di];refine (ia td Tp q n rfl tw hq tc ⋯ (λdM ps H1 o1 vB nrw rg Tf J9=>hR _ _ ?_))
 have F8:dM≠Tp:=tc.ne nrw;have q'43:=id rg;intros bv4 q'43 us Ug lus ng;obtain ⟨rv,fr,er,nr⟩:∃(rv:Nat->V) (fr:Nat->Int×Int),gB H1 dM n rv/\∀j,j<n->aw 2000 H1 q (rv j) (fr j).1 (fr j).2:=by
  refine ⟨λj=>us.getD j .aO,λj=>ps.getD j (0,1),?_,λj hj=>?_⟩
  ·unfold gB
   rw [Ug]
   congr 2
   refine eP (by simp;lia) λj g1 g2=>?_
   rw [d8,e_,getD_at g1]
  ·have g1:j<us.length:=by lia
   have g2:j<ps.length:=by lia
   try dsimp only
   rw [getD_at g1,getD_at g2];exact (ng j _ _ (cw g1) (cw g2)).up ∅
 clear rg ng Ug lus J9 Tf;refine ax λ_ hR=>(gl _ rfl tab _ rfl (.inl (.of (o1 _ _ zO hT.lst))) rfl _ rfl (b7 (λhb=>gj ?_) (λhb=>?_)))
 ·clear hR
  have Sx:=o1;have qM:cI H1 tab n n rt vf:=⟨Sx _ _ zO hT.lst,λi hi=>Sx _ _ (mP i hi) (hT.at' i hi)⟩;have nux:∀i j,i<n->j<n->aw 2000 H1 q (vf i j) (f i j).1 (f i j).2:=λi j hi hj=>(num i j hi hj).cF tc Sx;refine eL (be _ rfl _ rfl (by show 1<=sizeLine;decide) (λla nZ=>(ia tab la _ _ rfl rfl ((aG nZ) _ _ qM.lst) au (aM (show _<=100 by simp;lia) ∅) (λlb qN=>?_))))
  have hJ:af H1 (upd (upd H1 la (.lst [.ref dM])) lb (.lst (((List.range n).map λi=>V.ref (rt i))++[.ref dM]))):=(aG nZ).trans (aG qN);have qO:upd (upd H1 la (.lst [.ref dM])) lb (.lst (((List.range n).map λi=>V.ref (rt i))++[.ref dM])) lb=some (.lst (((List.range n).map λi=>V.ref (rt i))++[.ref dM])):=au;have qP:lb≠Tp:=(vB.mono (aG nZ)).ne qN;generalize upd (upd H1 la (.lst [.ref dM])) lb (.lst (((List.range n).map λi=>V.ref (rt i))++[.ref dM]))=Hb at hJ qO ⊢;have mQ:=qM.mono hJ;have iV:=vB.mono hJ;have Kz:=(tw.off Sx tc).mono hJ;refine Be (jB (xs:=(List.range n).map λi=>V.ref (rt i)) (n:=n) (di _) (λR h=>(be _ rfl tab rfl ⟨_,.of mQ.lst⟩ (h _ _ (af.refl _) (iz (.of mQ.lst))))) (cH ⋯) (λ_ i y Hx=>(∃v0,Hx y=some (.lst ((List.range n).map (vf i)++[v0]))/\aw 2000 Hx q v0 0 1)/\y≠Tp) ?_ ?_ ?_)
  ·intro D i y Ha Hd ys ⟨⟨v0,g1,g2⟩,g3⟩ hy e f'
   exact ⟨⟨v0,f' y _ hy g1,g2.bE e f'⟩,g3⟩
  ·intro D i x hx Hd R sd _ kc
   obtain ⟨hi,rfl⟩:=fY hx;refine (on _ rfl _ rfl td q rfl (Kz.mono sd) hq (λv0 He se h0=>⟨by show 1<=sizeLine;decide,λlc BS=>?_⟩))
   have sx:af Hd (upd He lc (.lst [v0])):=se.trans (aG BS);refine (ia (rt i) lc _ _ rfl rfl (sx _ _ (sd _ _ (mQ.at' i hi))) au (aM (show _<=100 by simp;lia) ∅) (λy ny=>?_))
   exact kc y _ (sx.trans (aG ny)) (none_of sx ny) ⟨_,au⟩ ⟨(ad v0 au (((h0.mono (aG BS)).mono (aG ny)).up ∅)),((iV.mono sd).mono sx).ne ny⟩
  ·intro D rr Hd nD sd inj hA eD
   have DT:D≠Tp:=iV.ne nD;refine ⟨by show 2<=sizeLine;decide,λll qQ=>?_⟩
   have sl:af Hd (upd Hd ll (.lst [.ref lb,.ref D])):=aG qQ;have qR:upd Hd ll (.lst [.ref lb,.ref D]) ll=some (.lst [.ref lb,.ref D]):=au;have BU:ll≠Tp:=(iV.mono sd).ne qQ;generalize upd Hd ll (.lst [.ref lb,.ref D])=He at sl qR ⊢;have jd:=sd.trans sl;refine (ad _ rfl (sB Tp 2 rfl (iV.mono jd) ∅ ∅ (λdg Hf vF of tf=>?_)))
   have iE:aI Tp H Hf:=Sx.trans ((aI.of (hJ.trans jd)).trans of);have BV:aI Tp H1 Hf:=(aI.refl Tp H1).trans ((aI.of (hJ.trans jd)).trans of);have bA:sP Tp q Hf (.ref lb):=by
    refine ⟨lb,n+1,n,λi=>if i<n then rt i else dM,λi=>if i<n then vf i else rv,λi=>if i<n then f i else fr,rfl,qP,λi hi=>?_,⟨?_,λi hi=>?_⟩,λi j hi hj=>?_,⋯,⋯,⋯⟩
    ·try dsimp only
     split
     ·rename_i h;exact mP i h
     ·exact F8
    ·rw [of _ _ qP (jd _ _ qO),kD,kG,pP]
     try dsimp only
     rw [az (fM n)]
     congr 3
     refine gU λi hi=>?_;rw [aq (dA.mp hi)]
    ·try dsimp only
     split
     ·rename_i h;exact iE _ _ (mP i h) (hT.at' i h)
     ·exact BV _ _ F8 er
    ·try dsimp only
     split
     ·rename_i h;exact (num i j h hj).cF tc iE
     ·exact (nr j hj).cF vB BV
   have bB:sP Tp q Hf (.ref D):=by
    have ch:∃v0:Nat->V,∀i,i<n->He (rr i)=some (.lst ((List.range n).map (vf i)++[v0 i]))/\aw 2000 He q (v0 i) 0 1:=⟨λi=>if h:i<n then (hA i h).1.1.choose else .aO,λi hi=>by
     try dsimp only
     rw [fP hi];exact ⟨sl _ _ (hA i hi).1.1.choose_spec.1,(hA i hi).1.1.choose_spec.2.mono sl⟩⟩
    obtain ⟨v0,BW⟩:=ch;refine ⟨D,n,n+1,rr,λi j=>if j<n then vf i j else v0 i,λi j=>if j<n then f i j else (0,1),rfl,DT,λi hi=>(hA i hi).1.2,⟨of _ _ DT (sl _ _ eD),λi hi=>?_⟩,λi j hi hj=>?_,⋯,⋯,⋯⟩
    ·rw [of _ _ (hA i hi).1.2 (BW i hi).1,kD,kG,pP]
     try dsimp only
     rw [az (fM n)]
     congr 3
     refine gU λj hj=>?_;rw [aq (dA.mp hj)]
    ·try dsimp only
     split
     ·rename_i h;exact (num i j hi h).cF tc iE
     ·exact (BW i hi).2.cF (iV.mono jd) of
   have qS:=of _ _ BU qR
   match dg,vF with
   | 0,_=>exact (gt ll _ _ (.ref lb) rfl rfl (.of qS) rfl (kk _ Hf iE tf bA))
   | 1,_=>exact (gt ll _ _ (.ref D) rfl rfl (.of qS) rfl (kk _ Hf iE tf bB))
 ·have n2:1<n:=by rw [di,i5] at hb;have h1:¬(n:Int)=1:=λe=>hb (cK e);lia
  refine (ad _ rfl (sB Tp 2 rfl vB ∅ ∅ (λd2 H2 hd2 o2 vC=>(ib rfl _ rfl (b7 (λhb2=>?_) (λhb2=>hR _ _ ?_))))))
  ·clear hR
   have Sy:=o1.trans o2;have qM:cI H2 tab n n rt vf:=⟨Sy _ _ zO hT.lst,λi hi=>Sy _ _ (mP i hi) (hT.at' i hi)⟩;have nux:∀i j,i<n->j<n->aw 2000 H2 q (vf i j) (f i j).1 (f i j).2:=λi j hi hj=>(num i j hi hj).cF tc Sy;refine eL (be _ rfl _ rfl (by show 1<=sizeLine;decide) (λla nZ=>(ia tab la _ _ rfl rfl ((aG nZ) _ _ qM.lst) au (aM (show _<=100 by simp;lia) ∅) (λlb qN=>?_))))
   have hJ:af H2 (upd (upd H2 la (.lst [.ref dM])) lb (.lst (((List.range n).map λi=>V.ref (rt i))++[.ref dM]))):=(aG nZ).trans (aG qN);have qO:upd (upd H2 la (.lst [.ref dM])) lb (.lst (((List.range n).map λi=>V.ref (rt i))++[.ref dM])) lb=some (.lst (((List.range n).map λi=>V.ref (rt i))++[.ref dM])):=au;have qP:lb≠Tp:=(vC.mono (aG nZ)).ne qN;generalize upd (upd H2 la (.lst [.ref dM])) lb (.lst (((List.range n).map λi=>V.ref (rt i))++[.ref dM]))=Hb at hJ qO ⊢;have mQ:=qM.mono hJ;have iV:=vC.mono hJ;have Kz:=(tw.off Sy tc).mono hJ;refine Be (jB (xs:=(List.range n).map λi=>V.ref (rt i)) (n:=n) (di _) (λR h=>(be _ rfl tab rfl ⟨_,.of mQ.lst⟩ (h _ _ (af.refl _) (iz (.of mQ.lst))))) (cH ⋯) (λ_ i y Hx=>(∃v0,Hx y=some (.lst ((List.range n).map (vf i)++[v0]))/\aw 2000 Hx q v0 0 1)/\y≠Tp) ?_ ?_ ?_)
   ·intro D i y Ha Hd ys ⟨⟨v0,g1,g2⟩,g3⟩ hy e f'
    exact ⟨⟨v0,f' y _ hy g1,g2.bE e f'⟩,g3⟩
   ·intro D i x hx Hd R sd _ kc
    obtain ⟨hi,rfl⟩:=fY hx;refine (on _ rfl _ rfl td q rfl (Kz.mono sd) hq (λv0 He se h0=>⟨by show 1<=sizeLine;decide,λlc BS=>?_⟩))
    have sx:af Hd (upd He lc (.lst [v0])):=se.trans (aG BS);refine (ia (rt i) lc _ _ rfl rfl (sx _ _ (sd _ _ (mQ.at' i hi))) au (aM (show _<=100 by simp;lia) ∅) (λy ny=>?_))
    exact kc y _ (sx.trans (aG ny)) (none_of sx ny) ⟨_,au⟩ ⟨(ad v0 au (((h0.mono (aG BS)).mono (aG ny)).up ∅)),((iV.mono sd).mono sx).ne ny⟩
   ·intro D rr Hd nD sd inj hA eD
    have DT:D≠Tp:=iV.ne nD;refine ⟨by show 2<=sizeLine;decide,λll qQ=>?_⟩
    have sl:af Hd (upd Hd ll (.lst [.ref lb,.ref D])):=aG qQ;have qR:upd Hd ll (.lst [.ref lb,.ref D]) ll=some (.lst [.ref lb,.ref D]):=au;have BU:ll≠Tp:=(iV.mono sd).ne qQ;generalize upd Hd ll (.lst [.ref lb,.ref D])=He at sl qR ⊢;have jd:=sd.trans sl;refine (ad _ rfl (sB Tp 2 rfl (iV.mono jd) ∅ ∅ (λdg Hf vF of tf=>?_)))
    have iE:aI Tp H Hf:=Sy.trans ((aI.of (hJ.trans jd)).trans of);have BV:aI Tp H1 Hf:=o2.trans ((aI.of (hJ.trans jd)).trans of);have bA:sP Tp q Hf (.ref lb):=by
     refine ⟨lb,n+1,n,λi=>if i<n then rt i else dM,λi=>if i<n then vf i else rv,λi=>if i<n then f i else fr,rfl,qP,λi hi=>?_,⟨?_,λi hi=>?_⟩,λi j hi hj=>?_,⋯,⋯,⋯⟩
     ·try dsimp only
      split
      ·rename_i h;exact mP i h
      ·exact F8
     ·rw [of _ _ qP (jd _ _ qO),kD,kG,pP]
      try dsimp only
      rw [az (fM n)]
      congr 3
      refine gU λi hi=>?_;rw [aq (dA.mp hi)]
     ·try dsimp only
      split
      ·rename_i h;exact iE _ _ (mP i h) (hT.at' i h)
      ·exact BV _ _ F8 er
     ·try dsimp only
      split
      ·rename_i h;exact (num i j h hj).cF tc iE
      ·exact (nr j hj).cF vB BV
    have bB:sP Tp q Hf (.ref D):=by
     have ch:∃v0:Nat->V,∀i,i<n->He (rr i)=some (.lst ((List.range n).map (vf i)++[v0 i]))/\aw 2000 He q (v0 i) 0 1:=⟨λi=>if h:i<n then (hA i h).1.1.choose else .aO,λi hi=>by
      try dsimp only
      rw [fP hi];exact ⟨sl _ _ (hA i hi).1.1.choose_spec.1,(hA i hi).1.1.choose_spec.2.mono sl⟩⟩
     obtain ⟨v0,BW⟩:=ch;refine ⟨D,n,n+1,rr,λi j=>if j<n then vf i j else v0 i,λi j=>if j<n then f i j else (0,1),rfl,DT,λi hi=>(hA i hi).1.2,⟨of _ _ DT (sl _ _ eD),λi hi=>?_⟩,λi j hi hj=>?_,⋯,⋯,⋯⟩
     ·rw [of _ _ (hA i hi).1.2 (BW i hi).1,kD,kG,pP]
      try dsimp only
      rw [az (fM n)]
      congr 3
      refine gU λj hj=>?_;rw [aq (dA.mp hj)]
     ·try dsimp only
      split
      ·rename_i h;exact (num i j hi h).cF tc iE
      ·exact (BW i hi).2.cF (iV.mono jd) of
    have qS:=of _ _ BU qR
    match dg,vF with
    | 0,_=>exact (gt ll _ _ (.ref lb) rfl rfl (.of qS) rfl (kk _ Hf iE tf bA))
    | 1,_=>exact (gt ll _ _ (.ref D) rfl rfl (.of qS) rfl (kk _ Hf iE tf bB))
  ·clear hR
   have Sz:=o1.trans o2;have qM:cI H2 tab n n rt vf:=⟨Sz _ _ zO hT.lst,λi hi=>Sz _ _ (mP i hi) (hT.at' i hi)⟩;refine eL (ad _ rfl (io 1 rfl tab _ rfl (.of qM.lst) (λlb qN=>?_)));have ec:gI ((List.range n).map λi=>V.ref (rt i)) (some 1) none=(List.range (n-1)).map λi=>V.ref (rt (i+1)):=by
    rw [show (1:Int)=((1:Nat):Int) from rfl,OS];refine eP (by simp) λi h1 h2=>?_
    first | (simp;done) | (simp;congr 1;lia) | (simp;lia)
   rw [ec];have hJ:af H2 (upd H2 lb (.lst ((List.range (n-1)).map λi=>V.ref (rt (i+1))))):=aG qN;have qO:upd H2 lb (.lst ((List.range (n-1)).map λi=>V.ref (rt (i+1)))) lb=some (.lst ((List.range (n-1)).map λi=>V.ref (rt (i+1)))):=au;have qP:lb≠Tp:=vC.ne qN;generalize upd H2 lb (.lst ((List.range (n-1)).map λi=>V.ref (rt (i+1))))=Hb at hJ qO ⊢;have mQ:=qM.mono hJ;have iV:=vC.mono hJ;refine Be (jB (xs:=(List.range n).map λi=>V.ref (rt i)) (n:=n) (di _) (λR h=>(be _ rfl tab rfl ⟨_,.of mQ.lst⟩ (h _ _ (af.refl _) (iz (.of mQ.lst))))) (cH ⋯) (λ_ i y Hx=>Hx y=some (.lst ((List.range (n-1)).map λj=>vf i (j+1)))/\y≠Tp) ?_ ?_ ?_)
   ·intro D i y Ha Hd ys ⟨g1,g3⟩ hy e f'
    exact ⟨f' y _ hy g1,g3⟩
   ·intro D i x hx Hd R sd _ kc
    obtain ⟨hi,rfl⟩:=fY hx;refine ⟨_,rfl,1,rfl,rt i,_,rfl,.of (sd _ _ (mQ.at' i hi)),λy ny=>?_⟩;have ed:gI ((List.range n).map (vf i)) (some 1) none=(List.range (n-1)).map λj=>vf i (j+1):=by
     rw [show (1:Int)=((1:Nat):Int) from rfl,OS];refine eP (by simp) λj h1 h2=>?_
     first | (simp;done) | (simp;congr 1;lia) | (simp;lia)
    rw [ed];exact kc y _ (aG ny) ny ⟨_,au⟩ ⟨au,(iV.mono sd).ne ny⟩
   ·intro D rr Hd nD sd inj hA eD
    have DT:D≠Tp:=iV.ne nD;refine ⟨by show 2<=sizeLine;decide,λll qQ=>?_⟩
    have sl:af Hd (upd Hd ll (.lst [.ref lb,.ref D])):=aG qQ;have qR:upd Hd ll (.lst [.ref lb,.ref D]) ll=some (.lst [.ref lb,.ref D]):=au;have BU:ll≠Tp:=(iV.mono sd).ne qQ;generalize upd Hd ll (.lst [.ref lb,.ref D])=He at sl qR ⊢;have jd:=sd.trans sl;refine (ad _ rfl (sB Tp 2 rfl (iV.mono jd) ∅ ∅ (λdg Hf vF of tf=>?_)))
    have iE:aI Tp H Hf:=Sz.trans ((aI.of (hJ.trans jd)).trans of);have bA:sP Tp q Hf (.ref lb):=⟨lb,n-1,n,λi=>rt (i+1),λi=>vf (i+1),λi=>f (i+1),rfl,qP,λi hi=>mP (i+1) ⋯,⟨of _ _ qP (jd _ _ qO),λi hi=>iE _ _ (mP (i+1) ⋯) (hT.at' (i+1) ⋯)⟩,λi j hi hj=>(num (i+1) j ⋯ hj).cF tc iE,⋯,⋯,⋯⟩
    have bB:sP Tp q Hf (.ref D):=⟨D,n,n-1,rr,λi j=>vf i (j+1),λi j=>f i (j+1),rfl,DT,λi hi=>(hA i hi).1.2,⟨of _ _ DT (sl _ _ eD),λi hi=>of _ _ (hA i hi).1.2 (sl _ _ (hA i hi).1.1)⟩,λi j hi hj=>(num i (j+1) hi ⋯).cF tc iE,⋯,⋯,⋯⟩
    have qS:=of _ _ BU qR
    match dg,vF with
    | 0,_=>exact (gt ll _ _ (.ref lb) rfl rfl (.of qS) rfl (kk _ Hf iE tf bA))
    | 1,_=>exact (gt ll _ _ (.ref D) rfl rfl (.of qS) rfl (kk _ Hf iE tf bB))
theorem afA:aZ ["world","told","table","order","lower","upper","handed","found"] ["world","told","table","order","lower","upper"] (aK E3):=bf
theorem KA(T:Txt K mg t):aN P w K mg base bH 11 t.uN t.yw ["world","told","table","order","lower","upper"] (ab9 t.bg):=by
 have S:=afA;refine T.qH.bN S (λ_ _ _ _ H _ _ _ hr h=>?_);intros bv30 h z td a d lo up q C bv30 n o ra rl ru vf lf uf bv17 f L' U rfl hw tw bv34 hq n1 n6 eo ho hA nA hL hU bc kk;have jc:=hr.units;have hu:=hr.oK
 refine (ad _ (aj (sk (i0:=6) (N:=["one"]) (ρ:=(λσ=>[])) (du [] rfl) rfl S.nd rfl (Or.inl rfl) (dN (cJ (aa (pv 2) (aa (pv 4) (aa (pv 5) ae))))) (λ_ _ _=>.nil) (λ_ _ _=>(fH (N:=["row"]) (ρ:=(λσ=>[])) (du [] rfl) rfl (YY (K:=K) (pv 0)) (λ_ _ _=>.nil) (λ_ _ _=>(jY (Di (K:=K)) rfl T.nQ boot_list (aa (pv 0) ae))))))
  (aj (putL 7 S.nd (ay (TB T) hr T.Jm T.vd.kp T.Jl j6 (aa (pv 0) (aa (ao bw (pv 6) ah) (aa (jY CM rfl T.nQ boot_list (aa (pv 3) ae)) (aa (ao bw (pv 6) ah) (aa (ao bw (pv 6) ah) ae)))))))
  (aj (bO (PW.pt (pw_or (lP (iY (bS (i4 (K:=K)) rfl T.iT boot_isinstance (aa (pv 7) (aa (rC (v:=.ty "bool") rfl T.JD boot_bool rfl) ae))))) (pw_or1 (bG (NS (n:=3) jc) (pv 6) (cJ (aa (pv 2) (aa (pv 4) (aa (pv 5) ae)))))))) (ak (aJ gv)) bQ)
  (ak (aJ (jV dO (pv 7) (ay (afl T) hr T.Q9 T.zt.kp T.Q8 aC (aa (pv 1) (aa (pv 2) (aa (pv 3) (aa (pv 4) (aa (pv 5) ae)))))))))))) ?_)
 have w3:∃wf:Nat->Nat->Nat->V,wf 0=vf/\wf 1=lf/\wf 2=uf:=(bv (λi=>if i=0 then vf else if i=1 then lf else uf) rfl rfl rfl)
 intros bv4 w3 wf w0 w1 w2;refine ax λ_ hR=>aP (jB (xs:=[V.ref a,.ref lo,.ref up]) (n:=3) rfl (λR h=>(ad _ rfl (be _ rfl _ rfl (by show 3<=sizeLine;decide) (λls FH=>(bv ls rfl ⟨_,.of au⟩ (h _ _ (aG FH) (iz (.of au)))))))) (cH ⋯) (λD i y Hx=>∃rr:Nat->Addr,cI Hx y n n rr (wf i)/\∀j,j<n->rr j≠D) ?_ ?_ ?_)
 ·intro D i y Ha Hb ys ⟨rr,g1,g2⟩ hy e f'
  exact (ad rr ⟨f' y _ hy g1.lst,λj hj=>f' _ _ (g2 j hj) (g1.at' j hj)⟩ g2)
 ·intro D i x hx Hd R sd ⟨ys,eD⟩ kc
  have src:∃(b:Addr) (rb:Nat->Addr),x=.ref b/\cI H b n n rb (wf i):=by
   match i,hx with
   | 0,hx=>cases hx;exact ⟨a,ra,rfl,by rw [w0];exact hA⟩
   | 1,hx=>cases hx;exact ⟨lo,rl,rfl,by rw [w1];exact hL.tab⟩
   | 2,hx=>cases hx;exact ⟨up,ru,rfl,by rw [w2];exact hU.tab⟩
   | i+3,hx=>simp at hx
  intros bv3 src b rb rfl hs;have hs:=hs.mono sd;refine jB (xs:=(List.range n).map λi=>V.ref (rb i)) (n:=n) (by simp) (λR h=>(be _ rfl b rfl ⟨_,.of hs.lst⟩ (h _ _ (af.refl _) (iz (.of hs.lst))))) (cH ⋯) (λ_ k y Hx=>Hx y=some (.lst ((List.range n).map (wf i k)))/\Hd y=none) ?_ ?_ ?_
  ·intro D' i y Ha Hb ys ⟨g1,g2⟩ hy e f'
   exact ⟨f' y _ hy g1,g2⟩
  ·intro D' k x hx He R' se _ kc'
   obtain ⟨hi,rfl⟩:=fY hx;exact ⟨_,rfl,rb k,_,rfl,.inl (.of (se _ _ (hs.at' k hi))),λl nl=>kc' l _ (aG nl) nl ⟨_,au⟩ ⟨au,none_of se nl⟩⟩
  ·intro y rr He ny se inj hB ey
   exact kc y He se ny ⟨_,ey⟩ ⟨rr,⟨ey,λj hj=>(hB j hj).1.1⟩,λj hj zz=>by have:=(hB j hj).1.2;rw [zz,eD] at this;cases this⟩
 ·intro hd ka H1 nhd s1 afC hB ehd
  obtain ⟨r0,h0,_⟩:=(hB 0 ∅).1
  obtain ⟨r1,h1,_⟩:=(hB 1 ∅).1
  obtain ⟨r2,h2,_⟩:=(hB 2 ∅).1
  rw [w0] at h0;rw [w1] at h1;rw [w2] at h2;clear afC hB;refine hR _ _ ?_;have eo1:=s1 _ _ eo;have F9:H1 hd=some (.lst [.ref (ka 0),.ref (ka 1),.ref (ka 2)]):=ehd;refine ax λ_ hR=>aP (ad _ rfl (SC _ rfl hd _ _ _ rfl rfl (.of F9) rfl (io _ rfl d _ rfl (.inl (.of eo1)) (λvG afF=>?_))));have s2:af H1 (upd H1 vG (.lst (bW o))):=aG afF;have F_:upd H1 vG (.lst (bW o)) vG=some (.lst (bW o)):=au;generalize upd H1 vG (.lst (bW o))=H2 at s2 F_ ⊢;have b6:=s1.trans s2;have Uh:∀i j,i<n->j<n->aw 2000 H2 q (vf i j) (f i j).1 (f i j).2:=λi j hi hj=>(nA i j hi hj).mono b6;have lH:cY H2 q C (10 ^ 20) n (ka 1) r1 lf L':=⟨h1.mono s2,λi j hi hj=>(hL.num i j hi hj).mono b6,hL.dv⟩;have lI:cY H2 q C (10 ^ 20) n (ka 2) r2 uf U:=⟨h2.mono s2,λi j hi hj=>(hU.num i j hi hj).mono b6,hU.dv⟩;refine (SC _ rfl hd _ _ _ rfl rfl (.of (s2 _ _ F9)) rfl (SC _ rfl hd _ _ _ rfl rfl (.of (s2 _ _ F9)) rfl (.inl (Exists.intro z (SB (ka 0) vG (ka 1) (ka 2) q C (Re n o r0 r1 r2 vf lf uf f L' (Rs U rfl (hw.mono b6) hq n1 n6 F_ ho (h0.mono s2) Uh ⟨lH,lI,bc,λH3 s3=>hR _ _ ?_⟩)))))));have fZ:=b6.trans s3;refine ax λ_ hR=>(ad _ rfl (xz _ _ _ true rfl rfl (.of (.bl _)) C3 true rfl (cA ?_)));have e3:=s3 _ _ (s2 _ _ F9);refine (u8 _ rfl _ rfl (be _ rfl _ rfl (by show 3<=sizeLine;decide) (λl nl=>?_)))
  have s4:af H3 (upd H3 l (.lst [.ref a,.ref lo,.ref up])):=aG nl;have el:upd H3 l (.lst [.ref a,.ref lo,.ref up]) l=some (.lst [.ref a,.ref lo,.ref up]):=au;generalize upd H3 l (.lst [.ref a,.ref lo,.ref up])=H4 at s4 el ⊢;have zP:=s3.trans s4;have gS:=fZ.trans s4;have lk:∀{B:Nat} {g:Nat->Nat->Int×Int} {wv:Nat->Nat->V},(∀i j,i<n->j<n->aw B H4 q (wv i j) (g i j).1 (g i j).2)->∀i j,i<n->j<n->qe K H4 1 (wv i j) (wv i j):=λh i j hi hj=>aba (h i j hi hj) (h i j hi hj);have al:∀(j:Nat) (x y:V),[V.ref (ka 0),.ref (ka 1),.ref (ka 2)][j]?=some x->[V.ref a,.ref lo,.ref up][j]?=some y->qe K H4 3 x y:=λj x y hx hy=>by
   match j,hx,hy with
   | 0,hx,hy=>cases hx;cases hy;exact II ((h0.mono s2).mono zP) (hA.mono gS) (lk λi j hi hj=>(Uh i j hi hj).mono zP)
   | 1,hx,hy=>cases hx;cases hy;exact II (lH.tab.mono zP) (hL.tab.mono gS) (lk λi j hi hj=>(lH.num i j hi hj).mono zP)
   | 2,hx,hy=>cases hx;cases hy;exact II (lI.tab.mono zP) (hU.tab.mono gS) (lk λi j hi hj=>(lI.num i j hi hj).mono zP)
   | j+3,hx,_=>simp at hx
  refine (ia hd l _ _ rfl rfl (.of (s4 _ _ e3)) (.of el) rfl (ib al false rfl (cA (hR _ _ ?_))));refine eL (u8 _ rfl _ rfl (ul _ rfl _ rfl _ rfl (ww _ rfl td (SB a d lo up q C (Re n o ra rl ru vf lf uf f L' (Rs U rfl (tw.mono gS) hq n1 n6 (gS _ _ eo) ho (hA.mono gS) (λi j hi hj=>(nA i j hi hj).mono gS) ⟨hL.mono gS,hU.mono gS,bc,λH5 s5=>?_⟩))))));refine ⟨rfl,?_⟩;have:=kk H5 (gS.trans s5);rw [show decide (V.bl (lq q C n o L' U f)=V.bl (lq q C n o L' U f))=true from cK rfl];exact this
theorem afG:aZ ["told","tape","order","lower","upper","size","some","way","i","j","number"] ["told","tape","order","lower","upper"] (aK E1):=bf
theorem afH(T:Txt K mg t):aN P w K mg base bH 6 t.uM t.yv ["told","tape","order","lower","upper"] ab6:=by
 have S:=afG;refine T.zw.bN S (λ_ A _ s H _ _ _ hr h=>?_);intros bv5 h td Tp od bv30 lo up q C n o rl ru bv33 lf uf L' U rfl tw hq tc bc h6 bv34 n1 n6 gP loT upT rT eo ho hL hU kk;have hu:=hr.oK
 refine (ad _ (aj (putL 5 S.nd (bS eJ rfl T.dI dJ (aa (pv 2) ae)))
  (aj (putL 6 S.nd (cJ (aa (fH (N:=["row"]) (ρ:=(λσ=>[])) (du [] rfl) rfl (dN (pv 3)) (λ_ _ _=>.nil) (λ_ _ _=>(jY (Di (K:=K)) rfl T.nQ boot_list (aa (pv 0) ae)))) (aa (fH (N:=["row"]) (ρ:=(λσ=>[])) (du [] rfl) rfl (dN (pv 4)) (λ_ _ _=>.nil) (λ_ _ _=>(jY (Di (K:=K)) rfl T.nQ boot_list (aa (pv 0) ae)))) ae))))
  (aj (putL 7 S.nd (ay (gs T) hr T.fL T.ee.kp T.fK aC (aa (pv 1) (aa ah ae))))
  (aj (putL 8 S.nd (ay (gs T) hr T.fL T.ee.kp T.fK aC (aa (pv 1) (aa (pv 5) ae))))
  (aj (putL 9 S.nd (ay (gs T) hr T.fL T.ee.kp T.fK aC (aa (pv 1) (aa (pv 5) ae))))
  (aj (bO (bG oJ (pv 7) ah) (aj (putL 10 S.nd (ay (qL T) hr T.pF T.kq.kp T.pE aC (aa (pv 0) (aa (pv 1) ae))))
  (ak (@il _ _ _ _ _ _ (ao bw (cJ (aa (pv 10) (aa (ay (SW T) hr T.Jq T.vg.kp T.Jp aC (aa (pv 0) (aa (pv 10) (aa (ao bw (ao bw (ao bw (pv 6) (aD gh (pv 7) ah)) (pv 8)) (pv 9)) ae)))) ae))) (ay (gs T) hr T.fL T.ee.kp T.fK aC (aa (pv 1) (aa ah ae)))) (jk (ao bw (ao bw (pv 6) (aD gh (pv 7) ah)) (pv 8)) (pv 9) set_list) (by rfl) (by rfl) (by rfl)))) bQ)
  (aj (bO (bG dO (pv 7) ah) (ak (putL 6 S.nd (acu (pv 6) (oH oI ah)))) bQ)
  (aj (bO (bG dO (pv 7) ah) (ak (m9 (M7 oq PySem.F.slot_list_reverse PySem.F.type_list_reverse WI (ao bw (pv 6) (ay (gs T) hr T.fL T.ee.kp T.fK aC (aa (pv 1) (aa ah ae))))))) bQ)
  (aj (bO (bG dO (pv 7) ah) (ak (putL 2 S.nd (ay (S_ T) hr T.Js T.vh.kp T.Jr aC (aa (pv 1) (aa (pv 5) ae))))) bQ)
  (ak (aJ (fT (aa (pv 2) (aa (ao bw (pv 6) ah) (aa (ao bw (pv 6) ah) ae))))))))))))))) ?_)
 have zL:=gN ho;have ll:(bW o).length=n:=by unfold bW;rw [aR,zL]
 have di:∀r:Nat->Addr,((List.range n).map λi=>V.ref (r i)).length=n:=λr=>by rw [aR,cy]
 refine ax λ_ hR=>aP (io _ rfl od _ rfl (.inl (.of eo)) (hR _ _ ?_));rw [ll];have copy:∀{H0:Hp} {a:Addr} {ra:Nat->Addr} {vf:Nat->Nat->V} {Hd:Hp} (_:cI Hd a n n ra vf) {D:Addr} {i:Nat} {x:V} (_:((List.range n).map λi=>V.ref (ra i))[i]?=some x) {Hc:Hp} (_:af Hd Hc),i<n/\x=.ref (ra i)/\Hc (ra i)=some (.lst ((List.range n).map (vf i))):=fun{H0 a ra vf Hd} h {D i x} hx {Hc} s=>by obtain ⟨hi,rfl⟩:=fY hx;exact ⟨hi,rfl,s _ _ (h.at' i hi)⟩
 refine ax λ_ hR=>aP (Be (jB (xs:=(List.range n).map λi=>V.ref (rl i)) (n:=n) (di _) (λR h=>(be _ rfl lo rfl ⟨_,.of hL.tab.lst⟩ (h _ _ (af.refl _) (iz (.of hL.tab.lst))))) (cH ⋯) (λ_ i y Hx=>Hx y=some (.lst ((List.range n).map (lf i)))/\H y=none) ?_ ?_ ?_))
 ·intro D i y Ha Hb ys ⟨g1,g2⟩ hy e f
  exact ⟨f y _ hy g1,g2⟩
 ·intro D i x hx Hd R sd _ kc
  obtain ⟨hi,rfl⟩:=fY hx;exact ⟨_,rfl,rl i,_,rfl,.inl (.of (sd _ _ (hL.tab.at' i hi))),λl nl=>kc l _ (aG nl) nl ⟨_,au⟩ ⟨au,none_of sd nl⟩⟩
 intro A rA H1 nA s1 Ui hA eA;have KC:=hU.mono s1;refine Be (jB (xs:=(List.range n).map λi=>V.ref (ru i)) (n:=n) (di _) (λR h=>(be _ rfl up rfl ⟨_,.of KC.tab.lst⟩ (h _ _ (af.refl _) (iz (.of KC.tab.lst))))) (cH ⋯) (λ_ i y Hx=>Hx y=some (.lst ((List.range n).map (uf i)))/\H1 y=none) ?_ ?_ ?_)
 ·intro D i y Ha Hb ys ⟨g1,g2⟩ hy e f
  exact ⟨f y _ hy g1,g2⟩
 ·intro D i x hx Hd R sd _ kc
  obtain ⟨hi,rfl⟩:=fY hx;exact ⟨_,rfl,ru i,_,rfl,.inl (.of (sd _ _ (KC.tab.at' i hi))),λl nl=>kc l _ (aG nl) nl ⟨_,au⟩ ⟨au,none_of sd nl⟩⟩
 intro B rB H2 nB s2 Uj hB eB;refine ⟨by show 2<=sizeLine;decide,λsm zQ=>hR _ _ ?_⟩
 have no:∀{Hx:Hp} {x y:Addr} {u:HO},Hx x=none->Hx y=some u->x≠y:=λe1 e2 z=>by rw [z,e2] at e1;cases e1
 have b6:=s1.trans s2;have t2:=tc.mono b6;have O2:eZ H (upd H2 sm (.lst [.ref A,.ref B])) q C Tp sm A B n rA rB lf uf:=by
  have s3:af H2 (upd H2 sm (.lst [.ref A,.ref B])):=aG zQ;have Uk:=s2 _ _ eA;have tA:∀i,i<n->H1 (rA i)=some (.lst ((List.range n).map (lf i))):=λi hi=>(hA i hi).1.1;have tB:∀i,i<n->H2 (rB i)=some (.lst ((List.range n).map (uf i))):=λi hi=>(hB i hi).1.1;have Ul:∀i,i<n->H (rA i)=none:=λi hi=>(hA i hi).1.2;have Ga:∀i,i<n->H1 (rB i)=none:=λi hi=>(hB i hi).1.2;have T2:eY H2 q (10 ^ 20) (λ_ d=>d∣C) Tp A B n rA rB lf uf:=⟨t2,⟨Ne.symm (no nB eA),tc.ne nA,(tc.mono s1).ne nB,λi hi=>tc.ne (Ul i hi),λi hi=>(tc.mono s1).ne (Ga i hi),λi hi=>Ne.symm (no nB (tA i hi)),λi hi=>no (Ga i hi) eA,λi j hi hj=>Ne.symm (no (Ga j hj) (tA i hi))⟩,⟨Uk,Ui,λi hi=>(hA i hi).2,λi hi=>s2 _ _ (tA i hi)⟩,⟨eB,Uj,λi hi=>(hB i hi).2,tB⟩,λi j hi hj=>⟨_,_,((hL.num i j hi hj).mono b6).up ∅,hL.dv i j hi hj⟩,λi j hi hj=>⟨_,_,((hU.num i j hi hj).mono b6).up ∅,hU.dv i j hi hj⟩⟩
  exact ⟨aI.of (b6.trans s3),au,⟨t2.ne zQ,no zQ Uk,no zQ eB,λi hi=>⟨no zQ (s2 _ _ (tA i hi)),no zQ (tB i hi)⟩⟩,⟨nA,none_of s1 nB,λi hi=>⟨Ul i hi,none_of s1 (Ga i hi)⟩⟩,T2.mono s3⟩
 clear hA hB Ui Uj eA eB nA nB t2;generalize upd H2 sm (.lst [.ref A,.ref B])=H3 at O2 ⊢;refine ax λ_ hR=>aP (ad _ rfl (sB Tp 6 rfl O2.two.tc ∅ ∅ (λwy H4 w6 o4 t4=>hR _ _ ?_)))
 have O4:=O2.step o4 t4;clear O2 o4 t4;refine ax λ_ hR=>aP (u8 _ rfl _ rfl (sB Tp n rfl O4.two.tc ⋯ ⋯ (λi H5 hi o5 t5=>hR _ _ ?_)))
 have O5:=O4.step o5 t5;clear O4 o5 t5;refine ax λ_ hR=>aP (u8 _ rfl _ rfl (sB Tp n rfl O5.two.tc ⋯ ⋯ (λj H6 hj o6 t6=>hR _ _ ?_)))
 have O6:=O5.step o6 t6;clear O5 o6 t6;refine ax λR1 BP=>?_;have n1:∀(aF bF:Nat->Nat->V) (v10:Option V) (Hc:Hp),eZ H Hc q C Tp sm A B n rA rB aF bF->R1 [some (.ref td),some (.ref Tp),some (.ref od),some (.ref lo),some (.ref up),some (.int (n:Int)),some (.ref sm),some (.int (wy:Int)),some (.int (i:Int)),some (.int (j:Int)),v10] Hc:=λaF bF v10 Hc O=>BP _ _ (by
  refine ax λR2 pJ=>?_;have n2:∀(s2 A2 B2:Addr) (Gb Gd:Nat->Addr) (aF bF:Nat->Nat->V) (Hc:Hp),eZ H Hc q C Tp s2 A2 B2 n Gb Gd aF bF->R2 [some (.ref td),some (.ref Tp),some (.ref od),some (.ref lo),some (.ref up),some (.int (n:Int)),some (.ref s2),some (.int (wy:Int)),some (.int (i:Int)),some (.int (j:Int)),v10] Hc:=λs2 A2 B2 Gb Gd aF bF Hc O=>pJ _ _ (by
   refine ax λR3 hR3=>?_;have n3:∀(Ge Gf:Nat->Addr) (aF bF:Nat->Nat->V) (Hc:Hp),eZ H Hc q C Tp s2 A2 B2 n Ge Gf aF bF->R3 [some (.ref td),some (.ref Tp),some (.ref od),some (.ref lo),some (.ref up),some (.int (n:Int)),some (.ref s2),some (.int (wy:Int)),some (.int (i:Int)),some (.int (j:Int)),v10] Hc:=λGe Gf aF bF Hc O=>hR3 _ _ (by
    refine ax λR4 hR4=>?_;have n4:∀(eK:Addr) (o':List Nat) (Hc:Hp),Hc eK=some (.lst (bW o'))->o'.Perm (List.range n)->eZ H Hc q C Tp s2 A2 B2 n Ge Gf aF bF->R4 [some (.ref td),some (.ref Tp),some (.ref eK),some (.ref lo),some (.ref up),some (.int (n:Int)),some (.ref s2),some (.int (wy:Int)),some (.int (i:Int)),some (.int (j:Int)),v10] Hc:=λeK o' Hc e' kI O=>hR4 _ _ (by
     refine eL (u8 _ rfl _ rfl (xz s2 _ _ _ rfl rfl (.of O.lst) rfl _ rfl (ia s2 _ _ _ rfl rfl (.of O.lst) rfl (by show 3<=sizeLine;decide) (λfd nU=>?_))))
     have sf:af Hc (upd Hc fd (.tup [.ref eK,.ref A2,.ref B2])):=aG nU;have T5:=O.two.mono sf;obtain ⟨L2,lH⟩:=sO T5.cl;obtain ⟨U2,lI⟩:=sO T5.cu;exact kk fd eK A2 B2 o' Ge Gf aF bF L2 U2 _ (O.off.trans (aI.of sf)) T5.tc au (sf _ _ e') kI ⟨T5.wl.r,λi j hi hj=>(lH i j hi hj).1,λi j hi hj=>(lH i j hi hj).2⟩ ⟨T5.wu.r,λi j hi hj=>(lI i j hi hj).1,λi j hi hj=>(lI i j hi hj).2⟩)
    refine (ce _ rfl rfl _ rfl (b7 (λhb=>?_) (λhb=>n4 od o Hc (O.off _ _ gP eo) ho O)));exact aP (on _ rfl _ rfl Tp n rfl O.two.tc ⋯ (λD o' H7 o7 t7 nD eD pD=>n4 D o' H7 eD pD (O.step o7 t7))))
   refine (ce _ rfl rfl _ rfl (b7 (λhb=>?_) (λhb=>n3 Gb Gd aF bF Hc O)));refine (u8 _ rfl _ rfl (sB Tp 2 rfl O.two.tc ∅ ∅ (λd H7 hd o7 t7=>?_)))
   have O7:=O.step o7 t7
   match d,hd with
   | 0,_=>exact (ia s2 _ _ _ rfl rfl (.of O7.lst) rfl (.inl ⟨rfl,_,.of O7.two.wl.lst⟩) (f8 A2 _ rfl rfl O7.two.wl.lst (n3 _ Gd _ bF _ O7.rev)))
   | 1,_=>exact (ia s2 _ _ _ rfl rfl (.of O7.lst) rfl (.inl ⟨rfl,_,.of O7.two.wu.lst⟩) (f8 B2 _ rfl rfl O7.two.wu.lst (n3 Gb _ aF _ _ O7.acw))))
  refine (ce _ rfl rfl _ rfl (b7 (λhb=>?_) (λhb=>n2 sm A B rA rB aF bF Hc O)));exact aP (be _ rfl _ rfl rfl (bi sm _ rfl (.of O.lst) (λs2 ns2=>n2 s2 B A rB rA bF aF _ (O.turn ns2)))))
 refine (db _ rfl _ _ rfl rfl _ rfl (b7 (λhb=>?_) (λhb=>n1 lf uf none H6 O6)));refine ax λ_ hR=>aP (u8 _ rfl _ rfl (pi td Tp q rfl (tw.off O6.off tc) hq O6.two.tc (λv x d H7 o7 t7 nu sv=>hR _ _ ?_)));have O7:=O6.step o7 t7;have sel:∃(X:Addr) (rX:Nat->Addr) (xF:Nat->Nat->V) (g:Nat->Nat->Int×Int),ir [V.ref A,.ref B] ((wy:Int) % 2)=some (.ref X)/\(∀Hx,eZ H Hx q C Tp sm A B n rA rB lf uf->WTab Hx X n rX xF/\aw (10 ^ 16) Hx q (xF i j) (g i j).1 (g i j).2)/\(g i j).2∣C/\∀Hx w y e v10,eZ H Hx q C Tp sm A B n rA rB lf uf->aw (10 ^ 20) Hx q w y e->e∣C->R1 [some (.ref td),some (.ref Tp),some (.ref od),some (.ref lo),some (.ref up),some (.int (n:Int)),some (.ref sm),some (.int (wy:Int)),some (.int (i:Int)),some (.int (j:Int)),v10] (upd Hx (rX i) (.lst (((List.range n).map (xF i)).set j w))):=by
  have Sn:wy<3:=by have:=fD hb;lia
  have c0:(wy:Int) % 2=0\/(wy:Int) % 2=1:=by lia
  rcases c0 with e | e;·exact (Exists.intro A (re rA lf L' (by rw [e];rfl) (λHx O=>⟨O.two.wl,(hL.num i j hi hj).cF tc O.off⟩) (hL.dv i j hi hj) (λHx w y e v10 O nw dv=>n1 _ _ v10 _ (O.put hi nw dv))))
  ·exact (Exists.intro B (re rB uf U (by rw [e];rfl) (λHx O=>⟨O.two.wu,(hU.num i j hi hj).cF tc O.off⟩) (hU.dv i j hi hj) (λHx w y e v10 O nw dv=>n1 _ _ v10 _ (O.put2 hi nw dv))))
 intros bv22 sel X rX xF g eX hX dX nX;have p2:(0:Int)<2:=by decide
 obtain ⟨WX,NX⟩:=hX H7 O7;have w1:=xg hq nu;have w2:=xg hq NX;have T7:=O7.two.tc;refine aP (ul _ rfl _ rfl _ rfl (on _ rfl _ rfl _ _ rfl rfl p2 (gt sm _ _ _ rfl rfl (.of O7.lst) eX (SC _ rfl X _ _ _ rfl rfl (.of WX.lst) (cg hi) (SC _ rfl (rX i) _ _ _ rfl rfl (.of (WX.at' i hi)) (cg hj) (wn td v (xF i j) (SB q x d ((g i j).1) ((g i j).2) (10 ^ 16) (Rs _ rfl (tw.off O7.off tc) hq ⟨x,d,nu.up ∅,by rw [lM];exact jg q,w1.nz⟩ w2 (by decide +kernel) (hE hq w1.nz w2.nz) (rf _ _) (Nat.le_add_left _ _) (λv2 H8 s8 w8=>?_)))))))))
 have nw:∃y e,aw (10 ^ 20) H8 q v2 y e/\e∣C:=acj (B':=0) hq (nu.mono s8) sv h6 (.inr trivial) dX (NX.top ∅) (λz=>⟨λe=>w1.nz (by rw [e];exact jg q),λe=>w2.nz (by rw [e];exact jg q)⟩) w8
 have O8:=O7.step (aI.of s8) (T7.mono s8);refine ⟨by show 2<=sizeLine;decide,λla nZ=>?_⟩
 have s9:af H8 (upd H8 la (.lst [v,v2])):=aG nZ;have Um:upd H8 la (.lst [v,v2]) la=some (.lst [v,v2]):=au;generalize upd H8 la (.lst [v,v2])=H9 at s9 Um ⊢;have O9:=O8.step (aI.of s9) (O8.two.tc.mono s9);have laT:la≠Tp:=O8.two.tc.ne nZ;refine (ad _ rfl (sB Tp 2 rfl O9.two.tc ∅ ∅ (λdg Hf vF of tf=>?_)))
 have ef:=of _ _ laT Um;have BX:=O9.step of tf;obtain ⟨WY,_⟩:=hX Hf BX;intros bv3 nw y e ny dy
 match dg,vF with
 | 0,_=>exact (gt la _ _ v rfl rfl (.of ef) rfl (on _ rfl _ rfl _ _ rfl rfl p2 (gt sm _ _ _ rfl rfl (.of BX.lst) eX (SC _ rfl X _ _ _ rfl rfl (.of WY.lst) (cg hi) (SC _ rfl (rX i) _ _ j rfl rfl (WY.at' i hi) (by rw [aR,cy];exact jC hj) (nX Hf v x d (some v) BX ((((nu.mono s8).mono s9).cF O9.two.tc of).up ∅) (IW nu sv h6)))))))
 | 1,_=>exact (gt la _ _ v2 rfl rfl (.of ef) rfl (on _ rfl _ rfl _ _ rfl rfl p2 (gt sm _ _ _ rfl rfl (.of BX.lst) eX (SC _ rfl X _ _ _ rfl rfl (.of WY.lst) (cg hi) (SC _ rfl (rX i) _ _ j rfl rfl (WY.at' i hi) (by rw [aR,cy];exact jC hj) (nX Hf v2 y e (some v) BX ((ny.mono s9).cF O9.two.tc of) dy))))))
theorem afM:aZ ["world","table","order","lower","upper","caught","handed","e"] ["world","table","order","lower","upper"] (aK E6):=bf
theorem Uo(T:Txt K mg t):aN P w K mg base bH 10 t.uQ t.yA ["world","table","order","lower","upper"] (ab_ t.bg):=by
 have S:=afM;have afN:=TB (P:=P) (w:=w) (base:=base) T;refine T.vj.bN S (λ_ _ _ _ H _ _ _ hr h=>?_);intros bv5 h z a d bv30 v u q B m ag zs word bv34 rfl hw hq hA l1 vE wd ed vv bad kk;have jc:=hr.units
 refine (ad _ (aj (putL 5 S.nd kJ)
  (aj (putL 6 S.nd (jY CM rfl T.nQ boot_list (aa (pv 2) ae)))
  (aj (Xs rfl rfl S.nd (i:=7) rfl rfl (Xk (Xi afN (hr.mono ∅) rfl T.Jm T.vd.kp T.Jl .nil (aa (pv 0) (aa (pv 1) (aa (pv 6) (aa (pv 3) (aa (pv 4) ae)))))))
   (λea=>(ak (putL 5 S.nd (pv 7)))) rfl T.Rr T.RF mW.hasBase)
  (aj (bO (PW.pt (pw_or (bG (NS (n:=0) jc) (pv 6) (pv 2)) (pw_or1 (bG rM (pv 5) kJ)))) (ak (aJ dq)) bQ)
  (ak (aJ (ay (afg T) hr T.Q7 T.zq.kp T.Q6 aC (aa (pv 5) ae)))))))) ?_)
 refine ax λ_ BP=>aP (BP _ _ ?_);simp only [vY,vZ,L2.start];refine ax λ_ hR=>aP (io _ rfl d _ rfl (.inl (.of ed)) (λod J8=>hR _ _ ?_));have s1:af H (upd H od (.lst (zs.map V.int))):=aG J8;have mO:upd H od (.lst (zs.map V.int)) od=some (.lst (zs.map V.int)):=au;generalize upd H od (.lst (zs.map V.int))=H1 at s1 mO ⊢;refine ax λR pJ=>?_;have fin:∀(ea:Addr) (Hx:Hp),af H1 Hx->(Hx ea=some (oN ea t.bV)/\word="fit"\/Hx ea=some (oN ea t.bZ)/\word="order")->R [some (.ref z),some (.ref a),some (.ref d),some v,some u,some (.ref ea),some (.ref od),none] Hx:=λea Hx sx ex=>pJ _ _ (by
  have e1:=sx _ _ mO;have e2:=sx _ _ (s1 _ _ ed);refine ax λ_ hR=>(u8 _ rfl _ rfl (ia od d _ _ rfl rfl (.of e1) (.of e2) (by simp) (ib (λj x y hx hy=>?_) false rfl (cA ?_))))
  ·rw [hx] at hy
   cases hy;rw [bU] at hx;cases hz:zs[j]? with
   | none=>rw [hz] at hx;cases hx
   | some zz=>rw [hz] at hx;cases hx;exact ⟨rfl,rfl⟩
  ·refine (ce _ rfl rfl false (by simp) (cA (hR _ _ ?_)))
   refine (u8 _ rfl ea rfl ?_);rcases ex with ⟨e,w⟩ | ⟨e,w⟩;·exact .inl ⟨e,λH' s'=>by have:=kk H' (s1.trans (sx.trans s'));rw [w] at this;exact this⟩
   ·exact .inr ⟨e,λH' s'=>by have:=kk H' (s1.trans (sx.trans s'));rw [w] at this;exact this⟩)
 refine (u8 _ rfl _ rfl (ul _ rfl _ rfl _ rfl (.inr (Exists.intro z (wn a od v (ww u rfl z (wn a od q (sw B m ag zs rfl (hw.mono s1) hq (hA.mono s1) l1 vE ⟨wd,?_⟩))))))));rcases bad with ⟨ne,ew⟩ | ⟨em,no,ew⟩;·exact .inl ⟨ne,λH2 s2=>(bv _ rfl ⟨T.zC,T.RG⟩ (λea KD=>(ad _ rfl (fin ea _ (s2.trans (aG KD)) (.inl ⟨au,ew⟩)))))⟩
 ·exact .inr ⟨em,mO,vv,no,λH2 s2=>(bv _ rfl ⟨T.JF,T.RW⟩ (λea KD=>(ad _ rfl (fin ea _ (s2.trans (aG KD)) (.inr ⟨au,ew⟩)))))⟩
theorem afO:aZ ["script","start","told","table","order","aim","world","tape","pair","drawn","both","turn","line","lower","upper","wrong","other"] ["script"] (aK E7):=bf
theorem afP(T:Txt K mg t):aN P w K mg base bH 12 t.qv t.uR ["script"] (C5 K):=by
 have S:=afO;have afQ:=acK (P:=P) (w:=w) (base:=base) T;refine T.zA.bN S (λ_ _ _ _ H _ _ _ hr h=>?_);intros bv10 h a ns rfl hS hlen kQ;have jc:=hr.units;have hu:=hr.oK
 refine (ad _ (aj (eG de rfl (aa6 rfl T.dW (aa ah (aa (bS (VR rfl) rfl T.Ry boot_max (aa ah (aa (bS (VS rfl) rfl T.Rz boot_min (aa ah (aa (bS eJ rfl T.dI dJ (aa (pv 0) ae)) ae))) ae))) (aa ah ae)))) (b_ (i:=1) S.nd rfl (Or.inl rfl))
   (aj (@il _ _ _ _ _ _ (ay (aeo T) hr T.Q5 T.zp.kp T.Q4 aC (aa (pv 0) (aa (pv 1) ae))) (oC rfl (gc (b_ (i:=2) S.nd rfl (Or.inl rfl)) (gc (b_ (i:=3) S.nd rfl (Or.inl rfl)) (gc (b_ (i:=4) S.nd rfl (Or.inl rfl)) (gc (b_ (i:=5) S.nd rfl (Or.inl rfl)) oB))))) (by rfl) (by rfl) (by rfl))
  (aj (putL 6 S.nd (Wj T.Fo afQ (hr.mono ∅) rfl T.Rq T.Rk .nil j6 (aa (pv 2) ae)))
  (aj (putL 7 S.nd (ay (BG T) hr T.ze T.nO.kp T.zc aC (aa (pv 0) (aa (aD gg (pv 1) ah) ae))))
  (aj (putL 8 S.nd (ay (adW T) hr T.Qx T.yX.kp T.Qw aC (aa (pv 6) (aa (pv 3) (aa (pv 4) ae)))))
  (aj (putL 9 S.nd (ay (afn T) hr T.Ra T.zu.kp T.Q_ aC (aa (pv 2) (aa (pv 7) (aa (pv 4) ae)))))
  (aj (bO (bG rM (pv 8) kJ) (aj (putL 8 S.nd (pv 9))
  (ak (putL 3 S.nd (ay (Ka T) hr T.Fl T.qG.kp T.Fj aC (aa (pv 2) (aa (ao aW (pv 9) ah) (aa (ao aW (pv 9) ah) ae))))))) bQ)
  (aj (bO (lP (iY (ay (KA T) hr T.Fn T.qH.kp T.Fm aC (aa (pv 6) (aa (pv 2) (aa (pv 3) (aa (pv 4) (aa (ao aW (pv 8) ah) (aa (ao aW (pv 8) ah) ae))))))))) (ak (aJ gv)) bQ)
  (aj (putL 10 S.nd (ay (Ka T) hr T.Fl T.qG.kp T.Fj aC (aa (pv 2) (aa (ao aW (pv 9) ah) (aa (ao aW (pv 9) ah) ae)))))
  (aj (bO (lP (iY (ay (KA T) hr T.Fn T.qH.kp T.Fm aC (aa (pv 6) (aa (pv 2) (aa (pv 10) (aa (pv 4) (aa (ao aW (pv 9) ah) (aa (ao aW (pv 9) ah) ae))))))))) (ak (aJ gv)) bQ)
  (aj (eG de rfl (fe rfl T.dW (aa ah ae)) (b_ (i:=11) S.nd rfl (Or.inl rfl))
   (aj (@il _ _ _ _ _ _ (ay (afH T) hr T.Rc T.zw.kp T.Rb aC (aa (pv 2) (aa (pv 7) (aa (pv 4) (aa (ao aW (pv 8) ah) (aa (ao aW (pv 8) ah) ae)))))) (oC rfl (gc (b_ (i:=12) S.nd rfl (Or.inl rfl)) (gc (b_ (i:=13) S.nd rfl (Or.inl rfl)) (gc (b_ (i:=14) S.nd rfl (Or.inl rfl)) oB)))) (by rfl) (by rfl) (by rfl))
  (ak (bO (lP (iY (ay (KA T) hr T.Fn T.qH.kp T.Fm aC (aa (pv 6) (aa (pv 2) (aa (pv 3) (aa (pv 12) (aa (pv 13) (aa (pv 14) ae))))))))) (ak (aJ gv)) bQ))))
  (aj (putL 15 S.nd (ay (afp T) hr T.Rg T.zx.kp T.Rf aC (aa (pv 7) (aa (pv 4) ae))))
  (aj (putL 16 S.nd (ay (afv T) hr T.Ri T.zy.kp T.Rh aC (aa (pv 2) (aa (pv 7) (aa (pv 3) ae)))))
  (aj (eG de rfl (dN (cJ (aa (pv 4) (aa (pv 15) ae)))) (b_ (i:=12) S.nd rfl (Or.inl rfl))
   (ak (bO (bG i3 (ay (Uo T) hr T.Jw T.vj.kp T.Jv aC (aa (pv 6) (aa (pv 16) (aa (pv 12) (aa (ao aW (pv 8) ah) (aa (ao aW (pv 8) ah) ae)))))) dq) (ak (aJ gv)) bQ)))
  (ak (bO (bG i3 (ay (Uo T) hr T.Jw T.vj.kp T.Jv aC (aa (pv 6) (aa (pv 3) (aa (pv 15) (aa (ao aW (pv 8) ah) (aa (ao aW (pv 8) ah) ae)))))) dq) (ak (aJ gv)) bQ))))))))))))))))
  (ak (aJ gv))) ?_)
 refine ax λ_ hR=>(io _ rfl a _ rfl (.inl hS) (ii _ _ rfl (wp _ _ (wE rfl _ _ 4 rfl ⟨∅,∅,∅,∅,?_,?_⟩ ?_))))
 ·split <;> split <;> lia
 ·split <;> split <;> lia
 refine aa7 (λi σ Hc=>∃(v:Nat->Option V),σ=[some (.ref a),v 1,v 2,v 3,v 4,v 5,v 6,v 7,v 8,v 9,v 10,v 11,v 12,v 13,v 14,v 15,v 16]/\af H Hc) (ad (λ_=>none) rfl (af.refl _)) ?_ ?_
 ·intro i σ Hc hi;intros bv2 _ v rfl sc
  have i10:i<=40:=by
   revert hi
   unfold Builtin.Range.rangeSize;rw [aq ∅]
   split
   ·split <;> split <;> lia
   ·lia
  have Up:bM K Hc a (ns.map V.int):=sc.seq hS;dsimp only [ck];have eI:(0:Int)+(i:Int)*4=((4*i:Nat):Int):=by lia
  rw [eI];refine ax λ_ hR=>aP (ad _ rfl (tz _ rfl a ns (4*i) rfl Up ⋯ (λtp td tab od am q n o rt vf av f H1 s1 jb tw hq n1 n6 pc _ _ _ _=>(zn tp _ rfl (.of jb) rfl _ (ww _ rfl _ (ww _ rfl _ (io _ rfl _ _ rfl rfl (hR _ _ ?_))))))))
  have lo:=gN pc.Bb;simp only [vY,vZ];refine ax λ_ hR=>aP (ad _ rfl (λz dz nz Uq ne=>(gt z dz td (nC q) rfl au ?_ (λ_=>⟨rfl,hR _ _ ?_⟩) (λhg=>absurd ((Y_ hq).symm.trans hg) ∅))))
  ·have e:=tw.at
   rw [aH (f_ e nz),aH (f_ e Uq)];exact e
  have s2:af H1 (upd (upd (upd H1 dz (.own z)) z (.ins t.bg dz [])) z (.ins t.bg dz [("prime",(nC q).prime)])):=λb o e=>by rw [aH (f_ e nz),aH (f_ e nz),aH (f_ e Uq)];exact e
  have hz:cP t.bg (upd (upd (upd H1 dz (.own z)) z (.ins t.bg dz [])) z (.ins t.bg dz [("prime",(nC q).prime)])) z q:=⟨dz,by rw [au,Zx]⟩
  generalize (upd (upd (upd H1 dz (.own z)) z (.ins t.bg dz [])) z (.ins t.bg dz [("prime",(nC q).prime)]))=H2 at s2 hz ⊢;have BY:=pc.mono s2;have tw2:=tw.mono s2;have hS2:=(s1.trans s2).seq Up;refine ax λ_ hR=>aP (ad _ rfl (io _ rfl _ _ rfl rfl (re a ns (4*i+3) rfl hS2 ⋯ (λTp H3 s3 nT ku=>hR _ _ ?_))))
  have qT:=BY.mono s3;have tw3:=tw2.mono s3;have Ur:=hz.mono s3;have neT:∀{b:Addr} {o:HO},H2 b=some o->b≠Tp:=fun{b o} e z=>by rw [z,nT] at e;cases e
  have sH2:=s2;have zO:=neT BY.tab.lst;have gP:=neT BY.ord;have mP:∀i,i<n->rt i≠Tp:=λi hi=>neT (BY.tab.at' i hi);have ho:=qT.Bb;have mI:q=0->∀i k,(fX q n f i k).natAbs<=18:=λz=>abv qT.sm z;refine ax λ_ hR=>aP (abg (λx Hx=>af H3 Hx/\IH H3 Hx q (fW n 997) n o (fX q n f) (gC q) x) (λR' Us=>?_) ?_);·exact (ul _ rfl _ rfl _ rfl (Re z tab od q 1000 (fW n 997) n (fq n n f) o (fX q n f) (Rs (gC q) rfl Ur hq qT.abf (by decide +kernel) jE n1 ⋯ xa ⟨qT.ord,qT.Bb,qT.iC hq ⋯,lub (IF qT.sm) lo,λk hk g d Hx sx=>Us _ _ ⟨sx,.no k hk g d rfl⟩,λg fd lw up rl ru lf uf Hx sx fa=>Us _ _ ⟨sx,.yes fd lw up rl ru lf uf g rfl fa⟩⟩)))
  rintro x H4 ⟨s4,out⟩;refine hR _ _ ?_;have pc4:=qT.mono s4;have BJ:=ku.mono s4;have tw4:=tw3.mono s4;have FK:=Ur.mono s4;refine ax λ_ hR=>aP (ul _ rfl _ rfl _ rfl (wp td Tp (sw od q n o rfl tw4 hq BJ gP pc4.ord ⟨ho,⋯,λdr l2 u2 r2 s2 jI jJ H5 o5 BZ TW=>hR _ _ ?_⟩)))
  have zI:=TW.tc;have afU:aI Tp H2 H5:=(aI.of (s3.trans s4)).trans o5;have B0:af H2 H5:=λb u e=>afU b u (neT e) e;have Gg:=BY.mono B0;have tw5:=tw2.mono B0;have Ut:=hz.mono B0;obtain ⟨L2,lH⟩:=sO TW.cl;obtain ⟨U2,lI⟩:=sO TW.cu;have c2:=PN q;have mJ:cY H5 q (dh q) 1000 n l2 r2 jI L2:=⟨TW.wl.r,λi j hi hj=>(lH i j hi hj).1,λi j hi hj=>IW (lH i j hi hj).1 (lH i j hi hj).2 c2.2⟩;have ko:cY H5 q (dh q) 1000 n u2 s2 jJ U2:=⟨TW.wu.r,λi j hi hj=>(lI i j hi hj).1,λi j hi hj=>IW (lI i j hi hj).1 (lI i j hi hj).2 c2.2⟩;have sL:=PV lH;have sU:=PV lI;have xL:=λi j hi hj=>(mJ.up (B':=10 ^ 20) ∅).sM c2.1 (i:=i) (j:=j) hi hj
  have xU:=λi j hi hj=>(ko.up (B':=10 ^ 20) ∅).sM c2.1 (i:=i) (j:=j) hi hj
  have sp:=TW.sp;clear lH lI TW;simp only [vY,vZ];refine ax λR pJ=>?_;have next:∀(C:Int) (pr pA up tb:Addr) (rl ru rk:Nat->Addr) (lf uf vk:Nat->Nat->V) (L U g:Nat->Nat->Int×Int) (Hx:Hp),jH q C->(q=0->6∣C)->af H2 Hx->sQ t.bg Hx q C Tp td z od n o pr pA up tb dr l2 u2 rl ru rk r2 s2 lf uf vk jI jJ L U g L2 U2->R [some (.ref a),some (.int ((4*i:Nat):Int)),some (.ref td),some (.ref tb),some (.ref od),some (.ref am),some (.ref z),some (.ref Tp),some (.ref pr),some (.ref dr),v 10,v 11,v 12,v 13,v 14,v 15,v 16] Hx:=λC pr pA up tb rl ru rk lf uf vk L U g Hx bc h6 Uu kx=>pJ _ _ (by
   have Uv:=kx.low.up (B':=10 ^ 20) ∅
   have Uw:=kx.pz.up (B':=10 ^ 20) ∅
   refine ax λ_ hR=>(ad _ rfl (ul _ rfl _ rfl _ rfl (SC _ rfl pr _ _ _ rfl rfl (.of kx.nK) rfl (SC _ rfl pr _ _ _ rfl rfl (.of kx.nK) rfl (wp z td (SB tb od pA up q C (Re n o rk rl ru vk lf uf g L (Rs U rfl kx.hz kx.tw hq n1 n6 kx.ord ho kx.tab ⟨kx.num,Uv,Uw,bc,λH6 s6=>(ad true rfl (cA (hR _ _ ?_)))⟩))))))));have k6:=kx.mono s6;refine ax λ_ hR=>aP (ad _ rfl (SC _ rfl dr _ _ _ rfl rfl (.of k6.xj) rfl (SC _ rfl dr _ _ _ rfl rfl (.of k6.xj) rfl (SB td l2 u2 q (10 ^ 140) (10 ^ 140) (Re n r2 s2 jI jJ _ _ _ _ _ (Rs _ rfl k6.tw hq k6.mJ.tab k6.ko.tab ⋯ (λi j hi hj=>(k6.mJ.up ∅).mB hq c2.1 hi hj) (λi j hi hj=>(k6.ko.up ∅).mB hq c2.1 hi hj) (λi hi=>IS hq c2.1 xL xU n6 hi) (λD rr pf H7 s7 nD Ux hP wP=>hR _ _ ?_)))))))
   obtain ⟨g2,Gh⟩:=PU hq n6 xL xU sL sU wP;have k7:=k6.mono s7;refine ax λ_ hR=>(ad _ rfl (ul _ rfl _ rfl _ rfl (SC _ rfl dr _ _ _ rfl rfl (.of k7.xj) rfl (SC _ rfl dr _ _ _ rfl rfl (.of k7.xj) rfl (wp z td (SB D od l2 u2 q (dh q) (Re n o rr r2 s2 pf jI jJ g2 L2 (Rs U2 rfl k7.hz k7.tw hq n1 n6 k7.ord ho hP ⟨Gh,k7.mJ.up ∅,k7.ko.up ∅,c2.1,λH8 s8=>(ad true rfl (cA (hR _ _ ?_)))⟩))))))))
   have k8:=k7.mono s8;have S28:=Uu.trans (s6.trans (s7.trans s8));clear k7 k6 kx hP Gh wP Uv Uw s6 s7 s8 Uu;refine ax λ_ hR=>(o0 (3:Int) rfl ∅ ∅ ?_)
   refine lY (n:=3) (λk σ Hd=>∃(w:Nat->Option V),σ=[some (.ref a),some (.int ((4*i:Nat):Int)),some (.ref td),some (.ref tb),some (.ref od),some (.ref am),some (.ref z),some (.ref Tp),some (.ref pr),some (.ref dr),some (.ref D),w 11,w 12,w 13,w 14,v 15,v 16]/\aI Tp H8 Hd/\aY Hd Tp) (bv v rfl (aI.refl _ _) k8.tc) ?_ ?_
   ·intro k σ Hd hk;intros bv4 _ w rfl eK zH
    have kd:=k8.off eK zH;dsimp only [ck];refine ax λ_ hR=>aP (ul _ rfl _ rfl _ rfl (SC _ rfl pr _ _ _ rfl rfl (.of kd.nK) rfl (SC _ rfl pr _ _ _ rfl rfl (.of kd.nK) rfl (Exists.intro td (wn Tp od pA (Re up q C n o rl ru lf uf L (Rs U rfl kd.tw hq kd.tc bc h6 n1 n6 gP ⟨kd.ne.1,kd.ne.2.1,(λi hi=>⟨(kd.nr i hi).1,(kd.nr i hi).2.1⟩),kd.ord,ho,kd.low,kd.pz,λfd vG Kn up3 o2 TC TJ TZ uf3 L3 U3 H9 o9 t9 vq F_ ho2 Kw nu2=>(zn fd _ rfl (.of vq) rfl _ (ww _ rfl _ (io _ rfl _ _ rfl rfl (hR _ _ ?_))))⟩)))))));have k9:=kd.off o9 t9;refine (ul _ rfl _ rfl _ rfl (ul _ rfl _ rfl _ rfl (wp z td (SB tb vG Kn up3 q C (Re n o2 rk TC TJ vk TZ uf3 g L3 (Rs U3 rfl k9.hz k9.tw hq n1 n6 F_ ho2 k9.tab ⟨k9.num,Kw,nu2,bc,λvD Uy=>(ad true rfl (cA ?_))⟩))))));exact ⟨λk=>List.getD [none,none,none,none,none,none,none,none,none,none,none,_,_,_,_] k none,rfl,(eK.trans o9).trans (aI.of Uy),t9.mono Uy⟩
   ·intro σ H9;intros bv4 _ w rfl o9 t9
    refine hR _ _ ?_;have k9:=k8.off o9 t9;refine ax λ_ hR=>aP (u8 _ rfl _ rfl (sw Tp od n o rfl k9.tc gP k9.ord ho n1 ⟨⋯,λwv vD BL Uz UA=>hR _ _ ?_⟩))
    have qU:=k9.off BL Uz;refine ax λ_ hR=>aP (u8 _ rfl _ rfl (ww _ rfl td (SB Tp tb q n rk vk (Rs g rfl qU.tw hq qU.tc qU.tab qU.ne.2.2.1 (λi hi=>(qU.nr i hi).2.2.1) qU.num n1 ⟨⋯,λov nW Gi UB af0=>hR _ _ ?_⟩))))
    have KG:=qU.off Gi UB;have af1:=o9.trans (BL.trans Gi);have q'47:=UA.off Gi;intros bv21 q'47 wl zs rfl wT UC UD wno;intros bv18 af0 ol kk m ra vo fo bv25 rfl oT raT hO nuO k1 k40 mk;clear UA qU k9 k8 o9 BL Gi t9 Uz UB;simp only [vY,vZ];refine ax λ_ hR=>(be _ rfl _ rfl (by show 2<=sizeLine;decide) (λls FH=>(bv ls rfl ⟨_,.of au⟩ ?_)))
    have b6:af nW (upd nW ls (.lst [.ref od,.ref wl])):=aG FH;have UE:upd nW ls (.lst [.ref od,.ref wl]) ls=some (.lst [.ref od,.ref wl]):=au;generalize upd nW ls (.lst [.ref od,.ref wl])=H12 at b6 UE ⊢;refine lX (K:=K) (a:=ls) (xs:=[.ref od,.ref wl]) (λkx σ Hd=>∃(KH:Option V),σ=[some (.ref a),some (.int ((4*i:Nat):Int)),some (.ref td),some (.ref tb),some (.ref od),some (.ref am),some (.ref z),some (.ref Tp),some (.ref pr),some (.ref dr),some (.ref D),w 11,KH,w 13,w 14,some (.ref wl),some (.ref ol)]/\af H12 Hd) (ad _ rfl (af.refl _)) (λkx σ Hd _ ⟨_,_,sd⟩=>.of (sd _ _ UE)) ?_ ?_
    ·intro kx x σ Hd hx;intros bv2 _ KH rfl sd
     obtain ⟨dd,zd,rfl,edd,ldd⟩:∃(dd:Addr) (zd:List Int),x=.ref dd/\nW dd=some (.lst (zd.map V.int))/\zd.length<64:=by
      have:=kA hx;simp only [dB,jP,jQ] at this;rcases this with rfl | rfl;·exact ⟨_,o.map iN,rfl,by rw [KG.ord];unfold bW;rw [gW];rfl,by rw [aR,gN ho];lia⟩
      ·exact (bi _ zs rfl UC UD)
     dsimp only [ck];have qV:=b6.trans sd;have kd:=KG.mono qV;refine (ul _ rfl _ rfl _ rfl (SC _ rfl pr _ _ _ rfl rfl (.of kd.nK) rfl (SC _ rfl pr _ _ _ rfl rfl (.of kd.nK) rfl (Re z ol dd (.ref pA) (.ref up) q 2000 m (fq kk m fo) zd (Rs ("fit") rfl kd.hz hq (xb (hO.mono qV) (λi j hi hj=>(nuO i j hi hj).mono qV)) (by rw [jE];exact k1) (by rw [jE];exact k40) xa (qV _ _ edd) ldd ⟨.inl ⟨by rw [jE];exact mk,rfl⟩,λUG fZ=>(ib rfl false (by decide +kernel) (cA (ad _ rfl (sd.trans fZ))))⟩)))))
    ·intro σ Hd;intros bv2 _ KH rfl sd
     refine hR _ _ ?_;have qV:=b6.trans sd;have kd:=KG.mono qV;refine (ul _ rfl _ rfl _ rfl (SC _ rfl pr _ _ _ rfl rfl (.of kd.nK) rfl (SC _ rfl pr _ _ _ rfl rfl (.of kd.nK) rfl (Re z tb wl (.ref pA) (.ref up) q 2000 n (fq n n g) zs (Rs ("order") rfl kd.hz hq (xb kd.tab kd.num) (by rw [jE];exact n1) (by rw [jE];lia) xa (qV _ _ UC) UD ⟨.inr ⟨jE.symm,wno,rfl⟩,λUG fZ=>(ib rfl false (by decide +kernel) (cA ?_))⟩)))))
     have S2d:af H2 UG:=λb u e=>fZ _ _ (qV _ _ (af1 b u (neT e) (S28 _ _ e)));exact (ad (λk=>List.getD [none,_,_,_,_,_,_,_,_,_,_,_,_,_,_,_,_] k none) rfl (sc.trans (s1.trans (sH2.trans S2d)))))
  cases out with
  | no k hk g d ev=>
   subst ev;refine (ce _ rfl rfl true (by simp) (gj ?_))
   refine ax λ_ hR=>aP (ad _ rfl (hR _ _ ?_));refine aP (ad _ rfl (SC _ rfl dr _ _ _ rfl rfl (.of BZ) rfl (SC _ rfl dr _ _ _ rfl rfl (.of BZ) rfl (SB td l2 u2 q (10 ^ 140) (10 ^ 140) (Re n r2 s2 jI jJ _ _ _ _ _ (Rs _ rfl tw5 hq mJ.tab ko.tab ⋯ (λi j hi hj=>(mJ.up ∅).mB hq c2.1 hi hj) (λi j hi hj=>(ko.up ∅).mB hq c2.1 hi hj) (λi hi=>IS hq c2.1 xL xU n6 hi) (λD rr pf H6 s6 nD Ux hP wP=>?_)))))))
   obtain ⟨g2,Gh⟩:=PU hq n6 xL xU sL sU wP;exact next (dh q) dr l2 u2 D r2 s2 rr jI jJ pf L2 U2 g2 H6 c2.1 c2.2 (B0.trans s6) ⟨zI.mono s6,tw5.mono s6,Ut.mono s6,s6 _ _ Gg.ord,gP,s6 _ _ BZ,s6 _ _ BZ,(mJ.mono s6).up ∅,(ko.mono s6).up ∅,mJ.mono s6,ko.mono s6,hP,Gh,⟨sp.lT,sp.uT,zI.ne nD,sp.lT,sp.uT⟩,λi hi=>⟨sp.sN i hi,sp.xh i hi,zI.ne (Ux i hi),sp.sN i hi,sp.xh i hi⟩⟩
  | yes fd lw up rl ru lf uf gd ev fa=>
   subst ev;obtain ⟨bC,C6⟩:=ace hq ho gd n6 mI;obtain ⟨L,hL⟩:=sO (acf ho n6 mI fa.wl);obtain ⟨U,hU⟩:=sO (acg ho n6 mI fa.wu);have lT:=ku.ne fa.new.2.1;have uT:=ku.ne fa.new.2.2.1;have rT:=λi hi=>(⟨ku.ne (fa.new.2.2.2 i hi).1,ku.ne (fa.new.2.2.2 i hi).2⟩:rl i≠Tp/\ru i≠Tp);have low:cY H4 q (nJ q (fX q n f) o n) (10 ^ 16) n lw rl lf L:=⟨fa.low,λi j hi hj=>(hL i j hi hj).1,λi j hi hj=>(hL i j hi hj).2⟩;have pz:cY H4 q (nJ q (fX q n f) o n) (10 ^ 16) n up ru uf U:=⟨fa.pz,λi j hi hj=>(hU i j hi hj).1,λi j hi hj=>(hU i j hi hj).2⟩;refine (ce _ rfl rfl false (by simp) (cA ?_))
   exact next (nJ q (fX q n f) o n) fd lw up tab rl ru rt lf uf vf L U f H5 bC C6 B0 ⟨zI,tw5,Ut,Gg.ord,gP,o5 _ _ (tup_ne BJ fa.tup) fa.tup,BZ,low.cF BJ o5 lT λi hi=>(rT i hi).1,pz.cF BJ o5 uT λi hi=>(rT i hi).2,mJ,ko,Gg.tab.r,λi j hi hj=>(Gg.num i j hi hj).up ∅,⟨lT,uT,zO,sp.lT,sp.uT⟩,λi hi=>⟨(rT i hi).1,(rT i hi).2,mP i hi,sp.sN i hi,sp.xh i hi⟩⟩
 ·rintro σ Hc ⟨v,rfl,sc⟩
  exact hR _ _ (kQ _)
theorem af9{l:PySem.W.OpenLaw}(T:Txt K mg t):∃fd:FuncData,(∀(s:Shared) (v:Value),BindsTo s fd ⟨[v],[]⟩ [("script",v)])/\∀base:Heap,K.In base->base.Ns mainGlobals mg->aN l.prog w K mg base bH 12 t.qv fd ["script"] (C5 K):=by have q'48:=T.zA.ex;intros bv5 q'48 oc od kV bv28 doc pm an bh ct gH e lk gG;refine ⟨t.uR,λs v=>?_,λbase _ _=>afP T⟩;rw [e];exact .of_eq rfl
end
theorem walk{l:PySem.W.OpenLaw}{q:Program}{loose:List Str}{XP:(Str->Option Value)->Heap->Prop}{YP:World->Heap->Prop}{d:DefRec}{K:Params->PySem.W.Frag}(hn:l.most=some 63)(AG:d.params.defaults=[])
  (hY:∀(w:World) (h:Heap),YP w h->(K w.params).In h)
  (F:∀(w:World) (mg:cU) (fa:Addr) (h:Heap),(K w.params).In h->h.Ns mainGlobals mg->mg d.name=some (.ref fa)->
   ∃fd:FuncData,(∀(s:Shared) (u:Value),BindsTo s fd ⟨[u],[]⟩ [("script",u)])/\∀base:Heap,(K w.params).In base->base.Ns mainGlobals mg->aN l.prog w (K w.params) mg base bH 12 fa fd ["script"] (C5 (K w.params))) :
  PySem.W.WalkO q loose XP YP l.row.toRowW d [] (λf vs=>PySem.call f vs):=
 L2.W9 (n:=63) (k:=12) (x:="script") (CX:=λ_=>bH) (sp:=λw=>C5 (K w.params)) hn ∅ AG ⟨rfl,∅,∅⟩ hY F (λ_ _ a ns hl _ hS=>(f8 a ns rfl hS hl (λ_=>rfl))) λ_ _ _ _ _ z=>z
theorem af_{K:aE}{h:Heap}{mg:cU}(X:K.In h)(G:h.Ns mainGlobals mg)
  {bg:Addr}
  {mK:Addr}
  {iD:Addr}
  {nM:Addr}
  {bV:Addr}
  {qw:Addr}
  {bZ:Addr}
  {qx:Addr}
  {qy:Addr}
  {qz:Addr}
  {pB:Addr} {aga UH:Option Addr} {agb:Array (Option Value)} {agc UI UJ UK KI UL:Value}
  {KJ:Addr} {agd:Tok} {age:Value} {agf:Option Addr} {agg:Nat} {agh:Array (Option Value)}
  {agi:Tok}
  {agj:Tok}
  {qt sS sW sX qu sZ s_ tj tu tD tE tG tH tI tJ tK tL tM tN tO tP tQ tR tS tT tU tV tW tX tY tZ t8 t_ ua ub uc ud ue ug uh uj um uo ur uu uv uw ux uy uz uA uB uC uD uE uF uH uI uJ uK uM uN uO uP uQ qv uS uV uW uX uY:Addr} {sR xk xl xn sY xo xp xq xr xt xu xv xw xx xy xA xB xD xE xG xH xI xJ xK xM xN xO xP xQ xR xS xT xV xW xX xY xZ x4 x5 x8 x9 x_ ya yb yc yd ye yf yg yh yi yj yk yl ym yo yq yr yt yu yv yw yy yz yA uR yB yC yE yF yG:FuncData}
  (KN:PySem.W.nsIn K mainGlobals "World"=some (some (.ref bg)))
  (KO:PySem.W.nsIn K mainGlobals "NoWorld"=some (some (.ref mK)))
  (KP:PySem.W.nsIn K mainGlobals "NoOver"=some (some (.ref iD)))
  (KQ:PySem.W.nsIn K mainGlobals "WrightError"=some (some (.ref nM)))
  (KR:PySem.W.nsIn K mainGlobals "NoFit"=some (some (.ref bV)))
  (KS:PySem.W.nsIn K mainGlobals "NoShape"=some (some (.ref qw)))
  (KU:PySem.W.nsIn K mainGlobals "NoOrder"=some (some (.ref bZ)))
  (KW:PySem.W.nsIn K mainGlobals "NoSize"=some (some (.ref qx)))
  (KY:PySem.W.nsIn K mainGlobals "NoLink"=some (some (.ref qy)))
  (KZ:PySem.W.nsIn K mainGlobals "Tied"=some (some (.ref qz)))
  (agk:mg "width"=some (.ref qt))
  (nN:aA K "width" DU qt sR)
  (agl:mg "square_size"=some (.ref sS))
  (uZ:aA K "square_size" DV sS xk)
  (agm:mg "has_size"=some (.ref sW))
  (u3:aA K "has_size" DW sW xl)
  (agn:mg "column"=some (.ref sX))
  (u4:aA K "column" DX sX xn)
  (ago:mg "columns"=some (.ref qu))
  (u5:aA K "columns" DY qu sY)
  (agp:mg "sum_of_wholes"=some (.ref sZ))
  (yH:aA K "sum_of_wholes" DZ sZ xo)
  (agq:mg "sums_of_wholes"=some (.ref s_))
  (yI:aA K "sums_of_wholes" D3 s_ xp)
  (agr:mg "all_as_wholes"=some (.ref tj))
  (yJ:aA K "all_as_wholes" D4 tj xq)
  (ags:mg "paired_sums"=some (.ref tu))
  (yK:aA K "paired_sums" D5 tu xr)
  (agt:mg "product"=some (.ref tD))
  (yL:aA K "product" D6 tD xt)
  (agu:mg "is_whole"=some (.ref tE))
  (u6:aA K "is_whole" D7 tE xu)
  (agv:mg "common_divisor"=some (.ref tG))
  (mL:aA K "common_divisor" D8 tG xv)
  (agw:mg "is_prime"=some (.ref tH))
  (yM:aA K "is_prime" D9 tH xw)
  (agx:mg "links_of_place"=some (.ref tI))
  (yN:aA K "links_of_place" D_ tI xx)
  (agy:mg "shape_of"=some (.ref tJ))
  (yO:aA K "shape_of" Ea tJ xy)
  (agz:mg "neighbours"=some (.ref tK))
  (yP:aA K "neighbours" Eb tK xA)
  (agA:mg "is_order"=some (.ref tL))
  (yQ:aA K "is_order" Ec tL xB)
  (agB:mg "check_order"=some (.ref tM))
  (u_:aA K "check_order" Ed tM xD)
  (agC:mg "turns_of"=some (.ref tN))
  (qA:aA K "turns_of" Ee tN xE)
  (agD:mg "link_all"=some (.ref tO))
  (yR:aA K "link_all" Ef tO xG)
  (agE:mg "later"=some (.ref tP))
  (yS:aA K "later" Eg tP xH)
  (agF:mg "undo_place"=some (.ref tQ))
  (yT:aA K "undo_place" Eh tQ xI)
  (agG:mg "packed"=some (.ref tR))
  (yU:aA K "packed" Ei tR xJ)
  (agH:mg "lower_row"=some (.ref tS))
  (yV:aA K "lower_row" Ej tS xK)
  (agI:mg "upper_row"=some (.ref tT))
  (yW:aA K "upper_row" Ek tT xM)
  (agJ:mg "lower_of"=some (.ref tU))
  (vb:aA K "lower_of" El tU xN)
  (agK:mg "upper_of"=some (.ref tV))
  (vc:aA K "upper_of" Em tV xO)
  (agL:mg "factors"=some (.ref tW))
  (yX:aA K "factors" Eo tW xP)
  (agM:mg "are_factors"=some (.ref tX))
  (vd:aA K "are_factors" Ep tX xQ)
  (agN:mg "ratio"=some (.ref tY))
  (yY:aA K "ratio" Er tY xR)
  (agO:mg "ratio_plus"=some (.ref tZ))
  (yZ:aA K "ratio_plus" Es tZ xS)
  (agP:mg "ratio_minus"=some (.ref t8))
  (y4:aA K "ratio_minus" Et t8 xT)
  (agQ:mg "ratio_times"=some (.ref t_))
  (qB:aA K "ratio_times" Eu t_ xV)
  (agR:mg "ratio_over"=some (.ref ua))
  (y6:aA K "ratio_over" Ew ua xW)
  (agS:mg "one_bottom"=some (.ref ub))
  (y7:aA K "one_bottom" Ex ub xX)
  (agT:mg "remainder_back"=some (.ref uc))
  (y8:aA K "remainder_back" Ey uc xY)
  (agU:mg "remainder_over"=some (.ref ud))
  (ve:aA K "remainder_over" Ez ud xZ)
  (agV:mg "is_fractions"=some (.ref ue))
  (y_:aA K "is_fractions" EA ue x4)
  (agW:mg "is_wheel"=some (.ref ug))
  (za:aA K "is_wheel" EB ug x5)
  (agX:mg "_law_acell"=some (.ref uh))
  (zb:aA K "_law_acell" EC uh x8)
  (agY:mg "_law_atape"=some (.ref uj))
  (nO:aA K "_law_atape" ED uj x9)
  (agZ:mg "_law_adigit"=some (.ref um))
  (ee:aA K "_law_adigit" EE um x_)
  (ag0:mg "_law_adivisor"=some (.ref uo))
  (zf:aA K "_law_adivisor" EG uo ya)
  (ag1:mg "_law_aturned"=some (.ref ur))
  (zg:aA K "_law_aturned" EH ur yb)
  (ag2:mg "_law_anumber"=some (.ref uu))
  (lB:aA K "_law_anumber" EI uu yc)
  (ag3:mg "_law_aplus"=some (.ref uv))
  (vg:aA K "_law_aplus" EJ uv yd)
  (ag4:mg "_law_atimes"=some (.ref uw))
  (zh:aA K "_law_atimes" EK uw ye)
  (ag5:mg "_law_aworld"=some (.ref ux))
  (zi:aA K "_law_aworld" EL ux yf)
  (ag6:mg "_law_asome"=some (.ref uy))
  (kq:aA K "_law_asome" EM uy yg)
  (ag7:mg "_law_anought"=some (.ref uz))
  (lC:aA K "_law_anought" EN uz yh)
  (ag8:mg "_law_atable"=some (.ref uA))
  (zk:aA K "_law_atable" EO uA yi)
  (ag9:mg "_law_alinks"=some (.ref uB))
  (zl:aA K "_law_alinks" ER uB yj)
  (ag_:mg "_law_aorder"=some (.ref uC))
  (vh:aA K "_law_aorder" ES uC yk)
  (aha:mg "_law_arow"=some (.ref uD))
  (vi:aA K "_law_arow" ET uD yl)
  (ahb:mg "_law_acarried"=some (.ref uE))
  (zm:aA K "_law_acarried" EU uE ym)
  (ahc:mg "_law_apiece"=some (.ref uF))
  (zp:aA K "_law_apiece" EV uF yo)
  (ahe:mg "_law_akind"=some (.ref uH))
  (zq:aA K "_law_akind" EW uH yq)
  (ahf:mg "_law_aproduct"=some (.ref uI))
  (qG:aA K "_law_aproduct" EX uI yr)
  (ahg:mg "_law_aare_factors"=some (.ref uJ))
  (zt:aA K "_law_aare_factors" EY uJ yt)
  (ahh:mg "_law_aform"=some (.ref uK))
  (zu:aA K "_law_aform" EZ uK yu)
  (ahi:mg "_law_aother"=some (.ref uM))
  (zw:aA K "_law_aother" E1 uM yv)
  (ahj:mg "_law_asaid"=some (.ref uN))
  (qH:aA K "_law_asaid" E3 uN yw)
  (ahk:mg "_law_abad_order"=some (.ref uO))
  (zx:aA K "_law_abad_order" E4 uO yy)
  (ahl:mg "_law_abad_table"=some (.ref uP))
  (zy:aA K "_law_abad_table" E5 uP yz)
  (ahm:mg "_law_arefused"=some (.ref uQ))
  (vj:aA K "_law_arefused" E6 uQ yA)
  (ahn:mg "law"=some (.ref qv))
  (zA:aA K "law" E7 qv uR)
  (Fo:Mk K bg uS)
  (Bm:fg K "__init__" "World.__init__" E8 uS yB)
  (K6:PySem.W.findIn K (.ref bg) "of"=some (some (.ref pB)))
  (K7:PySem.W.isFn K (.ref pB)=true)
  (zR:K.lookup pB=some ⟨agc,aga,.func (PySem.W.fnOf "of" "World.of" (j4 lA) (g8 lA) (aK lA) (.ref KJ) UI UJ UK UH KI UL),agb⟩)
  (zS:PySem.W.codeIn K KI "World.of"=true)
  (vH:PySem.W.keepIn K (.ref pB)=true)
  (zT:K.lookup KJ=some ⟨age,agf,.seq #[.int 1 agd] agg,agh⟩)
  (Fp:Meth K bg "minus" uV)
  (Bp:fg K "minus" "World.minus" E9 uV yC)
  (Fq:Meth K bg "times" uW)
  (Bq:fg K "times" "World.times" E_ uW yE)
  (Fs:Meth K bg "over" uX)
  (Br:fg K "over" "World.over" Fb uX yF)
  (Bt:Meth K bg "as_wholes" uY)
  (Bs:fg K "as_wholes" "World.as_wholes" Fe uY yG)
  (K8:PySem.W.plainGet K bg Str.empty=true)
  (K9:PySem.W.hasDictIn K bg=true)
  (K_:PySem.W.plainOver K bg=true)
  (La:PySem.W.findIn K (.ref bg) "__setattr__"=some (some (.builtin "object.__setattr__")))
  (Lb:PySem.W.findIn K (.ref bg) "prime"=some none)
  (Lc:PySem.W.nsIn K mainGlobals "ValueError"=some none)
  (Ld:PySem.W.nsIn K mainGlobals "abs"=some none)
  (Le:PySem.W.nsIn K mainGlobals "all"=some none)
  (Lf:PySem.W.nsIn K mainGlobals "any"=some none)
  (Lg:PySem.W.nsIn K mainGlobals "bool"=some none)
  (Lh:PySem.W.nsIn K mainGlobals "enumerate"=some none)
  (Li:PySem.W.nsIn K mainGlobals "int"=some none)
  (Lj:PySem.W.nsIn K mainGlobals "isinstance"=some none)
  (Ll:PySem.W.nsIn K mainGlobals "len"=some none)
  (Lm:PySem.W.nsIn K mainGlobals "list"=some none)
  (Ln:PySem.W.nsIn K mainGlobals "max"=some none)
  (Lo:PySem.W.nsIn K mainGlobals "min"=some none)
  (Lp:PySem.W.nsIn K mainGlobals "range"=some none)
  (Lq:PySem.W.nsIn K mainGlobals "reversed"=some none)
  (Lr:PySem.W.nsIn K mainGlobals "sorted"=some none)
  (Ls:PySem.W.nsIn K mainGlobals "sum"=some none)
  (Lu:PySem.W.nsIn K mainGlobals "tuple"=some none)
  (Lv:PySem.W.nsIn K mainGlobals "zip"=some none)
  (Lw:PySem.W.nsIn K mainGlobals "GREATEST_PRIME"=some (some (.int 997 agi)))
  (Lx:PySem.W.nsIn K mainGlobals "LONG"=some (some (.int 2048 agj)))
  (Ly:PySem.W.excIn K mK [.type "ValueError",.type "Exception",.type "BaseException",.type "object"] "ValueError.__new__"=true)
  (Lz:PySem.W.excIn K iD [.type "ValueError",.type "Exception",.type "BaseException",.type "object"] "ValueError.__new__"=true)
  (LB:PySem.W.excIn K bV [.type "ValueError",.type "Exception",.type "BaseException",.type "object"] "ValueError.__new__"=true)
  (LC:PySem.W.excIn K bZ [.type "ValueError",.type "Exception",.type "BaseException",.type "object"] "ValueError.__new__"=true)
  (LD:PySem.W.excIn K nM [.type "ValueError",.type "Exception",.type "BaseException",.type "object"] "ValueError.__new__"=true)
  (LF:PySem.W.mroIn K bV (.ref nM)=some true)
  (LH:PySem.W.kitOne K (.ref bV) (.type "ValueError")=some true)
  (LI:PySem.W.kitOne K (.ref bV) (.ref mK)=some false)
  (LJ:PySem.W.kitOne K (.ref bV) (.ref iD)=some false)
  (LK:PySem.W.kitOne K (.ref bV) (.ref bV)=some true)
  (LL:PySem.W.kitOne K (.ref bV) (.ref qw)=some false)
  (LM:PySem.W.kitOne K (.ref bV) (.ref bZ)=some false)
  (LN:PySem.W.kitOne K (.ref bV) (.ref qx)=some false)
  (LO:PySem.W.kitOne K (.ref bV) (.ref qy)=some false)
  (LP:PySem.W.kitOne K (.ref bV) (.ref qz)=some false)
  (LQ:PySem.W.hasDictIn K bV=true)
  (LR:PySem.W.findIn K (.ref bV) "__getattribute__"=some (some (.builtin "BaseException.__getattribute__")))
  (LS:PySem.W.findIn K (.ref bV) "__getattr__"=some none)
  (LU:PySem.W.findIn K (.ref bV) "__class__"=some (some (.builtin "object.__class__")))
  (LV:PySem.W.mroIn K bV (.type "object")=some true)
  (LW:PySem.W.mroIn K bV (.type "BaseException")=some true)
  (LX:PySem.W.mroIn K bZ (.ref nM)=some true)
  (LY:PySem.W.kitOne K (.ref bZ) (.type "ValueError")=some true)
  (LZ:PySem.W.kitOne K (.ref bZ) (.ref mK)=some false)
  (L0:PySem.W.kitOne K (.ref bZ) (.ref iD)=some false)
  (L4:PySem.W.kitOne K (.ref bZ) (.ref bV)=some false)
  (L5:PySem.W.kitOne K (.ref bZ) (.ref qw)=some false)
  (L6:PySem.W.kitOne K (.ref bZ) (.ref bZ)=some true)
  (L7:PySem.W.kitOne K (.ref bZ) (.ref qx)=some false)
  (L8:PySem.W.kitOne K (.ref bZ) (.ref qy)=some false)
  (L_:PySem.W.kitOne K (.ref bZ) (.ref qz)=some false)
  (Ma:PySem.W.hasDictIn K bZ=true)
  (Mb:PySem.W.findIn K (.ref bZ) "__getattribute__"=some (some (.builtin "BaseException.__getattribute__")))
  (Mc:PySem.W.findIn K (.ref bZ) "__getattr__"=some none)
  (Me:PySem.W.findIn K (.ref bZ) "__class__"=some (some (.builtin "object.__class__")))
  (Mf:PySem.W.mroIn K bZ (.type "object")=some true)
  (Mg:PySem.W.mroIn K bZ (.type "BaseException")=some true)
  : ∃t:Bh,Txt K mg t:=by
 refine ⟨⟨qt,sR,sS,xk,sW,xl,sX,xn,qu,sY,sZ,xo,s_,xp,tj,xq,tu,xr,tD,xt,tE,xu,tG,xv,tH,xw,tI,xx,tJ,xy,tK,xA,tL,xB,tM,xD,tN,xE,tO,xG,tP,xH,tQ,xI,tR,xJ,tS,xK,tT,xM,tU,xN,tV,xO,tW,xP,tX,xQ,tY,xR,tZ,xS,t8,xT,t_,xV,ua,xW,ub,xX,uc,xY,ud,xZ,ue,x4,ug,x5,uh,x8,uj,x9,um,x_,uo,ya,ur,yb,uu,yc,uv,yd,uw,ye,ux,yf,uy,yg,uz,yh,uA,yi,uB,yj,uC,yk,uD,yl,uE,ym,uF,yo,uH,yq,uI,yr,uJ,yt,uK,yu,uM,yv,uN,yw,uO,yy,uP,yz,uQ,yA,qv,uR,uS,yB,pB,PySem.W.fnOf "of" "World.of" (j4 lA) (g8 lA) (aK lA) (.ref KJ) UI UJ UK UH KI UL,uV,yC,uW,yE,uX,yF,uY,yG,bg,mK,iD,nM,bV,qw,bZ,qx,qy,qz⟩,?_⟩
 exact {
  nN:=nN
  Bk:=nN.bj
  Bl:=agk
  uZ:=uZ
  IZ:=uZ.bj
  I0:=agl
  u3:=u3
  I_:=u3.bj
  Ja:=agm
  u4:=u4
  Jb:=u4.bj
  Jc:=agn
  u5:=u5
  PX:=u5.bj
  PY:=ago
  yH:=yH
  PZ:=yH.bj
  P0:=agp
  yI:=yI
  P1:=yI.bj
  P4:=agq
  yJ:=yJ
  P5:=yJ.bj
  P6:=agr
  yK:=yK
  P7:=yK.bj
  P8:=ags
  yL:=yL
  P9:=yL.bj
  P_:=agt
  u6:=u6
  Jd:=u6.bj
  Je:=agu
  mL:=mL
  u7:=mL.bj
  u9:=agv
  yM:=yM
  Qa:=yM.bj
  Qb:=agw
  yN:=yN
  Qc:=yN.bj
  Qd:=agx
  yO:=yO
  Qe:=yO.bj
  Qf:=agy
  yP:=yP
  Qg:=yP.bj
  Qh:=agz
  yQ:=yQ
  Qi:=yQ.bj
  Qj:=agA
  u_:=u_
  Jf:=u_.bj
  Jg:=agB
  qA:=qA
  Ff:=qA.bj
  Fg:=agC
  yR:=yR
  Qk:=yR.bj
  Ql:=agD
  yS:=yS
  Qm:=yS.bj
  Qn:=agE
  yT:=yT
  Qo:=yT.bj
  Qp:=agF
  yU:=yU
  Qq:=yU.bj
  Qr:=agG
  yV:=yV
  Qs:=yV.bj
  Qt:=agH
  yW:=yW
  Qu:=yW.bj
  Qv:=agI
  vb:=vb
  Jh:=vb.bj
  Ji:=agJ
  vc:=vc
  Jj:=vc.bj
  Jk:=agK
  yX:=yX
  Qw:=yX.bj
  Qx:=agL
  vd:=vd
  Jl:=vd.bj
  Jm:=agM
  yY:=yY
  Qy:=yY.bj
  Qz:=agN
  yZ:=yZ
  QA:=yZ.bj
  QB:=agO
  y4:=y4
  QC:=y4.bj
  QD:=agP
  qB:=qB
  Fh:=qB.bj
  Fi:=agQ
  y6:=y6
  QE:=y6.bj
  QF:=agR
  y7:=y7
  QG:=y7.bj
  QH:=agS
  y8:=y8
  QI:=y8.bj
  QJ:=agT
  ve:=ve
  Jn:=ve.bj
  Jo:=agU
  y_:=y_
  QK:=y_.bj
  QL:=agV
  za:=za
  QM:=za.bj
  QN:=agW
  zb:=zb
  QO:=zb.bj
  QP:=agX
  nO:=nO
  zc:=nO.bj
  ze:=agY
  ee:=ee
  fK:=ee.bj
  fL:=agZ
  zf:=zf
  QQ:=zf.bj
  QR:=ag0
  zg:=zg
  QS:=zg.bj
  QT:=ag1
  lB:=lB
  qC:=lB.bj
  qD:=ag2
  vg:=vg
  Jp:=vg.bj
  Jq:=ag3
  zh:=zh
  QU:=zh.bj
  QV:=ag4
  zi:=zi
  QW:=zi.bj
  QX:=ag5
  kq:=kq
  pE:=kq.bj
  pF:=ag6
  lC:=lC
  qE:=lC.bj
  qF:=ag7
  zk:=zk
  QY:=zk.bj
  QZ:=ag8
  zl:=zl
  Q0:=zl.bj
  Q1:=ag9
  vh:=vh
  Jr:=vh.bj
  Js:=ag_
  vi:=vi
  Jt:=vi.bj
  Ju:=aha
  zm:=zm
  Q2:=zm.bj
  Q3:=ahb
  zp:=zp
  Q4:=zp.bj
  Q5:=ahc
  zq:=zq
  Q6:=zq.bj
  Q7:=ahe
  qG:=qG
  Fj:=qG.bj
  Fl:=ahf
  zt:=zt
  Q8:=zt.bj
  Q9:=ahg
  zu:=zu
  Q_:=zu.bj
  Ra:=ahh
  zw:=zw
  Rb:=zw.bj
  Rc:=ahi
  qH:=qH
  Fm:=qH.bj
  Fn:=ahj
  zx:=zx
  Rf:=zx.bj
  Rg:=ahk
  zy:=zy
  Rh:=zy.bj
  Ri:=ahl
  vj:=vj
  Jv:=vj.bj
  Jw:=ahm
  zA:=zA
  acx:=zA.bj
  Rj:=ahn
  Bm:=Bm
  Rk:=Bm.bj
  Fo:=Fo
  Rl:=(C9 (st:=lA) (i:=1) zR zS vH zT)
  Rm:=j_.binds (ps:=["self","top","bottom"]) (C9 (st:=lA) (i:=1) zR zS vH zT) λs dT kV doc pm an bh ct tk o n us ho hd hl=>match us,hl with | [_,_,_],_=>.of_defaults rfl ho hd rfl rfl
  Bn:=j_.Yt (ps:=["self","top","bottom"]) (C9 (st:=lA) (i:=1) zR zS vH zT) λs dT kV doc pm an bh ct tk o n us ho hd hl=>match us,hl with | [_,_],_=>.of_defaults rfl ho hd rfl rfl
  acy:=j_.Yu (ps:=["self","top","bottom"]) (y:="bottom") (C9 (st:=lA) (i:=1) zR zS vH zT) λs dT kV doc pm an bh ct tk o n us ws ho hd hw hl=>match ws,us,hw,hl with | [_],[_,_],_,_=>.of_defaults rfl ho hd rfl rfl
  vm:=⟨K6,K7,vH⟩
  Bp:=Bp
  Rn:=Bp.bj
  Fp:=Fp
  Bq:=Bq
  Ro:=Bq.bj
  Fq:=Fq
  Br:=Br
  Rp:=Br.bj
  Fs:=Fs
  Bs:=Bs
  Jx:=Bs.bj
  Bt:=Bt
  e8:=⟨K8,K9,K_,La⟩
  Rq:=a8 X G KN
  jK:=Lb
  Jy:=a8 X G KO
  Bu:=a8 X G KP
  Rr:=a8 X G KQ
  zB:=a8 X G KR
  Rt:=a8 X G KS
  Jz:=a8 X G KU
  Ru:=a8 X G KW
  Rv:=a8 X G KY
  Rw:=a8 X G KZ
  Rx:=gX X G Lc
  Fu:=gX X G Ld
  JA:=gX X G Le
  JB:=gX X G Lf
  JD:=gX X G Lg
  vn:=gX X G Lh
  Bv:=gX X G Li
  iT:=gX X G Lj
  dI:=gX X G Ll
  nQ:=gX X G Lm
  Ry:=gX X G Ln
  Rz:=gX X G Lo
  dW:=gX X G Lp
  acz:=gX X G Lq
  JE:=gX X G Lr
  RA:=gX X G Ls
  Fv:=gX X G Lu
  RB:=gX X G Lv
  RC:=⟨_,a8 X G Lw,_,rfl⟩
  RD:=⟨_,a8 X G Lx,_,rfl⟩
  RE:=Ly
  Fw:=Lz
  zC:=LB
  JF:=LC
  RF:=LD
  RG:=LF
  RH:=LH
  RI:=LI
  RJ:=LJ
  RK:=LK
  RL:=LL
  RM:=LM
  RN:=LN
  RO:=LO
  RP:=LP
  RQ:=LQ
  RR:=LR
  RS:=LS
  RT:=LU
  RU:=LV
  RV:=LW
  RW:=LX
  RX:=LY
  RY:=LZ
  RZ:=L0
  R0:=L4
  R5:=L5
  R6:=L6
  R7:=L7
  R8:=L8
  R9:=L_
  R_:=Ma
  Sa:=Mb
  Sb:=Mc
  Sd:=Me
  Se:=Mf
  Sf:=Mg
 }
end My
inductive PySem.W.Fast|tw10357843073023356456|tw15399608449594252031|tw725598705800370237|tw5447006826782165046|tw15946564872578156070|tw16029730410422836826|tw10785067876334085342|tw14257746258127631028|tw10399942362754184894|tw2745996342575147070|tw13490550091076855243|tw3874550935999791527|tw13046571843885983692|tw16109105773992231990|tw3783404883914764126|tw15057194485587042561|tw6331375775642981522|tw8724620440836295548|tw14004812541222505022|tw439469263962639058|tw6355764053514522801|tw9849446122370243805|tw1736221109114203973|tw13083773594654293504|tw3052582129619728654|tw16569876279456220903|tw4814961765005015341|tw14577738230827196867|tw4928781155058657927|tw574603678060965418|tw10058305484776555535|tw3047406918935924740|tw1269749596952058101|tw16810062958863146580|tw13354594216318524750|tw17752178959074677654|tw9593127126499589366|tw404143735788372976|tw8300883059988675046|tw7798849799779831333|tw3508629863724719965|tw12796932142329775061|tw10268972703401950388|tw7786413761939770693|tw8938091636457484696|tw10922314545588136111|tw7962410845683348458|tw11617041438197952926|tw11910047233789898363|tw15371212818482470713|tw8839264114146603493|tw16126594663223156504|tw9091478324581356304|tw14192958754380653438|tw16699878129814960784|tw12501369401932618475|tw18035548883408382158|tw14472601558243209901|tw16051078315117815077|tw8154002382421584577|tw186438228879643041|tw16964392168442423517|tw7065919803523567092|tw750844693509452823|tw1219851044290550604|tw980406264422363354|tw929059278236925441|tw5271040250875487393|tw8578716649842963135|tw5258916297765614425|tw13009272969666352729|tw1286198849815826680|tw4692970084435848186|tw4732835846119684584|tw2569362784227566792|tw6484443884675886639|tw16993248420215588489|tw4906930763926011833|tw10426849599702880827|tw2210998805922605411|tw5669135788570545022|tw12665110675271995653|tw894055171307539570|tw9882334903153583203|tw4378600236379373599|tw2480805239257250992|tw3091540933277737592|tw16653082169085840967|tw3952886614913622983|tw16834848701674967980|tw16921593275034980990|tw6665860881765526799|tw8074056731624729595|tw350923839381868385|tw8193668413961590174|tw13099976940526163993|tw2858142479519569115|tw10207780497056482632|tw9315142278679720215|tw767922552854837540|tw1143891639679711593|tw9615308395540868259|tw4816930096348692365|tw5096710548672316821|tw2733101135836658668|tw15710169767425020574|tw155818814442469641|tw1095408909775733811|tw7246953928399791384|tw4733770521178709130|tw12205725469303815926|tw17855732207812980885|tw17610351422031545971|tw15780087965963145069|tw6096438668825372850|tw15492927842332141174|tw11475536278604617716|tw1637501351669357562|tw15761818044920999825|tw6981205420448639083|tw2459658352871363469|tw7486837244656007195|tw3258698354929000334|tw15271591607316442202|tw15206764404298419833|tw16992942048369062572|tw9478701714305138400|tw1246320487921272921|tw10657687284935851270|tw1081720646560826463|tw5194367359623055626|tw14014522964033053843|tw5548779545941351478|tw17174689301432722670|tw15489833180447740253|tw18311512373079533666|tw6672684104745942220|tw11232793527328706274|tw10366218538508902675|tw12903658308236068970|tw1583516355645275519|tw6473242789966405673|tw15846300926606152759|tw330672015244714516|tw6025085821650774255|tw13856227189919669043|tw8308271366989427287|tw11648109440953822804|tw16940797012226593525|tw13511044508620876835|tw1407550458417858795|tw998310788790914096|tw3000324555350135055|tw17530639430196628735|tw10275758279743112806|tw13673733989558331697|tw14608362354445877609|tw10136421893312862407|tw716954025111090489|tw15196506219852939043|tw8470796401185530611|tw2731940611427938898|tw11864374899104836338|tw9922594671351147627|tw3574355339803673286|tw17409844817619001164|tw9504364574491820095|tw6666345954240151811|tw5284116885847974075|tw16340436314154143129|tw664270601540802112|tw12889055287123586068|tw1522415995454379593|tw10505064578854183929|tw17062158148255912226|tw17352579570393158223|tw6090682045633558077|tw10097230041300104906|tw11004258360788370153|tw831552615571199014|tw17319698506998069698|tw502843036097351530|tw17380520085919995893|tw13631940125951036111|tw390774934589535678|tw10983836275704347414|tw8929668746213370499|tw1557600114212229055|tw13155630327855919932|tw4306641248050590308|tw11984329576978376064|tw1860156226156153880|tw5472366947265778231|tw7388582028756850922|tw16105037749414134634|tw7332523755278180257|tw8367841486445101092|tw10999888742925492195|tw17675751948128907622|tw16451613448658591080
open PySem PySem.W PyProof.Rows
set_option maxRecDepth 100000 in
set_option maxHeartbeats 0 in
theorem PySem.Challenge.cw_bandwright_k38_factors_looked_at_holds : PySem.Challenge.rw_bandwright_k38_factors_looked_at.Holds := by
 w_on;o_law;k_head;(case hw=>w_witness2)
 k_fill
 refine My.walk (l:=PySem.Challenge.rw_bandwright_k38_factors_looked_at) rfl rfl (λw h Y=>PySem.W.kIn_of Y) ?F
 case F=>
  intro w mg fa h KX G AH
  have T:∃t,My.Txt (L2.Ng KX) mg t:=by
   dsimp only [L2.Ng]
   refine' My.af_ KX G ?KN ?KO ?KP ?KQ ?KR ?KS ?KU ?KW ?KY ?KZ (a8 KX G ?aho) (L2.bq (st:=My.DU) ?ahp ?ahq ?ahr) (a8 KX G ?ahs) (L2.bq (st:=My.DV) ?aht ?ahu ?ahv) (a8 KX G ?ahw) (L2.bq (st:=My.DW) ?ahx ?ahy ?ahz) (a8 KX G ?ahA) (L2.bq (st:=My.DX) ?ahB ?ahC ?ahD) (a8 KX G ?ahE) (L2.bq (st:=My.DY) ?ahF ?ahG ?ahH) (a8 KX G ?ahI) (L2.bq (st:=My.DZ) ?ahJ ?ahK ?ahL) (a8 KX G ?ahM) (L2.bq (st:=My.D3) ?ahN ?ahO ?ahP) (a8 KX G ?ahQ) (L2.bq (st:=My.D4) ?ahR ?ahS ?ahT) (a8 KX G ?ahU) (L2.bq (st:=My.D5) ?ahV ?ahW ?ahX) (a8 KX G ?ahY) (L2.bq (st:=My.D6) ?ahZ ?ah0 ?ah1) (a8 KX G ?ah2) (L2.bq (st:=My.D7) ?ah3 ?ah4 ?ah5) (a8 KX G ?ah6) (L2.bq (st:=My.D8) ?ah7 ?ah8 ?ah9) (a8 KX G ?ah_) (L2.bq (st:=My.D9) ?aia ?aib ?aic) (a8 KX G ?aid) (L2.bq (st:=My.D_) ?aie ?aif ?aih) (a8 KX G ?aii) (L2.bq (st:=My.Ea) ?aij ?aik ?ail) (a8 KX G ?ain) (L2.bq (st:=My.Eb) ?aio ?aip ?aiq) (a8 KX G ?air) (L2.bq (st:=My.Ec) ?ais ?ait ?aiu) (a8 KX G ?aiv) (L2.bq (st:=My.Ed) ?aiw ?aix ?aiy) (a8 KX G ?aiz) (L2.bq (st:=My.Ee) ?aiA ?aiB ?aiC) (a8 KX G ?aiD) (L2.bq (st:=My.Ef) ?aiE ?aiF ?aiG) (a8 KX G ?aiH) (L2.bq (st:=My.Eg) ?aiI ?aiJ ?aiK) (a8 KX G ?aiL) (L2.bq (st:=My.Eh) ?aiM ?aiN ?aiO) (a8 KX G ?aiP) (L2.bq (st:=My.Ei) ?aiQ ?aiR ?aiS) (a8 KX G ?aiT) (L2.bq (st:=My.Ej) ?aiU ?aiV ?aiW) (a8 KX G ?aiX) (L2.bq (st:=My.Ek) ?aiY ?aiZ ?ai0) (a8 KX G ?ai1) (L2.bq (st:=My.El) ?ai2 ?ai3 ?ai4) (a8 KX G ?ai5) (L2.bq (st:=My.Em) ?ai6 ?ai7 ?ai8) (a8 KX G ?ai9) (L2.bq (st:=My.Eo) ?ai_ ?aja ?ajb) (a8 KX G ?ajc) (L2.bq (st:=My.Ep) ?ajd ?aje ?ajf) (a8 KX G ?ajg) (L2.bq (st:=My.Er) ?ajh ?aji ?ajj) (a8 KX G ?ajk) (L2.bq (st:=My.Es) ?ajl ?ajm ?ajn) (a8 KX G ?ajo) (L2.bq (st:=My.Et) ?ajp ?ajq ?ajr) (a8 KX G ?ajs) (L2.bq (st:=My.Eu) ?ajt ?aju ?ajv) (a8 KX G ?ajw) (L2.bq (st:=My.Ew) ?ajx ?ajy ?ajz) (a8 KX G ?ajA) (L2.bq (st:=My.Ex) ?ajB ?ajC ?ajD) (a8 KX G ?ajE) (L2.bq (st:=My.Ey) ?ajF ?ajG ?ajH) (a8 KX G ?ajI) (L2.bq (st:=My.Ez) ?ajJ ?ajK ?ajL) (a8 KX G ?ajM) (L2.bq (st:=My.EA) ?ajN ?ajO ?ajP) (a8 KX G ?ajQ) (L2.bq (st:=My.EB) ?ajR ?ajS ?ajT) (a8 KX G ?ajU) (L2.bq (st:=My.EC) ?ajV ?ajW ?ajX) (a8 KX G ?ajY) (L2.bq (st:=My.ED) ?ajZ ?aj0 ?aj1) (a8 KX G ?aj2) (L2.bq (st:=My.EE) ?aj3 ?aj4 ?aj5) (a8 KX G ?aj6) (L2.bq (st:=My.EG) ?aj7 ?aj8 ?aj9) (a8 KX G ?aj_) (L2.bq (st:=My.EH) ?aka ?akb ?akc) (a8 KX G ?akd) (L2.bq (st:=My.EI) ?ake ?akf ?akg) (a8 KX G ?akh) (L2.bq (st:=My.EJ) ?aki ?akj ?akk) (a8 KX G ?akl) (L2.bq (st:=My.EK) ?akm ?akn ?ako) (a8 KX G ?akp) (L2.bq (st:=My.EL) ?akq ?akr ?aks) (a8 KX G ?akt) (L2.bq (st:=My.EM) ?aku ?akv ?akw) (a8 KX G ?akx) (L2.bq (st:=My.EN) ?aky ?akz ?akA) (a8 KX G ?akB) (L2.bq (st:=My.EO) ?akC ?akD ?akE) (a8 KX G ?akF) (L2.bq (st:=My.ER) ?akG ?akH ?akI) (a8 KX G ?akJ) (L2.bq (st:=My.ES) ?akK ?akL ?akM) (a8 KX G ?akN) (L2.bq (st:=My.ET) ?akO ?akP ?akQ) (a8 KX G ?akR) (L2.bq (st:=My.EU) ?akS ?akT ?akU) (a8 KX G ?akV) (L2.bq (st:=My.EV) ?akW ?akX ?akY) (a8 KX G ?akZ) (L2.bq (st:=My.EW) ?ak0 ?ak1 ?ak2) (a8 KX G ?ak3) (L2.bq (st:=My.EX) ?ak4 ?ak5 ?ak6) (a8 KX G ?ak7) (L2.bq (st:=My.EY) ?ak8 ?ak9 ?ak_) (a8 KX G ?ala) (L2.bq (st:=My.EZ) ?alb ?alc ?ald) (a8 KX G ?ale) (L2.bq (st:=My.E1) ?alf ?alg ?alh) (a8 KX G ?ali) (L2.bq (st:=My.E3) ?alj ?alk ?alm) (a8 KX G ?aln) (L2.bq (st:=My.E4) ?alo ?alp ?alq) (a8 KX G ?alr) (L2.bq (st:=My.E5) ?als ?alu ?alv) (a8 KX G ?alw) (L2.bq (st:=My.E6) ?alx ?aly ?alz) (a8 KX G ?alA) (L2.bq (st:=My.E7) ?alB ?alC ?alD) ⟨?alE,?alF,?alG,?alH⟩ (L2.bq (st:=My.E8) ?alI ?alJ ?alK) ?K6 ?K7 ?zR ?zS ?vH ?zT ⟨?alL,?alM,?alN⟩ (L2.bq (st:=My.E9) ?alO ?alP ?alQ) ⟨?alR,?alS,?alT⟩ (L2.bq (st:=My.E_) ?alU ?alV ?alW) ⟨?alX,?alY,?alZ⟩ (L2.bq (st:=My.Fb) ?al0 ?al1 ?al2) ⟨?al3,?al4,?al5⟩ (L2.bq (st:=My.Fe) ?al6 ?al7 ?al8) ?K8 ?K9 ?K_ ?La ?Lb ?Lc ?Ld ?Le ?Lf ?Lg ?Lh ?Li ?Lj ?Ll ?Lm ?Ln ?Lo ?Lp ?Lq ?Lr ?Ls ?Lu ?Lv ?Lw ?Lx ?Ly ?Lz ?LB ?LC ?LD ?LF ?LH ?LI ?LJ ?LK ?LL ?LM ?LN ?LO ?LP ?LQ ?LR ?LS ?LU ?LV ?LW ?LX ?LY ?LZ ?L0 ?L4 ?L5 ?L6 ?L7 ?L8 ?L_ ?Ma ?Mb ?Mc ?Me ?Mf ?Mg
   (case KN|KO|KP|KQ|KR|KS|KU|KW|KY|KZ|aho|ahp|ahq|ahr|ahs|aht|ahu|ahv|ahw|ahx|ahy|ahz|ahA|ahB|ahC|ahD|ahE|ahF|ahG|ahH|ahI|ahJ|ahK|ahL|ahM|ahN|ahO|ahP|ahQ|ahR|ahS|ahT|ahU|ahV|ahW|ahX|ahY|ahZ|ah0|ah1|ah2|ah3|ah4|ah5|ah6|ah7|ah8|ah9|ah_|aia|aib|aic|aid|aie|aif|aih|aii|aij|aik|ail|ain|aio|aip|aiq|air|ais|ait|aiu|aiv|aiw|aix|aiy|aiz|aiA|aiB|aiC|aiD|aiE|aiF|aiG|aiH|aiI|aiJ|aiK|aiL|aiM|aiN|aiO|aiP|aiQ|aiR|aiS|aiT|aiU|aiV|aiW|aiX|aiY|aiZ|ai0|ai1|ai2|ai3|ai4|ai5|ai6|ai7|ai8|ai9|ai_|aja|ajb|ajc|ajd|aje|ajf|ajg|ajh|aji|ajj|ajk|ajl|ajm|ajn|ajo|ajp|ajq|ajr|ajs|ajt|aju|ajv|ajw|ajx|ajy|ajz|ajA|ajB|ajC|ajD|ajE|ajF|ajG|ajH|ajI|ajJ|ajK|ajL|ajM|ajN|ajO|ajP|ajQ|ajR|ajS|ajT|ajU|ajV|ajW|ajX|ajY|ajZ|aj0|aj1|aj2|aj3|aj4|aj5|aj6|aj7|aj8|aj9|aj_|aka|akb|akc|akd|ake|akf|akg|akh|aki|akj|akk|akl|akm|akn|ako|akp|akq|akr|aks|akt|aku|akv|akw|akx|aky|akz|akA|akB|akC|akD|akE|akF|akG|akH|akI|akJ|akK|akL|akM|akN|akO|akP|akQ|akR|akS|akT|akU|akV|akW|akX|akY|akZ|ak0|ak1|ak2|ak3|ak4|ak5|ak6|ak7|ak8|ak9|ak_|ala|alb|alc|ald|ale|alf|alg|alh|ali|alj|alk|alm|aln|alo|alp|alq|alr|als|alu|alv|alw|alx|aly|alz|alA|alB|alC|alD|alE|alF|alG|alH|alI|alJ|alK|K6|K7|zR|zS|vH|zT|alL|alM|alN|alO|alP|alQ|alR|alS|alT|alU|alV|alW|alX|alY|alZ|al0|al1|al2|al3|al4|al5|al6|al7|al8|K8|K9|K_|La|Lb|Lc|Ld|Le|Lf|Lg|Lh|Li|Lj|Ll|Lm|Ln|Lo|Lp|Lq|Lr|Ls|Lu|Lv|Lw|Lx=>k_is)
   (case Ly|Lz|LB|LC|LD=>k_exc)
   (case LF=>k_is)
   (case LH|LI|LJ|LK|LL|LM|LN|LO|LP=>kit_is)
   (case LQ|LR|LS|LU|LV|LW|LX=>k_is)
   (case LY|LZ|L0|L4|L5|L6|L7|L8|L_=>kit_is)
   (case Ma|Mb|Mc|Me|Mf|Mg=>k_is)
  obtain ⟨t,T⟩:=T
  have e0:=AH.symm.trans T.Rj
  cases e0
  exact My.af9 T
#print axioms PySem.Challenge.cw_bandwright_k38_factors_looked_at_holds
