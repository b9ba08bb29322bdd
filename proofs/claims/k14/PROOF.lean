import PyProof.Rows.All
import Wide.All
import OpenK.AllK
import Wide.FinOn
import Lean
import PyProof.EqAt
import PyProof.EqKinds
import PyProof.TupleCall
import PySem.Challenge.RW_bandwright_k14_whole_undone_plainly
set_option Elab.async false
set_option linter.all false
set_option maxRecDepth 100000
abbrev fD:=@decide_eq_false
abbrev qo:=@beq_eq_false_iff_ne
abbrev ao:=@if_pos
abbrev aq:=@if_neg
abbrev cB:=@PySem.Heap.lt_size
abbrev dQ:=@Nat.lt_of_lt_of_le
abbrev iy:=@Nat.lt_irrefl
abbrev f9:=@Nat.ne_of_lt
abbrev C0:=@PySem.W.hideAll_get
abbrev vV:=@List.mem_filter
abbrev gs:=@List.mem_range
abbrev au:=@Nat.le_trans
abbrev C2:=@List.filterMap_cons
abbrev jx:=@List.mem_cons_self
abbrev iQ:=@List.mem_cons_of_mem
abbrev fM:=@List.mem_cons
abbrev lJ:=@List.mem_append
abbrev aL:=@List.getElem?_eq_some_iff
abbrev kx:=@List.getElem?_set_self
abbrev ky:=@List.getElem?_set_ne
abbrev cQ:=@PySem.wpAny_mono
abbrev nI:=@PySem.wpAny_truthy_bool
abbrev eW:=@congrArg
abbrev C3:=@PySem.wpAny_execs_nil
abbrev c_:=@PySem.wpAny_bind
abbrev Ak:=@PySem.wpAny_standAt
abbrev fN:=@PySem.wpAny_pure
abbrev vW:=@PySem.wpAny_newObj_type
abbrev dZ:=@PySem.Heap.get?_push_of_some
abbrev r6:=@PySem.wpAny_passesOwn
abbrev d3:=@Bool.false_ne_true
abbrev jV:=@Int.mul_one
abbrev C4:=@PySem.wpAny_pyIter_list
abbrev iz:=@PySem.Heap.get?_push_size
abbrev aP:=@Nat.le_refl
abbrev C5:=@PyProof.Rows.callWith_type1
abbrev fG:=@List.mem_append_right
abbrev f_:=@Nat.zero_le
abbrev Al:=@Int.fdiv_eq_ediv_of_nonneg
abbrev vX:=@Bool.eq_iff_iff
abbrev fh:=@List.size_toArray
abbrev nJ:=@beq_iff_eq
abbrev df:=@List.length_cons
abbrev C6:=@PySem.W.looks_findIn
abbrev gE:=@List.map_cons
abbrev aV:=@List.length_map
abbrev Am:=@PySem.Heap.size_push
abbrev jz:=@Nat.le_of_eq
abbrev vY:=@Nat.lt_succ_self
abbrev kz:=@PySem.W.kia_one
abbrev C7:=@PySem.wpAny_Call_Name_kw
abbrev lK:=@Nat.le_succ
abbrev C8:=@List.nodup_cons
abbrev An:=@List.of_mem_zip
abbrev HQ:=@Option.isSome_iff_exists
abbrev lM:=@PySem.mem_of_lookup
abbrev iA:=@List.getElem?_append_right
abbrev gL:=@List.getElem?_append_left
abbrev bu:=@List.getElem?_map
abbrev jA:=@List.mem_of_getElem?
abbrev kA:=@List.length_append
abbrev dr:=@Int.toNat_natCast
abbrev r_:=@List.length_drop
abbrev iB:=@List.length_set
abbrev vZ:=@List.all_cons
abbrev v_:=@Bool.and_eq_true
abbrev oP:=@List.replicate_succ
abbrev C9:=@List.flatten_cons
abbrev gM:=@List.nil_append
abbrev oQ:=@Nat.mul_comm
abbrev gZ:=@List.map_nil
abbrev cF:=@decide_eq_true
abbrev bB:=@PySem.W.mg_of
abbrev bT:=@Nat.lt_of_le_of_lt
abbrev HR:=@PySem.F.typeOf_object_class
abbrev Ao:=@PySem.wpAny_loadPart_at
abbrev mG:=@Nat.not_lt_zero
abbrev HS:=@List.range_succ_eq_map
abbrev nK:=@List.all_eq_true
abbrev C_:=@Bool.or_eq_true
abbrev De:=@decide_eq_true_eq
abbrev Df:=@List.forall_mem_nil
abbrev qp:=@List.forall_mem_cons
abbrev Ap:=@PySem.wpAny_comprehension_free
abbrev Dg:=@PySem.wpAny_newFunctionEnv
abbrev HU:=@PySem.codeAny_compLoop_tests
abbrev lO:=@PySem.lookup_relabel_local
abbrev Aq:=@PySem.wpAny_tests_nil
abbrev Ar:=@PySem.wpAny_tests_one
abbrev As:=@PySem.codeAny_compStart_list
abbrev HV:=@PyProof.noPylong_of_log2
abbrev cb:=@List.getD_eq_getElem?_getD
abbrev iC:=@List.mem_singleton
abbrev gc:=@List.length_range
abbrev aG:=@List.getElem_mem
abbrev Au:=@Nat.gcd_pos_of_pos_right
abbrev kC:=@Int.natAbs_pos
abbrev wc:=@Int.natAbs_natCast
abbrev dR:=@Nat.pow_le_pow_right
abbrev fi:=@Int.emod_nonneg
abbrev Av:=@Int.ediv_nonneg
abbrev fH:=@Int.emod_lt_of_pos
abbrev Aw:=@List.range_succ
abbrev Dh:=@List.filter_append
abbrev Di:=@List.map_append
abbrev Dj:=@List.filter_cons
abbrev iS:=@of_decide_eq_true
abbrev Ax:=@Int.mul_le_mul_of_nonneg_left
abbrev cI:=@Int.mul_zero
abbrev sg:=@Int.gcd_dvd_left
abbrev qr:=@Int.gcd_dvd_right
abbrev bU:=@Int.natAbs_mul
abbrev jW:=@Int.dvd_trans
abbrev fk:=@Int.mul_pos
abbrev qs:=@Int.dvd_mul_left
abbrev lQ:=@Int.mul_ediv_cancel_left
abbrev mH:=@Int.mul_assoc
abbrev fU:=@Int.mul_comm
abbrev Dk:=@Int.mul_left_comm
abbrev oR:=@Int.natAbs_ediv_le_natAbs
abbrev qt:=@Int.natAbs_neg
abbrev mI:=@Int.dvd_refl
abbrev Ay:=@Int.le_of_dvd
abbrev fq:=@Nat.mul_le_mul_left
abbrev HW:=@Int.emod_add_mul_ediv
abbrev wg:=@Int.neg_mul
abbrev sh:=@Int.mul_emod
abbrev si:=@Int.emod_eq_of_lt
abbrev Dm:=@Int.fdiv_eq_ediv_of_dvd
abbrev je:=@Int.mul_neg
abbrev nM:=@Int.gcd_one_right
abbrev Az:=@Int.mul_ne_zero
abbrev Dn:=@Int.dvd_of_emod_eq_zero
abbrev qu:=@Nat.sub_self
abbrev sj:=@List.not_mem_nil
abbrev AB:=@Nat.le_add_right
abbrev AD:=@Nat.lt_succ_of_lt
abbrev Dp:=@List.lookup_cons
abbrev Dq:=@PySem.Around.in1_units
abbrev lR:=@List.getElem?_zip_eq_some
abbrev sk:=@List.getElem?_eq_none
abbrev g8:=@Nat.mul_le_mul_right
abbrev HX:=@Classical.choose_spec
abbrev kD:=@Int.zero_dvd
abbrev Ds:=@Int.mul_eq_zero
abbrev jB:=@List.length_eq_zero_iff
abbrev AE:=@Int.add_zero
abbrev mJ:=@Int.one_mul
abbrev wj:=@Int.zero_add
abbrev iT:=@Int.zero_mul
abbrev AF:=@List.mem_flatten
abbrev iU:=@List.getElem_map
abbrev nN:=@Int.eq_of_mul_eq_mul_left
abbrev HY:=@Int.natAbs_dvd_natAbs
abbrev wk:=@List.map_congr_left
abbrev lU:=@Nat.mul_assoc
abbrev cA:=@Nat.mul_le_mul
abbrev so:=@Nat.mul_left_comm
abbrev g9:=@Nat.le_mul_of_pos_left
abbrev oS:=@Classical.byContradiction
abbrev Dt:=@List.mem_reverse
abbrev nO:=@Nat.le_mul_of_pos_right
abbrev wo:=@List.ext_getElem
abbrev AG:=@List.map_map
abbrev jX:=@List.length_zip
abbrev HZ:=@List.pairwise_iff_getElem
abbrev eJ:=@List.mem_iff_getElem
abbrev wq:=@List.length_zipWith
abbrev AH:=@List.getElem?_zipWith
abbrev wt:=@List.getElem?_drop
abbrev nP:=@Nat.pow_succ
abbrev wu:=@Nat.mul_pos
abbrev fI:=@List.mem_map
abbrev AI:=@List.mem_replicate
abbrev d5:=@List.getElem?_eq_getElem
abbrev Du:=@Classical.not_imp
abbrev sq:=@Nat.pow_pos
abbrev wz:=@Nat.pow_le_pow_left
abbrev fJ:=@PySem.PassesOwn.never
abbrev b6:=@PySem.boot_len
abbrev mK:=@PySem.F.excBase_ValueError
abbrev iD:=@List.length_nil
abbrev g_:=@List.cons_append
abbrev aX:=@List.set_cons_zero
abbrev aY:=@List.set_cons_succ
abbrev AJ:=@PySem.F.plainAttrs_list
abbrev AK:=@PySem.F.slot_list_append
abbrev AL:=@PySem.F.type_list_append
abbrev kF:=@PySem.W.mg_none_of
abbrev aH:=List (List (Int×Int))
abbrev aI:=List (Int×Int)
abbrev aE:=Nat->Nat->Int
abbrev eK:=PySem.Str->Option PySem.Value
abbrev cX:=PySem.Value->PySem.Shared->Prop
abbrev aQ:=PySem.W.Frag
abbrev cf:=List (PySem.Addr×PySem.Obj)
local macro_rules|`(⋯)=>`(by lia)
local macro_rules|`(∅)=>`(by decide)
section
variable{t0 t1 t2 t3 t4 t5 t6 t7 t8 t9:Sort _}{R:Prop}{A0 B0 C0 D0 E0 F0 G0 H0 I0 J0 K0:Prop}{A1 B1 C1 D1 E1 F1 G1 H1 I1 J1:t0->Prop}{A2 B2 C2 D2 E2 F2:t0->t1->Prop}{A3 B3 C3 D3 E3 F3 G3:t0->t1->t2->Prop}{A4 B4 C4 D4 E4 F4:t0->t1->t2->t3->Prop}{A5 B5 C5 D5 E5 F5:t0->t1->t2->t3->t4->Prop}{A6:t0->t1->t2->t3->t4->t5->Prop}{A7:t0->t1->t2->t3->t4->t5->t6->Prop}{A10:t0->t1->t2->t3->t4->t5->t6->t7->t8->t9->Prop}
theorem ad(x)(h1:A1 x)(c:B1 x):∃x,A1 x/\B1 x:=⟨x,h1,c⟩
theorem xL(x y)(c:A2 x y):∃x y,A2 x y:=⟨x,y,c⟩
theorem re(h1:A0)(x)(c:A1 x):A0/\∃x,A1 x:=⟨h1,x,c⟩
theorem ul(h1:A0)(x y)(c:A2 x y):A0/\∃x y,A2 x y:=⟨h1,x,y,c⟩
theorem am(x)(h1:A1 x)(h2:B1 x)(c:C1 x):∃x,A1 x/\B1 x/\C1 x:=⟨x,h1,h2,c⟩
theorem sw(h1:A0)(x)(h2:A1 x)(c:B1 x):A0/\∃x,A1 x/\B1 x:=⟨h1,x,h2,c⟩
theorem xz(x)(h1:A1 x)(y)(c:A2 x y):∃x,A1 x/\∃y,A2 x y:=⟨x,h1,y,c⟩
theorem ii(x)(h1:A1 x)(h2:B1 x)(h3:C1 x)(c:D1 x):∃x,A1 x/\B1 x/\C1 x/\D1 x:=(am x h1 h2 (And.intro h3 c))
theorem db(x)(h1:A1 x)(y)(h2:A2 x y)(c:B2 x y):∃x,A1 x/\∃y,A2 x y/\B2 x y:=(Exists.intro x (sw h1 y h2 c))
theorem Rs(x)(h1:A1 x)(y z)(c:A3 x y z):∃x,A1 x/\∃y z,A3 x y z:=(Exists.intro x (ul h1 y z c))
theorem ce(x y)(h1:A2 x y)(h2:B2 x y)(c:C2 x y):∃x y,A2 x y/\B2 x y/\C2 x y:=(Exists.intro x (am y h1 h2 c))
theorem gt(x)(h1:A1 x)(h2:B1 x)(y)(h3:A2 x y)(c:B2 x y):∃x,A1 x/\B1 x/\∃y,A2 x y/\B2 x y:=(ad x h1 (sw h2 y h3 c))
theorem gl(x y)(h1:A2 x y)(h2:B2 x y)(h3:C2 x y)(c:D2 x y):∃x y,A2 x y/\B2 x y/\C2 x y/\D2 x y:=(Exists.intro x (ii y h1 h2 h3 c))
theorem SC(x y z u v)(c:A5 x y z u v):∃x y z u v,A5 x y z u v:=(Exists.intro x (xL y z (xL u v c)))
theorem sK(x)(h1:A1 x)(y)(h2:A2 x y)(z)(h3:A3 x y z)(c:B3 x y z):∃x,A1 x/\∃y,A2 x y/\∃z,A3 x y z/\B3 x y z:=(ad x h1 (db y h2 z h3 c))
theorem ww(x)(h1:A1 x)(h2:B1 x)(h3:C1 x)(h4:D1 x)(h5:E1 x)(c:F1 x):∃x,A1 x/\B1 x/\C1 x/\D1 x/\E1 x/\F1 x:=(ii x h1 h2 h3 (And.intro h4 (And.intro h5 c)))
theorem dL(x)(h1:A1 x)(y z)(h2:A3 x y z)(h3:B3 x y z)(c:C3 x y z):∃x,A1 x/\∃y z,A3 x y z/\B3 x y z/\C3 x y z:=(ad x h1 (ce y z h2 h3 c))
theorem Re(x y z u v w)(c:A6 x y z u v w):∃x y z u v w,A6 x y z u v w:=(Exists.intro x (SC y z u v w c))
theorem pi(x y)(h1:A2 x y)(h2:B2 x y)(z)(h3:A3 x y z)(c:B3 x y z):∃x y,A2 x y/\B2 x y/\∃z,A3 x y z/\B3 x y z:=(Exists.intro x (gt y h1 h2 z h3 c))
theorem SB(x)(h1:A1 x)(y)(h2:A2 x y)(z u)(c:A4 x y z u):∃x,A1 x/\∃y,A2 x y/\∃z u,A4 x y z u:=(ad x h1 (Rs y h2 z u c))
theorem o0(x y z)(h1:A3 x y z)(h2:B3 x y z)(h3:C3 x y z)(h4:D3 x y z)(c:E3 x y z):∃x y z,A3 x y z/\B3 x y z/\C3 x y z/\D3 x y z/\E3 x y z:=(Exists.intro x (gl y z h1 h2 h3 (And.intro h4 c)))
theorem on(x)(h1:A1 x)(y z)(h2:A3 x y z)(h3:B3 x y z)(h4:C3 x y z)(c:D3 x y z):∃x,A1 x/\∃y z,A3 x y z/\B3 x y z/\C3 x y z/\D3 x y z:=(ad x h1 (gl y z h2 h3 h4 c))
theorem zn(x y z u v w s)(c:A7 x y z u v w s):∃x y z u v w s,A7 x y z u v w s:=(Exists.intro x (Re y z u v w s c))
theorem sB(x y z u)(h1:A4 x y z u)(h2:B4 x y z u)(h3:C4 x y z u)(h4:D4 x y z u)(c:E4 x y z u):∃x y z u,A4 x y z u/\B4 x y z u/\C4 x y z u/\D4 x y z u/\E4 x y z u:=(Exists.intro x (o0 y z u h1 h2 h3 h4 c))
theorem io(x)(h1:A1 x)(y z)(h2:A3 x y z)(h3:B3 x y z)(u)(h4:A4 x y z u)(c:B4 x y z u):∃x,A1 x/\∃y z,A3 x y z/\B3 x y z/\∃u,A4 x y z u/\B4 x y z u:=(ad x h1 (pi y z h2 h3 u h4 c))
theorem ut(x)(h1:A1 x)(y z u)(h2:A4 x y z u)(h3:B4 x y z u)(h4:C4 x y z u)(c:D4 x y z u):∃x,A1 x/\∃y z u,A4 x y z u/\B4 x y z u/\C4 x y z u/\D4 x y z u:=(xz x h1 y (gl z u h2 h3 h4 c))
theorem tz(x)(h1:A1 x)(y)(h2:A2 x y)(z u)(h3:A4 x y z u)(h4:B4 x y z u)(c:C4 x y z u):∃x,A1 x/\∃y,A2 x y/\∃z u,A4 x y z u/\B4 x y z u/\C4 x y z u:=(ad x h1 (dL y h2 z u h3 h4 c))
theorem pc(x y)(h1:A2 x y)(h2:B2 x y)(h3:C2 x y)(z u)(h4:A4 x y z u)(h5:B4 x y z u)(c:C4 x y z u):∃x y,A2 x y/\B2 x y/\C2 x y/\∃z u,A4 x y z u/\B4 x y z u/\C4 x y z u:=(gl x y h1 h2 h3 (ce z u h4 h5 c))
theorem wP(x y z)(h1:A3 x y z)(h2:B3 x y z)(h3:C3 x y z)(h4:D3 x y z)(h5:E3 x y z)(h6:F3 x y z)(c:G3 x y z):∃x y z,A3 x y z/\B3 x y z/\C3 x y z/\D3 x y z/\E3 x y z/\F3 x y z/\G3 x y z:=(xL x y (ww z h1 h2 h3 h4 h5 (And.intro h6 c)))
theorem ms(x)(h1:A1 x)(y)(h2:A2 x y)(z u)(h3:A4 x y z u)(h4:B4 x y z u)(h5:C4 x y z u)(c:D4 x y z u):∃x,A1 x/\∃y,A2 x y/\∃z u,A4 x y z u/\B4 x y z u/\C4 x y z u/\D4 x y z u:=(ad x h1 (on y h2 z u h3 h4 h5 c))
theorem f8(x)(h1:A1 x)(y z)(h2:A3 x y z)(h3:B3 x y z)(h4:C3 x y z)(u)(h5:A4 x y z u)(c:B4 x y z u):∃x,A1 x/\∃y z,A3 x y z/\B3 x y z/\C3 x y z/\∃u,A4 x y z u/\B4 x y z u:=(dL x h1 y z h2 h3 (sw h4 u h5 c))
theorem u8(x y z u)(h1:A4 x y z u)(h2:B4 x y z u)(h3:C4 x y z u)(h4:D4 x y z u)(h5:E4 x y z u)(c:F4 x y z u):∃x y z u,A4 x y z u/\B4 x y z u/\C4 x y z u/\D4 x y z u/\E4 x y z u/\F4 x y z u:=(sB x y z u h1 h2 h3 h4 (And.intro h5 c))
theorem S'(x)(h1:A1 x)(y)(h2:A2 x y)(z)(h3:A3 x y z)(u v w)(c:A6 x y z u v w):∃x,A1 x/\∃y,A2 x y/\∃z,A3 x y z/\∃u v w,A6 x y z u v w:=(ad x h1 (SB y h2 z h3 u v (Exists.intro w c)))
theorem nw(x)(h1:A1 x)(y z u v)(h2:A5 x y z u v)(h3:B5 x y z u v)(h4:C5 x y z u v)(h5:D5 x y z u v)(c:E5 x y z u v):∃x,A1 x/\∃y z u v,A5 x y z u v/\B5 x y z u v/\C5 x y z u v/\D5 x y z u v/\E5 x y z u v:=(ad x h1 (sB y z u v h2 h3 h4 h5 c))
theorem wE(x y z u)(h1:A4 x y z u)(h2:B4 x y z u)(h3:C4 x y z u)(h4:D4 x y z u)(v)(h5:A5 x y z u v)(c:B5 x y z u v):∃x y z u,A4 x y z u/\B4 x y z u/\C4 x y z u/\D4 x y z u/\∃v,A5 x y z u v/\B5 x y z u v:=(sB x y z u h1 h2 h3 h4 (ad v h5 c))
theorem SL(x)(h1:A1 x)(h2:B1 x)(h3:C1 x)(h4:D1 x)(h5:E1 x)(h6:F1 x)(h7:G1 x)(h8:H1 x)(h9:I1 x)(c:J1 x):∃x,A1 x/\B1 x/\C1 x/\D1 x/\E1 x/\F1 x/\G1 x/\H1 x/\I1 x/\J1 x:=(ww x h1 h2 h3 h4 h5 (And.intro h6 (And.intro h7 (And.intro h8 (And.intro h9 c)))))
theorem amE(f:∀x,A1 x->R)(h:∃x,A1 x):R:=match h with|⟨x,c⟩=>f x c
theorem amA(f:A0->B0->R)(h:A0/\B0):R:=match h with|⟨x,c⟩=>f x c
theorem am0(f:∀x,A1 x->B1 x->R)(h:∃x,A1 x/\B1 x):R:=match h with|⟨x,h1,c⟩=>f x h1 c
theorem am1(f:∀x y,A2 x y->R)(h:∃x y,A2 x y):R:=match h with|⟨x,y,c⟩=>f x y c
theorem am2(f:A0->∀x,A1 x->R)(h:A0/\∃x,A1 x):R:=match h with|⟨h1,x,c⟩=>f h1 x c
theorem am3(f:A0->B0->C0->R)(h:A0/\B0/\C0):R:=match h with|⟨h1,h2,c⟩=>f h1 h2 c
theorem am4(f:A0->B0->C0->D0->R)(h:A0/\B0/\C0/\D0):R:=match h with|⟨h1,h2,h3,c⟩=>f h1 h2 h3 c
theorem am5(f:A0->∀x y,A2 x y->R)(h:A0/\∃x y,A2 x y):R:=match h with|⟨h1,x,y,c⟩=>f h1 x y c
theorem am6(f:∀x y,A2 x y->B2 x y->R)(h:∃x y,A2 x y/\B2 x y):R:=match h with|⟨x,y,h1,c⟩=>f x y h1 c
theorem am7(f:∀x,A1 x->B1 x->C1 x->R)(h:∃x,A1 x/\B1 x/\C1 x):R:=match h with|⟨x,h1,h2,c⟩=>f x h1 h2 c
theorem am8(f:A0->B0->∀x,A1 x->B1 x->R)(h:A0/\B0/\∃x,A1 x/\B1 x):R:=am3 (λh1 h2=>am0 (λx h3 c=>f h1 h2 x h3 c)) h
theorem am9(f:∀x,A1 x->B1 x->C1 x->D1 x->R)(h:∃x,A1 x/\B1 x/\C1 x/\D1 x):R:=amE (λx=>am4 (λh1 h2 h3 c=>f x h1 h2 h3 c)) h
theorem am10(f:∀x y z,A3 x y z->B3 x y z->R)(h:∃x y z,A3 x y z/\B3 x y z):R:=amE (λx=>am6 (λy z h1 c=>f x y z h1 c)) h
theorem am11(f:∀x y z u,A4 x y z u->R)(h:∃x y z u,A4 x y z u):R:=am1 (λx y=>am1 (λz u c=>f x y z u c)) h
theorem am12(f:A0->∀x y z,A3 x y z->R)(h:A0/\∃x y z,A3 x y z):R:=am2 (λh1 x=>am1 (λy z c=>f h1 x y z c)) h
theorem am13(f:∀x y,A2 x y->B2 x y->C2 x y->R)(h:∃x y,A2 x y/\B2 x y/\C2 x y):R:=amE (λx=>am7 (λy h1 h2 c=>f x y h1 h2 c)) h
theorem am14(f:∀x,A1 x->B1 x->C1 x->D1 x->E1 x->R)(h:∃x,A1 x/\B1 x/\C1 x/\D1 x/\E1 x):R:=am0 (λx h1=>am4 (λh2 h3 h4 c=>f x h1 h2 h3 h4 c)) h
theorem am15(f:∀x y,A2 x y->B2 x y->C2 x y->D2 x y->R)(h:∃x y,A2 x y/\B2 x y/\C2 x y/\D2 x y):R:=amE (λx=>am9 (λy h1 h2 h3 c=>f x y h1 h2 h3 c)) h
theorem am16(f:∀x,A1 x->∀y,A2 x y->B2 x y->C2 x y->R)(h:∃x,A1 x/\∃y,A2 x y/\B2 x y/\C2 x y):R:=am0 (λx h1=>am7 (λy h2 h3 c=>f x h1 y h2 h3 c)) h
theorem am17(f:A0->∀x y z u,A4 x y z u->R)(h:A0/\∃x y z u,A4 x y z u):R:=amA (λh1=>am11 (λx y z u c=>f h1 x y z u c)) h
theorem am18(f:∀x y z,A3 x y z->B3 x y z->C3 x y z->R)(h:∃x y z,A3 x y z/\B3 x y z/\C3 x y z):R:=amE (λx=>am13 (λy z h1 h2 c=>f x y z h1 h2 c)) h
theorem am19(f:A0->∀x y,A2 x y->B2 x y->C2 x y->R)(h:A0/\∃x y,A2 x y/\B2 x y/\C2 x y):R:=amA (λh1=>am13 (λx y h2 h3 c=>f h1 x y h2 h3 c)) h
theorem am20(f:∀x y z,A3 x y z->B3 x y z->C3 x y z->D3 x y z->R)(h:∃x y z,A3 x y z/\B3 x y z/\C3 x y z/\D3 x y z):R:=amE (λx=>am15 (λy z h1 h2 h3 c=>f x y z h1 h2 h3 c)) h
theorem am21(f:∀x y z u v w,A6 x y z u v w->R)(h:∃x y z u v w,A6 x y z u v w):R:=am1 (λx y=>am11 (λz u v w c=>f x y z u v w c)) h
theorem am22(f:A0->∀x y,A2 x y->B2 x y->C2 x y->D2 x y->R)(h:A0/\∃x y,A2 x y/\B2 x y/\C2 x y/\D2 x y):R:=amA (λh1=>am15 (λx y h2 h3 h4 c=>f h1 x y h2 h3 h4 c)) h
theorem am23(f:A0->∀x y z,A3 x y z->B3 x y z->C3 x y z->R)(h:A0/\∃x y z,A3 x y z/\B3 x y z/\C3 x y z):R:=amA (λh1=>am18 (λx y z h2 h3 c=>f h1 x y z h2 h3 c)) h
theorem am24(f:∀x y z u,A4 x y z u->B4 x y z u->C4 x y z u->D4 x y z u->R)(h:∃x y z u,A4 x y z u/\B4 x y z u/\C4 x y z u/\D4 x y z u):R:=amE (λx=>am20 (λy z u h1 h2 h3 c=>f x y z u h1 h2 h3 c)) h
theorem am25(f:A0->∀x y z u v w,A6 x y z u v w->R)(h:A0/\∃x y z u v w,A6 x y z u v w):R:=amA (λh1=>am21 (λx y z u v w c=>f h1 x y z u v w c)) h
theorem am26(f:∀x y,A2 x y->B2 x y->C2 x y->D2 x y->E2 x y->F2 x y->R)(h:∃x y,A2 x y/\B2 x y/\C2 x y/\D2 x y/\E2 x y/\F2 x y):R:=am13 (λx y h1 h2=>am4 (λh3 h4 h5 c=>f x y h1 h2 h3 h4 h5 c)) h
theorem am27(f:∀x y z u v,A5 x y z u v->B5 x y z u v->C5 x y z u v->D5 x y z u v->R)(h:∃x y z u v,A5 x y z u v/\B5 x y z u v/\C5 x y z u v/\D5 x y z u v):R:=amE (λx=>am24 (λy z u v h1 h2 h3 c=>f x y z u v h1 h2 h3 c)) h
theorem am28(f:A0->B0->C0->D0->E0->F0->G0->H0->I0->R)(h:A0/\B0/\C0/\D0/\E0/\F0/\G0/\H0/\I0):R:=am3 (λh1 h2=>am4 (λh3 h4 h5=>am4 (λh6 h7 h8 c=>f h1 h2 h3 h4 h5 h6 h7 h8 c))) h
theorem am29(f:∀x y z,A3 x y z->B3 x y z->C3 x y z->D3 x y z->E3 x y z->F3 x y z->R)(h:∃x y z,A3 x y z/\B3 x y z/\C3 x y z/\D3 x y z/\E3 x y z/\F3 x y z):R:=amE (λx=>am26 (λy z h1 h2 h3 h4 h5 c=>f x y z h1 h2 h3 h4 h5 c)) h
theorem am30(f:A0->∀x y z u,A4 x y z u->B4 x y z u->C4 x y z u->D4 x y z u->R)(h:A0/\∃x y z u,A4 x y z u/\B4 x y z u/\C4 x y z u/\D4 x y z u):R:=amA (λh1=>am24 (λx y z u h2 h3 h4 c=>f h1 x y z u h2 h3 h4 c)) h
theorem am31(f:A0->B0->C0->D0->E0->F0->G0->H0->I0->J0->R)(h:A0/\B0/\C0/\D0/\E0/\F0/\G0/\H0/\I0/\J0):R:=amA (λh1=>am28 (λh2 h3 h4 h5 h6 h7 h8 h9 c=>f h1 h2 h3 h4 h5 h6 h7 h8 h9 c)) h
theorem am32(f:A0->B0->C0->D0->E0->F0->G0->H0->I0->J0->K0->R)(h:A0/\B0/\C0/\D0/\E0/\F0/\G0/\H0/\I0/\J0/\K0):R:=amA (λh1=>am31 (λh2 h3 h4 h5 h6 h7 h8 h9 h10 c=>f h1 h2 h3 h4 h5 h6 h7 h8 h9 h10 c)) h
theorem am33(f:∀x y z u v,A5 x y z u v->B5 x y z u v->C5 x y z u v->D5 x y z u v->E5 x y z u v->F5 x y z u v->R)(h:∃x y z u v,A5 x y z u v/\B5 x y z u v/\C5 x y z u v/\D5 x y z u v/\E5 x y z u v/\F5 x y z u v):R:=am1 (λx y=>am29 (λz u v h1 h2 h3 h4 h5 c=>f x y z u v h1 h2 h3 h4 h5 c)) h
theorem am34(f:∀x y z u v w s t a b,A10 x y z u v w s t a b->R)(h:∃x y z u v w s t a b,A10 x y z u v w s t a b):R:=am11 (λx y z u=>am21 (λv w s t a b c=>f x y z u v w s t a b c)) h
theorem am35(f:∀x,A1 x->B1 x->C1 x->D1 x->E1 x->F1 x->G1 x->H1 x->I1 x->J1 x->R)(h:∃x,A1 x/\B1 x/\C1 x/\D1 x/\E1 x/\F1 x/\G1 x/\H1 x/\I1 x/\J1 x):R:=amE (λx=>am31 (λh1 h2 h3 h4 h5 h6 h7 h8 h9 c=>f x h1 h2 h3 h4 h5 h6 h7 h8 h9 c)) h
end
local macro_rules|`(tactic|intros $xs*)=>do
 if xs.size<3 then Lean.Macro.throwUnsupported
 let mut t:Lean.TSyntax `term:=<-`(?_)
 let mut b:Array (Lean.TSyntax `term):=#[]
 let mut n:=xs.size
 let mut r:Array (Lean.TSyntax `ident):=#[]
 for x in xs.reverse do
  n:=n-1
  if n=1 then continue
  if x.raw.getId.toString.startsWith "am" then
   t:=<-`($(⟨x.raw⟩) λ$b*=>$t)
   b:=#[]
  else if x.raw.getId==`rfl then
   let i:=Lean.mkIdent (.mkSimple s!"e'{n}")
   r:=#[i]++r
   b:=#[⟨i.raw⟩]++b
  else b:=#[⟨x.raw⟩]++b
 let h:Lean.TSyntax `ident:=⟨xs[1]!.raw⟩
 let mut s:Lean.TSyntax `tactic:=<-if h.raw.isIdent then `(tactic|(revert $h;refine $t)) else `(tactic|refine $t)
 for i in r do s:=<-`(tactic|($s:tactic;subst $i))
 return s
namespace L2
open PySem PySem.Spec PyProof.Rows
abbrev Key:=Sum Int Str
def Nb:Key->Value->Bool
 | .inl k,v=>Value.isInt k v
 | .inr x,v=>Value.isStrOf x v
def UD(w:World):Key->Int
 | .inl k=>hashInt k
 | .inr x=>hashStr w x
theorem oT:∀{k:Key} {v:Value},Nb k v=true->(∃i t,k=Sum.inl i/\v=Value.int i t)\/(∃x t,k=Sum.inr x/\v=Value.str x t)
 | .inl i,v,h=>by obtain ⟨t,e⟩:=Value.isInt_shape (k:=i) (v:=v) h;exact .inl ⟨i,t,rfl,e⟩
 | .inr x,v,h=>by obtain ⟨t,e⟩:=Value.isStrOf_shape (x:=x) (v:=v) h;exact .inr ⟨x,t,rfl,e⟩
theorem UE(a b:Int):decide ((Sum.inl a:Key)=Sum.inl b)=(a == b):=by
 by_cases e:a=b;·subst e;simp
 ·have h:¬(Sum.inl a:Key)=Sum.inl b:=λq=>e (Sum.inl.inj q)
  rw [fD h];exact (qo.mpr e).symm
theorem UG(a b:Str):decide ((Sum.inr a:Key)=Sum.inr b)=decide (a=b):=by
 by_cases e:a=b;·subst e;simp
 ·have h:¬(Sum.inr a:Key)=Sum.inr b:=λq=>e (Sum.inr.inj q)
  rw [fD h,fD e]
theorem UH(a:Int)(b:Str):decide ((Sum.inl a:Key)=Sum.inr b)=false:=fD (λq=>nomatch q)
theorem UI(a:Str)(b:Int):decide ((Sum.inr a:Key)=Sum.inl b)=false:=fD (λq=>nomatch q)
def H_(prog:Program)(w:World):PySem.KeyKind prog w Key where
 is:=Nb
 hash:=UD w
 inj:=λv a b ha hb=>by
  rcases oT ha with ⟨i,t,rfl,rfl⟩ | ⟨x,t,rfl,rfl⟩
  ·rcases oT hb with ⟨j,u,rfl,e⟩ | ⟨y,u,rfl,e⟩
   ·injection e with e1 _;rw [e1]
   ·exact nomatch e
  ·rcases oT hb with ⟨j,u,rfl,e⟩ | ⟨y,u,rfl,e⟩
   ·exact nomatch e
   ·injection e with e1 _;rw [e1]
 byValue:=λk v h=>by
  rcases oT h with ⟨i,t,rfl,rfl⟩ | ⟨x,t,rfl,rfl⟩ <;> rfl
 pyHash:=λhv h=>by
  rcases oT hv with ⟨i,t,rfl,rfl⟩ | ⟨x,t,rfl,rfl⟩
  ·exact wpAny_pyHash_int h
  ·exact wpAny_pyHash_str h
 eqBool:=λhu hv h=>by
  rcases oT hu with ⟨i,t,rfl,rfl⟩ | ⟨x,t,rfl,rfl⟩
  ·rcases oT hv with ⟨j,u,rfl,rfl⟩ | ⟨y,u,rfl,rfl⟩
   ·rw [UE] at h;exact wpAny_eqBool_int h
   ·rw [UH] at h;exact SeqAt.EqAt.int_str i t y u _ _ _ _ h
  ·rcases oT hv with ⟨j,u,rfl,rfl⟩ | ⟨y,u,rfl,rfl⟩
   ·rw [UI] at h;exact SeqAt.EqAt.str_int x t j u _ _ _ _ h
   ·rw [UG] at h;exact wpAny_eqBool_str h
 «strs»:=λk x t v h=>by
  rcases oT h with ⟨i,u,rfl,e⟩ | ⟨y,u,rfl,e⟩
  ·exact nomatch e
  ·injection e with e1 _
   subst e1
   cases v <;> rfl
inductive V where
 | bg | bl (b:Bool) | int (i:Int) | str (x:Str) | jY (b:Array UInt8) | su (b:UInt64) | ref (a:Addr) | ty (n:String)
 deriving DecidableEq
def RelV:V->Value->Prop
 | .bg,u=>u=Value.none
 | .bl b,u=>u=Value.bool b
 | .int i,u=>∃t,u=Value.int i t
 | .str x,u=>∃t,u=Value.str x t
 | .jY b,u=>∃t,u=Value.bytes b t
 | .su b,u=>∃t,u=Value.float b t
 | .ref a,u=>u=Value.ref a
 | .ty n,u=>u=Value.type n
abbrev Vals:List V->List Value->Prop:=Paired RelV
variable {xs:List V} {us:List Value}
theorem Vals.length(r:Vals xs us):xs.length=us.length:=Paired.length r
theorem Vals.get:∀{xs:List V} {us:List Value} {i:Nat} {x:V},Vals xs us->xs[i]?=some x->∃u,us[i]?=some u/\RelV x u
 | _,_,_,_,.nil,e=>by simp at e
 | _,_,0,_,.cons r _,e=>by simp at e;subst e;exact (ad _ rfl r)
 | _,_,i+1,x,.cons _ t,e=>by
  obtain ⟨u,h1,h2⟩:=Vals.get (i:=i) (x:=x) t (by simpa using e)
  exact ⟨u,by simpa using h1,h2⟩
theorem Vals.set{x:V}{u:Value}(r:RelV x u):∀{xs:List V} {us:List Value} (i:Nat),Vals xs us->Vals (xs.set i x) (us.set i u)
 | _,_,_,.nil=>.nil
 | _,_,0,.cons _ t=>.cons r t
 | _,_,i+1,.cons q t=>.cons q (Vals.set r i t)
theorem Vals.append:∀{xs ys:List V} {us ws:List Value},Vals xs us->Vals ys ws->Vals (xs++ys) (us++ws)
 | _,_,_,_,.nil,s=>s
 | _,_,_,_,.cons r t,s=>.cons r (Vals.append t s)
theorem Vals.take:∀{xs:List V} {us:List Value} (n:Nat),Vals xs us->Vals (xs.take n) (us.take n)
 | _,_,0,_=>.nil
 | _,_,_+1,.nil=>.nil
 | _,_,n+1,.cons r t=>.cons r (Vals.take n t)
theorem Vals.drop:∀{xs:List V} {us:List Value} (n:Nat),Vals xs us->Vals (xs.drop n) (us.drop n)
 | _,_,0,r=>r
 | _,_,_+1,.nil=>.nil
 | _,_,n+1,.cons _ t=>Vals.drop n t
theorem Vals.none_of:∀{xs:List V} {us:List Value} {i:Nat},Vals xs us->xs[i]?=none->us[i]?=none:=fun{xs us i} r e=>by have h1:=r.length;have h2:xs.length<=i:=List.getElem?_eq_none_iff.mp e;exact List.getElem?_eq_none_iff.mpr ⋯
def nQ:Option V->Option Value->Prop
 | some v,some u=>RelV v u
 | none,none=>True
 | _,_=>False
def KV{κ:Type}:List (κ×V)->List (κ×Value)->Prop:=Paired fun(p:κ×V) (q:κ×Value)=>p.1=q.1/\RelV p.2 q.2
def kV:Key->V
 | .inl i=>.int i
 | .inr x=>.str x
inductive HO where
 | lst (xs:List V)
 | tup (xs:List V)
 | dK (du:List (Key×V)) | dT (du:List (List Key×V))
 | set (S:Int->Bool) (n:Nat)
 | ins (C dx:Addr) (fs:List (Str×V))
 | own (x:Addr)
 | xd (fs:List (Str×V))
 | met (f x:Addr)
 | jC (lo hi:Int)
 | jf (o:Obj) (u:HO)
 | oU (ps:Array Value)
 | ext (φ:Heap->Prop)
abbrev Hp:=Addr->Option HO
def upd(H:Hp)(a:Addr)(o:HO):Hp:=λb=>if b=a then some o else H b
variable {H:Hp} {a:Addr} {o:HO}
theorem aK:upd H a o a=some o:=by unfold upd;rw [ao rfl]
theorem cj{b:Addr}(h:b≠a):upd H a o b=H b:=by unfold upd;rw [aq h]
theorem UJ{u:HO}:upd (upd H a o) a u=upd H a u:=by funext b;unfold upd;split <;> rfl
theorem gN{b:Addr}(h:H a=some o)(h':H b=none):a≠b:=by intro e;subst e;rw [h] at h';cases h'
section
variable (P:Program) (w:World)
def gu(H:Hp)(h:Heap)(a:Addr):HO->Prop
 | .lst xs=>xs.length<=sizeLine/\∃(av:List Value) (n:Nat),Vals xs av/\h.get? a=some {cls:=.type "list",data:=.seq av.toArray n}
 | .tup xs=>xs.length<=sizeLine/\∃av:List Value,Vals xs av/\IsTup h a av.toArray
 | .dK du=>du.length<=sizeLine/\(a == sysModules)=false/\∃vs,KV du vs/\h.DictOf (H_ P w) a vs
 | .dT du=>du.length<=sizeLine/\(a == sysModules)=false/\∃xs:List (List Key×Addr×Value),
   Paired (fun(p:List Key×V) (q:List Key×Addr×Value)=>p.1=q.1/\H q.2.1=some (.tup (p.1.map kV))/\RelV p.2 q.2.2) du xs /\
   ∃o es ep,h.get? a=some o/\o.ExactDict/\o.data=.dict es ep/\es.toList=xs.map (entryOfKey (tupleKind (H_ P w)))/\(xs.map (·.1)).Nodup
 | .set S n=>h.SetOf (intKind P w) a S n
 | .ins C dx fs=>H dx=some (.own a)/\fs.length<=1000/\dx≠a/\h.get? a=some (PySem.W.instObj C dx) /\
   ∃mA,h.Ns1 dx mA/\(∀f,nQ (fs.lookup f) (mA f))/\PySem.Within mA (fs.map (·.1))
 | .own _=>∃o,h.get? a=some o
 | .xd fs=>∃mA,h.Ns1 a mA/\∀f,nQ (fs.lookup f) (mA f)
 | .jC lo hi=>∃t u v,h.get? a=some {cls:=.type "range",data:=.fields #[.int lo t,.int hi u,.int 1 v]}
 | .jf o u=>h.get? a=some o/\gu H h a u
 | .oU ps=>h.get? a=some {cls:=.none,data:=.fields ps}
 | .met f x=>h.get? a=some (PySem.W.methodObj (.ref f) (.ref x))
 | .ext φ=>φ h/\(∃o,h.get? a=some o)/\∀h1 h2:Heap,φ h1->(∀o,h1.get? a=some o->h2.get? a=some o)->φ h2
def d6(H:Hp)(h:Heap):Prop:=∀a o,H a=some o->gu P w H h a o
end
section
variable {P:Program} {w:World} {H H':Hp} {h h':Heap} {a:Addr} {o:HO}
theorem gu.lt(x:gu P w H h a o):a<h.objs.size:=by
 cases o with
 | lst xs=>intros amA x _ am6 _ _ _ e;exact cB e
 | tup xs=>obtain ⟨_,_,_,p⟩:=x;exact p.lt
 | dK du=>intros am8 x _ _ _ _ am10 o _ _ e _;exact cB e
 | dT du=>intros am8 x _ _ _ _ am10 o _ _ e _;exact cB e
 | set S n=>intros amE x o am10 _ _ _ e _;exact cB e
 | ins C dx fs=>obtain ⟨_,_,_,e,_⟩:=x;exact cB e
 | own y=>obtain ⟨_,e⟩:=x;exact cB e
 | xd fs=>obtain ⟨_,⟨_,_,_,e,_⟩,_⟩:=x;exact cB e
 | jC lo hi=>intros amE x _ am1 _ _ e;exact cB e
 | jf ob u=>obtain ⟨e,_⟩:=x;exact cB e
 | oU ps=>exact cB (show h.get? a=some _ from x)
 | met f y=>exact cB (show h.get? a=some _ from x)
 | ext φ=>obtain ⟨_,⟨_,e⟩,_⟩:=x;exact cB e
theorem Paired.Nc{α β:Type}{F G:α->β->Prop}:∀{l₁:List α} {l₂:List β},Paired F l₁ l₂->(∀a b,F a b->G a b)->Paired G l₁ l₂
 | _,_,.nil,_=>.nil
 | _,_,.cons r t,f=>.cons (f _ _ r) (Paired.Nc t f)
theorem gu.kG(x:gu P w H h a o)(k:∀b u,(b=a\/H b=some (.own a))->h.get? b=some u->h'.get? b=some u)
  (ho:∀b,H b=some (.own a)->H' b=some (.own a)) (ht:∀b xs,H b=some (.tup xs)->H' b=some (.tup xs)):gu P w H' h' a o:=by
 induction o with
 | lst xs=>intros amA x z am6 av n r e;exact ⟨z,av,n,r,k _ _ (.inl rfl) e⟩
 | tup xs=>obtain ⟨z,av,r,ob,e,c⟩:=x;exact ⟨z,av,r,ob,k _ _ (.inl rfl) e,c⟩
 | dK du=>intros am8 x z y vs r am10 ob es ep e c;exact ⟨z,y,vs,r,ob,es,ep,k _ _ (.inl rfl) e,c⟩
 | dT du=>intros am8 x z y xs r am10 ob es ep e c;exact ⟨z,y,xs,Paired.Nc r λp q z=>⟨z.1,ht _ _ z.2.1,z.2.2⟩,ob,es,ep,k _ _ (.inl rfl) e,c⟩
 | set S n=>intros amE x ob am10 es ep t e c;exact ⟨ob,es,ep,t,k _ _ (.inl rfl) e,c⟩
 | ins C dx fs=>obtain ⟨d,z,ne,e,mA,⟨od,es,ep,e2,c⟩,r⟩:=x;exact ⟨ho _ d,z,ne,k _ _ (.inl rfl) e,mA,⟨od,es,ep,k _ _ (.inr d) e2,c⟩,r⟩
 | own y=>obtain ⟨ob,e⟩:=x;exact ⟨ob,k _ _ (.inl rfl) e⟩
 | xd fs=>obtain ⟨mA,⟨od,es,ep,e,c⟩,r⟩:=x;exact (ad mA ⟨od,es,ep,k _ _ (.inl rfl) e,c⟩ r)
 | jC lo hi=>intros amE x t am1 u v e;exact ⟨t,u,v,k _ _ (.inl rfl) e⟩
 | jf ob u ih=>obtain ⟨e,q⟩:=x;exact ⟨k _ _ (.inl rfl) e,ih q⟩
 | oU ps=>have e:h.get? a=some {cls:=.none,data:=.fields ps}:=x;show h'.get? a=some {cls:=.none,data:=.fields ps};exact k a _ (.inl rfl) e
 | met f y=>have e:h.get? a=some (PySem.W.methodObj (.ref f) (.ref y)):=x;show h'.get? a=some (PySem.W.methodObj (.ref f) (.ref y));exact k a _ (.inl rfl) e
 | ext φ=>obtain ⟨p,⟨o,e⟩,st⟩:=x;exact ⟨st _ _ p λo q=>k _ _ (.inl rfl) q,⟨o,k _ _ (.inl rfl) e⟩,st⟩
theorem d6.lt(x:d6 P w H h)(e:H a=some o):a<h.objs.size:=(x a o e).lt
theorem d6.fresh(x:d6 P w H h)(e:h.objs.size<=a):H a=none:=by
 cases q:H a with
 | none=>rfl
 | some u=>exact absurd (dQ (x.lt q) e) (iy _)
theorem d6.kept(x:d6 P w H h)(k:∀b u,h.get? b=some u->h'.get? b=some u):d6 P w H h':=λa o e=>(x a o e).kG (λb u _ q=>k b u q) (λ_ q=>q) λ_ _ q=>q
theorem d6.laid(x:d6 P w H h)(k:∀b u,h.get? b=some u->h'.get? b=some u)(hp:h.objs.size<=a)(new:gu P w (upd H a o) h' a o):d6 P w (upd H a o) h':=λb u e=>by
 have hn:=x.fresh hp;by_cases hb:b=a;·subst hb;rw [aK] at e;cases e;exact new
 ·rw [cj hb] at e
  exact (x b u e).kG (λc v _ q=>k c v q) (λc q=>by rw [cj (gN q hn)];exact q) λc xs q=>by rw [cj (gN q hn)];exact q
end
def Rd(H:Hp)(a:Addr)(u:HO):Prop:=H a=some u\/∃o,H a=some (.jf o u)
variable {P:Program} {w:World} {h:Heap}
theorem Rd.ok{u:HO}(r:Rd H a u)(x:d6 P w H h):gu P w H h a u:=by
 rcases r with r | ⟨o,r⟩;·exact x a u r
 ·obtain ⟨_,q⟩:=x a _ r
  exact q
def Dv:Option HO->Prop
 | some (.lst _)=>True
 | some (.dK _)=>True
 | some (.dT _)=>True
 | some (.set _ _)=>True
 | some (.ins _ _ _)=>True
 | some (.ext _)=>True
 | _=>False
section
variable {P:Program} {w:World} {H:Hp} {h h':Heap} {x e:Addr} {o':HO}
theorem d6.write(ok:d6 P w H h)(mu:Dv (H x))(he:e=x\/H e=some (.own x))(k:∀b u,b≠e->h.get? b=some u->h'.get? b=some u)(wB:∃u,h'.get? e=some u)
  (new:gu P w (upd H x o') h' x o'):d6 P w (upd H x o') h':=λb u q=>by
 have Nd:∀c y,H c=some (.own y)->c≠x:=λc y r z=>by subst z;rw [r] at mu;exact mu
 have UK:∀c xs,H c=some (.tup xs)->c≠x:=λc xs r z=>by subst z;rw [r] at mu;exact mu
 by_cases hb:b=x;·subst hb;rw [aK] at q;cases q;exact new
 ·rw [cj hb] at q
  by_cases sv:b=e
  ·have q':H b=some (.own x):=by
    rcases he with z | z;·exact absurd (sv.trans z) hb
    ·rw [sv];exact z
   rw [q] at q';cases q';obtain ⟨v,hv⟩:=wB;exact ⟨v,by rw [sv];exact hv⟩
  ·refine (ok b u q).kG (λc v hc r=>k c v ?_ r) (λc r=>by rw [cj (Nd c b r)];exact r) λc xs r=>by rw [cj (UK c xs r)];exact r
   rcases hc with rfl | hc;·exact sv
   ·rintro rfl
    rcases he with z | z;·exact Nd c b hc z
    ·rw [hc] at z;cases z;exact hb rfl
end
structure Un (fs ex:List Addr) (H H':Hp) (h h':Heap):Prop where
 keep:∀b o,h.get? b=some o->H b=none->b∉fs->b∉ex->h'.get? b=some o
 slot:∀b o,h.get? b=some o->H b=none->b∈fs->b∉ex->∃sl,h'.get? b=some {o with slots:=sl}
 free:∀b o,h.get? b=some o->H b=none->b∉ex->H' b=none
 there:∀b o,h.get? b=some o->b∉ex->∃o',h'.get? b=some o'
 iV:∀b xs,H b=some (.tup xs)->H' b=some (.tup xs)
 iE:∀b o u,H b=some (.jf o u)->H' b=some (.jf o u)
 iW:∀b ps,H b=some (.oU ps)->∃more,H' b=some (.oU (ps++more))
section
variable {fs UL ex nR:List Addr} {H H1 H2:Hp} {h h1 h2 h':Heap} {a x e:Addr} {o:HO}
theorem Un.any(u:Un fs ex H H1 h h1){b:Addr}{ob:Obj}(q:h.get? b=some ob)(n:H b=none)(hx:b∉ex):∃sl,h1.get? b=some {ob with slots:=sl}:=by
 by_cases hb:b∈fs;·exact u.slot b ob q n hb hx
 ·exact ⟨ob.slots,u.keep b ob q n hb hx⟩
theorem Un.kept(k:∀b u,h.get? b=some u->h'.get? b=some u):Un fs ex H H h h':=
 ⟨λb ob q _ _ _=>k b ob q,λb ob q _ _ _=>⟨ob.slots,k b ob q⟩,λ_ _ _ n _=>n,λb ob q _=>⟨ob,k b ob q⟩,λ_ _ q=>q,λ_ _ _ q=>q,λ_ ps q=>⟨#[],by rw [q];simp⟩⟩
theorem Un.refl:Un fs ex H H h h:=Un.kept λ_ _ q=>q
theorem Un.laid(k:∀b u,h.get? b=some u->h'.get? b=some u)(hp:h.objs.size<=a)(hn:H a=none):Un fs ex H (upd H a o) h h' where
 keep:=λb u q _ _ _=>k b u q
 slot:=λb u q _ _ _=>⟨u.slots,k b u q⟩
 free:=λb u q n _=>by rw [cj (f9 (dQ (cB q) hp))];exact n
 there:=λb u q _=>⟨u,k b u q⟩
 iV:=λb xs q=>by rw [cj (gN q hn)];exact q
 iE:=λb u xs q=>by rw [cj (gN q hn)];exact q
 iW:=λb ps q=>⟨#[],by rw [cj (gN q hn),q];simp⟩
theorem Un.write(mu:Dv (H x))(he:e=x\/H e=some (.own x))(k:∀b u,b≠e->h.get? b=some u->h'.get? b=some u)(wB:∃u,h'.get? e=some u):Un fs ex H (upd H x o) h h':=by
 have hx:∀b,H b=none->b≠x:=λb n z=>by subst z;rw [n] at mu;exact mu
 have hb:∀b,H b=none->b≠e:=λb n z=>by
  subst z;rcases he with r | r;·exact hx b n r
  ·rw [n] at r;cases r
 have hm:∀b u,H b=some u->¬Dv (some u)->b≠x:=λb u q nm z=>by subst z;rw [q] at mu;exact nm mu
 refine ⟨λb u q n _ _=>k b u (hb b n) q,λb u q n _ _=>⟨u.slots,k b u (hb b n) q⟩,λb u q n _=>by rw [cj (hx b n)];exact n,λb u q _=>?_,
  λb xs q=>by rw [cj (hm b _ q λz=>z)];exact q,λb u xs q=>by rw [cj (hm b _ q λz=>z)];exact q,λb ps q=>⟨#[],by rw [cj (hm b _ q λz=>z),q];simp⟩⟩
 by_cases sv:b=e;·subst sv;exact wB
 ·exact ⟨u,k b u sv q⟩
end
def Dw(h:Heap)(H:Hp):List Addr:=(List.range h.objs.size).filter λa=>(H a).isSome
def oV(h:Heap)(H:Hp):Heap:=PySem.W.hideAll h (Dw h H)
theorem UM(h:Heap)(H:Hp):(oV h H).objs.size=h.objs.size:=PySem.W.hideAll_size _ _
theorem UN{b:Addr}{o:Obj}(e:h.get? b=some o)(n:H b=none):(oV h H).get? b=some o:=
 C0 _ e λhm=>by have q:(H b).isSome=true:=(vV.mp hm).2;rw [n] at q;simp at q
theorem UO{b:Addr}{o:Obj}(e:(oV h H).get? b=some o):h.get? b=some o/\H b=none:=by
 have e':h.get? b=some o:=PySem.W.of_hideAll (Dw h H) e;refine ⟨e',?_⟩;cases q:H b with
 | none=>rfl
 | some x=>
  have hm:b∈Dw h H:=vV.mpr ⟨gs.mpr (cB e'),by simp [q]⟩
  have z:(oV h H).get? b=none:=PySem.W.hideAll_none (Dw h H) hm;rw [z] at e;cases e
structure Mod (K:aQ) (mg:eK) (base:Heap):Prop where
 ed:K.In base
 glob:base.Ns mainGlobals mg
 blt:∃mb,base.Ns builtinsNs mb/\∀x:Str,x ≠ "__name__"->mb x=bootBuiltins x
 nolimit:base.NoLimit
structure Cx where
 prog:Program
 w:World
 K:PySem.W.Frag
 mg:Str->Option Value
 base:Heap
 A:Around
 N:List Str
 s₀:Shared
 H₀:Hp
 env:Env
 outer:List Env
 stack:List Env
 ex:List Addr
 fn:Str->Bool
 calm:Bool
 pn:List (Addr×Obj)
 xe:Value->Shared->Prop
def dJ(l:List Env):List Addr:=l.filterMap (·.frame)
abbrev Cx.fs (X:Cx):List Addr:=dJ X.outer
def oW(sc:Scope)(x:Str):Prop:=sc.names.lookup x=some .local\/sc.names.lookup x=some .cell\/sc.names.lookup x=some .free
def Loc(sc:Scope)(x:Str):Prop:=sc.names.lookup x=some .local\/sc.names.lookup x=some .cell
def Look(env:Env)(h:Heap)(m:eK)(x:Str)(u:Value):Prop:=
 (env.kindOf x=some .local/\m x=some u)\/((env.kindOf x=some .cell\/env.kindOf x=some .free)/\∃c,env.cells.lookup x=some c/\h.IsCell c (some u))
structure Cx.Ok (X:Cx):Prop where
 mod:Mod X.K X.mg X.base
 kind:X.env.scope.kind=.function
 glob:X.env.globals=mainGlobals
 blt:X.env.builtins=builtinsNs
 above:X.s₀.heap.objs.size<=X.env.locals
 inj:∀x y c,X.env.cells.lookup x=some c->X.env.cells.lookup y=some c->x=y
 has:∀x,(X.env.kindOf x=some .cell\/X.env.kindOf x=some .free)->∃c,X.env.cells.lookup x=some c
 sy:∀x c,X.fn x=true->X.env.cells.lookup x=some c->X.s₀.heap.objs.size<=c
 hd:X.calm=true->X.A.handled=none
 frames:X.A.frames=some X.stack
 kH:X.stack=X.outer\/(X.stack=X.env::X.outer/\X.env.frame=some X.env.locals)
 Nf:∀b∈X.ex,b≠X.env.locals/\∀x c,X.env.cells.lookup x=some c->c≠b
 bs:∀b o,X.base.get? b=some o->X.s₀.heap.get? b=some o/\X.H₀ b=none
 iX:X.base.objs.size<=X.s₀.heap.objs.size
 oX:∀b o,X.base.get? b=some o->b∉X.ex
 oY:∀b∈X.ex,b∉X.fs
 lV:X.s₀.heap.FunFrames X.base X.outer
 oZ:∀b∈X.fs,X.H₀ b=none
structure Inv (X:Cx) (pins:cf) (σ:List (Option V)) (H:Hp) (s:Shared):Prop where
 ok:X.Ok
 os:s.os=X.s₀.os
 bare:AllBare s.gens
 base:Un X.fs X.ex X.H₀ H X.s₀.heap s.heap
 loc:∃m,s.heap.Ns X.env.locals m/\∀(i:Nat) (x:Str) (v:V),X.N[i]?=some x->σ[i]?=some (some v)->oW X.env.scope x->∃u,RelV v u/\Look X.env s.heap m x u
 cell:∀x c,X.env.cells.lookup x=some c->∃v,s.heap.IsCell c v
 free:H X.env.locals=none
 jZ:∀x c,X.env.cells.lookup x=some c->H c=none
 pin:∀p∈X.pn++pins,s.heap.get? p.1=some p.2/\H p.1=none/\p.1≠X.env.locals/\p.1∉X.fs/\∀v,p.2.data≠.cell v
 aT:d6 X.prog X.w H s.heap
 len:σ.length=X.N.length
section
variable {X:Cx} {pins:cf} {σ:List (Option V)} {H H':Hp} {s:Shared} {h':Heap}
theorem Cx.Ok.UP(ok:X.Ok){b:Addr}{o:Obj}(e:X.base.get? b=some o):b∉X.fs:=λhb=>by have:=(ok.lV.mem hb).1;rw [e] at this;cases this
theorem Inv.bs(I:Inv X pins σ H s):∀b o,X.base.get? b=some o->s.heap.get? b=some o/\H b=none:=λb o e=>⟨I.base.keep b o (I.ok.bs b o e).1 (I.ok.bs b o e).2 (I.ok.UP e) (I.ok.oX b o e),I.base.free b o (I.ok.bs b o e).1 (I.ok.bs b o e).2 (I.ok.oX b o e)⟩
theorem Inv.bk(I:Inv X pins σ H s):∀b o,X.base.get? b=some o->s.heap.get? b=some o:=λb o e=>(I.bs b o e).1
theorem Inv.mod(I:Inv X pins σ H s):Mod X.K X.mg X.base:=I.ok.mod
theorem Inv.fK(I:Inv X pins σ H s):X.K.In s.heap:=I.ok.mod.ed.keeps I.bk
theorem Inv.lt(I:Inv X pins σ H s):X.env.locals<s.heap.objs.size:=let ⟨_,hn,_⟩:=I.loc;hn.lt
theorem Inv.sz(I:Inv X pins σ H s):X.s₀.heap.objs.size<=s.heap.objs.size:=au I.ok.above (Nat.le_of_lt I.lt)
theorem Inv.UQ(I:Inv X pins σ H s)(h:s.heap.objs.size<=a):a∉X.fs:=λhb=>by obtain ⟨_,o,ho,_⟩:=I.ok.lV.mem hb;exact absurd (dQ (cB ho) (au I.sz h)) (iy _)
theorem Inv.sA(I:Inv X pins σ H s):∀x c,X.env.cells.lookup x=some c->c≠X.env.locals:=λx c e z=>by obtain ⟨v,o,ho,hd⟩:=I.cell x c e;obtain ⟨m,⟨o',es,ep,o4,Ia,_⟩,_⟩:=I.loc;rw [z,o4] at ho;cases ho;rw [Ia] at hd;cases hd
theorem Inv.lV(I:Inv X pins σ H s):s.heap.FunFrames X.base X.outer:=by
 have all:∀(l:List Env),(∀b∈dJ l,b∈X.fs)->X.s₀.heap.FunFrames X.base l->s.heap.FunFrames X.base l:=by
  intro l
  induction l with
  | nil=>intro _ _;trivial
  | cons env r ih=>
   intro hs hl;obtain ⟨hk,⟨L,o,hf,hn,ho,hd⟩,hr⟩:=hl;have hL:L∈X.fs:=hs L (by unfold dJ;rw [C2,hf];exact jx)
   obtain ⟨sl,e⟩:=I.base.slot L o ho (I.ok.oZ L hL) hL λz=>I.ok.oY L z hL;exact ⟨hk,(gl L _ hf hn e hd),ih (λb hb=>hs b (by unfold dJ;rw [C2,hf];exact iQ _ hb)) hr⟩
 exact all X.outer (λ_ hb=>hb) I.ok.lV
theorem Inv.stack(I:Inv X pins σ H s):s.heap.FunFrames X.base X.stack:=by
 rcases I.ok.kH with e | ⟨e,hf⟩;·rw [e];exact I.lV
 ·rw [e]
  obtain ⟨m,hn,_⟩:=I.loc;refine .cons (by rw [I.ok.kind];decide) hf hn ?_ I.lV
  exact Heap.get?_none_of_le (au I.ok.iX I.ok.above)
theorem Inv.sC(I:Inv X pins σ H s):∀b∈dJ X.stack,b∈X.env.locals::X.fs:=λb hb=>by
 rcases I.ok.kH with e | ⟨e,hf⟩;·rw [e] at hb;exact iQ _ hb
 ·rw [e] at hb
  unfold dJ at hb;rw [C2,hf] at hb;exact hb
theorem Inv.sD(I:Inv X pins σ H s):∀b∈dJ X.stack,H b=none:=λb hb=>by
 rcases fM.mp (I.sC b hb) with e | hb;·rw [e];exact I.free
 ·obtain ⟨_,o,ho,_⟩:=I.ok.lV.mem hb
  exact I.base.free b o ho (I.ok.oZ b hb) λz=>I.ok.oY b z hb
variable {g':Array GenState} {t':Nat} {d':Drawn} {ch:List Addr}
theorem Inv.step(I:Inv X pins σ H s)
  (nS:∀b∈ch,(b∈X.ex\/X.s₀.heap.objs.size<=b)/\b≠X.env.locals/\(∀x c,X.env.cells.lookup x=some c->c≠b)/\∀p∈X.pn++pins,p.1≠b)
  (keep:∀b o,b≠X.env.locals->b∉X.fs->b∉ch->s.heap.get? b=some o->H b=none->h'.get? b=some o)
  (slot:∀b o,b≠X.env.locals->b∈X.fs->b∉ch->s.heap.get? b=some o->H b=none->∃sl,h'.get? b=some {o with slots:=sl}) (free:∀b o,b∉ch->s.heap.get? b=some o->H b=none->H' b=none)
  (there:∀b o,b∉ch->s.heap.get? b=some o->∃o',h'.get? b=some o')
  (iV:∀b xs,H b=some (.tup xs)->H' b=some (.tup xs)) (iE:∀b o u,H b=some (.jf o u)->H' b=some (.jf o u)) (iW:∀b ps,H b=some (.oU ps)->∃more,H' b=some (.oU (ps++more)))
  (ns:∀m,s.heap.Ns X.env.locals m->h'.Ns X.env.locals m) (aT:d6 X.prog X.w H' h') (hg:AllBare g') :
  Inv X pins σ H' {s with heap:=h',gens:=g',drawn:=d',toks:=t'}:=by
 have Ng:∀b o,X.s₀.heap.get? b=some o->b≠X.env.locals:=λb o e=>f9 (dQ (cB e) I.ok.above);have Dx:∀b o,X.s₀.heap.get? b=some o->b∉X.ex->b∉ch:=λb o e hx hb=>by
  rcases (nS b hb).1 with z | z;·exact hx z
  ·exact absurd (dQ (cB e) z) (iy _)
 have cellK:∀x c,X.env.cells.lookup x=some c->∀v,s.heap.IsCell c v->h'.IsCell c v:=λx c e v ⟨o,ho,hd⟩=>by
  have AM:c∉ch:=λz=>(nS c z).2.2.1 x c e rfl;by_cases hc:c∈X.fs
  ·obtain ⟨sl,q⟩:=slot c o (I.sA x c e) hc AM ho (I.jZ x c e)
   exact (ad _ q hd)
  ·exact ⟨o,keep c o (I.sA x c e) hc AM ho (I.jZ x c e),hd⟩
 refine ⟨I.ok,I.os,hg,⟨λb o e n hb hx=>?_,λb o e n hb hx=>?_,λb o e n hx=>?_,λb o e hx=>?_,λb xs e=>iV b xs (I.base.iV b xs e),λb o xs e=>iE b o xs (I.base.iE b o xs e),λb ps e=>?_⟩,?_,λx c e=>?_,?_,λx c e=>?_,λp hp=>?_,aT,I.len⟩;·exact keep b o (Ng b o e) hb (Dx b o e hx) (I.base.keep b o e n hb hx) (I.base.free b o e n hx)
 ·obtain ⟨sl,e1⟩:=I.base.slot b o e n hb hx
  obtain ⟨UR,e2⟩:=slot b _ (Ng b o e) hb (Dx b o e hx) e1 (I.base.free b o e n hx);exact ⟨UR,e2⟩
 ·obtain ⟨o',e1⟩:=I.base.there b o e hx
  exact free b o' (Dx b o e hx) e1 (I.base.free b o e n hx)
 ·obtain ⟨o',e1⟩:=I.base.there b o e hx
  exact there b o' (Dx b o e hx) e1
 ·obtain ⟨m1,e1⟩:=I.base.iW b ps e
  obtain ⟨m2,e2⟩:=iW b _ e1;exact ⟨m1++m2,by rw [e2,Array.append_assoc]⟩
 ·obtain ⟨m,hn,hl⟩:=I.loc
  refine ⟨m,ns m hn,λi x v e1 e2 e3=>?_⟩;obtain ⟨u,r,l⟩:=hl i x v e1 e2 e3;refine (ad u r ?_);rcases l with l | ⟨k,c,e,z⟩;·exact .inl l
  ·exact .inr (sw k c e (cellK x c e _ z))
 ·obtain ⟨v,z⟩:=I.cell x c e
  exact ⟨v,cellK x c e v z⟩
 ·obtain ⟨m,⟨o,_,_,ho,_⟩,_⟩:=I.loc
  exact free _ o (λz=>(nS _ z).2.1 rfl) ho I.free
 ·obtain ⟨v,o,ho,hd⟩:=I.cell x c e
  exact free c o (λz=>(nS c z).2.2.1 x c e rfl) ho (I.jZ x c e)
 ·obtain ⟨e,n,ne,nf,d⟩:=I.pin p hp
  have AM:p.1∉ch:=λz=>(nS p.1 z).2.2.2 p hp rfl;exact ⟨keep p.1 p.2 ne nf AM e n,free p.1 p.2 AM e n,ne,nf,d⟩
theorem Inv.un(I:Inv X pins σ H s)(u:Un X.fs [] H H' s.heap h')(aT:d6 X.prog X.w H' h'):Inv X pins σ H' {s with heap:=h',toks:=t'}:=by
 obtain ⟨m,⟨o,es,ep,ho,r⟩,_⟩:=id I.loc;obtain ⟨sl,hL⟩:=u.any ho I.free (by simp)
 exact I.step (g':=s.gens) (d':=s.drawn) (ch:=[]) (λ_ z=>nomatch z) (λb o _ hb _ e n=>u.keep b o e n hb (by simp)) (λb o _ hb _ e n=>u.slot b o e n hb (by simp)) (λb o _ e n=>u.free b o e n (by simp)) (λb o _ e=>u.there b o e (by simp)) u.iV u.iE u.iW (λm' hm=>by intros am10 hm o' Ib mM o4 r';rw [ho] at o4;cases o4;exact ⟨_,Ib,mM,hL,r'⟩) aT I.bare
theorem Inv.call(I:Inv X pins σ H s)(u:Un (dJ X.stack) ch H H' s.heap h')(aT:d6 X.prog X.w H' h')(hg:AllBare g')
  (nS:∀b∈ch,(b∈X.ex\/X.s₀.heap.objs.size<=b)/\b≠X.env.locals/\(∀x c,X.env.cells.lookup x=some c->c≠b)/\∀p∈X.pn++pins,p.1≠b) :
  Inv X pins σ H' {s with heap:=h',gens:=g',drawn:=d',toks:=t'}:=by
 obtain ⟨m,⟨o,es,ep,ho,r⟩,_⟩:=id I.loc;obtain ⟨sl,hL⟩:=u.any ho I.free λz=>(nS _ z).2.1 rfl;exact I.step (ch:=ch) nS (λb o hL hb hc e n=>u.keep b o e n (λz=>(fM.mp (I.sC b z)).elim hL hb) hc) (λb o _ _ hc e n=>u.any e n hc) (λb o hc e n=>u.free b o e n hc) (λb o hc e=>u.there b o e hc) u.iV u.iE u.iW (λm' hm=>by intros am10 hm o' Ib mM o4 r';rw [ho] at o4;cases o4;exact ⟨_,Ib,mM,hL,r'⟩) aT hg
theorem Inv.turned{it:Addr}(I:Inv X pins σ H s)(k:∀b o,b≠it->s.heap.get? b=some o->h'.get? b=some o)(hn:H it=none)(hL:it≠X.env.locals)
  (h1:it∈X.ex\/X.s₀.heap.objs.size<=it) (h2:∀x c,X.env.cells.lookup x=some c->c≠it) (h3:∀p∈X.pn++pins,p.1≠it):Inv X pins σ H {s with heap:=h',toks:=t'}:=by
 have Nh:∀b u,H b=some u->b≠it:=λb u e z=>by rw [z,hn] at e;cases e
 refine I.step (g':=s.gens) (d':=s.drawn) (ch:=[it]) (λb hb=>?_) (λb o _ _ hc e _=>k b o (λz=>hc (by simp [z])) e) (λb o _ _ hc e _=>⟨o.slots,k b o (λz=>hc (by simp [z])) e⟩) (λ_ _ _ _ n=>n)
  (λb o hc e=>⟨o,k b o (λz=>hc (by simp [z])) e⟩) (λ_ _ e=>e) (λ_ _ _ e=>e) (λb ps e=>⟨#[],by rw [e];simp⟩) (λm hm=>?_) (λb u e=>?_) I.bare
 ·have e:b=it:=by simpa using hb
  subst e;exact ⟨h1,hL,h2,h3⟩
 ·intros am10 hm o es ep ho r
  exact ⟨o,es,ep,k _ o (Ne.symm hL) ho,r⟩
 ·refine (I.aT b u e).kG (λc v hc q=>k c v ?_ q) (λ_ q=>q) λ_ _ q=>q
  rcases hc with z | z;·rw [z];exact Nh b u e
  ·exact Nh c _ z
theorem Inv.tok(I:Inv X pins σ H s)(t:Nat):Inv X pins σ H {s with toks:=t}:=I.un (h':=s.heap) (t':=t) Un.refl I.aT
theorem Inv.kept(I:Inv X pins σ H s)(k:∀b u,s.heap.get? b=some u->h'.get? b=some u):Inv X pins σ H {s with heap:=h',toks:=t'}:=I.un (Un.kept k) (I.aT.kept k)
theorem Inv.laid(I:Inv X pins σ H s)(k:∀b u,s.heap.get? b=some u->h'.get? b=some u)(hp:s.heap.objs.size<=a)(new:gu X.prog X.w (upd H a o) h' a o) :
  Inv X pins σ (upd H a o) {s with heap:=h',toks:=t'}:=I.un (Un.laid k hp (I.aT.fresh hp)) (I.aT.laid k hp new)
theorem Inv.write{x e:Addr}(I:Inv X pins σ H s)(mu:Dv (H x))(he:e=x\/H e=some (.own x))(k:∀b u,b≠e->s.heap.get? b=some u->h'.get? b=some u)(wB:∃u,h'.get? e=some u)
  (new:gu X.prog X.w (upd H x o) h' x o):Inv X pins σ (upd H x o) {s with heap:=h',toks:=t'}:=I.un (Un.write mu he k wB) (I.aT.write mu he k wB new)
theorem Inv.Ni{Nj:cf}(I:Inv X pins σ H s)(h:∀p∈Nj,s.heap.get? p.1=some p.2/\H p.1=none/\p.1≠X.env.locals/\p.1∉X.fs/\∀v,p.2.data≠.cell v):Inv X Nj σ H s:=
 ⟨I.ok,I.os,I.bare,I.base,I.loc,I.cell,I.free,I.jZ,λp hp=>(lJ.mp hp).elim (λz=>I.pin p (List.mem_append_left _ z)) (h p),I.aT,I.len⟩
variable {i:Nat} {x:Str}
theorem Nk{N:List Str}(hN:N.Nodup){j:Nat}(a:N[i]?=some x)(b:N[j]?=some x):i=j:=by obtain ⟨h1,e1⟩:=aL.mp a;obtain ⟨h2,e2⟩:=aL.mp b;exact (List.getElem_inj hN).mp (e1.trans e2.symm)
variable {M:Model} {A:Around} {E:cX} {v:V} {u:Value} {Q:Unit->Shared->Prop}
theorem Ic(I:Inv X pins σ H s)(hN:X.N.Nodup)(hi:X.N[i]?=some x)(hx:Loc X.env.scope x)(r:RelV v u)
  (h:∀s',Inv X pins (σ.set i (some v)) H s'->(∃a,Heap.SameBut a s.heap s'.heap/\(a=X.env.locals\/X.env.cells.lookup x=some a))->Q () s') (hf:X.fn x=true\/X.env.scope.names.lookup x=some .local:=by first | exact .inl rfl | exact .inr rfl | assumption):wpAny M A (storeName X.env x u) Q E s:=by
 obtain ⟨m,hn,hl⟩:=id I.loc;have US:(X.env.scope.kind == .class || (X.env.scope.kind == .module && X.env.locals != X.env.globals))=false:=by rw [I.ok.kind];rfl
 have Nl:i<σ.length:=by rw [I.len];exact (aL.mp hi).1
 have sA:=I.sA;have tracked:∀{a:Addr} {h':Heap},(∃o,s.heap.get? a=some o/\H a=none)->Heap.SameBut a s.heap h'->d6 X.prog X.w H h':=fun{a h'} ha hs b ob e=>by
  obtain ⟨_,_,Nm⟩:=ha;refine (I.aT b ob e).kG (λc w' hc q=>(hs.2 c ?_).trans q) (λ_ q=>q) λ_ _ q=>q;rintro rfl;rcases hc with rfl | hc;·rw [Nm] at e;cases e
  ·rw [Nm] at hc;cases hc
 rcases hx with hk | hk
 ·refine wpAny_storeName_local hk hn (λh' qv hs=>?_) US
  obtain ⟨oL,_,_,UT,_⟩:=id hn;refine h _ ⟨I.ok,I.os,I.bare,⟨λb o e n hb hx=>?_,λb o e n hb hx=>?_,I.base.free,λb o e hx=>?_,I.base.iV,I.base.iE,I.base.iW⟩,(ad _ qv (λj y v' e1 e2 e3=>?_)),λy c e=>?_,I.free,I.jZ,λp hp=>?_,tracked (ad oL UT I.free) hs,by simpa using I.len⟩ (ad _ hs (.inl rfl))
  ·exact (hs.2 b (f9 (dQ (cB e) I.ok.above))).trans (I.base.keep b o e n hb hx)
  ·obtain ⟨sl,e1⟩:=I.base.slot b o e n hb hx
   exact ⟨sl,(hs.2 b (f9 (dQ (cB e) I.ok.above))).trans e1⟩
  ·obtain ⟨o',e1⟩:=I.base.there b o e hx
   exact ⟨o',(hs.2 b (f9 (dQ (cB e) I.ok.above))).trans e1⟩
  ·by_cases hj:j=i
   ·subst hj
    rw [hi] at e1;cases e1;rw [kx Nl] at e2;cases e2;exact (ad u r (.inl ⟨hk,by simp⟩))
   ·rw [ky (Ne.symm hj)] at e2
    obtain ⟨u',r',q⟩:=hl j y v' e1 e2 e3;refine (ad u' r' ?_);rcases q with ⟨k,e⟩ | ⟨k,c,e,z⟩
    ·refine .inl ⟨k,?_⟩
     have:y≠x:=λe=>hj (Nk hN e1 (e▸hi));simp [this,e]
    ·exact .inr (sw k c e (z.sameBut hs (sA y c e)))
  ·obtain ⟨w',z⟩:=I.cell y c e
   exact ⟨w',z.sameBut hs (sA y c e)⟩
  ·obtain ⟨e,n,ne,nf,d⟩:=I.pin p hp
   exact ⟨(hs.2 p.1 ne).trans e,n,ne,nf,d⟩
 ·have Ie:X.fn x=true:=by
   rcases hf with z | z;·exact z
   ·rw [z] at hk;cases hk
  obtain ⟨c,hc⟩:=I.ok.has x (.inl hk);obtain ⟨w',z⟩:=I.cell x c hc;refine wpAny_storeName_cell I.ok.kind hk hc z (λh' fV hs=>?_);obtain ⟨oc,Nn,UU⟩:=id z;refine h {s with heap:=h'} ⟨I.ok,I.os,I.bare,⟨λb o e n hb hx=>?_,λb o e n hb hx=>?_,I.base.free,λb o e hx=>?_,I.base.iV,I.base.iE,I.base.iW⟩,⟨m,hn.sameBut hs (Ne.symm (sA x c hc)),λj y v' e1 e2 e3=>?_⟩,λy c' e=>?_,I.free,I.jZ,λp hp=>?_,tracked ⟨oc,Nn,I.jZ x c hc⟩ hs,by simpa using I.len⟩ ⟨c,hs,.inr hc⟩
  ·exact (hs.2 b (f9 (dQ (cB e) (I.ok.sy x c Ie hc)))).trans (I.base.keep b o e n hb hx)
  ·obtain ⟨sl,e1⟩:=I.base.slot b o e n hb hx
   exact ⟨sl,(hs.2 b (f9 (dQ (cB e) (I.ok.sy x c Ie hc)))).trans e1⟩
  ·obtain ⟨o',e1⟩:=I.base.there b o e hx
   exact ⟨o',(hs.2 b (f9 (dQ (cB e) (I.ok.sy x c Ie hc)))).trans e1⟩
  ·by_cases hj:j=i
   ·subst hj
    rw [hi] at e1;cases e1;rw [kx Nl] at e2;cases e2;exact ⟨u,r,.inr (sw (.inl hk) c hc fV)⟩
   ·rw [ky (Ne.symm hj)] at e2
    obtain ⟨u',r',q⟩:=hl j y v' e1 e2 e3;refine (ad u' r' ?_);rcases q with q | ⟨k,c',e,z'⟩;·exact .inl q
    ·refine .inr (sw k c' e (z'.sameBut hs ?_))
     rintro rfl;exact hj (Nk hN e1 (I.ok.inj _ _ _ e hc▸hi))
  ·by_cases Np:c'=c
   ·subst Np;exact ⟨_,fV⟩
   ·obtain ⟨w2,z2⟩:=I.cell y c' e
    exact ⟨w2,z2.sameBut hs Np⟩
  ·obtain ⟨e,n,ne,nf,d⟩:=I.pin p hp
   refine ⟨(hs.2 p.1 ?_).trans e,n,ne,nf,d⟩;intro q;rw [q,Nn] at e;have q':oc=p.2:=Option.some.inj e;exact d w' (by rw [<-q'];exact UU)
theorem AN(I:Inv X pins σ H s)(hN:X.N.Nodup)(hi:X.N[i]?=some x)(hx:Loc X.env.scope x)(r:RelV v u)
  (h:∀s',Inv X pins (σ.set i (some v)) H s'->Q () s') (hf:X.fn x=true\/X.env.scope.names.lookup x=some .local:=by first | exact .inl rfl | exact .inr rfl | assumption):wpAny M A (storeName X.env x u) Q E s:=
 Ic I hN hi hx r (λs' I' _=>h s' I') hf
theorem Inv.o5{s':Shared}(I:Inv X pins σ H s)(ho:s'.os=s.os)(u:Un (dJ X.stack) ch H H' s.heap s'.heap)(aT:d6 X.prog X.w H' s'.heap)(hg:AllBare s'.gens)
  (nS:∀b∈ch,(b∈X.ex\/X.s₀.heap.objs.size<=b)/\b≠X.env.locals/\(∀x c,X.env.cells.lookup x=some c->c≠b)/\∀p∈X.pn++pins,p.1≠b):Inv X pins σ H' s':=by
 obtain ⟨h',g',d',t',o'⟩:=s';have e:o'=s.os:=ho;subst e;exact I.call (g':=g') (t':=t') (d':=d') u aT hg nS
end
abbrev XK:=Value->Option Addr->Hp->Prop
abbrev St:=List (Option V)
abbrev VK:=V->Hp->Prop
abbrev TE:=St->Hp->VK->Prop
abbrev TT:=St->Hp->(Bool->Hp->Prop)->Prop
abbrev TA:=St->Hp->(List V->Hp->Prop)->Prop
structure Ends where
 nx:St->Hp->Prop
 rt:VK
 bk:St->Hp->Prop:=λ_ _=>False
 ct:St->Hp->Prop:=λ_ _=>False
abbrev TS:=Ends->St->Hp->Prop
def EP(X:Cx)(pins:cf)(σ:St)(Q:VK)(u:Value)(s':Shared):Prop:=∃v H',Inv X pins σ H' s'/\RelV v u/\Q v H'
def TP(X:Cx)(pins:cf)(σ:St)(Q:Bool->Hp->Prop)(b:Bool)(s':Shared):Prop:=∃H',Inv X pins σ H' s'/\Q b H'
def AP(X:Cx)(pins:cf)(σ:St)(Q:List V->Hp->Prop)(us:List Value)(s':Shared):Prop:=∃vs H',Inv X pins σ H' s'/\Vals vs us/\Q vs H'
def SP(X:Cx)(pins:cf)(D:Ends)(f:Flow)(s':Shared):Prop:=
 match f with
 | .next=>∃σ' H',Inv X pins σ' H' s'/\D.nx σ' H'
 | .brk=>∃σ' H',Inv X pins σ' H' s'/\D.bk σ' H'
 | .cont=>∃σ' H',Inv X pins σ' H' s'/\D.ct σ' H'
 | .ret u=>∃v σ' H',Inv X pins σ' H' s'/\RelV v u/\D.rt v H'
def PE(X:Cx)(e:Expr)(t:TE):Prop:=
 ∀(pins:cf) (s:Shared) (σ:St) (H:Hp) (Q:VK),Inv X pins σ H s->t σ H Q->wpAny (model X.prog X.w) X.A (eval e X.env) (EP X pins σ Q) X.xe s
def PT(X:Cx)(e:Expr)(t:TT):Prop:=
 ∀(pins:cf) (s:Shared) (σ:St) (H:Hp) (Q:Bool->Hp->Prop),Inv X pins σ H s->t σ H Q->wpAny (model X.prog X.w) X.A (isTrue e X.env (eval e X.env)) (TP X pins σ Q) X.xe s
def PW(X:Cx)(e:Expr)(t:TT):Prop:=
 ∀(whole:Sem Value) (pins:cf) (s:Shared) (σ:St) (H:Hp) (Q:Bool->Hp->Prop),Inv X pins σ H s->t σ H Q->wpAny (model X.prog X.w) X.A (isTrue e X.env whole) (TP X pins σ Q) X.xe s
variable {X:Cx}
theorem PW.pt{e:Expr}{t:TT}(h:PW X e t):PT X e t:=h _
def PA(X:Cx)(es:List Expr)(t:TA):Prop:=
 ∀(pos:Pos) (pins:cf) (s:Shared) (σ:St) (H:Hp) (Q:List V->Hp->Prop),Inv X pins σ H s->t σ H Q->wpAny (model X.prog X.w) X.A (spliced (backTo pos (starEach es X.env))) (AP X pins σ Q) X.xe s
def PS(X:Cx)(st:Stmt)(t:TS):Prop:=
 ∀(pins:cf) (s:Shared) (σ:St) (H:Hp) (D:Ends),Inv X pins σ H s->t D σ H->wpAny (model X.prog X.w) X.A (exec st X.env) (SP X pins D) X.xe s
def gO(X:Cx)(st:List Stmt)(t:TS):Prop:=
 ∀(pins:cf) (s:Shared) (σ:St) (H:Hp) (D:Ends),Inv X pins σ H s->t D σ H->wpAny (model X.prog X.w) X.A (execs st X.env) (SP X pins D) X.xe s
variable {M:Model} {A:Around} {E:cX} {s:Shared}
theorem bh{α:Type}{t:Sem α}{Q Q':α->Shared->Prop}(h:wpAny M A t Q E s)(hQ:∀a s,Q a s->Q' a s):wpAny M A t Q' E s:=cQ h hQ λ_ _ x=>x
section
variable {X:Cx}
variable {pins:cf} {σ:St}
theorem bin{a b:Expr}{ta tb:TE}(ha:PE X a ta)(hb:PE X b tb){R:V->V->Hp->Prop}(I:Inv X pins σ H s)(h:ta σ H λx H1=>tb σ H1 λy H2=>R x y H2)
  {α:Type} {Q:α->Shared->Prop} {f:Value->Value->Sem α}
  (hf:∀v u s2 x y H2,Inv X pins σ H2 s2->RelV x v->RelV y u->R x y H2->wpAny (model X.prog X.w) X.A (f v u) Q X.xe s2) :
  wpAny (model X.prog X.w) X.A (eval a X.env) (λv s₁=>wpAny (model X.prog X.w) X.A (eval b X.env) (λu s₂=>wpAny (model X.prog X.w) X.A (f v u) Q X.xe s₂) X.xe s₁) X.xe s:=by
 refine bh (ha pins s σ H _ I h) λv s1 ⟨x,H1,I1,r1,q1⟩=>?_;refine bh (hb pins s1 σ H1 _ I1 q1) λu s2 ⟨y,H2,I2,r2,q2⟩=>?_;exact hf v u s2 x y H2 I2 r1 r2 q2
def jD(i:Nat):TE:=λσ H Q=>∃v,σ[i]?=some (some v)/\Q v H
def tC(v:V):TE:=λ_ H Q=>Q v H
variable {x:Str} {pos:Pos}
theorem UW{i:Nat}(hN:X.N[i]?=some x)(hv:oW X.env.scope x)(hd:(x == ("__debug__":Str))=false:=by decide)(hJ:(x == ("__classdict__":Str))=false:=by decide):PE X (.Name x pos) (jD i):=by
 intro pins s σ H Q I h;intros am0 h v e h;obtain ⟨m,hn,hl⟩:=I.loc;obtain ⟨u,r,l⟩:=hl i x v hN e hv;have fin:EP X pins σ Q u s:=(ce v H I r h);rcases l with ⟨hk,hm⟩ | ⟨hk,c,hc,Dy⟩;·exact wpAny_Name (wpAny_loadName_local I.ok.kind hk hn hm fin) hd
 ·rcases hk with hk | hk
  ·exact wpAny_Name (wpAny_loadName_cell I.ok.kind hk hc Dy fin) hd
  ·exact wpAny_Name (wpAny_loadName_free I.ok.kind hk hc Dy fin hJ) hd
theorem aj{i j pos}:PE X (.Constant (.int i) j pos) (tC (.int i)):=λ_ _ _ H _ I h=>wpAny_Constant_int ⟨.int i,H,I.tok _,⟨_,rfl⟩,h⟩
theorem dM{b j pos}:PE X (.Constant (.bool b) j pos) (tC (.bl b)):=λ_ _ _ H _ I h=>Constant_bool ⟨.bl b,H,I,rfl,h⟩
theorem nU{j pos}:PE X (.Constant .none j pos) (tC .bg):=λ_ _ _ H _ I h=>Constant_none ⟨.bg,H,I,rfl,h⟩
theorem gd{x j pos}:PE X (.Constant (.str x) j pos) (tC (.str x)):=λ_ _ _ H _ I h=>Calls.Constant_str ⟨.str x,H,I.tok _,⟨_,rfl⟩,h⟩
def Gl(X:Cx)(x:Str):Prop:=X.env.kindOf x=some .globalImplicit
variable {u:Value} {Q:cX}
theorem Dz(I:Inv X pins σ H s)(hg:Gl X x)(hm:X.mg x=some u)(h:Q u s)
  (hd:(x == ("__debug__":Str))=false:=by decide):wpAny (model X.prog X.w) X.A (eval (.Name x pos) X.env) Q E s:=
 Calls.Name_function_global I.ok.kind hg (Calls.loadGlobal_global (by rw [I.ok.glob];exact I.mod.glob.keeps I.bk) hm h) hd
theorem wD(I:Inv X pins σ H s)(hg:Gl X x)(hm:X.mg x=none)(hv:bootBuiltins x=some u)(h:Q u s)
  (hn:x ≠ "__name__":=by decide) (hd:(x == ("__debug__":Str))=false:=by decide):wpAny (model X.prog X.w) X.A (eval (.Name x pos) X.env) Q E s:=by
 obtain ⟨mb,h1,h2⟩:=I.mod.blt;exact Calls.Name_function_global I.ok.kind hg (Calls.loadGlobal_builtin (by rw [I.ok.glob];exact I.mod.glob.keeps I.bk) hm (by rw [I.ok.blt];exact h1.keeps I.bk) ((h2 x hn).trans hv) h) hd
variable {v:V}
theorem Nq(hg:Gl X x)(hm:X.mg x=some u)(r:RelV v u)(hd:(x == ("__debug__":Str))=false:=by decide):PE X (.Name x pos) (tC v):=
 λ_ _ _ H _ I h=>Dz I hg hm (ce v H I r h) hd
theorem lX(hg:Gl X x)(hm:X.mg x=none)(hv:bootBuiltins x=some u)(r:RelV v u)(hn:x ≠ "__name__":=by decide)(hd:(x == ("__debug__":Str))=false:=by decide):PE X (.Name x pos) (tC v):=
 λ_ _ _ H _ I h=>wD I hg hm hv (ce v H I r h) hn hd
variable {a b:Expr} {ta tb:TE} {pos:Pos}
def PC(X:Cx)(op:CmpOp)(a b:Expr)(t:TE):Prop:=
 ∀(pins:cf) (s:Shared) (σ:St) (H:Hp) (Q:VK),Inv X pins σ H s->t σ H Q->
  wpAny (model X.prog X.w) X.A (eval a X.env) (λv s₁=>wpAny (model X.prog X.w) X.A (eval b X.env) (λu s₂=>wpAny (model X.prog X.w) X.A (compareOp op v u) (EP X pins σ Q) X.xe s₂) X.xe s₁) X.xe s
def tB(t:TE):TT:=λσ H Q=>t σ H λx H1=>∃c,x=.bl c/\Q c H1
variable {t:TE}
theorem ala{op:CmpOp}(h:PC X op a b t)(h1:behindInMarks op b=false:=by first | exact alb _ ∅ ∅ | rfl):PT X (.Compare a [op] [b] pos) (tB t):=by intro pins s σ H Q I hw;refine wpAny_isTrue_Compare1 (bh (h pins s σ H _ I hw) λv s1 h1=>bh h1 λu s2 h2=>bh h2 λc s3 ⟨x,H1,I1,r1,q1⟩=>?_) h1;obtain ⟨d,rfl,q⟩:=q1;cases r1;exact nI ⟨H1,I1,q⟩
theorem d7{e:Expr}(h:PE X e t)(he:∀whole,isTrue e X.env whole=(do let v <-whole;standAt e.pos;holding [v] (truthy v)):=by intro _;rfl):PT X e (tB t):=by
 intro pins s σ H Q I hw
 refine isTrue_plain (bh (h pins s σ H _ I hw) λv s1 ⟨x,H1,I1,r1,q1⟩=>?_) (he _)
 obtain ⟨d,rfl,q⟩:=q1
 cases r1
 exact nI ⟨H1,I1,q⟩
variable {tA Nr:TT} {rest:List Expr}
def Nt(t u:TT):TT:=λσ H Q=>t σ H λc H1=>if c=true then Q true H1 else u σ H1 Q
def UX(t:TT):TT:=λσ H Q=>t σ H λc H1=>Q (!c) H1
theorem pw_or1(ha:PT X a tA):PW X (.BoolOp .Or [a] pos) tA:=by
 intro wh pins s σ H Q I h;refine isTrue_or (bh (ha pins s σ H Q I h) λc s1 e=>?_);cases c with
 | false=>exact isTrue_or_nil e
 | true=>exact e
theorem pw_or(ha:PT X a tA)(hb:PW X (.BoolOp .Or (b::rest) pos) Nr):PW X (.BoolOp .Or (a::b::rest) pos) (Nt tA Nr):=by
 intro wh pins s σ H Q I h;refine isTrue_or (bh (ha pins s σ H _ I h) λc s1 ⟨H1,I1,q1⟩=>?_);cases c with
 | true=>exact ⟨H1,I1,q1⟩
 | false=>exact hb wh pins s1 σ H1 Q I1 q1
theorem e7(ha:PT X a tA):PT X (.UnaryOp .Not a pos) (UX tA):=by intro pins s σ H Q I h;exact isTrue_not (ha pins s σ H (λc H1=>Q (!c) H1) I h)
def UY(ta tb:TE):TE:=λσ H Q=>ta σ H λx H1=>∃c,x=.bl c/\if c=true then tb σ H1 Q else Q (.bl false) H1
def UZ(ta tb:TE):TE:=λσ H Q=>ta σ H λx H1=>∃c,x=.bl c/\if c=true then Q (.bl true) H1 else tb σ H1 Q
def U0(ta:TE):TE:=λσ H Q=>ta σ H λx H1=>∃c,x=.bl c/\Q (.bl (!c)) H1
theorem jE{op}(h:PE X a t):PE X (.BoolOp op [a] pos) t:=λpins s σ H Q I hw=>BoolOp_one (h pins s σ H Q I hw)
theorem iF(ha:PE X a ta)(hb:PE X (.BoolOp .And (b::rest) pos) tb):PE X (.BoolOp .And (a::b::rest) pos) (UY ta tb):=by
 intro pins s σ H Q I h;refine BoolOp_and (bh (ha pins s σ H _ I h) λv s1 ⟨x,H1,I1,r1,q1⟩=>?_);intros am0 q1 c rfl q1;cases r1;refine nI ?_;cases c with
 | true=>exact hb pins s1 σ H1 Q I1 q1
 | false=>exact ⟨.bl false,H1,I1,rfl,q1⟩
theorem U1(ha:PE X a ta)(hb:PE X (.BoolOp .Or (b::rest) pos) tb):PE X (.BoolOp .Or (a::b::rest) pos) (UZ ta tb):=by
 intro pins s σ H Q I h;refine BoolOp_or (bh (ha pins s σ H _ I h) λv s1 ⟨x,H1,I1,r1,q1⟩=>?_);intros am0 q1 c rfl q1;cases r1;refine nI ?_;cases c with
 | false=>exact hb pins s1 σ H1 Q I1 q1
 | true=>exact ⟨.bl true,H1,I1,rfl,q1⟩
theorem Nu(ha:PE X a ta):PE X (.UnaryOp .Not a pos) (U0 ta):=by intro pins s σ H Q I h;refine UnaryOp_ (bh (ha pins s σ H _ I h) λv s1 ⟨x,H1,I1,r1,q1⟩=>?_);obtain ⟨c,rfl,q1⟩:=q1;cases r1;exact not_of (nI ⟨.bl (!c),H1,I1,rfl,q1⟩)
def AO(t:TT)(ta tb:TE):TE:=λσ H Q=>t σ H λc H1=>if c=true then ta σ H1 Q else tb σ H1 Q
theorem o6{c:Expr}(hc:PT X c tA)(ha:PE X a ta)(hb:PE X b tb):PE X (.IfExp c a b pos) (AO tA ta tb):=by
 intro pins s σ H Q I h;refine wpAny_IfExp (bh (hc pins s σ H _ I h) λd s1 ⟨H1,I1,q1⟩=>?_);cases d with
 | true=>exact ha pins s1 σ H1 Q I1 q1
 | false=>exact hb pins s1 σ H1 Q I1 q1
end
def cG(K:aQ)(H:Hp)(a:Addr)(xs:List V):Prop:=
 Rd H a (.lst xs) \/
  ∃(o:Obj) (av:Array Value) (n:Nat),K.lookup a=some o/\o.cls=.type "list"/\o.dict=none/\o.data=.seq av n/\av.size<=sizeLine/\Vals xs av.toList
def h_(K:aQ)(H:Hp)(a:Addr)(xs:List V):Prop:=
 Rd H a (.tup xs) \/
  ∃(o:Obj) (av:Array Value) (n:Nat),K.lookup a=some o/\o.cls=.type "tuple"/\o.data=.seq av n/\av.size<=sizeLine/\Vals xs av.toList
def U2:Value->Option V
 | .none=>some .bg
 | .bool b=>some (.bl b)
 | .int i _=>some (.int i)
 | .str x _=>some (.str x)
 | .bytes b _=>some (.jY b)
 | .float b _=>some (.su b)
 | .ref a=>some (.ref a)
 | .type n=>some (.ty n)
 | _=>none
variable {x:V} {u:Value}
theorem RelV.abs(r:RelV x u):U2 u=some x:=by
 cases x with
 | bg=>cases r;rfl
 | bl _=>cases r;rfl
 | int _=>obtain ⟨t,rfl⟩:=r;rfl
 | str _=>obtain ⟨t,rfl⟩:=r;rfl
 | jY _=>obtain ⟨t,rfl⟩:=r;rfl
 | su _=>obtain ⟨t,rfl⟩:=r;rfl
 | ref _=>cases r;rfl
 | ty _=>cases r;rfl
theorem RelV.inj{y:V}(r:RelV x u)(q:RelV y u):x=y:=Option.some.inj (r.abs.symm.trans q.abs)
theorem Vals.inj:∀{xs ys:List V} {us:List Value},Vals xs us->Vals ys us->xs=ys
 | _,_,_,.nil,.nil=>rfl
 | _,_,_,.cons r t,.cons r' t'=>by rw [r.inj r',Vals.inj t t']
section
variable {X:Cx} {pins:cf} {σ:St} {H:Hp} {s:Shared} {a:Addr} {xs ys:List V}
variable {K:aQ}
theorem cG.of(h:H a=some (.lst xs)):cG K H a xs:=.inl (.inl h)
theorem h_.of(h:H a=some (.tup xs)):h_ K H a xs:=.inl (.inl h)
theorem Inv.list(I:Inv X pins σ H s)(h:cG X.K H a xs):∃av:List Value,Vals xs av/\PlainL s.heap a av.toArray/\xs.length<=sizeLine:=by
 rcases h with h | ⟨o,av,n,hk,hc,hd,hs,hz,r⟩
 ·obtain ⟨z,av,n,r,e⟩:=h.ok I.aT
  exact (am av r (gl _ n e rfl rfl rfl) z)
 ·refine (am av.toList r ⟨o,n,I.fK a o hk,hc,hd,by simpa using hs⟩ ?_)
  have e:=r.length;simp only [Array.length_toList] at e;lia
theorem Inv.tuple(I:Inv X pins σ H s)(h:h_ X.K H a xs):∃av:List Value,Vals xs av/\IsTup s.heap a av.toArray/\xs.length<=sizeLine:=by
 rcases h with h | ⟨o,av,n,hk,hc,hs,hz,r⟩
 ·obtain ⟨z,av,r,p⟩:=h.ok I.aT
  exact (am av r p z)
 ·refine (am av.toList r ⟨o,I.fK a o hk,hc,n,by simpa using hs⟩ ?_)
  have e:=r.length;simp only [Array.length_toList] at e;lia
theorem Inv.Ig(I:Inv X pins σ H s)(h:cG X.K H a xs)(h':cG X.K H a ys):xs=ys:=by
 obtain ⟨av,r,⟨o,n,e,_,_,d⟩,_⟩:=I.list h;obtain ⟨its',r',⟨o',n',e',_,_,d'⟩,_⟩:=I.list h';rw [e] at e';cases e';rw [d] at d';injection d' with d1 _;have:av=its':=by simpa using eW Array.toList d1
 subst this;exact r.inj r'
end
abbrev Cx.nV (X:Cx) (E:cX):Cx:={X with xe:=E}
abbrev Cx.sE (X:Cx):Cx:=X.nV λ_ _=>False
theorem Cx.Ok.nV(ok:X.Ok)(E:cX):(X.nV E).Ok:=
 ⟨ok.mod,ok.kind,ok.glob,ok.blt,ok.above,ok.inj,ok.has,ok.sy,ok.hd,ok.frames,ok.kH,ok.Nf,ok.bs,ok.iX,ok.oX,ok.oY,ok.lV,ok.oZ⟩
theorem Cx.Ok.qw(ok:(X.nV E).Ok):X.Ok:=
 ⟨ok.mod,ok.kind,ok.glob,ok.blt,ok.above,ok.inj,ok.has,ok.sy,ok.hd,ok.frames,ok.kH,ok.Nf,ok.bs,ok.iX,ok.oX,ok.oY,ok.lV,ok.oZ⟩
section
variable {X:Cx} {pins:cf} {σ:St} {H:Hp} {s:Shared} {E:cX}
theorem Inv.nV(I:Inv X pins σ H s)(E:cX):Inv (X.nV E) pins σ H s:=⟨I.ok.nV E,I.os,I.bare,I.base,I.loc,I.cell,I.free,I.jZ,I.pin,I.aT,I.len⟩
theorem Inv.qw(I:Inv (X.nV E) pins σ H s):Inv X pins σ H s:=⟨I.ok.qw,I.os,I.bare,I.base,I.loc,I.cell,I.free,I.jZ,I.pin,I.aT,I.len⟩
theorem SP.qw{D:Ends}{f:Flow}{s':Shared}(h:SP (X.nV E) pins D f s'):SP X pins D f s':=by
 cases f with
 | next=>obtain ⟨σ',H',I,q⟩:=h;exact ⟨σ',H',I.qw,q⟩
 | brk=>obtain ⟨σ',H',I,q⟩:=h;exact ⟨σ',H',I.qw,q⟩
 | cont=>obtain ⟨σ',H',I,q⟩:=h;exact ⟨σ',H',I.qw,q⟩
 | ret u=>intros am18 h v σ' H' I r q;exact ⟨v,σ',H',I.qw,r,q⟩
theorem gO.sE{st:List Stmt}{t:TS}(h:gO X.sE st t):gO X st t:=λpins s σ H D I hw=>cQ (h pins s σ H D (I.nV _) hw) (λ_ _ q=>q.qw) λ_ _ z=>False.elim z
end
section
variable {X:Cx} {st:Stmt} {rest:List Stmt} {t u:TS} {e:Expr} {te:TE} {pos:Pos}
def eO:TS:=λD σ H=>D.nx σ H
def Ih(t u:TS):TS:=λD σ H=>t {D with nx:=u D} σ H
theorem bG:gO X [] eO:=λ_ _ σ H _ I h=>C3 ⟨σ,H,I,h⟩
theorem ak(h1:PS X st t)(h2:gO X rest u):gO X (st::rest) (Ih t u):=by
 intro pins s σ H D I h;refine wpAny_execs_cons (bh (h1 pins s σ H {D with nx:=u D} I h) λf s1 q=>?_);cases f with
 | next=>intros am6 q σ' H' I' q;exact h2 pins s1 σ' H' D I' q
 | ret v=>exact q
 | brk=>exact q
 | cont=>exact q
theorem ar(h1:PS X st t):gO X [st] t:=by
 intro pins s σ H D I h;refine wpAny_execs_cons (bh (h1 pins s σ H D I h) λf s1 q=>?_);cases f with
 | next=>exact C3 q
 | ret v=>exact q
 | brk=>exact q
 | cont=>exact q
theorem Inv.quiet{pins:cf}{σ:St}(I:Inv X pins σ H s):interactive X.env=false:=by simp [interactive,I.ok.kind]
def U3(te:TE):TS:=λD σ H=>te σ H λ_ H1=>D.nx σ H1
theorem wF(he:PE X e te)(hs:swapsWith e none pos.line X.env=pure false:=by rfl):PS X (.Expr e pos) (U3 te):=by intro pins s σ H D I h;exact wpAny_Expr_any (bh (he pins s σ H _ I h) λv s1 ⟨x,H1,I1,r1,q1⟩=>⟨σ,H1,I1,q1⟩) I.quiet hs
def Nv(te:TE):TS:=λD σ H=>te σ H D.rt
theorem aJ(he:PE X e te):PS X (.Return (some e) pos) (Nv te):=by intro pins s σ H D I h;exact wpAny_Return_some (bh (he pins s σ H _ I h) λv s1 ⟨x,H1,I1,r1,q1⟩=>⟨x,σ,H1,I1,r1,q1⟩)
def AQ(c:TT)(t u:TS):TS:=λD σ H=>c σ H λb H1=>if b=true then t D σ H1 else u D σ H1
theorem bC{c:Expr}{a b:List Stmt}{tc:TT}(hc:PT X c tc)(ha:gO X a t)(hb:gO X b u):PS X (.If c a b pos) (AQ tc t u):=by
 intro pins s σ H D I h;refine wpAny_If (bh (hc pins s σ H _ I h) λd s1 ⟨H1,I1,q1⟩=>?_);cases d with
 | true=>exact ha pins s1 σ H1 D I1 q1
 | false=>exact hb pins s1 σ H1 D I1 q1
def U4:TS:=λ_ _ _=>False
theorem U5{U6:List Stmt}:gO X U6 U4:=λ_ _ _ _ _ _ h=>h.elim
end
abbrev TG:=V->St->Hp->(St->Hp->Prop)->Prop
abbrev sF:=List V->St->Hp->(St->Hp->Prop)->Prop
def PG(X:Cx)(target:Expr)(t:TG):Prop:=
 ∀(pins:cf) (s:Shared) (σ:St) (H:Hp) (v:V) (u:Value) (Q:St->Hp->Prop),Inv X pins σ H s->RelV v u->t v σ H Q->
  wpAny (model X.prog X.w) X.A (assign target X.env u) (λ_ s'=>∃σ' H',Inv X pins σ' H' s'/\Q σ' H') X.xe s
def DA(X:Cx)(ts:List Expr)(t:sF):Prop:=
 ∀(pins:cf) (s:Shared) (σ:St) (H:Hp) (vs:List V) (us:List Value) (Q:St->Hp->Prop),Inv X pins σ H s->Vals vs us->t vs σ H Q->
  wpAny (model X.prog X.w) X.A (assignInOrder ((assignEach ts X.env).map (·.2)) us) (λ_ s'=>∃σ' H',Inv X pins σ' H' s'/\Q σ' H') X.xe s
abbrev Ii:=V->V->V->Hp->(Hp->Prop)->Prop
def Nw(X:Cx)(t:Ii):Prop:=
 ∀(pins:cf) (s:Shared) (σ:St) (H:Hp) (o i v:V) (ov iv u:Value) (Q:Hp->Prop),Inv X pins σ H s->RelV o ov->RelV i iv->RelV v u->t o i v H Q->
  wpAny (model X.prog X.w) X.A (setItem ov iv u) (λ_ s'=>∃H',Inv X pins σ H' s'/\Q H') X.xe s
abbrev DB:=V->V->Hp->VK->Prop
def Nx(X:Cx)(op:Operator)(t:DB):Prop:=
 ∀(pins:cf) (s:Shared) (σ:St) (H:Hp) (x y:V) (v u:Value) (Q:VK),Inv X pins σ H s->RelV x v->RelV y u->t x y H Q->
  wpAny (model X.prog X.w) X.A (inplaceOp op v u) (EP X pins σ Q) X.xe s
section
variable {X:Cx} {pos:Pos}
def aN(i:Nat):TG:=λv σ H Q=>Q (σ.set i (some v)) H
variable {i:Nat}
theorem dE{x:Str}(hN:X.N.Nodup)(hi:X.N[i]?=some x)(hx:Loc X.env.scope x)(hf:X.fn x=true\/X.env.scope.names.lookup x=some .local:=by first | exact .inl rfl | exact .inr rfl | assumption):PG X (.Name x pos) (aN i):=by intro pins s σ H v u Q I r h;exact wpAny_assign_Name (AN I hN hi hx r (λs' I'=>⟨_,H,I',h⟩) hf)
def Ij:sF:=λvs σ H Q=>vs=[]/\Q σ H
def AR(t:TG)(u:sF):sF:=λvs σ H Q=>∃v r,vs=v::r/\t v σ H λσ' H'=>u r σ' H' Q
theorem wG:DA X [] Ij:=by intro pins s σ H vs us Q I r h;obtain ⟨e,h⟩:=h;subst e;cases r;exact assignInOrder_nil ⟨σ,H,I,h⟩
variable {es:List Expr}
theorem jF{e:Expr}{t:TG}{u:sF}(h1:PG X e t)(h2:DA X es u)
  (hs:(assignEach (e::es) X.env).map (·.2)=assign e X.env::(assignEach es X.env).map (·.2):=by rfl):DA X (e::es) (AR t u):=by
 intro pins s σ H vs us Q I r h;intros am6 h v vr e1 h;subst e1;cases r with
 | cons r rr=>rw [hs];refine assignInOrder_cons (bh (h1 pins s σ H _ _ _ I r h) λ_ s1 ⟨σ1,H1,I1,q1⟩=>?_);exact h2 pins s1 σ1 H1 _ _ Q I1 rr q1
def Ik(K:aQ)(n:Nat)(t:sF):TG:=λv σ H Q=>∃a xs,v=.ref a/\h_ K H a xs/\xs.length=n/\t xs σ H Q
theorem wH{k:Nat}{t:sF}{n:Nat}(hc:X.calm=true)(h:DA X es t)
  (hn:(assignEach es X.env).length=n:=by rfl) (Il:(assignEach es X.env).findIdx? (·.1)=none:=by rfl):PG X (.Tuple es k pos) (Ik X.K n t):=by
 intro pins s σ H v u Q I r hw;intros am15 hw a xs e1 hq hl hw;subst e1;cases r;obtain ⟨av,rv,ht,hz⟩:=I.tuple hq;refine assign_Tuple_tuple (I.ok.hd hc) ht (by simp [hn,<-hl,rv.length]) Il λh' hx=>?_
 have I1:Inv X pins σ H {s with heap:=h'}:=I.kept (t':=s.toks) λb o e=>hx b o (f9 (cB e)) e;exact h pins _ σ H xs _ Q I1 (by simpa using rv) hw
def U7(to ti:TE)(t:Ii):TG:=λv σ H Q=>to σ H λo H1=>ti σ H1 λi H2=>t o i v H2 λH3=>Q σ H3
theorem kI{o i:Expr}{to ti:TE}{t:Ii}(ho:PE X o to)(hi:PE X i ti)(hs:Nw X t)
  (ha:∀v,assign (.Subscript o i pos) X.env v=(do
   let ov <-holding [v] (eval o X.env)
   let iv <-holding [v,ov] (eval i X.env)
   standAt pos
   holding [v,ov,iv] (setItem ov iv v)
   release [v,ov,iv] []):=by intro _;rfl):PG X (.Subscript o i pos) (U7 to ti t):=by
 intro pins s σ H v u Q I r h
 rw [ha]
 refine c_ (wpAny_holding (bh (ho pins s σ H _ I h) λov s1 ⟨x,H1,I1,r1,q1⟩=>?_))
 refine c_ (wpAny_holding (bh (hi pins s1 σ H1 _ I1 q1) λiv s2 ⟨y,H2,I2,r2,q2⟩=>?_))
 refine c_ (Ak (c_ (wpAny_holding (bh (hs pins s2 σ H2 x y v ov iv u _ I2 r1 r2 r q2) λ_ s3 ⟨H3,I3,q3⟩=>?_))))
 exact wpAny_release ⟨σ,H3,I3,q3⟩
def o7(te:TE)(g:TG):TS:=λD σ H=>te σ H λx H1=>g x σ H1 D.nx
theorem j6{tg e:Expr}{te:TE}{g:TG}(he:PE X e te)(hg:PG X tg g)(hs:swapsWithSole [tg] e pos.line X.env=pure false:=by rfl)(hw:swappedStores [tg] e X.env=pure none:=by rfl)
  (h1:(assignEach [tg] X.env).map (·.2)=[assign tg X.env]:=by rfl):PS X (.Assign [tg] e pos) (o7 te g):=by
 intro pins s σ H D I h;refine wpAny_Assign_stores (bh (he pins s σ H _ I h) λv s1 ⟨x,H1,I1,r1,q1⟩=>?_) hs hw;rw [h1];exact bh (hg pins s1 σ H1 x v _ I1 r1 q1) λ_ s2 q=>q
variable {te:TE} {pos':Pos}
theorem U8{x:Str}{e:Expr}(hN:X.N.Nodup)(hi:X.N[i]?=some x)(hx:Loc X.env.scope x)(he:PE X e te)(hs:swapsWith e (some (.Name x pos')) pos.line X.env=pure false:=by rfl)(hf:X.fn x=true\/X.env.scope.names.lookup x=some .local:=by first | exact .inl rfl | exact .inr rfl | assumption) :
  PS X (.Assign [.Name x pos'] e pos) (o7 te (aN i)):=by
 intro pins s σ H D I h;refine wpAny_Assign_Name (bh (he pins s σ H _ I h) λv s1 ⟨y,H1,I1,r1,q1⟩=>?_) hs;exact AN I1 hN hi hx r1 (λs2 I2=>⟨_,H1,I2,q1⟩) hf
def U9(i j:Nat)(ta:TA):TS:=λD σ H=>ta σ H λvs H1=>∃v w,vs=[v,w]/\D.nx ((σ.set i (some v)).set j (some w)) H1
theorem U_{j:Nat}{x y:Str}{a b:Expr}{ta:TA}{px py pt:Pos}{kt k2 Im}(hc:X.calm=true)(hN:X.N.Nodup)(hi:X.N[i]?=some x)(hj:X.N[j]?=some y)(Io:i≠j)
  (hx:X.env.scope.names.lookup x=some .local) (hy:X.env.scope.names.lookup y=some .local) (ha:PA X [a,b] ta)
  (hw:swappedStores [.Tuple [.Name x px,.Name y py] kt pt] (.Tuple [a,b] k2 Im) X.env=pure (some [x,y]))
  (hs:swapsWithSole [.Tuple [.Name x px,.Name y py] kt pt] (.Tuple [a,b] k2 Im) pos.line X.env=pure false:=by rfl) :
  PS X (.Assign [.Tuple [.Name x px,.Name y py] kt pt] (.Tuple [a,b] k2 Im) pos) (U9 i j ta):=by
 intro pins s σ H D I h
 rw [exec_Assign_arm]
 refine c_ (Ak ?_)
 rw [hs]
 refine c_ (fN ?_)
 rw [aq ∅]
 refine c_ (Tuple_ (bh (ha _ pins s σ H _ I h) λus s1 ⟨vs,H1,I1,r1,q1⟩=>?_))
 intros am6 q1 v w e1 q1
 subst e1
 obtain ⟨u1,u2,rfl,rv,sG⟩:∃u1 u2,us=[u1,u2]/\RelV v u1/\RelV w u2:=by
  cases r1 with
  | cons p q=>
   cases q with
   | cons p' q'=>
    cases q'
    exact (ce _ _ rfl p p')
 refine vW ?_ (by show 2<=sizeLine;decide)
 have I2:Inv X pins σ H1 {s1 with heap:=s1.heap.push {cls:=.type "tuple",data:=.seq [u1,u2].toArray}}:=I1.kept (t':=s1.toks) λb o e=>dZ _ e
 rw [hw]
 refine c_ (fN ?_)
 show wpAny (model X.prog X.w) X.A (do rule "assign.swapped-stores";let items <-unpackItems (.ref s1.heap.objs.size) 2 none;assignInOrder [λv=>bindName X.env y v,λv=>bindName X.env x v] items.reverse;pure Flow.next) _ _ _
 refine c_ (wpAny_rule (c_ (unpackItems_tuple (items:=#[u1,u2]) (I.ok.hd hc) (IsTup.new s1.heap _) λh' jG=>?_)))
 have I3:=I2.kept (h':=h') (t':=s1.toks) λb o e=>jG b o (f9 (cB e)) e
 show wpAny _ _ (assignInOrder [λv=>bindName X.env y v,λv=>bindName X.env x v] [u2,u1] >>= λ_=>pure Flow.next) _ _ _
 refine c_ (assignInOrder_cons (wpAny_bindName (AN I3 hN hj (.inl hy) sG (λs2 I4=>?_) (.inr hy))))
 refine assignInOrder_cons (wpAny_bindName (AN I4 hN hi (.inl hx) rv (λs3 I5=>assignInOrder_nil (fN ?_)) (.inr hx)))
 rw [List.set_comm _ _ (Ne.symm Io)] at I5
 exact ⟨_,H1,I5,q1⟩
def Va(i:Nat)(te:TE)(ti:DB):TS:=λD σ H=>∃x,σ[i]?=some (some x)/\te σ H λy H1=>ti x y H1 λz H2=>D.nx (σ.set i (some z)) H2
theorem Vb{x:Str}{e:Expr}{op:Operator}{ti:DB}(hN:X.N.Nodup)(hi:X.N[i]?=some x)(hx:Loc X.env.scope x)(he:PE X e te)(ho:Nx X op ti)(hf:X.fn x=true\/X.env.scope.names.lookup x=some .local:=by first | exact .inl rfl | exact .inr rfl | assumption) :
  PS X (.AugAssign (.Name x pos') op e pos) (Va i te ti):=by
 intro pins s σ H D I h;intros am0 h v e1 h;obtain ⟨m,hn,hl⟩:=I.loc;have Vc:oW X.env.scope x:=by rcases hx with k | k;exact .inl k;exact .inr (.inl k)
 obtain ⟨u,r,l⟩:=hl i x v hi e1 Vc;refine wpAny_AugAssign_Name ?_;have go:wpAny (model X.prog X.w) X.A (eval e X.env) (λw s₂=>wpAny (model X.prog X.w) X.A (inplaceOp op u w) (λr s₃=>wpAny (model X.prog X.w) X.A (storeName X.env x r) (λ_=>SP X pins D .next) X.xe s₃) X.xe s₂) X.xe s:=by refine bh (he pins s σ H _ I h) λw s1 ⟨y,H1,I1,r1,q1⟩=>?_;refine bh (ho pins s1 σ H1 v y u w _ I1 r r1 q1) λz s2 ⟨zv,H2,I2,r2,q2⟩=>?_;exact AN I2 hN hi hx r2 (λs3 I3=>⟨_,H2,I3,q2⟩) hf
 rcases l with ⟨hk,hm⟩ | ⟨hk,c,hc,Dy⟩;·exact wpAny_loadName_local I.ok.kind hk hn hm go
 ·rcases hk with hk | hk
  ·exact wpAny_loadName_cell I.ok.kind hk hc Dy go
  ·rcases hx with k | k
   ·have:X.env.scope.names.lookup x=some .free:=hk
    rw [k] at this;cases this
   ·have:X.env.scope.names.lookup x=some .free:=hk
    rw [k] at this;cases this
def Vd(f:Int->Int->Int):DB:=λx y H Q=>∃i j,x=.int i/\y=.int j/\Q (.int (f i j)) H
theorem Ve:Nx X .Add (Vd λi j=>i+j):=by intro pins s σ H x y v u Q I r1 r2 h;intros am13 h i j e1 e2 q;subst e1;subst e2;obtain ⟨t,rfl⟩:=r1;obtain ⟨t',rfl⟩:=r2;exact iadd_int ⟨.int _,H,I.tok _,⟨_,rfl⟩,q⟩
end
section
variable {X:Cx} {pos:Pos}
def Vf(c:TT)(tb:TS):TS:=λD σ H=>∃W:Nat->St->Hp->Prop,(∃m,W m σ H)/\∀m σ H,W m σ H->
 c σ H λb H1=>if b=true then ∃N:St->Hp->Prop,(∀σ' H',N σ' H'->∃m',m'<m/\W m' σ' H')/\tb {D with nx:=N,ct:=N,bk:=D.nx} σ H1 else D.nx σ H1
theorem AS{c:Expr}{body:List Stmt}{tc:TT}{tb:TS}(hp:PassesOwn (model X.prog X.w) X.A X.env X.xe)(hc:PT X c tc)(hb:gO X body tb):PS X (.While c body [] pos) (Vf tc tb):=by
 intro pins s σ H D I h;obtain ⟨W,⟨m0,w0⟩,turn⟩:=h;refine wpAny_While (codeAny_whileLoop (λn s'=>∃σ' H',Inv X pins σ' H' s'/\W n σ' H') ?_ m0 ⟨σ,H,I,w0⟩);intro n s1;intros am6 _ σ1 H1 I1 w1;refine r6 hp (bh (hc pins s1 σ1 H1 _ I1 (turn n σ1 H1 w1)) λb s2 ⟨H2,I2,q2⟩=>?_);cases b with
 | true=>
  intros am0 q2 N hN q2;rw [ao rfl];refine r6 hp (bh (hb pins s2 σ1 H2 _ I2 q2) λf s3 q3=>?_);cases f with
  | next=>intros am6 q3 σ3 H3 I3 n3;obtain ⟨m',hm,w3⟩:=hN σ3 H3 n3;exact ⟨m',hm,σ3,H3,I3,w3⟩
  | cont=>intros am6 q3 σ3 H3 I3 n3;obtain ⟨m',hm,w3⟩:=hN σ3 H3 n3;exact ⟨m',hm,σ3,H3,I3,w3⟩
  | brk=>exact q3
  | ret v=>exact q3
 | false=>rw [aq d3];exact C3 ⟨σ1,H2,I2,q2⟩
end
structure It where
 go:Nat->Hp->Prop
 gv:Nat->Hp->V->Hp->Prop
 stop:Nat->Hp->Prop
def mO(X:Cx)(pins:cf)(H:Hp)(b:Addr):Prop:=
 H b=none/\b≠X.env.locals/\b∉X.fs/\(b∈X.ex\/X.s₀.heap.objs.size<=b)/\(∀x c,X.env.cells.lookup x=some c->c≠b)/\∀p∈X.pn++pins,p.1≠b
variable {σ:St}
theorem Inv.Ip{pins:cf}{H':Hp}{b:Addr}(I:Inv X pins σ H s)(hb:s.heap.objs.size<=b)(hn:H' b=none):mO X pins H' b:=by
 refine ⟨hn,Nat.ne_of_gt (dQ I.lt hb),I.UQ hb,.inr (au I.sz hb),λx c e z=>?_,λp hp z=>?_⟩
 ·obtain ⟨v,q⟩:=I.cell x c e
  exact absurd (dQ q.lt (by rw [z];exact hb)) (iy _)
 ·exact absurd (dQ (cB (I.pin p hp).1) (by rw [z];exact hb)) (iy _)
structure Turn (P:Program) (w:World) (K:aQ) (tg:Expr) (J:It) (fp:List Addr) (it:Addr) (tn:Nat->Heap->Prop):Prop where
 mem:it∈fp
 obj:∀i h,tn i h->∀b∈fp,∃o,h.get? b=some o/\∀v,o.data≠.cell v
 keep:∀i h h',tn i h->(∀b∈fp,∀o,h.get? b=some o->h'.get? b=some o)->tn i h'
 item:∀(X:Cx),X.prog=P->X.w=w->X.K=K->X.calm=true->∀(i:Nat) (pins:cf) (s:Shared) (σ:St) (H:Hp) (E:cX),Inv X pins σ H s->(∀b∈fp,mO X pins H b)->tn i s.heap->J.go i H->
  wpAny (model P w) X.A (pyNext (.ref it)) (λr s1=>∃u,r=some u /\
   wpAny (model P w) X.A (letOwnedTupleGo tg (.ref it) u) (λ_ s2=>∃x H',Inv X pins σ H' s2/\RelV x u/\J.gv i H x H'/\tn (i+1) s2.heap/\∀b∈fp,H' b=none) E s1) E s
 done:∀(X:Cx),X.prog=P->X.w=w->X.K=K->X.calm=true->∀(i:Nat) (pins:cf) (s:Shared) (σ:St) (H:Hp) (E:cX),Inv X pins σ H s->(∀b∈fp,mO X pins H b)->tn i s.heap->J.stop i H->
  wpAny (model P w) X.A (pyNext (.ref it)) (λr s1=>r=none/\Inv X pins σ H s1) E s
 self:∀(A:Around) (i:Nat) (s:Shared) (Q:cX) (E:cX),tn i s.heap->Q (.ref it) s->wpAny (model P w) A (pyIter (.ref it)) Q E s
abbrev TI:=St->Hp->(It->Hp->Prop)->Prop
def Ny(X:Cx)(pins:cf)(σ:St)(tg:Expr)(R:It->Hp->Prop)(sI:Value)(s2:Shared):Prop:=
 ∃(it:Addr) (fp:List Addr) (tn:Nat->Heap->Prop) (J:It) (H':Hp),sI=.ref it/\Inv X pins σ H' s2/\Turn X.prog X.w X.K tg J fp it tn/\tn 0 s2.heap/\(∀b∈fp,mO X pins H' b)/\R J H'
def PI(X:Cx)(tg iter:Expr)(wi:TI):Prop:=
 ∀(pins:cf) (s:Shared) (σ:St) (H:Hp) (R:It->Hp->Prop),Inv X pins σ H s->wi σ H R->
  wpAny (model X.prog X.w) X.A (eval iter X.env) (λv s1=>wpAny (model X.prog X.w) X.A (pyIter v) (Ny X pins σ tg R) X.xe s1) X.xe s
variable {tg:Expr}
theorem Nz{it:Addr}{o:Obj}{n:String}{vs:Array Value}{Q:Unit->Shared->Prop}(ho:s.heap.get? it=some o)(hc:o.cls=.type n)(hd:o.data=.fields vs)
    (hn:["enumerate","zip","dict_itemiterator","dict_reverseitemiterator","odict_iterator","itertools.zip_longest","itertools.pairwise"].contains n=false) (hQ:Q () s):wpAny M A (letOwnedTupleGo tg (.ref it) u) Q E s:=by
  unfold letOwnedTupleGo
  cases tg <;> first
    | exact fN hQ
    | (cases u <;> first
        | exact fN hQ
        | (refine c_ (wpAny_load ho ?_)
           rw [hc,hd];show wpAny M A (if (["enumerate","zip","dict_itemiterator","dict_reverseitemiterator","odict_iterator","itertools.zip_longest","itertools.pairwise"].contains n && vs[0]? == some (rawInt _))=true then _ else _) Q E s
           rw [aq (by intro h;rw [hn,Bool.false_and] at h;cases h)]
           exact fN hQ))
def wI(K:aQ)(a:Addr):It:=
 ⟨λi H=>∃xs x,cG K H a xs/\xs[i]?=some x,λi H x H'=>H'=H/\∀xs,cG K H a xs->xs[i]?=some x,λi H=>∃xs,cG K H a xs/\xs.length<=i⟩
def qx(lo:Int)(n:Nat):It:=⟨λi _=>i<n,λi H x H'=>H'=H/\x=.int (lo+i),λi _=>n<=i⟩
variable {K:aQ}
theorem Vg(a it:Addr):Turn P w K tg (wI K a) [it] it (λi h=>h.IsListIter it a i) where
 mem:=by simp
 obj:=λi h st b hb=>by
  have e:b=it:=by simpa using hb
  subst e;intros am7 st o e c d;exact ⟨o,e,λv z=>by rw [d] at z;cases z⟩
 keep:=λi h h' st k=>st.at λo e=>k it (by simp) o e
 item:=by
  intro X hP hw hK hc i pins s σ H E I hf st hg;subst hP hw hK;intros am6 hg xs x hq hx;obtain ⟨av,rv,p,hz⟩:=I.list hq;obtain ⟨u,hu,ru⟩:=rv.get hx;obtain ⟨f0,f1,f2,f3,f4,f5⟩:=hf it (by simp)
  refine wpAny_pyNext_list_item st p.isList (x:=u) (by simpa using hu) λh' AU sb=>?_
  have I1:Inv X pins σ H {s with heap:=h'}:=I.turned (t':=s.toks) (λb o hb e=>(sb.2 b hb).trans e) f0 f1 f3 f4 f5;obtain ⟨o,e,c,d⟩:=id AU;exact (ad u rfl (Nz (s:={s with heap:=h'}) e c d ∅ (gl x H I1 ru ⟨rfl,λys hy=>by rw [I.Ig hy hq];exact hx⟩ ⟨AU,λb hb=>(hf b hb).1⟩)))
 done:=by
  intro X hP hw hK hc i pins s σ H E I hf st hg;subst hP hw hK;intros am0 hg xs hq hx;obtain ⟨av,rv,p,hz⟩:=I.list hq;obtain ⟨f0,f1,f2,f3,f4,f5⟩:=hf it (by simp)
  have hl:=rv.length;exact wpAny_pyNext_list_end (I.ok.hd hc) st p.isList (by simp;lia) λh' eb=>⟨rfl,I.turned (t':=s.toks) (λb o hb e=>eb b o hb e) f0 f1 f3 f4 f5⟩
 self:=λ_ _ _ _ _ st h=>wpAny_pyIter_listiter st h
theorem Vh(it:Addr)(lo:Int)(n:Nat):Turn P w K tg (qx lo n) [it] it (λi h=>IsRangeIter h it (lo+(i:Nat)*1) ((n:Int)-(i:Nat)) 1) where
 mem:=by simp
 obj:=λi h st b hb=>by
  have e:b=it:=by simpa using hb
  subst e;exact ⟨_,st,λv z=>by have z':Data.fields _=Data.cell v:=z;cases z'⟩
 keep:=λi h h' st k=>k it (by simp) _ st
 item:=by
  intro X hP hw hK hc i pins s σ H E I hf st hg;subst hP hw hK;obtain ⟨f0,f1,f2,f3,f4,f5⟩:=hf it (by simp)
  have W:=Walks.range (prog:=X.prog) (w:=X.w) (I.ok.hd hc) it lo 1 n;refine W.item i s _ _ hg st λv h' tk hv AU kk=>?_;obtain ⟨t,rfl⟩:=hv;have I1:Inv X pins σ H {s with heap:=h',toks:=tk}:=I.turned (λb o hb e=>kk b o (by simpa using hb) e) f0 f1 f3 f4 f5
  refine (ad _ rfl (Nz (s:={s with heap:=h',toks:=tk}) (n:="range_iterator") AU rfl rfl ∅ (gl (.int (lo+i)) H I1 ⟨t,?_⟩ ⟨rfl,rfl⟩ ⟨AU,λb hb=>(hf b hb).1⟩)))
  rw [jV]
 done:=by
  intro X hP hw hK hc i pins s σ H E I hf st hg;subst hP hw hK;obtain ⟨f0,f1,f2,f3,f4,f5⟩:=hf it (by simp)
  exact wpAny_pyNext_range_end (I.ok.hd hc) st (by have:n<=i:=hg;lia) λh' eb=>⟨rfl,I.turned (t':=s.toks) (λb o hb e=>eb b o hb e) f0 f1 f3 f4 f5⟩
 self:=λ_ _ _ _ _ st h=>wpAny_pyIter_rangeiter st h
section
variable {X:Cx} {tg:Expr}
def wJ(K:aQ)(tl:TE):TI:=λσ H R=>tl σ H λx H1=>∃a,x=.ref a/\(∃xs,cG K H1 a xs)/\R (wI K a) H1
theorem cY{l:Expr}{tl:TE}(hl:PE X l tl):PI X tg l (wJ X.K tl):=by
 intro pins s σ H R I h;refine bh (hl pins s σ H _ I h) λv s1 ⟨x,H1,I1,r1,q1⟩=>?_;obtain ⟨a,e,⟨xs,hq⟩,q⟩:=q1;subst e;cases r1;obtain ⟨av,rv,p,hz⟩:=I1.list hq;refine C4 p.isList ?_;refine ⟨s1.heap.objs.size,[s1.heap.objs.size],_,_,H1,rfl,I1.kept (t':=s1.toks) λb o e=>dZ _ e,Vg a _,(am _ (iz _ rfl) rfl rfl),λb hb=>?_,q⟩;have e:b=s1.heap.objs.size:=by simpa using hb
 subst e;exact I1.Ip (aP _) (I1.aT.fresh (aP _))
variable {pins:cf}
theorem NA{R:It->Hp->Prop}{lo hi:Int}{t u v:Tok}{tk:Nat}(I:Inv X pins σ H s)(h1:-(2 ^ 62)<=lo)(h2:lo<2 ^ 62)(h3:-(2 ^ 62)<=hi)(h4:hi<2 ^ 62)
  (q:R (qx lo (hi-lo).toNat) H):wpAny (model X.prog X.w) X.A (pyIter (.ref s.heap.objs.size)) (Ny X pins σ tg R) E {s with heap:=s.heap.push {cls:=.type "range",data:=.fields #[.int lo t,.int hi u,.int 1 v]},toks:=tk}:=by
 refine wpAny_pyIter_range (IsRange.new ..) (small_one h1 h2 h3 h4) ?_;have I1:Inv X pins σ H {s with heap:=s.heap.push {cls:=.type "range",data:=.fields #[.int lo t,.int hi u,.int 1 v]},toks:=tk}:=I.kept λb o e=>dZ _ e
 refine ⟨(s.heap.push {cls:=.type "range",data:=.fields #[.int lo t,.int hi u,.int 1 v]}).objs.size,[(s.heap.push {cls:=.type "range",data:=.fields #[.int lo t,.int hi u,.int 1 v]}).objs.size],_,_,H,rfl,
  I1.kept (t':=tk) λb o e=>dZ _ e,Vh _ lo (hi-lo).toNat,?_,λb hb=>?_,q⟩
 ·have e1:lo+((0:Nat):Int)*1=lo:=by simp
  have e2:(((hi-lo).toNat:Nat):Int)-((0:Nat):Int)=Builtin.Range.rangeSize lo hi 1:=by rw [rangeSize_one];split <;> lia
  show IsRangeIter _ _ (lo+((0:Nat):Int)*1) ((((hi-lo).toNat:Nat):Int)-((0:Nat):Int)) 1;rw [e1,e2];exact iz _ rfl
 ·have e:b=(s.heap.push {cls:=.type "range",data:=.fields #[.int lo t,.int hi u,.int 1 v]}).objs.size:=by simpa using hb
  subst e;exact I1.Ip (aP _) (I1.aT.fresh (aP _))
def Vi(ta:TA):TI:=λσ H R=>ta σ H λvs H1=>∃j:Int,vs=[.int j]/\-(2 ^ 62)<=j/\j<2 ^ 62/\R (qx 0 j.toNat) H1
def Vj(ta:TA):TI:=λσ H R=>ta σ H λvs H1=>∃i j:Int,vs=[.int i,.int j]/\(-(2 ^ 62)<=i/\i<2 ^ 62/\-(2 ^ 62)<=j/\j<2 ^ 62)/\R (qx i (j-i).toNat) H1
variable {ta:TA} {p pos:Pos}
theorem gF{a:Expr}(hg:Gl X "range")(hm:X.mg "range"=none)(ha:PA X [a] ta)(hs:starEach [a] X.env=[(false,eval a X.env)]:=by rfl):PI X tg (.Call (.Name "range" p) [a] [] pos) (Vi ta):=by
 intro pins s σ H R I h;refine Call_ (wD I hg hm boot_range (C5 (bh (ha pos pins s σ H _ I h) λus s1 ⟨vs,H1,I1,r1,q1⟩=>?_) hs rfl));intros am9 q1 j e q1 q2 q;subst e;cases r1 with
 | cons r rr=>cases rr;obtain ⟨t,rfl⟩:=r;exact call_range_1 (NA I1 ⋯ ⋯ q1 q2 (by simpa using q))
theorem DC{a b:Expr}(hg:Gl X "range")(hm:X.mg "range"=none)(ha:PA X [a,b] ta)(hs:starEach [a,b] X.env=[(false,eval a X.env),(false,eval b X.env)]:=by rfl)(nX:starEach [b] X.env=[(false,eval b X.env)]:=by rfl) :
  PI X tg (.Call (.Name "range" p) [a,b] [] pos) (Vj ta):=by
 intro pins s σ H R I h;refine Call_ (wD I hg hm boot_range (C5 (bh (ha pos pins s σ H _ I h) λus s1 ⟨vs,H1,I1,r1,q1⟩=>?_) (by rw [hs,nX]) (by rw [nX];rfl)))
 obtain ⟨i,j,e,⟨q1,q2,q3,q4⟩,q⟩:=q1;subst e;cases r1 with
 | cons r rr=>
  cases rr with
  | cons r' rr=>cases rr;obtain ⟨t,rfl⟩:=r;obtain ⟨t',rfl⟩:=r';exact call_range_2 (NA I1 q1 q2 q3 q4 q)
def Vk(wi:TI)(g:TG)(tb:TS):TS:=λD σ H=>wi σ H λJ H1=>∃W:Nat->Nat->St->Hp->Prop,(∃m,W 0 m σ H1)/\∀i m σ H,W i m σ H->
 (J.stop i H/\D.nx σ H)\/(J.go i H/\∃N:St->Hp->Prop,(∀σ' H',N σ' H'->∃m',m'<m/\W (i+1) m' σ' H')/\∀x H',J.gv i H x H'->g x σ H' λσ2 H2=>tb {D with nx:=N,ct:=N,bk:=D.nx} σ2 H2)
def j7(fp:List Addr)(h:Heap):List (Addr×Obj):=fp.filterMap λb=>(h.get? b).map λo=>(b,o)
variable {fp:List Addr}
theorem lY{b:Addr}{o:Obj}(hb:b∈fp)(e:h.get? b=some o):(b,o)∈j7 fp h:=List.mem_filterMap.mpr (ad b hb (by rw [e];rfl))
theorem Vl{p:Addr×Obj}(hp:p∈j7 fp h):p.1∈fp/\h.get? p.1=some p.2:=by
 obtain ⟨b,hb,e⟩:=List.mem_filterMap.mp hp;cases q:h.get? b with
 | none=>rw [q] at e;cases e
 | some o=>rw [q] at e;have e':(b,o)=p:=Option.some.inj e;subst e';exact ⟨hb,q⟩
theorem Inv.pinned(I:Inv X pins σ H s)(hf:∀b∈fp,mO X pins H b)(ho:∀b∈fp,∃o,s.heap.get? b=some o/\∀v,o.data≠.cell v):Inv X (pins++j7 fp s.heap) σ H s:=
 I.Ni λp hp=>(lJ.mp hp).elim (λz=>I.pin p (fG _ z)) λz=>by obtain ⟨hb,e⟩:=Vl z;obtain ⟨f0,f1,f2,_⟩:=hf p.1 hb;obtain ⟨o,e',d⟩:=ho p.1 hb;rw [e] at e';cases e';exact ⟨e,f0,f1,f2,d⟩
theorem Inv.qy{pl:cf}(I:Inv X (pins++pl) σ H s):Inv X pins σ H s:=I.Ni λp hp=>I.pin p (fG _ (List.mem_append_left _ hp))
theorem gG{iter:Expr}{body:List Stmt}{wi:TI}{g:TG}{tb:TS}(hp:PassesOwn (model X.prog X.w) X.A X.env X.xe)(hc:X.calm=true)(hi:PI X tg iter wi)(hg:PG X tg g)(hb:gO X body tb)
  (hs:∀x,foldedSetIterable iter X.env x=pure x:=by intro _;rfl):PS X (.For tg iter body [] pos) (Vk wi g tb):=by
 intro pins s σ H D I h;refine wpAny_For (bh (hi pins s σ H _ I h) λv s1 h1=>bh h1 λsI s2 h2=>?_) hs;intros am27 h2 it fp tn J H2 e I2 T am8 gH f2 W q'43 turn;obtain ⟨m0,w0⟩:=q'43;subst e;have gf:∀{H':Hp},(∀b∈fp,H' b=none)->∀b∈fp,mO X pins H' b:=λhn b hb=>⟨hn b hb,(f2 b hb).2⟩;refine codeAny_forLoop_any (λn s'=>∃i σ' H',Inv X pins σ' H' s'/\tn i s'.heap/\(∀b∈fp,H' b=none)/\W i n σ' H') ?_ m0 ⟨0,σ,H2,I2,gH,λb hb=>(f2 b hb).1,w0⟩;intro n s3;intros am20 _ i σ3 H3 I3 NB NC w3;rcases turn i n σ3 H3 w3 with ⟨stop,qn⟩ | ⟨go,N,hN,step⟩
 ·refine r6 hp (bh (T.done X rfl rfl rfl hc i pins s3 σ3 H3 X.xe I3 (gf NC) NB stop) λr s4 ⟨hr,I4⟩=>?_)
  subst hr;exact C3 ⟨σ3,H3,I4,qn⟩
 ·refine r6 hp (bh (T.item X rfl rfl rfl hc i pins s3 σ3 H3 X.xe I3 (gf NC) NB go) λr s4 ⟨u,hr,h4⟩=>?_)
  subst hr;refine r6 hp (bh h4 λ_ s5 ⟨x,H5,I5,r5,y5,gg,mP⟩=>?_);have mQ:=I5.pinned (gf mP) (T.obj _ _ gg);refine r6 hp (bh (hg _ s5 σ3 H5 x u _ mQ r5 (step x H5 y5)) λ_ s6 ⟨σ6,H6,I6,q6⟩=>?_);refine r6 hp (bh (hb _ s6 σ6 H6 _ I6 q6) λf s7 q7=>?_);have again:∀{σ7:St} {H7:Hp},Inv X (pins++j7 fp s5.heap) σ7 H7 s7->N σ7 H7->∃m,m<n/\∃i σ' H',Inv X pins σ' H' s7/\tn i s7.heap/\(∀b∈fp,H' b=none)/\W i m σ' H':=fun{σ7 H7} I7 n7=>by obtain ⟨m',hm,w7⟩:=hN σ7 H7 n7;refine ⟨m',hm,i+1,σ7,H7,I7.qy,T.keep _ _ _ gg λb hb o e=>(I7.pin (b,o) (fG _ (fG _ (lY hb e)))).1,λb hb=>?_,w7⟩;obtain ⟨o,e,d⟩:=T.obj _ _ gg b hb;exact (I7.pin (b,o) (fG _ (fG _ (lY hb e)))).2.1
  cases f with
  | next=>intros am6 q7 σ7 H7 I7 n7;exact again I7 n7
  | cont=>intros am6 q7 σ7 H7 I7 n7;exact again I7 n7
  | brk=>intros am6 q7 σ7 H7 I7 q7;exact ⟨σ7,H7,I7.qy,q7⟩
  | ret v=>intros am18 q7 x7 σ7 H7 I7 r7 q7;exact ⟨x7,σ7,H7,I7.qy,r7,q7⟩
end
variable {g:TG} {tb:TS} {D:Ends}
theorem wK(Pv:Nat->St->Hp->Prop)(h0:Pv 0 σ H)(hl:∀i σ H,i<=xs.length->Pv i σ H->cG K H a xs)
  (hs:∀i x σ H,xs[i]?=some x->Pv i σ H->g x σ H λσ2 H2=>tb {D with nx:=Pv (i+1),ct:=Pv (i+1),bk:=D.nx} σ2 H2) (hd:∀σ H,Pv xs.length σ H->D.nx σ H) :
  ∃W:Nat->Nat->St->Hp->Prop,(∃m,W 0 m σ H)/\∀i m σ H,W i m σ H->
   ((wI K a).stop i H/\D.nx σ H)\/((wI K a).go i H/\∃N:St->Hp->Prop,(∀σ' H',N σ' H'->∃m',m'<m/\W (i+1) m' σ' H')/\∀x H',(wI K a).gv i H x H'->g x σ H' λσ2 H2=>tb {D with nx:=N,ct:=N,bk:=D.nx} σ2 H2):=by
 refine (ad (λi m σ H=>m=xs.length-i/\i<=xs.length/\Pv i σ H) ⟨xs.length,by simp,f_ _,h0⟩ ?_)
 rintro i m σ H ⟨rfl,hi,p⟩;have q:=hl i σ H hi p;by_cases dS:i<xs.length
 ·refine .inr ⟨⟨xs,xs[i],q,by simp [dS]⟩,Pv (i+1),λσ' H' p'=>⟨xs.length-(i+1),⋯,rfl,dS,p'⟩,λx H' y=>?_⟩
  obtain ⟨e,y⟩:=y;subst e;exact hs i x σ _ (y xs q) p
 ·have e:i=xs.length:=by lia
  subst e;exact .inl ⟨⟨xs,q,aP _⟩,hd σ H p⟩
variable {n:Nat}
theorem lZ{lo:Int}(Pv:Nat->St->Hp->Prop)(h0:Pv 0 σ H)
  (hs:∀i σ H,i<n->Pv i σ H->g (.int (lo+i)) σ H λσ2 H2=>tb {D with nx:=Pv (i+1),ct:=Pv (i+1),bk:=D.nx} σ2 H2) (hd:∀σ H,Pv n σ H->D.nx σ H) :
  ∃W:Nat->Nat->St->Hp->Prop,(∃m,W 0 m σ H)/\∀i m σ H,W i m σ H->
   ((qx lo n).stop i H/\D.nx σ H)\/((qx lo n).go i H/\∃N:St->Hp->Prop,(∀σ' H',N σ' H'->∃m',m'<m/\W (i+1) m' σ' H')/\∀x H',(qx lo n).gv i H x H'->g x σ H' λσ2 H2=>tb {D with nx:=N,ct:=N,bk:=D.nx} σ2 H2):=by
 refine (ad (λi m σ H=>m=n-i/\i<=n/\Pv i σ H) ⟨n,by simp,f_ _,h0⟩ ?_)
 rintro i m σ H ⟨rfl,hi,p⟩;by_cases dS:i<n
 ·refine .inr ⟨dS,Pv (i+1),λσ' H' p'=>⟨n-(i+1),⋯,rfl,dS,p'⟩,λx H' y=>?_⟩
  obtain ⟨e,y⟩:=y;subst e y;exact hs i σ _ dS p
 ·have e:i=n:=by lia
  subst e;exact .inl ⟨aP _,hd σ H p⟩
abbrev R2:=V->V->Hp->VK->Prop
def cT(X:Cx)(f:Value->Value->Sem Value)(r:R2):Prop:=
 ∀(pins:cf) (s:Shared) (σ:St) (H:Hp) (x y:V) (v u:Value) (Q:VK),Inv X pins σ H s->RelV x v->RelV y u->r x y H Q->
  wpAny (model X.prog X.w) X.A (f v u) (EP X pins σ Q) X.xe s
def Iq(X:Cx)(f:Value->Sem Value)(r:V->Hp->VK->Prop):Prop:=
 ∀(pins:cf) (s:Shared) (σ:St) (H:Hp) (x:V) (v:Value) (Q:VK),Inv X pins σ H s->RelV x v->r x H Q->
  wpAny (model X.prog X.w) X.A (f v) (EP X pins σ Q) X.xe s
def jH(X:Cx)(f:Value)(r:List V->Hp->VK->Prop):Prop:=
 ∀(pins:cf) (s:Shared) (σ:St) (H:Hp) (xs:List V) (us:List Value) (Q:VK),Inv X pins σ H s->Vals xs us->r xs H Q->
  wpAny (model X.prog X.w) X.A (call f us) (EP X pins σ Q) X.xe s
def Vm(X:Cx)(r:V->Hp->(Bool->Hp->Prop)->Prop):Prop:=
 ∀(pins:cf) (s:Shared) (σ:St) (H:Hp) (x:V) (v:Value) (Q:Bool->Hp->Prop),Inv X pins σ H s->RelV x v->r x H Q->
  wpAny (model X.prog X.w) X.A (truthy v) (TP X pins σ Q) X.xe s
def l6(r:R2)(ta tb:TE):TE:=λσ H Q=>ta σ H λx H1=>tb σ H1 λy H2=>r x y H2 Q
def Vn(r:V->Hp->VK->Prop)(ta:TE):TE:=λσ H Q=>ta σ H λx H1=>r x H1 Q
def rI(C:Int->Int->Prop)(g:Int->Int->V):R2:=λx y H Q=>∃i j,x=.int i/\y=.int j/\C i j/\Q (g i j) H
def qz(g:Int->Int->V):R2:=λx y H Q=>∃i j,x=.int i/\y=.int j/\Q (g i j) H
def rU(g:Int->V):V->Hp->VK->Prop:=λx H Q=>∃i,x=.int i/\Q (g i) H
section
variable {X:Cx} {a b c:Expr} {ta tb tc:TE} {pos:Pos}
theorem Ir(ha:PE X a ta)(hb:PE X b tb){pins:cf}{R:V->V->Hp->Prop}(I:Inv X pins σ H s)
  (h:ta σ H λx H1=>tb σ H1 λy H2=>R x y H2) {Q:cX} {f:Value->Value->Sem Value}
  (hf:∀v u s2 x y H2,Inv X pins σ H2 s2->RelV x v->RelV y u->R x y H2->wpAny (model X.prog X.w) X.A (f v u) Q X.xe s2) :
  wpAny (model X.prog X.w) X.A (eval a X.env) (λv s₁=>wpAny (model X.prog X.w) X.A (eval b X.env) (λu s₂=>wpAny (model X.prog X.w) X.A (f v u) Q X.xe s₂) X.xe s₁) X.xe s:=by
 refine bh (ha pins s σ H _ I h) λv s1 ⟨x,H1,I1,r1,q1⟩=>?_;refine bh (hb pins s1 σ H1 _ I1 q1) λu s2 ⟨y,H2,I2,r2,q2⟩=>?_;exact hf v u s2 x y H2 I2 r1 r2 q2
theorem az{op:Operator}{r:R2}(ho:cT X (binaryOp op) r)(ha:PE X a ta)(hb:PE X b tb):PE X (.BinOp a op b pos) (l6 r ta tb):=by intro pins s σ H Q I h;exact wpAny_BinOp (Ir ha hb I h λv u s2 x y H2 I2 rx ry q=>ho pins s2 σ H2 x y v u Q I2 rx ry q)
theorem ND{op:UnaryOp}{r:V->Hp->VK->Prop}(ho:Iq X (unaryOp op) r)(ha:PE X a ta):PE X (.UnaryOp op a pos) (Vn r ta):=by intro pins s σ H Q I h;exact UnaryOp_ (bh (ha pins s σ H _ I h) λv s1 ⟨x,H1,I1,r1,q1⟩=>ho pins s1 σ H1 x v Q I1 r1 q1)
theorem o8{f:Value->Value->Sem Value}{C:Int->Int->Prop}{g:Int->Int->Int}
  (rule:∀(i j:Int) (t u:Tok) (s:Shared) (Q:cX) (E:cX),C i j->Q (.int (g i j) s.toks) {s with toks:=s.toks+1}->wpAny (model X.prog X.w) X.A (f (.int i t) (.int j u)) Q E s) :
  cT X f (rI C λi j=>.int (g i j)):=by
 intro pins s σ H x y v u Q I rx ry h;intros am15 h i j rfl rfl hc q;obtain ⟨t,rfl⟩:=rx;obtain ⟨t',rfl⟩:=ry;exact rule i j t t' s _ _ hc ⟨.int (g i j),H,I.tok _,⟨_,rfl⟩,q⟩
theorem NF{f:Value->Value->Sem Value}{g:Int->Int->Int}
  (rule:∀(i j:Int) (t u:Tok) (s:Shared) (Q:cX) (E:cX),Q (.int (g i j) s.toks) {s with toks:=s.toks+1}->wpAny (model X.prog X.w) X.A (f (.int i t) (.int j u)) Q E s) :
  cT X f (qz λi j=>.int (g i j)):=by
 intro pins s σ H x y v u Q I rx ry h;intros am13 h i j rfl rfl q;obtain ⟨t,rfl⟩:=rx;obtain ⟨t',rfl⟩:=ry;exact rule i j t t' s _ _ ⟨.int (g i j),H,I.tok _,⟨_,rfl⟩,q⟩
theorem DD{f:Value->Value->Sem Value}{g:Int->Int->Bool}
  (rule:∀(i j:Int) (t u:Tok) (s:Shared) (Q:cX) (E:cX),Q (.bool (g i j)) s->wpAny (model X.prog X.w) X.A (f (.int i t) (.int j u)) Q E s) :
  cT X f (qz λi j=>.bl (g i j)):=by
 intro pins s σ H x y v u Q I rx ry h;intros am13 h i j rfl rfl q;obtain ⟨t,rfl⟩:=rx;obtain ⟨t',rfl⟩:=ry;exact rule i j t t' s _ _ ⟨.bl (g i j),H,I,rfl,q⟩
def Vo(i j:Int):Prop:=0<j/\j<1073741824
def Vp(i j:Int):Prop:=0<=j/\j<=1000000/\i.natAbs<2 ^ 64
def Iu(i j:Int):Prop:=(-(2 ^ 64)<i/\i<2 ^ 64)\/(-(2 ^ 64)<j/\j<2 ^ 64)
theorem Iu.ok{i j:Int}(h:Iu i j):IntMulOk i j:=by
 rcases h with ⟨h1,h2⟩ | ⟨h1,h2⟩;·exact .of_left (intBits_le_64 h1 h2)
 ·exact .of_right (intBits_le_64 h1 h2)
theorem gQ:cT X (binaryOp .Add) (qz λi j=>.int (i+j)):=NF λ_ _ _ _ _ _ _ q=>add_int q
theorem jI:cT X (binaryOp .Sub) (qz λi j=>.int (i-j)):=NF λ_ _ _ _ _ _ _ q=>sub_int q
theorem kJ:cT X (binaryOp .Mult) (rI Iu λi j=>.int (i*j)):=o8 λ_ _ _ _ _ _ _ hc q=>mul_int q hc.ok
theorem wL:cT X (binaryOp .FloorDiv) (rI Vo λi j=>.int (i / j)):=o8 λi j _ _ _ _ _ hc q=>by have h1:(0:Int)<j:=hc.1;have h2:j<1073741824:=hc.2;exact floordiv_int ⋯ (by rw [Al i ⋯];exact q) (.inl (PyProof.noPylong_small ⋯))
theorem dy:cT X (binaryOp .Mod) (rI (λ_ j=>0<j) λi j=>.int (i % j)):=o8 λi j _ _ _ _ _ hc q=>by have h1:(0:Int)<j:=hc;exact mod_int' ⋯ (by rw [Int.fmod_eq_emod_of_nonneg i ⋯];exact q)
theorem Vq:cT X (binaryOp .Pow) (rI Vp λi j=>.int (i ^ j.toNat)):=o8 λ_ _ _ _ _ _ _ hc q=>pow_int_small hc.1 hc.2.1 hc.2.2 q
theorem Vr{f:Value->Sem Value}{g:Int->Int}
  (rule:∀(i:Int) (t:Tok) (s:Shared) (Q:cX) (E:cX),Q (.int (g i) s.toks) {s with toks:=s.toks+1}->wpAny (model X.prog X.w) X.A (f (.int i t)) Q E s) :
  Iq X f (rU λi=>.int (g i)):=by
 intro pins s σ H x v Q I rx h;intros am0 h i rfl q;obtain ⟨t,rfl⟩:=rx;exact rule i t s _ _ ⟨.int (g i),H,I.tok _,⟨_,rfl⟩,q⟩
theorem NG:Iq X (unaryOp .USub) (rU λi=>.int (-i)):=Vr λ_ _ _ _ _ q=>neg_int q
end
def DE:V->V->Bool
 | .bg,.bg=>true | .bg,.int _=>true | .int _,.bg=>true | .bg,.bl _=>true | .bl _,.bg=>true | .bg,.str _=>true | .str _,.bg=>true
 | .int _,.int _=>true | .bl _,.bl _=>true | .str _,.str _=>true | .jY _,.jY _=>true
 | .int _,.str _=>true | .str _,.int _=>true | .bl _,.str _=>true | .str _,.bl _=>true
 | _,_=>false
def AV:R2:=λx y H Q=>DE x y=true/\Q (.bl (decide (x=y))) H
def NH:R2:=λx y H Q=>DE x y=true/\Q (.bl (!decide (x=y))) H
theorem NI{i j:Int}:decide (V.int i=V.int j)=(i == j):=by rw [vX];simp
theorem NJ{i j:Bool}:decide (V.bl i=V.bl j)=(i == j):=by rw [vX];simp
theorem NK{i j:Str}:decide (V.str i=V.str j)=(i == j):=by rw [vX];simp
theorem NL{i j:Array UInt8}:decide (V.jY i=V.jY j)=(i.toList == j.toList):=by rw [vX];cases i;cases j;simp
section
variable {X:Cx} {a b c:Expr} {ta tb tc:TE} {pos:Pos}
theorem dU{pins:cf}{Q:VK}{k k':Bool}(I:Inv X pins σ H s)(q:Q (.bl k) H)(e:k=k'):EP X pins σ Q (.bool k') s:=by subst e;exact ⟨.bl k,H,I,rfl,q⟩
theorem eE:cT X (compareOp .Eq) AV:=by
 intro pins s σ H x y v u Q I rx ry h;obtain ⟨hs,q⟩:=h;cases x with
 | bg=>
  cases rx;cases y with
  | bg=>cases ry;exact PySem.EqNone.eq_none_none (dU I q (by simp))
  | bl j=>cases ry;exact PySem.EqNone.eq_none_bool (dU I q (by simp))
  | int j=>obtain ⟨t',rfl⟩:=ry;exact PySem.EqNone.eq_none_int (dU I q (by simp))
  | str j=>obtain ⟨t',rfl⟩:=ry;exact PySem.EqNone.eq_none_str (dU I q (by simp))
  | _=>exact absurd (show false=true from hs) d3
 | bl i=>
  cases rx;cases y with
  | bg=>cases ry;exact PySem.EqNone.eq_bool_none (dU I q (by simp))
  | bl j=>cases ry;exact eq_bool (dU I q NJ)
  | str j=>obtain ⟨t',rfl⟩:=ry;exact PySem.EqMixed.eq_bool_str (dU I q (by simp))
  | _=>exact absurd (show false=true from hs) d3
 | int i=>
  obtain ⟨t,rfl⟩:=rx;cases y with
  | bg=>cases ry;exact PySem.EqNone.eq_int_none (dU I q (by simp))
  | int j=>obtain ⟨t',rfl⟩:=ry;exact eq_int (dU I q NI)
  | str j=>obtain ⟨t',rfl⟩:=ry;exact PySem.EqMixed.eq_int_str (dU I q (by simp))
  | _=>exact absurd (show false=true from hs) d3
 | str i=>
  obtain ⟨t,rfl⟩:=rx;cases y with
  | bg=>cases ry;exact PySem.EqNone.eq_str_none (dU I q (by simp))
  | bl j=>cases ry;exact PySem.EqMixed.eq_str_bool (dU I q (by simp))
  | int j=>obtain ⟨t',rfl⟩:=ry;exact PySem.EqMixed.eq_str_int (dU I q (by simp))
  | str j=>obtain ⟨t',rfl⟩:=ry;exact eq_str (dU I q NK)
  | _=>exact absurd (show false=true from hs) d3
 | jY i=>
  obtain ⟨t,rfl⟩:=rx;cases y with
  | jY j=>obtain ⟨t',rfl⟩:=ry;exact PySem.W.eq_bytes (dU I q NL)
  | _=>exact absurd (show false=true from hs) d3
 | _=>cases y <;> exact absurd (show false=true from hs) d3
theorem fX:cT X (compareOp .NotEq) NH:=by
 intro pins s σ H x y v u Q I rx ry h;obtain ⟨hs,q⟩:=h;cases x with
 | bg=>
  cases rx;cases y with
  | bg=>cases ry;exact PySem.EqNone.ne_none_none (dU I q (by simp))
  | bl j=>cases ry;exact PySem.EqNone.ne_none_bool (dU I q (by simp))
  | int j=>obtain ⟨t',rfl⟩:=ry;exact PySem.EqNone.ne_none_int (dU I q (by simp))
  | str j=>obtain ⟨t',rfl⟩:=ry;exact PySem.EqNone.ne_none_str (dU I q (by simp))
  | _=>exact absurd (show false=true from hs) d3
 | bl i=>
  cases rx;cases y with
  | bg=>cases ry;exact PySem.EqNone.ne_bool_none (dU I q (by simp))
  | bl j=>cases ry;exact ne_bool (dU I q (eW not NJ))
  | str j=>obtain ⟨t',rfl⟩:=ry;exact PySem.EqMixed.ne_bool_str (dU I q (by simp))
  | _=>exact absurd (show false=true from hs) d3
 | int i=>
  obtain ⟨t,rfl⟩:=rx;cases y with
  | bg=>cases ry;exact PySem.EqNone.ne_int_none (dU I q (by simp))
  | int j=>obtain ⟨t',rfl⟩:=ry;exact ne_int (dU I q (eW not NI))
  | str j=>obtain ⟨t',rfl⟩:=ry;exact PySem.EqMixed.ne_int_str (dU I q (by simp))
  | _=>exact absurd (show false=true from hs) d3
 | str i=>
  obtain ⟨t,rfl⟩:=rx;cases y with
  | bg=>cases ry;exact PySem.EqNone.ne_str_none (dU I q (by simp))
  | bl j=>cases ry;exact PySem.EqMixed.ne_str_bool (dU I q (by simp))
  | int j=>obtain ⟨t',rfl⟩:=ry;exact PySem.EqMixed.ne_str_int (dU I q (by simp))
  | str j=>obtain ⟨t',rfl⟩:=ry;exact ne_str (dU I q (eW not NK))
  | _=>exact absurd (show false=true from hs) d3
 | jY i=>
  obtain ⟨t,rfl⟩:=rx;cases y with
  | jY j=>obtain ⟨t',rfl⟩:=ry;exact PySem.W.ne_bytes (dU I q (eW not NL))
  | _=>exact absurd (show false=true from hs) d3
 | _=>cases y <;> exact absurd (show false=true from hs) d3
theorem jg:cT X (compareOp .Lt) (qz λi j=>.bl (decide (i<j))):=DD λ_ _ _ _ _ _ _ q=>lt_int q
theorem wM:cT X (compareOp .LtE) (qz λi j=>.bl (decide (i<=j))):=DD λ_ _ _ _ _ _ _ q=>le_int q
theorem Iv:cT X (compareOp .Gt) (qz λi j=>.bl (decide (j<i))):=DD λ_ _ _ _ _ _ _ q=>gt_int q
theorem Vs:cT X (compareOp .GtE) (qz λi j=>.bl (decide (j<=i))):=DD λ_ _ _ _ _ _ _ q=>ge_int q
theorem DF:cT X (compareOp .Is) (λx y H Q=>y=.bg/\Q (.bl (decide (x=.bg))) H):=by
 intro pins s σ H x y v u Q I rx ry h;obtain ⟨rfl,q⟩:=h;cases ry;refine is_none_gen (dU I q ?_)
 cases x <;> first
  | (cases rx;rfl)
  | (obtain ⟨t,rfl⟩:=rx;rfl)
theorem NM:cT X (compareOp .IsNot) (λx y H Q=>y=.bg/\Q (.bl (!decide (x=.bg))) H):=by
 intro pins s σ H x y v u Q I rx ry h;obtain ⟨rfl,q⟩:=h;cases ry;refine isnot_none_gen (dU I q ?_)
 cases x <;> first
  | (cases rx;rfl)
  | (obtain ⟨t,rfl⟩:=rx;rfl)
variable {op:CmpOp}
theorem NN(b:Expr)(h:op≠.In:=by decide)(h2:op≠.NotIn:=by decide):behindInMarks op b=false:=by
 have e1:(op == CmpOp.In)=false:=by cases op <;> first | rfl | exact absurd rfl h
 have e2:(op == CmpOp.NotIn)=false:=by cases op <;> first | rfl | exact absurd rfl h2
 cases b <;> simp [behindInMarks,e1,e2]
variable {r:R2}
theorem Vt(ho:cT X (compareOp op) r)(ha:PE X a ta)(hb:PE X b tb)(hm:behindInMarks op b=false):PE X (.Compare a [op] [b] pos) (l6 r ta tb):=by intro pins s σ H Q I h;exact wpAny_Compare1 (Ir ha hb I h λv u s2 x y H2 I2 rx ry q=>ho pins s2 σ H2 x y v u Q I2 rx ry q) hm
theorem e8{b:Expr}(ho:cT X (compareOp op) r)(ha:PE X a ta)(hb:PE X b tb)(hm:behindInMarks op b=false:=by exact NN _):PE X (.Compare a [op] [b] pos) (l6 r ta tb):=Vt ho ha hb hm
def wN(t:TE):TT:=λσ H Q=>t σ H λx H'=>∃k,x=.bl k/\Q k H'
theorem DG(ho:cT X (compareOp op) r)(ha:PE X a ta)(hb:PE X b tb)(hm:behindInMarks op b=false):PT X (.Compare a [op] [b] pos) (wN (l6 r ta tb)):=by intro pins s σ H Q I h;refine wpAny_isTrue_Compare1 (bh (ha pins s σ H _ I h) λv s1 ⟨x,H1,I1,r1,q1⟩=>bh (hb pins s1 σ H1 _ I1 q1) λu s2 ⟨y,H2,I2,r2,q2⟩=>bh (ho pins s2 σ H2 x y v u _ I2 r1 r2 q2) λc s3 ⟨z,H3,I3,r3,k,e,q3⟩=>?_) hm;subst e;cases r3;exact nI ⟨H3,I3,q3⟩
theorem bK{b:Expr}(ho:cT X (compareOp op) r)(ha:PE X a ta)(hb:PE X b tb)(hm:behindInMarks op b=false:=by exact NN _):PT X (.Compare a [op] [b] pos) (wN (l6 r ta tb)):=DG ho ha hb hm
def Vu(r r':R2)(ta tb tc:TE):TE:=λσ H Q=>ta σ H λx H1=>tb σ H1 λy H2=>r x y H2 λz H3=>∃k,z=.bl k /\
 (if k=true then tc σ H3 λw' H4=>r' y w' H4 Q else Q (.bl false) H3)
theorem DH{Iw:CmpOp}{r':R2}(ho:cT X (compareOp op) r)(o4:cT X (compareOp Iw) r')(ha:PE X a ta)(hb:PE X b tb)(hc:PE X c tc)
  (hm:lastMarks [op,Iw] [b,c]=false:=by with_unfolding_all rfl):PE X (.Compare a [op,Iw] [b,c] pos) (Vu r r' ta tb tc):=by
 intro pins s σ H Q I h;refine Compare_chain (bh (ha pins s σ H _ I h) λv s1 ⟨x,H1,I1,r1,q1⟩=>chain_link (bh (hb pins s1 σ H1 _ I1 q1) λu s2 ⟨y,H2,I2,r2,q2⟩=>bh (ho pins s2 σ H2 x y v u _ I2 r1 r2 q2) λd s3 ⟨z,H3,I3,r3,k,e,q3⟩=>?_)) hm;subst e;cases r3;refine nI ?_;cases k with
 | false=>exact ite_ff ⟨.bl false,H3,I3,rfl,q3⟩
 | true=>exact ite_tt (chain_last (bh (hc pins s3 σ H3 _ I3 q3) λw' s4 ⟨z',H4,I4,r4,q4⟩=>o4 pins s4 σ H4 y z' u w' Q I4 r2 r4 q4))
def Iy(K:aQ)(x:V)(H:Hp)(k:Bool):Prop:=
 match x with
 | .bg=>k=false
 | .bl b=>k=b
 | .int i=>k=(i != 0)
 | .str y=>y.length<=sizeLine/\k=((y.length:Int) != 0)
 | .jY y=>y.size<=sizeLine/\k=((y.size:Int) != 0)
 | .ref p=>(∃xs,cG K H p xs/\k = !xs.isEmpty)\/(∃xs,h_ K H p xs/\k = !xs.isEmpty)\/∃du,H p=some (.dK du)/\k = !du.isEmpty
 | _=>False
theorem Vv{κ:Type}{du:List (κ×V)}{vs:List (κ×Value)}(r:KV du vs):(!vs.isEmpty) = !du.isEmpty:=by cases r <;> rfl
theorem NO{av:List Value}(r:Vals xs av):(!av.toArray.isEmpty) = !xs.isEmpty:=by cases r <;> simp
theorem AW:(sizeLine:Nat)<2 ^ 63:=by rw [sizeLine_eq];decide
theorem Vw:Vm X (λx H Q=>∃k,Iy X.K x H k/\Q k H):=by
 intro pins s σ H x v Q I rx h;obtain ⟨k,e,q⟩:=h;have hl:=AW;have hs:sizeLine=16777216:=sizeLine_eq;cases x with
 | bg=>cases rx;have e':k=false:=e;subst e';exact truthy_none ⟨H,I,q⟩
 | bl b=>cases rx;have e':k=b:=e;subst e';exact nI ⟨H,I,q⟩
 | int i=>obtain ⟨t,rfl⟩:=rx;have e':k=(i != 0):=e;subst e';exact PySem.P.truthy_int (ad H I q)
 | str y=>obtain ⟨t,rfl⟩:=rx;obtain ⟨hy,e'⟩:y.length<=sizeLine/\k=((y.length:Int) != 0):=e;subst e';exact PySem.P.truthy_str ⋯ (ad H (I.tok _) q)
 | jY y=>obtain ⟨t,rfl⟩:=rx;obtain ⟨hy,e'⟩:y.size<=sizeLine/\k=((y.size:Int) != 0):=e;subst e';exact PySem.W.truthy_bytes ⋯ (ad H (I.tok _) q)
 | ref p=>
  cases rx;have e':(∃xs,cG X.K H p xs/\k = !xs.isEmpty)\/(∃xs,h_ X.K H p xs/\k = !xs.isEmpty)\/∃du,H p=some (.dK du)/\k = !du.isEmpty:=e;rcases e' with ⟨xs,hx,e'⟩ | ⟨xs,hx,e'⟩ | ⟨du,hx,e'⟩
  ·subst e'
   obtain ⟨av,r,pl,hz⟩:=I.list hx;have hlen:=r.length;exact wpAny_truthy_list pl.isList (by simp only [fh];lia) ⟨H,I.tok _,by rw [NO r];exact q⟩
  ·subst e'
   obtain ⟨av,r,pl,hz⟩:=I.tuple hx;have hlen:=r.length;exact truthy_tuple pl (by simp only [fh];lia) ⟨H,I.tok _,by rw [NO r];exact q⟩
  ·subst e'
   obtain ⟨hz,hS,vs,r,m⟩:du.length<=sizeLine/\(p == sysModules)=false/\∃vs,KV du vs/\s.heap.DictOf (H_ X.prog X.w) p vs:=I.aT p _ hx;have hlen:du.length=vs.length:=Paired.length r;exact wpAny_truthy_dict hS m ⋯ ⟨H,I.tok _,by rw [Vv r];exact q⟩
 | _=>exact (show False from e).elim
theorem kK(ha:PE X a ta)(he:∀whole,isTrue a X.env whole=(do let v <-whole;standAt a.pos;holding [v] (truthy v))) :
  PT X a (λσ H Q=>ta σ H λx H'=>∃k,Iy X.K x H' k/\Q k H'):=by
 intro pins s σ H Q I h
 exact isTrue_plain (bh (ha pins s σ H _ I h) λv s1 ⟨x,H1,I1,r1,q1⟩=>Vw pins s1 σ H1 x v Q I1 r1 q1) (he _)
theorem vals1(r:Vals [x] us):∃u,us=[u]/\RelV x u:=by
 cases r with
 | cons r1 r2=>cases r2;exact (ad _ rfl r1)
theorem vals2{y:V}(r:Vals [x,y] us):∃u w',us=[u,w']/\RelV x u/\RelV y w':=by
 cases r with
 | cons r1 r2=>
  cases r2 with
  | cons r3 r4=>cases r4;exact (ce _ _ rfl r1 r3)
theorem DI:jH X (.builtin "abs") (λxs H Q=>∃i,xs=[.int i]/\Q (.int (if i<0 then -i else i)) H):=by intro pins s σ H xs us Q I r h;intros am0 h i rfl q;obtain ⟨u,rfl,t,rfl⟩:=vals1 r;exact call_abs_int λu tk=>⟨.int (if i<0 then -i else i),H,I.tok _,⟨_,rfl⟩,q⟩
theorem Vx(hc:X.calm=true):jH X (.builtin "min") (λxs H Q=>∃i j,xs=[.int i,.int j]/\Q (.int (if j<i then j else i)) H):=by
 intro pins s σ H xs us Q I r h;intros am6 h i j rfl q;obtain ⟨u,w',rfl,⟨t,rfl⟩,⟨t',rfl⟩⟩:=vals2 r;refine min_two_ints (I.ok.hd hc) λh' tk k=>(ce _ H (I.kept k) ?_ q);by_cases hj:j<i;·rw [ao hj,ao hj];exact ⟨_,rfl⟩
 ·rw [aq hj,aq hj];exact ⟨_,rfl⟩
theorem NP:jH X (.type "int") (λxs H Q=>(∃i,xs=[.int i]/\Q (.int i) H)\/∃k,xs=[.bl k]/\Q (.int (if k then 1 else 0)) H):=by
 intro pins s σ H xs us Q I r h;rcases h with ⟨i,rfl,q⟩ | ⟨k,rfl,q⟩
 ·obtain ⟨u,rfl,t,rfl⟩:=vals1 r
  exact call_int_int ⟨.int i,H,I,⟨_,rfl⟩,q⟩
 ·obtain ⟨u,rfl,r1⟩:=vals1 r
  cases r1;exact call_int_bool ⟨.int (if k then 1 else 0),H,I.tok _,⟨_,rfl⟩,q⟩
end
structure sJ (h:Heap) (x dx C:Addr) (mA:eK):Prop where
 obj:h.get? x=some (PySem.W.instObj C dx)
 ns:h.Ns1 dx mA
 ne:dx≠x
variable {dx:Addr} {mA:eK}
theorem Vy(n:h.Ns1 dx mA):∃od,h.get? dx=some od/\∀name,PySem.W.lookIn name od=some (mA name):=by
 intros am1 n o es am14 ep ho hd hk _ hm;refine ⟨o,ho,λname=>?_⟩;have e:=hm name;unfold nsFind findBy at e;rw [<-Array.find?_toList] at e;unfold PySem.W.lookIn;rw [hd];dsimp only
 split
 ·rename_i y q
  rw [q] at e;exact eW some e
 ·rename_i q
  rw [q] at e;have a:es.toList.any (·.refKey)=false:=by rw [List.any_eq_false];intro y hy;obtain ⟨z,t,Vz⟩:=hk y (Array.mem_toList_iff.mp hy);simp [DictEntry.refKey,Vz]
  have a':¬es.toList.any (·.refKey)=true:=by rw [a];exact d3
  rw [aq a'];exact eW some e
variable {C:Addr}
theorem sJ.look{x:Addr}(I:sJ h x dx C mA):∃od,PySem.W.InstAt h x (PySem.W.instObj C dx) C (some od)/\∀name,PySem.W.lookIn name od=some (mA name):=
 let ⟨od,ho,hl⟩:=Vy I.ns
 (ad od ⟨I.obj,rfl,rfl,ho⟩ hl)
section
variable {prog:Program} {w:World} {A:Around} {E:cX} {s:Shared} {K:aQ} {x dx C f:Addr} {mA:eK} {name:Str} {v:Value}
theorem get_map{expr:Bool}{Q:cX}(X:K.In s.heap)(I:sJ s.heap x dx C mA)(hg:PySem.W.plainGet K C name=true)(hh:PySem.W.hasDictIn K C=true)
  (ha:PySem.W.findIn K (.ref C) name=some none) (hv:mA name=some v) (fO:PySem.W.handedIn v=true) (h:Q v {s with toks:=s.toks+1}) :
  wpAny (model prog w) A (getAttr (.ref x) name expr) Q E s:=by
 obtain ⟨od,J,hl⟩:=I.look;exact PySem.W.get_value X J (PySem.W.plainGet_of hg).1 (PySem.W.findObj_own hh ha rfl (by rw [hl,hv])) fO h
theorem VA{pl:Sem Bool}{Q:Value×List Value->Shared->Prop}(X:K.In s.heap)(I:sJ s.heap x dx C mA)(hg:PySem.W.plainGet K C name=true)
  (hf:PySem.W.findIn K (.ref C) name=some (some (.ref f))) (ht:PySem.W.isFn K (.ref f)=true) (hv:mA name=none) (h:Q (.ref f,[.ref x]) s) :
  wpAny (model prog w) A (getMethod (.ref x) name pl) Q E s:=by
 obtain ⟨od,J,hl⟩:=I.look;exact PySem.W.method_fn X J (PySem.W.plainGet_of hg).1 (PySem.W.plainGet_of hg).2 hf (nJ.mp ht) (by show (PySem.W.lookIn name od).map (·.isSome)=some false;rw [hl,hv];rfl) h
theorem VB{ns:List Str}{Q:Unit->Shared->Prop}(X:K.In s.heap)(I:sJ s.heap x dx C mA)
  (hs:PySem.W.findIn K (.ref C) "__setattr__"=some (some (.builtin "object.__setattr__"))) (hp:PySem.W.plainOver K C=true) (ht:PySem.W.takerIn K C name=some none) (hh:PySem.W.hasDictIn K C=true)
  (hw:PySem.Within mA ns) (NQ:ns.length<=sizeLine)
  (h:∀h',sJ h' x dx C (λy=>if y=name then some v else mA y)->Heap.SameBut dx s.heap h'->Q () {s with heap:=h',toks:=s.toks+2}) :
  wpAny (model prog w) A (setAttr (.ref x) name v) Q E s:=by
 obtain ⟨od,J,hl⟩:=I.look;refine PySem.W.set_plain X J hs (PySem.W.osa_open (s:={s with toks:=s.toks+1}) (r:=none) X J hp ht λb=>?_);obtain ⟨cd,hc,Ia⟩:=PySem.W.any_some hh;have hx:s.heap.get? x=some ⟨.ref C,some dx,.plain,#[]⟩:=I.obj;refine c_ (fN (c_ (c_ (wpAny_loadPart hx (c_ (PySem.W.Looks.here (s:={s with toks:=s.toks+1}) (PySem.W.looks_clsIn X hc) ?_))))));rw [Ia];refine fN (a:=some dx) (c_ (fN (c_ ?_)));refine wpAny_nsSet1 (s:={s with toks:=s.toks+1}) I.ns λh' wO nX=>?_;obtain ⟨oD,esD,epD,VC,VD,VE⟩:=wO.count (PySem.Within.cons name v hw);refine c_ (wpAny_lookBehind VC (by rw [VD];exact pastItsLine_dict (au VE (by rw [df];lia))) ?_)
 exact fN (h _ ⟨(nX.2 _ (Ne.symm I.ne)).trans I.obj,wO,I.ne⟩ nX)
theorem VF{R:Result->Shared->Prop}{vs:List Value}{kw:List (Str×Value)}(X:K.In s.heap)(hm:PySem.W.makesIn K C=true)
  (hi:PySem.W.findIn K (.ref C) "__init__"=some (some (.ref f))) (hf:PySem.W.typeIn K (.ref f)=some (.type "function"))
  (h:codeAny (model prog w) (A.under (.builtin "type.__call__" ⟨.ref C::vs,kw⟩)) (.call (.ref f) ⟨.ref (s.heap.objs.size+1)::vs,kw⟩) (PySem.W.InitBack (s.heap.objs.size+1) R)
   {s with heap:=(s.heap.push PySem.W.emptyDict).push (PySem.W.instObj C s.heap.objs.size)}) :
  codeAny (model prog w) A (.call (.ref C) ⟨vs,kw⟩) R s:=by
 obtain ⟨hh,g,d,t,os⟩:=s;exact PySem.W.make_core (PySem.W.makes_of X hm) (C6 X hi) (λself=>PySem.W.bind_fn X self hf) (.inl rfl) h
end
def jh(f:Str)(v:V):List (Str×V)->List (Str×V)
 | []=>[(f,v)]
 | (g,x)::r=>if g=f then (g,v)::r else (g,x)::jh f v r
theorem NR(f g:Str)(v:V):∀fs:List (Str×V),(jh f v fs).lookup g=if g=f then some v else fs.lookup g
 | []=>by
  show List.lookup g [(f,v)]=_;by_cases h:g=f
  ·have hb:(g == f)=true:=nJ.mpr h
   simp only [List.lookup,hb,ao h]
  ·have hb:(g == f)=false:=qo.mpr h
   simp only [List.lookup,hb,aq h]
 | (k,x)::r=>by
  have ih:=NR f g v r;rw [show jh f v ((k,x)::r)=(if k=f then (k,v)::r else (k,x)::jh f v r) from rfl]
  by_cases hk:k=f
  ·rw [ao hk]
   by_cases h:g=k
   ·have hb:(g == k)=true:=nJ.mpr h
    simp only [List.lookup,hb,ao (h.trans hk)]
   ·have hb:(g == k)=false:=qo.mpr h
    simp only [List.lookup,hb,aq (λe:g=f=>h (e.trans hk.symm))]
  ·rw [aq hk]
   by_cases h:g=k
   ·have hb:(g == k)=true:=nJ.mpr h
    simp only [List.lookup,hb,aq (λe:g=f=>hk (h.symm.trans e))]
   ·have hb:(g == k)=false:=qo.mpr h
    simp only [List.lookup,hb];exact ih
theorem Iz(f:Str)(v:V):∀fs:List (Str×V),f∈(jh f v fs).map (·.1)/\∀g,g∈fs.map (·.1)->g∈(jh f v fs).map (·.1)
 | []=>⟨by simp [jh],λg h=>by simp at h⟩
 | (k,x)::r=>by
  obtain ⟨i1,i2⟩:=Iz f v r;rw [show jh f v ((k,x)::r)=(if k=f then (k,v)::r else (k,x)::jh f v r) from rfl]
  by_cases hk:k=f
  ·rw [ao hk]
   subst hk;exact ⟨by simp,λg h=>by simpa using h⟩
  ·rw [aq hk]
   refine ⟨?_,λg h=>?_⟩
   ·rw [gE]
    exact iQ _ i1
   ·rw [gE] at h ⊢
    rcases fM.mp h with e | e;·exact fM.mpr (.inl e)
    ·exact iQ _ (i2 g e)
theorem NS(f:Str)(v:V):∀fs:List (Str×V),(jh f v fs).length<=fs.length+1
 | []=>by simp [jh]
 | (k,x)::r=>by
  have ih:=NS f v r;rw [show jh f v ((k,x)::r)=(if k=f then (k,v)::r else (k,x)::jh f v r) from rfl]
  by_cases hk:k=f;·rw [ao hk,df,df];lia
  ·rw [aq hk,df,df];lia
variable {v:V}
theorem nQ.some_of{o:Option Value}(r:nQ (some v) o):∃u,o=some u/\RelV v u:=by
 cases o with
 | none=>exact (show False from r).elim
 | some u=>exact ⟨u,rfl,r⟩
theorem nQ.none_of{o:Option Value}(r:nQ none o):o=none:=by
 cases o with
 | none=>rfl
 | some u=>exact (show False from r).elim
theorem VG(r:RelV v u):PySem.W.handedIn u=true:=by
 cases v with
 | bg=>cases (show u=Value.none from r);rfl
 | bl b=>cases (show u=Value.bool b from r);rfl
 | int i=>obtain ⟨t,e⟩:=(show ∃t,u=Value.int i t from r);cases e;rfl
 | str x=>obtain ⟨t,e⟩:=(show ∃t,u=Value.str x t from r);cases e;rfl
 | jY b=>obtain ⟨t,e⟩:=(show ∃t,u=Value.bytes b t from r);cases e;rfl
 | su b=>obtain ⟨t,e⟩:=(show ∃t,u=Value.float b t from r);cases e;rfl
 | ref a=>cases (show u=Value.ref a from r);rfl
 | ty n=>cases (show u=Value.type n from r);rfl
section
variable {P:Program} {w:World} {H H':Hp} {h h':Heap} {a C dx:Addr} {fs UL:List (Str×V)}
theorem DJ(aT:d6 P w H h)(e:H a=some (.ins C dx fs)):∃mA,sJ h a dx C mA/\(∀f,nQ (fs.lookup f) (mA f))/\PySem.Within mA (fs.map (·.1))/\fs.length<=1000/\H dx=some (.own a):=by obtain ⟨d,z,ne,ob,mA,n,r,q⟩:=(show gu P w H h a (.ins C dx fs) from aT a _ e);exact ⟨mA,⟨ob,n,ne⟩,r,q,z,d⟩
end
structure mR (K:aQ) (C:Addr):Prop where
 pg:PySem.W.plainGet K C Str.empty=true
 hd:PySem.W.hasDictIn K C=true
 po:PySem.W.plainOver K C=true
 sa:PySem.W.findIn K (.ref C) "__setattr__"=some (some (.builtin "object.__setattr__"))
theorem mR.get{K:aQ}{C:Addr}(c:mR K C)(f:Str):PySem.W.plainGet K C f=true:=c.pg
def sL(K:aQ)(C:Addr)(f:Str):Prop:=PySem.W.findIn K (.ref C) f=some none
theorem sL.VH{f:Str}(n:sL K C f):PySem.W.takerIn K C f=some none:=by unfold PySem.W.takerIn;rw [show PySem.W.findIn K (.ref C) f=some none from n];rfl
structure Meth (K:aQ) (C:Addr) (m:Str) (f:Addr):Prop where
 at_:PySem.W.findIn K (.ref C) m=some (some (.ref f))
 fn:PySem.W.isFn K (.ref f)=true
 kp:PySem.W.keepIn K (.ref f)=true
section
variable {X:Cx} {pins:cf} {σ:St} {H:Hp} {s:Shared} {a C dx:Addr} {fs:List (Str×V)} {f:Str} {v:V} {A:Around} {E:cX}
variable {Q:cX}
theorem VI{b:Bool}(I:Inv X pins σ H s)(e:H a=some (.ins C dx fs))(c:mR X.K C)(n:sL X.K C f)(l:fs.lookup f=some v)
  (h:∀u s',Inv X pins σ H s'->RelV v u->Q u s'):wpAny (model X.prog X.w) A (getAttr (.ref a) f b) Q E s:=by
 obtain ⟨mA,O,r,_,_,_⟩:=DJ I.aT e;obtain ⟨u,hu,ru⟩:=nQ.some_of (v:=v) (o:=mA f) (by rw [<-l];exact r f)
 exact get_map I.fK O (c.get f) c.hd n hu (VG ru) (h u _ (I.tok _) ru)
theorem NT{m:Str}{g:Addr}{pl:Sem Bool}{Q:Value×List Value->Shared->Prop}(I:Inv X pins σ H s)(e:H a=some (.ins C dx fs))(c:mR X.K C)(k:Meth X.K C m g)(l:fs.lookup m=none)
  (h:Q (.ref g,[.ref a]) s):wpAny (model X.prog X.w) A (getMethod (.ref a) m pl) Q E s:=by
 obtain ⟨mA,O,r,_,_,_⟩:=DJ I.aT e;have hn:mA m=none:=nQ.none_of (by rw [<-l];exact r m)
 exact VA I.fK O (c.get m) k.at_ k.fn hn h
theorem VJ{y:V}{Q:Unit->Shared->Prop}(I:Inv X pins σ H s)(e:H a=some (.ins C dx fs))(c:mR X.K C)(n:sL X.K C f)(hl:fs.length<1000)(ry:RelV y u)
  (h:∀s',Inv X pins σ (upd H a (.ins C dx (jh f y fs))) s'->Q () s'):wpAny (model X.prog X.w) A (setAttr (.ref a) f u) Q E s:=by
 obtain ⟨mA,O,r,wi,_,ho⟩:=DJ I.aT e;have hz:(fs.map (·.1)).length<=sizeLine:=by rw [aV,sizeLine_eq];lia
 refine VB I.fK O c.sa c.po n.VH c.hd wi hz λh' O' sb=>h _ ?_;have hd:∃o,h'.get? dx=some o:=let ⟨o,_,_,e',_⟩:=O'.ns;⟨o,e'⟩
 refine I.write (x:=a) (e:=dx) (by rw [e];exact True.intro) (.inr ho) (λb q hb z=>(sb.2 b hb).trans z) hd ?_
 refine ⟨by rw [cj O.ne];exact ho,?_,O.ne,O'.obj,_,O'.ns,λg=>?_,λg hg=>?_⟩
 ·have:=NS f y fs;lia
 ·show nQ ((jh f y fs).lookup g) (if g=f then some u else mA g)
  rw [NR];by_cases q:g=f;·rw [ao q,ao q];exact ry
  ·rw [aq q,aq q];exact r g
 ·by_cases q:g=f
  ·rw [q];exact (Iz f y fs).1
  ·refine (Iz f y fs).2 g (wi g λz=>hg ?_)
   show (if g=f then some u else mA g)=none
   rw [aq q];exact z
theorem Inv.made(I:Inv X pins σ H s):Inv X pins σ (upd (upd H s.heap.objs.size (.own (s.heap.objs.size+1))) (s.heap.objs.size+1) (.ins C s.heap.objs.size []))
  {s with heap:=(s.heap.push PySem.W.emptyDict).push (PySem.W.instObj C s.heap.objs.size)}:=by
 have e1:(s.heap.push PySem.W.emptyDict).get? s.heap.objs.size=some PySem.W.emptyDict:=iz s.heap rfl;have e2:((s.heap.push PySem.W.emptyDict).push (PySem.W.instObj C s.heap.objs.size)).get? (s.heap.objs.size+1)=some (PySem.W.instObj C s.heap.objs.size):=by
  have:=iz (s.heap.push PySem.W.emptyDict) (o:=PySem.W.instObj C s.heap.objs.size) rfl
  rwa [Am] at this
 have e3:(s.heap.push PySem.W.emptyDict).Ns s.heap.objs.size (λ_=>none):=⟨PySem.W.emptyDict,#[],_,e1,rfl,(λe he=>absurd he (by simp)),λ_=>rfl⟩
 have I1:=I.laid (a:=s.heap.objs.size) (o:=.own (s.heap.objs.size+1)) (h':=s.heap.push PySem.W.emptyDict) (t':=s.toks) (λb u q=>dZ _ q) (aP _) ⟨_,e1⟩;refine I1.laid (a:=s.heap.objs.size+1) (o:=.ins C s.heap.objs.size []) (t':=s.toks) (λb u q=>dZ _ q) (jz (Am _ _)) ?_;have ne:s.heap.objs.size≠s.heap.objs.size+1:=f9 (vY _);refine ⟨by rw [cj ne,aK],f_ _,ne,e2,λ_=>none,(Heap.Ns1.of_empty e3).at λo q=>dZ _ q,λ_=>True.intro,λy hy=>absurd rfl hy⟩
theorem VL{prog:Program}{env:Env}{e:Expr}{f:Str}{pos:Pos}(hb:attributeBase e f env (eval e env)=eval e env)
  (h:wpAny (model prog w) A (eval e env) (λo s₁=>wpAny (model prog w) A (getAttr o f true) Q E s₁) E s):wpAny (model prog w) A (eval (.Attribute e f pos) env) Q E s:=
 Attribute_any_ h (by rw [arm_eval_Attribute,hb])
end
def NU(K:aQ)(ta:TE)(f:Str):TE:=λσ H Q=>ta σ H λx H1=>∃a C dx fs v,x=.ref a/\H1 a=some (.ins C dx fs)/\mR K C/\sL K C f/\fs.lookup f=some v/\Q v H1
def VM(K:aQ)(ta tv:TE)(f:Str):TS:=λD σ H=>tv σ H λy H1=>ta σ H1 λx H2=>∃a C dx fs,x=.ref a/\H2 a=some (.ins C dx fs)/\mR K C/\sL K C f/\fs.length<1000 /\
 D.nx σ (upd H2 a (.ins C dx (jh f y fs)))
section
variable {X:Cx} {o e value:Expr} {f:Str} {pos pos' NV:Pos} {ta tv:TE}
theorem o9(he:PE X e ta)(hb:attributeBase e f X.env (eval e X.env)=eval e X.env):PE X (.Attribute e f pos) (NU X.K ta f):=by intro pins s σ H Q I h;refine VL hb (bh (he pins s σ H _ I h) λu s1 ⟨x,H1,I1,rx,a,C,dx,fs,v,ex,ea,c,n,l,q⟩=>?_);subst ex;obtain rfl:u=Value.ref a:=rx;exact VI I1 ea c n l λu' s2 I2 ru=>(ce v H1 I2 ru q)
theorem NW(ha:PE X o ta)(hv:PE X value tv)(hs:swapsWith value (some (.Attribute o f pos')) pos.line X.env=pure false):PS X (.Assign [.Attribute o f pos'] value pos) (VM X.K ta tv f):=by intro pins s σ H D I h;refine plainObj_wpAny_Assign_Attribute (bh (hv pins s σ H _ I h) λu s1 ⟨y,H1,I1,ry,q⟩=>bh (ha pins s1 σ H1 _ I1 q) λov s2 ⟨x,H2,I2,rx,a,C,dx,fs,ex,ea,c,n,l,q2⟩=>?_) hs;subst ex;obtain rfl:ov=Value.ref a:=rx;exact VJ I2 ea c n l ry λs3 I3=>⟨σ,_,I3,q2⟩
theorem ale{pl:Sem Bool}{m:Str}{apos:Pos}{args:List Expr}{pins:cf}{Q:cX}{te:TE}(he:PE X e te)(I:Inv X pins σ H s)
  (h:te σ H λx H1=>∃a C dx fs g,x=.ref a/\H1 a=some (.ins C dx fs)/\mR X.K C/\Meth X.K C m g/\fs.lookup m=none /\
   ∀s1,Inv X pins σ H1 s1->wpAny (model X.prog X.w) X.A (callWith pos (.ref g) [.ref a] (backTo pos (starEach args X.env)) (backToKw pos (keywordEach [] X.env))) Q X.xe s1)
  (ht:eval (.Call (.Attribute e m apos) args [] pos) X.env=(do
   let ov <-eval e X.env
   standAt apos.atName
   let (f,first) <-holding [ov] (getMethod ov m pl)
   callWith pos f first (backTo pos (starEach args X.env)) (backToKw pos (keywordEach [] X.env)))) :
  wpAny (model X.prog X.w) X.A (eval (.Call (.Attribute e m apos) args [] pos) X.env) Q X.xe s:=by
 refine PySem.W.methodCall_KW (pl:=pl) (bh (he pins s σ H _ I h) λu s1 ⟨x,H1,I1,rx,a,C,dx,fs,g,ex,ea,c,k,l,q⟩=>?_) ht
 subst ex
 obtain rfl:u=Value.ref a:=rx
 exact NT I1 ea c k l (q s1 I1)
end
section
variable {X:Cx} {pins:cf} {σ:St} {H:Hp} {s:Shared} {A:Around} {E:cX} {Q:cX} {c:Value} {b:Bool}
inductive kL (K:aQ) (H:Hp):V->Value->Prop where
 | bg:kL K H .bg (.type "NoneType")
 | bl (x:Bool):kL K H (.bl x) (.type "bool")
 | int (i:Int):kL K H (.int i) (.type "int")
 | str (x:Str):kL K H (.str x) (.type "str")
 | su (x:UInt64):kL K H (.su x) (.type "float")
 | lst {a:Addr} {xs:List V} (e:H a=some (.lst xs)):kL K H (.ref a) (.type "list")
 | jf {a:Addr} {o:Obj} {xs:List V} (e:H a=some (.jf o (.lst xs))):kL K H (.ref a) (.type "list")
 | tup {a:Addr} {xs:List V} (e:H a=some (.tup xs)):kL K H (.ref a) (.type "tuple")
 | dK {a:Addr} {du:List (Key×V)} (e:H a=some (.dK du)):kL K H (.ref a) (.type "dict")
 | dT {a:Addr} {du:List (List Key×V)} (e:H a=some (.dT du)):kL K H (.ref a) (.type "dict")
 | ins {a C dx:Addr} {fs:List (Str×V)} (e:H a=some (.ins C dx fs)) (cl:mR K C) (ha:PySem.W.findIn K (.ref C) "__class__"=some (some (.builtin "object.__class__")))
   (hn:PySem.W.specialIn K (.builtin "object.__class__") "__get__"=some (some (.builtin "getset_descriptor.__get__"))) (NX:PySem.W.takesIn K (.builtin "object.__class__")=some true)
   (hm:PySem.W.mroIn K C (.type "object")=some true):kL K H (.ref a) (.ref C)
theorem VN{t:Value}(I:Inv X pins σ H s)(rx:RelV x u)(ty:kL X.K H x t)(e:PySem.W.kitOne X.K t c=some b)(h:∀tk,Q (.bool b) {s with toks:=tk}) :
  wpAny (model X.prog X.w) A (call (.builtin "isinstance") [u,c]) Q E s:=by
 cases ty with
 | bg=>cases (show u=Value.none from rx);exact kz PySem.W.kitx_none I.fK True.intro e (λz=>nomatch z) h
 | bl y=>cases (show u=Value.bool y from rx);exact kz PySem.W.kitx_bool I.fK True.intro e (λz=>nomatch z) h
 | int i=>obtain ⟨t,q⟩:=(show ∃t,u=Value.int i t from rx);cases q;exact kz PySem.W.kitx_int I.fK True.intro e (λz=>nomatch z) h
 | str y=>obtain ⟨t,q⟩:=(show ∃t,u=Value.str y t from rx);cases q;exact kz PySem.W.kitx_str I.fK True.intro e (λz=>nomatch z) h
 | su y=>obtain ⟨t,q⟩:=(show ∃t,u=Value.float y t from rx);cases q;exact kz PySem.W.kitx_float I.fK True.intro e (λz=>nomatch z) h
 | @lst a xs ea=>cases (show u=Value.ref a from rx);obtain ⟨_,_,n,_,h1⟩:=(show gu X.prog X.w H s.heap a (.lst xs) from I.aT a _ ea);exact kz PySem.W.kitx_list I.fK (ad _ h1 rfl) e (λz=>nomatch z) h
 | @jf a ob xs ea=>cases (show u=Value.ref a from rx);obtain ⟨_,_,_,n,_,h1⟩:=(show gu X.prog X.w H s.heap a (.jf ob (.lst xs)) from I.aT a _ ea);exact kz PySem.W.kitx_list I.fK (ad _ h1 rfl) e (λz=>nomatch z) h
 | @tup a xs ea=>cases (show u=Value.ref a from rx);obtain ⟨_,_,_,p⟩:=(show gu X.prog X.w H s.heap a (.tup xs) from I.aT a _ ea);intros am7 p o h1 h2 _;exact kz PySem.W.kitx_tuple I.fK (ad o h1 h2) e (λz=>nomatch z) h
 | @dK a du ea=>cases (show u=Value.ref a from rx);obtain ⟨_,_,vs,_,p⟩:=(show gu X.prog X.w H s.heap a (.dK du) from I.aT a _ ea);intros am18 p o es ep h1 h2 _;exact kz PySem.W.kitx_dict I.fK (ad o h1 h2.1) e (λz=>nomatch z) h
 | @dT a du ea=>cases (show u=Value.ref a from rx);obtain ⟨_,_,xs,_,o,es,ep,h1,h2,_⟩:=(show gu X.prog X.w H s.heap a (.dT du) from I.aT a _ ea);exact kz PySem.W.kitx_dict I.fK (ad o h1 h2.1) e (λz=>nomatch z) h
 | @ins a C dx fs ea cl ha hn NX hm=>cases (show u=Value.ref a from rx);obtain ⟨mA,O,_⟩:=DJ I.aT ea;obtain ⟨od,J,_⟩:=O.look;exact kz (PySem.W.kitx_own (cl.get _) cl.hd ha hn NX hm) I.fK J e (λz=>nomatch z) h
end
structure eP (k:Nat) (A:Around):Prop where
 hd:A.handled=none
 dp:A.depth+3*k+5<recursionLimit
 un:A.units+16*k+200<cLine
variable {k:Nat}
theorem eP.mono{j:Nat}(r:eP k A)(h:j<=k):eP j A:=⟨r.hd,by have:=r.dp;lia,by have:=r.un;lia⟩
theorem eP.deeper(r:eP (k+1) A)(env:Env):eP k (A.deeper env):=
 ⟨r.hd,by have:=r.dp;show A.depth+1+3*k+5<_;lia,by have:=r.un;show A.units+3+16*k+200<_;lia⟩
variable {kw:List (Str×Value)}
theorem VO:(A.under (.builtin "type.__call__" ⟨.ref C::us,kw⟩)).depth=A.depth+1:=by first | rfl | simp [Around.under,Code.weight,Code.isCreation,Code.isGuard,Code.isCaller,Code.frames,Code.isFrame,guardIds]
theorem VP:(A.under (.builtin "type.__call__" ⟨.ref C::us,kw⟩)).units=A.units+1:=by first | rfl | simp [Around.under,Code.cUnits,Code.frames,Code.isFrame]
theorem eP.make(r:eP (k+1) A)(C:Addr)(us:List Value)(kw:List (Str×Value)):eP k (A.under (.builtin "type.__call__" ⟨.ref C::us,kw⟩)):=
 ⟨r.hd,by have:=r.dp;rw [VO];lia,by have:=r.un;rw [VP];lia⟩
theorem eP.depth(r:eP k A):A.depth<recursionLimit:=by have:=r.dp;lia
theorem eP.units(r:eP k A):A.units+64<cLine:=by have:=r.un;lia
theorem eP.DK(r:eP k A):A.units<cLine:=by have:=r.un;lia
def wQ:TA:=λ_ H Q=>Q [] H
def mS(ta:TE)(tr:TA):TA:=λσ H Q=>ta σ H λx H1=>tr σ H1 λxs H2=>Q (x::xs) H2
section
variable {X:Cx} {e:Expr} {es:List Expr} {te:TE} {t:TA} {pos:Pos}
theorem af:PA X [] wQ:=λ_ _ _ _ H Q I h=>Calls.spliced_nil ⟨[],H,I,.nil,h⟩
theorem VQ(ha:PE X e te)(hr:PA X es t)(hs:starEach (e::es) X.env=(false,eval e X.env)::starEach es X.env:=by rfl):PA X (e::es) (mS te t):=by intro pos pins s σ H Q I h;rw [hs];show wpAny _ _ (spliced ((false,eval e X.env)::backTo pos (starEach es X.env))) _ _ s;refine Calls.spliced_cons (bh (ha pins s σ H _ I h) λu s1 ⟨x,H1,I1,r1,q1⟩=>?_);exact bh (hr pos pins s1 σ H1 _ I1 q1) λus s2 ⟨xs,H2,I2,r2,q2⟩=>⟨x::xs,H2,I2,.cons r1 r2,q2⟩
def NY(t:TA):TE:=λσ H Q=>t σ H λxs H1=>xs.length<=sizeLine/\∀p,H1 p=none->Q (.ref p) (upd H1 p (.tup xs))
def NZ(t:TA):TE:=λσ H Q=>t σ H λxs H1=>xs.length<=sizeLine/\∀p,H1 p=none->Q (.ref p) (upd H1 p (.lst xs))
theorem gw{x1}(h:PA X es t):PE X (.Tuple es x1 pos) (NY t):=by
 intro pins s σ H Q I hq;refine wpAny_Tuple_spliced (bh (h pos pins s σ H _ I hq) λus s1 ⟨xs,H1,I1,r,z,q⟩=>⟨by rw [<-r.length];exact z,?_⟩)
 have hf:H1 s1.heap.objs.size=none:=I1.aT.fresh (aP _);refine ⟨.ref s1.heap.objs.size,upd H1 s1.heap.objs.size (.tup xs),I1.laid (t':=s1.toks) (λb u e=>dZ _ e) (aP _) ?_,rfl,q _ hf⟩;exact (sw z us r ⟨_,iz _ rfl,rfl,_,rfl⟩)
theorem eY(h:PA X es t):PE X (.List es pos) (NZ t):=by
 intro pins s σ H Q I hq;refine wpAny_List_spliced (bh (h pos pins s σ H _ I hq) λus s1 ⟨xs,H1,I1,r,z,q⟩=>⟨by rw [<-r.length];exact z,?_⟩)
 have hf:H1 s1.heap.objs.size=none:=I1.aT.fresh (aP _);refine ⟨.ref s1.heap.objs.size,upd H1 s1.heap.objs.size (.lst xs),I1.laid (t':=s1.toks) (λb u e=>dZ _ e) (aP _) ?_,rfl,q _ hf⟩;exact ⟨z,us,0,r,iz _ rfl⟩
end
abbrev Sp:=List V->Hp->VK->XK->Prop
abbrev jJ:=List Env->Hp->Shared->XK->Value->Shared->Prop
structure sM (P:Program) (w:World) (K:aQ) (mg:eK) (base:Heap) (A:Around) (outer:List Env) (s:Shared) (H:Hp):Prop where
 frames:A.frames=some outer
 mod:Mod K mg base
 bs:∀b o,base.get? b=some o->s.heap.get? b=some o/\H b=none
 iX:base.objs.size<=s.heap.objs.size
 lV:s.heap.FunFrames base outer
 oZ:∀b∈dJ outer,H b=none
 aT:d6 P w H s.heap
 bare:AllBare s.gens
def CE(outer:List Env)(P:Program)(w:World)(H:Hp)(s:Shared)(Q:VK)(u:Value)(s':Shared):Prop:=
 ∃v H',s'.os=s.os/\AllBare s'.gens/\Un (dJ outer) [] H H' s.heap s'.heap/\d6 P w H' s'.heap/\RelV v u/\Q v H'
def CR(CX:jJ)(outer:List Env)(P:Program)(w:World)(H:Hp)(s:Shared)(Q:VK)(E:XK)(r:Result)(s':Shared):Prop:=
 match r with
 | .ok (.ret u)=>CE outer P w H s Q u s'
 | .ok _=>False
 | .error e=>CX outer H s E e s'
structure aO (P:Program) (w:World) (K:aQ) (mg:eK) (base:Heap) (CX:jJ) (k:Nat) (f:Addr) (fd:FuncData) (ps:List Str) (sp:Sp):Prop where
 len:∀vs H Q E,sp vs H Q E->vs.length=ps.length
 run:∀(A:Around) (outer:List Env) (s:Shared) (H:Hp) (args:Args) (us:List Value) (vs:List V) (Q:VK) (E:XK),eP k A->sM P w K mg base A outer s H->BindsTo s fd args (ps.zip us)->Vals vs us->sp vs H Q E->
  codeAny (model P w) A (.call (.ref f) args) (CR CX outer P w H s Q E) s
variable {mg:eK} {base:Heap} {outer:List Env}
theorem sM.make(e:sM P w K mg base A outer s H)(C:Addr)(us:List Value)(kw:List (Str×Value)) :
  sM P w K mg base (A.under (.builtin "type.__call__" ⟨.ref C::us,kw⟩)) outer s H:=⟨by first | exact e.frames | (simpa [Around.under,Code.envs,Code.isFrame,pushEnvs] using e.frames),e.mod,e.bs,e.iX,e.lV,e.oZ,e.aT,e.bare⟩
section
variable {X:Cx} {pins:cf} {σ:St} {H:Hp} {s s':Shared}
theorem Inv.N2(I:Inv X pins σ H s):sM X.prog X.w X.K X.mg X.base X.A X.stack s H:=
 ⟨I.ok.frames,I.ok.mod,I.bs,au I.ok.iX I.sz,I.stack,I.sD,I.aT,I.bare⟩
theorem Inv.after{Q:VK}(I:Inv X pins σ H s)(h:CE X.stack X.prog X.w H s Q u s'):EP X pins σ Q u s':=by intros am26 h v H' os bare un aT r q;obtain ⟨hh,g,d,t,VR⟩:=s';obtain rfl:VR=s.os:=os;exact ⟨v,H',I.call (h':=hh) (g':=g) (d':=d) (t':=t) (ch:=[]) un aT bare (λb z=>absurd z (by simp)),r,q⟩
end
def IA(sp:Sp)(gR:List V)(E:XK)(t:TA):TE:=λσ H Q=>t σ H λvs H1=>sp (vs++gR) H1 Q E
def VS(C:Addr)(m:Str)(sp:Sp)(gR:List V)(E:XK)(ta:TE)(t:TA):TE:=λσ H Q=>ta σ H λx H1=>∃a dx fs,x=.ref a/\H1 a=some (.ins C dx fs)/\fs.lookup m=none /\
 t σ H1 λvs H2=>sp (x::(vs++gR)) H2 Q E
def VT(C:Addr)(sp:Sp)(gR:List V)(E:XK)(t:TA):TE:=λσ H Q=>t σ H λvs H1=>∀x dx,H1 x=none->H1 dx=none->dx≠x->
 sp (.ref x::(vs++gR)) (upd (upd H1 dx (.own x)) x (.ins C dx [])) (λv H2=>v=.bg/\Q (.ref x) H2) E
def Binds(K:aQ)(fd:FuncData)(ps:List Str)(ds:List Value):Prop:=
 ∀(s:Shared) (us:List Value),K.In s.heap->(us++ds).length=ps.length->BindsTo s fd ⟨us,[]⟩ (ps.zip (us++ds))
variable {ps:List Str}
theorem Binds.all{fd:FuncData}(h:∀us:List Value,us.length=ps.length->bindArgs fd ⟨us,[]⟩=pure (ps.zip us)):Binds K fd ps []:=λs us _ hl=>by rw [List.append_nil] at hl ⊢;exact .of_eq (h us hl)
def Passes(CX:jJ)(X:Cx)(E:XK):Prop:=∀(pins:cf) (σ:St) (H:Hp) (s:Shared) (e:Value) (s':Shared),Inv X pins σ H s->CX X.stack H s E e s'->X.xe e s'
section
variable {X:Cx} {CX:jJ} {k:Nat} {f C:Addr} {fd:FuncData} {ps:List Str} {sp:Sp} {gR:List V} {ds:List Value} {E:XK} {x m:Str} {p pos apos:Pos} {e o:Expr} {es:List Expr} {ta:TE} {t:TA}
variable {pins:cf} {Q:VK}
theorem N3{vs:List V}(F:aO X.prog X.w X.K X.mg X.base CX k f fd ps sp)(hr:eP k X.A)(hb:Binds X.K fd ps ds)(hd:Vals gR ds)(hx:Passes CX X E)
  (I:Inv X pins σ H s) (r:Vals vs us) (h:sp (vs++gR) H Q E):wpAny (model X.prog X.w) X.A (call (.ref f) us) (EP X pins σ Q) X.xe s:=by
 have r2:Vals (vs++gR) (us++ds):=r.append hd;have hl:(us++ds).length=ps.length:=by rw [<-r2.length];exact F.len _ _ _ _ h
 refine wpAny_call (codeAny_mono (F.run X.A X.stack s H ⟨us,[]⟩ (us++ds) (vs++gR) Q E hr I.N2 (hb s us I.fK hl) r2 h) λr s' hq=>?_);cases r with
 | error e=>exact hx pins σ H s e s' I hq
 | ok fl=>
  cases fl with
  | ret u=>exact I.after hq
  | next=>exact False.elim hq
  | brk=>exact False.elim hq
  | cont=>exact False.elim hq
theorem VU(F:aO X.prog X.w X.K X.mg X.base CX k f fd ps sp)(hr:eP k X.A)(hg:Gl X x)(hm:X.mg x=some (.ref f))(hk:PySem.W.keepIn X.K (.ref f)=true)(hb:Binds X.K fd ps ds)(hd:Vals gR ds)(hx:Passes CX X E)
  (ha:PA X (e::es) t) (o_:(x == ("__debug__":Str))=false:=by decide) (he:starEach (e::es) X.env=(false,eval e X.env)::starEach es X.env:=by rfl) (l9:(backTo pos (starEach es X.env)).any (·.1)=false:=by rfl) :
  PE X (.Call (.Name x p) (e::es) [] pos) (IA sp gR E t):=by
 intro pins s σ H Q I h;refine C7 (Dz I hg hm ?_ o_);refine PySem.W.callWith_K (h₀:=X.base) I.ok.mod.ed hk (bh (ha pos pins s σ H _ I h) λus s1 ⟨vs,H1,I1,r,q⟩=>⟨I1.fK,?_⟩) he l9;exact N3 F hr hb hd hx I1 r q
theorem aw{j:Nat}(F:aO X.prog X.w X.K X.mg X.base CX k f fd ps sp)(hr:eP j X.A)(hm:X.mg x=some (.ref f))(hk:PySem.W.keepIn X.K (.ref f)=true)(hb:Binds X.K fd ps [])(hx:Passes CX X E)
  (ha:PA X (e::es) t) (hj:k<=j:=by decide) (hg:Gl X x:=by exact rfl) (o_:(x == ("__debug__":Str))=false:=by decide) (he:starEach (e::es) X.env=(false,eval e X.env)::starEach es X.env:=by rfl) (l9:(backTo pos (starEach es X.env)).any (·.1)=false:=by rfl) :
  PE X (.Call (.Name x p) (e::es) [] pos) (IA sp [] E t):=VU F (hr.mono hj) hg hm hk hb .nil hx ha o_ he l9
theorem ia{pl:Sem Bool}(he:PE X o ta)(c:mR X.K C)(hm:Meth X.K C m f)(F:aO X.prog X.w X.K X.mg X.base CX k f fd ps sp)(hr:eP k X.A)(hb:Binds X.K fd ps ds)(hd:Vals gR ds)(hx:Passes CX X E)(ha:PA X (e::es) t)
  (Il:starEach (e::es) X.env=(false,eval e X.env)::starEach es X.env:=by rfl) (l9:(backTo pos (starEach es X.env)).any (·.1)=false:=by rfl)
  (ht:eval (.Call (.Attribute o m apos) (e::es) [] pos) X.env=(do
   let ov <-eval o X.env
   standAt apos.atName
   let (f,first) <-holding [ov] (getMethod ov m pl)
   callWith pos f first (backTo pos (starEach (e::es) X.env)) (backToKw pos (keywordEach [] X.env))):=by rfl) :
  PE X (.Call (.Attribute o m apos) (e::es) [] pos) (VS C m sp gR E ta t):=by
 intro pins s σ H Q I h
 refine PySem.W.methodCall_KW (pl:=pl) (bh (he pins s σ H _ I h) λu s1 ⟨x,H1,I1,rx,a,dx,fs,ex,ea,l,q⟩=>?_) ht
 subst ex
 obtain rfl:u=Value.ref a:=rx
 refine NT I1 ea c hm l ?_
 refine PySem.W.callWith_K (first:=[.ref a]) (h₀:=X.base) I.ok.mod.ed hm.kp (bh (ha pos pins s1 σ H1 _ I1 q) λus s2 ⟨vs,H2,I2,r,q2⟩=>⟨I2.fK,?_⟩) Il l9
 exact N3 (us:=.ref a::us) (vs:=.ref a::vs) F hr hb hd hx I2 (.cons rfl r) q2
structure Mk (K:aQ) (C f:Addr):Prop where
 makes:PySem.W.makesIn K C=true
 init:PySem.W.findIn K (.ref C) "__init__"=some (some (.ref f))
 fn:PySem.W.isFn K (.ref f)=true
 kp:PySem.W.keepIn K (.ref C)=true
theorem VV{vs:List V}(M:Mk X.K C f)(F:aO X.prog X.w X.K X.mg X.base CX k f fd ps sp)(hr:eP (k+1) X.A)(hb:Binds X.K fd ps ds)(hd:Vals gR ds)
  (hx:Passes CX X E) (I:Inv X pins σ H s) (r:Vals vs us)
  (h:∀x dx,H x=none->H dx=none->dx≠x->sp (.ref x::(vs++gR)) (upd (upd H dx (.own x)) x (.ins C dx [])) (λv H2=>v=.bg/\Q (.ref x) H2) E) :
  wpAny (model X.prog X.w) X.A (call (.ref C) us) (EP X pins σ Q) X.xe s:=by
 have hq:=h (s.heap.objs.size+1) s.heap.objs.size (I.aT.fresh (lK _)) (I.aT.fresh (aP _)) (f9 (vY _));have I2:=Inv.made (C:=C) I;have r2:Vals (V.ref (s.heap.objs.size+1)::(vs++gR)) (Value.ref (s.heap.objs.size+1)::(us++ds)):=.cons rfl (r.append hd);have hl:(Value.ref (s.heap.objs.size+1)::us++ds).length=ps.length:=by have e:=r2.length;rw [F.len _ _ _ _ hq] at e;exact e.symm
 refine wpAny_call (VF (f:=f) I.fK M.makes M.init (nJ.mp M.fn) (codeAny_mono (F.run _ X.stack _ _ ⟨Value.ref (s.heap.objs.size+1)::us,[]⟩ (Value.ref (s.heap.objs.size+1)::(us++ds)) _ _ E (hr.make C us [])
  (I2.N2.make C us []) (hb _ (Value.ref (s.heap.objs.size+1)::us) I2.fK hl) r2 hq) λr s' pe=>?_))
 cases r with
 | error e=>exact hx pins σ _ _ e s' I2 pe
 | ok fl=>
  cases fl with
  | ret u=>obtain ⟨v,H',I3,rv,ev,q3⟩:=I2.after pe;subst ev;exact ⟨rv,(ce (V.ref (s.heap.objs.size+1)) H' I3 rfl q3)⟩
  | next=>exact False.elim pe
  | brk=>exact False.elim pe
  | cont=>exact False.elim pe
theorem N4(M:Mk X.K C f)(F:aO X.prog X.w X.K X.mg X.base CX k f fd ps sp)(hr:eP (k+1) X.A)(hg:Gl X x)(hm:X.mg x=some (.ref C))(hb:Binds X.K fd ps ds)(hd:Vals gR ds)(hx:Passes CX X E)
  (ha:PA X (e::es) t) (o_:(x == ("__debug__":Str))=false:=by decide) (he:starEach (e::es) X.env=(false,eval e X.env)::starEach es X.env:=by rfl) (l9:(backTo pos (starEach es X.env)).any (·.1)=false:=by rfl) :
  PE X (.Call (.Name x p) (e::es) [] pos) (VT C sp gR E t):=by
 intro pins s σ H Q I h;refine C7 (Dz I hg hm ?_ o_);refine PySem.W.callWith_K (h₀:=X.base) I.ok.mod.ed M.kp (bh (ha pos pins s σ H _ I h) λus s1 ⟨vs,H1,I1,r,q⟩=>⟨I1.fK,?_⟩) he l9;exact VV M F hr hb hd hx I1 r q
end
section
variable {X:Cx} {CX:jJ} {k:Nat} {f C:Addr} {fd:FuncData} {ps ks:List Str} {sp:Sp} {E:XK} {x m:Str} {p pos apos VW:Pos} {e o:Expr} {es:List Expr} {kws:List Keyword} {te ta:TE} {t tk:TA} {nm:Option Str}
variable {g:List Value->List Value->List Value} {gV:List V->List V->List V}
end
structure bw (N P:List Str) (sc:Scope):Prop where
 kind:sc.kind=.function
 co:sc.isCoroutine=false
 gen:sc.isGenerator=false
 nd:N.Nodup
 pre:N.take P.length=P
 par:∀x∈P,sc.names.lookup x=some .local\/sc.names.lookup x=some .cell
 VX:∀y∈sc.names,y.2≠.free
variable {N:List Str} {sc:Scope}
theorem bH{P:List Str}(h1:sc.kind=.function:=by rfl)(h2:sc.isCoroutine=false:=by rfl)(h3:sc.isGenerator=false:=by rfl)(h4:N.Nodup:=by decide +kernel)(h5:N.take P.length=P:=by rfl)(h6:∀x∈P,sc.names.lookup x=some .local\/sc.names.lookup x=some .cell:=by decide +kernel)(h7:∀y∈sc.names,y.2≠.free:=by decide +kernel):bw N P sc:=⟨h1,h2,h3,h4,h5,h6,h7⟩
theorem N5{kindOf:Str->Option NameKind}{x:Str}:∀{binds:List (Str×Value)} {m:eK},(∀v,(x,v)∉binds)->bindL kindOf binds m x=m x
 | [],_,_=>rfl
 | (n,v)::r,m,h=>by
  unfold bindL;rw [N5 λw hw=>h w (iQ _ hw)]
  split
  ·have:x≠n:=by rintro rfl;exact h v jx
   simp [this]
  ·rfl
theorem N6{kindOf:Str->Option NameKind}{x:Str}:∀{binds:List (Str×Value)} {m:eK},(∀v,(x,v)∉binds)->bindC kindOf binds m x=m x
 | [],_,_=>rfl
 | (n,v)::r,m,h=>by
  unfold bindC;rw [N6 λw hw=>h w (iQ _ hw)]
  split
  ·rfl
  ·have:x≠n:=by rintro rfl;exact h v jx
   simp [this]
theorem N7{kindOf:Str->Option NameKind}{x:Str}{v:Value}:∀{P:List Str} {vs:List Value} {i:Nat} {m:eK},P.Nodup->P[i]?=some x->vs[i]?=some v->kindOf x=some .local->
  bindL kindOf (P.zip vs) m x=some v
 | [],_,_,_,_,h,_,_=>by simp at h
 | _::_,[],_,_,_,_,h,_=>by simp at h
 | p::P,w::vs,0,m,nd,h1,h2,hk=>by simp at h1 h2;subst h1;subst h2;show bindL kindOf ((p,w)::P.zip vs) m p=_;unfold bindL;rw [N5 λv hv=>(C8.mp nd).1 (An hv).1,ao hk];simp
 | p::P,w::vs,i+1,m,nd,h1,h2,hk=>by show bindL kindOf ((p,w)::P.zip vs) m x=_;unfold bindL;exact N7 (i:=i) (C8.mp nd).2 (by simpa using h1) (by simpa using h2) hk
theorem N8{kindOf:Str->Option NameKind}{x:Str}{v:Value}:∀{P:List Str} {vs:List Value} {i:Nat} {m:eK},P.Nodup->P[i]?=some x->vs[i]?=some v->kindOf x≠some .local->
  bindC kindOf (P.zip vs) m x=some v
 | [],_,_,_,_,h,_,_=>by simp at h
 | _::_,[],_,_,_,_,h,_=>by simp at h
 | p::P,w::vs,0,m,nd,h1,h2,hk=>by simp at h1 h2;subst h1;subst h2;show bindC kindOf ((p,w)::P.zip vs) m p=_;unfold bindC;rw [N6 λv hv=>(C8.mp nd).1 (An hv).1,aq hk];simp
 | p::P,w::vs,i+1,m,nd,h1,h2,hk=>by show bindC kindOf ((p,w)::P.zip vs) m x=_;unfold bindC;exact N8 (i:=i) (C8.mp nd).2 (by simpa using h1) (by simpa using h2) hk
def start(N:List Str)(vs:List V):St:=vs.map some++List.replicate (N.length-vs.length) none
def kO(CX:jJ)(P:Program)(w:World)(K:aQ)(mg:eK)(base:Heap)(N:List Str)(qual:Str)(scope:Scope)(f:Addr)(cd:Value)(A:Around)(outer:List Env)(s:Shared)(H:Hp)(E:XK):Cx where
 prog:=P
 w:=w
 K:=K
 mg:=mg
 base:=base
 A:=A.deeper (envOfC qual scope s.heap.objs.size f cd)
 N:=N
 s₀:=s
 H₀:=H
 env:=envOfC qual scope s.heap.objs.size f cd
 outer:=outer
 stack:=envOfC qual scope s.heap.objs.size f cd::outer
 ex:=[]
 calm:=true
 fn:=λ_=>true
 pn:=[]
 xe:=λe s'=>wpAny (model P w) (A.deeper (envOfC qual scope s.heap.objs.size f cd)) (leaving (envOfC qual scope s.heap.objs.size f cd) e) (λ_ kP=>CX outer H s E e kP) (λe' kP=>CX outer H s E e' kP) s'
theorem N9{x:Str}(h:sc.names.lookup x=some .cell):∃c,(cellsFrom n sc.names []).lookup x=some c:=by have q:=PySem.W.cellsFrom_some sc.names n [] (.inl h);exact HQ.mp q
variable {CX:jJ} {qual:Str} {scope:Scope}
theorem VY{f:Addr}{cd:Value}{s1:Shared}{E:XK}{vs:List V}
  (S:bw N ps scope) (hd:A.handled=none) (e0:sM P w K mg base A outer s H) (hl:vs.length=ps.length) (r:Vals vs us)
  (x:InCallC s s.heap.objs.size (bindL (envOfC qual scope s.heap.objs.size f cd).kindOf (ps.zip us) λ_=>none) (cellsFrom (s.heap.objs.size+1) scope.names []) (bindC (envOfC qual scope s.heap.objs.size f cd).kindOf (ps.zip us) λ_=>none) s1) :
  Inv (kO CX P w K mg base N qual scope f cd A outer s H E) [] (start N vs) H s1:=by
 have l9:ps.length<=N.length:=by have:=eW List.length S.pre;rw [List.length_take] at this;lia
 obtain ⟨h1,tk,rfl,hk⟩:=x.done;have AX:∀b:Addr,b∉(kO CX P w K mg base N qual scope f cd A outer s H E).ex:=λb z=>absurd (show b∈([]:List Addr) from z) (by simp)
 refine ⟨⟨e0.mod,S.kind,rfl,rfl,aP _,λy z c h1 h2=>?_,λy hy=>?_,λy c _ h=>?_,λ_=>hd,Around.frames_deeper e0.frames,.inr ⟨rfl,rfl⟩,λb z=>absurd z (AX b),e0.bs,e0.iX,λb _ _=>AX b,λb z=>absurd z (AX b),e0.lV,e0.oZ⟩,
  rfl,e0.bare,Un.kept hk,(ad _ x.toInCall.ns (λi y v h1 h2 h3=>?_)),λy c h=>⟨_,x.cell y c h⟩,e0.aT.fresh (aP _),λy c h=>?_,λp hp=>absurd (show p∈([]:cf) from hp) (by simp),e0.aT.kept hk,?_⟩
 ·exact name_of_addr x.apart (lM h1) (lM h2)
 ·have hy:scope.names.lookup y=some .cell\/scope.names.lookup y=some .free:=hy
  rcases hy with hy | hy;·exact N9 hy
  ·exact absurd rfl (S.VX _ (lM hy))
 ·exact Nat.le_of_lt (x.above y c (lM h))
 ·have hi:i<vs.length:=by
   unfold start at h2;by_cases hi:i<vs.length;·exact hi
   ·rw [iA (by simpa using hi)] at h2
    rw [List.getElem?_replicate] at h2
    split at h2 <;> cases h2
  have ha:vs[i]?=some v:=by
   unfold start at h2;rw [gL (by simpa using hi),bu] at h2
   cases e:vs[i]? with
   | none=>rw [e] at h2;cases h2
   | some a=>rw [e] at h2;cases h2;rfl
  obtain ⟨u,hu,rv⟩:=r.get ha;have hp:ps[i]?=some y:=by rw [<-S.pre,List.getElem?_take_of_lt ⋯];exact h1
  have N_:ps.Nodup:=by rw [<-S.pre];exact S.nd.sublist (List.take_sublist _ _)
  refine (ad u rv ?_);rcases S.par y (jA hp) with k | k;·exact .inl ⟨k,N7 N_ hp hu k⟩
  ·obtain ⟨c,e⟩:=N9 (n:=s.heap.objs.size+1) k
   refine .inr (sw (.inl k) c e ?_);have q:=x.cell y c e;rw [N8 N_ hp hu (by show scope.names.lookup y≠_;rw [k];decide)] at q
   exact q
 ·exact e0.aT.fresh (Nat.le_of_lt (x.above y c (lM h)))
 ·unfold start
  show _=N.length;rw [kA,aV,List.length_replicate];lia
theorem IC{f:Addr}{name:Str}{params:Arguments}{body:List Stmt}{dV kV doc pm bN ct oc:Value}{an od:Option Addr}
  {ib:Array (Option Value)} {sp:Sp} (lk:K.lookup f=some ⟨oc,od,.func (PySem.W.fnOf name qual params body scope dV kV doc pm an bN ct),ib⟩) (hJ:PySem.W.codeIn K bN qual=true) (S:bw N ps scope)
  (len:∀vs H Q E,sp vs H Q E->vs.length=ps.length)
  (mT:∀(A:Around) (outer:List Env) (s:Shared) (H:Hp) (vs:List V) (Q:VK) (E:XK),eP k (A.deeper (envOfC qual scope s.heap.objs.size f bN))->sp vs H Q E->
   ∃t,gO (kO CX P w K mg base N qual scope f bN A outer s H E) body t/\t {nx:=λ_ H'=>Q .bg H',rt:=Q} (start N vs) H) :
  aO P w K mg base CX (k+1) f (PySem.W.fnOf name qual params body scope dV kV doc pm an bN ct) ps sp:=by
 refine ⟨len,λA outer s H args us vs Q E hr e0 hb r l_=>?_⟩;have hl:=len _ _ _ _ l_;have KX:K.In s.heap:=e0.mod.ed.keeps λb o e=>(e0.bs b o e).1;have lim:s.heap.NoLimit:=e0.mod.nolimit.keeps λb o e=>(e0.bs b o e).1;have VZ:∀y∈ps.zip us,scope.names.lookup y.1=some .local\/(scope.names.lookup y.1=some .cell/\((cellsFrom (s.heap.objs.size+1) scope.names []).lookup y.1).isSome=true):=fun⟨n,v⟩ hy=>by
  rcases S.par n (An hy).1 with q | q;·exact .inl q
  ·exact .inr ⟨q,PySem.W.cellsFrom_some _ _ _ (.inl q)⟩
 refine codeAny_call_function hr.depth (KX _ _ lk) rfl S.co S.gen rfl (PySem.W.codeRec_of KX hJ) (hb _ _ _ _ ?_);refine wpAny_newFunctionEnv_cells S.kind VZ λenv he s1 x=>?_;subst he;refine ⟨lim.keeps x.toInCall.keep,codeAny_func ?_⟩;obtain ⟨t,ht,hq⟩:=mT A outer s H vs Q E (hr.deeper _) l_;have I:Inv (kO CX P w K mg base N qual scope f bN A outer s H E) [] (start N vs) H s1:=VY S hr.hd e0 hl r x;refine cQ (ht [] s1 (start N vs) H _ I hq) (λfl s' hs=>?_) λe s' hs=>hs;have fin:∀{σ':St} {H':Hp} {v:V} {u:Value},Inv (kO CX P w K mg base N qual scope f bN A outer s H E) [] σ' H' s'->RelV v u->Q v H'->CE outer P w H s Q u s':=
  fun{σ' H' v u} J rv q=>⟨v,H',J.os,J.bare,J.base,J.aT,rv,q⟩
 cases fl with
 | ret u=>intros am18 hs v σ' H' J rv q;exact fin J rv q
 | next=>intros am6 hs σ' H' J q;exact fin (v:=V.bg) (u:=Value.none) J rfl q
 | brk=>intros am6 hs _ _ _ q;exact False.elim q
 | cont=>intros am6 hs _ _ _ q;exact False.elim q
section
variable {X:Cx} {x:Str} {p pos:Pos} {e:Expr} {es:List Expr} {t:TA} {id T:String} {r:List V->Hp->VK->Prop}
def AY(r:List V->Hp->VK->Prop)(t:TA):TE:=λσ H Q=>t σ H λvs H1=>r vs H1 Q
theorem aZ(hc:jH X (.builtin id) r)(hg:Gl X x)(hm:X.mg x=none)(hv:bootBuiltins x=some (.builtin id))(ha:PA X (e::es) t)(hn:x ≠ "__name__":=by decide)(o_:(x == ("__debug__":Str))=false:=by decide)
  (he:starEach (e::es) X.env=(false,eval e X.env)::starEach es X.env:=by rfl) (l9:(backTo pos (starEach es X.env)).any (·.1)=false:=by rfl):PE X (.Call (.Name x p) (e::es) [] pos) (AY r t):=by
 intro pins s σ H Q I h;refine C7 (wD I hg hm hv ?_ hn o_);exact PyProof.Rows.callWith_builtin1 (bh (ha pos pins s σ H _ I h) λus s1 ⟨vs,H1,I1,r1,q1⟩=>hc pins s1 σ H1 vs us Q I1 r1 q1) he l9
theorem mU(hc:jH X (.type T) r)(hg:Gl X x)(hm:X.mg x=none)(hv:bootBuiltins x=some (.type T))(ha:PA X (e::es) t)(hn:x ≠ "__name__":=by decide)(o_:(x == ("__debug__":Str))=false:=by decide)
  (he:starEach (e::es) X.env=(false,eval e X.env)::starEach es X.env:=by rfl) (l9:(backTo pos (starEach es X.env)).any (·.1)=false:=by rfl):PE X (.Call (.Name x p) (e::es) [] pos) (AY r t):=by
 intro pins s σ H Q I h;refine C7 (wD I hg hm hv ?_ hn o_);exact C5 (bh (ha pos pins s σ H _ I h) λus s1 ⟨vs,H1,I1,r1,q1⟩=>hc pins s1 σ H1 vs us Q I1 r1 q1) he l9
end
end L2
namespace HT
open PySem PyProof.Rows
section
open PySem.SeqAt
open PySem.AutoSeq1 (wpAny_loadPart')
open PySem.MeetsSeq PySem.MeetsSeq2 PySem.MeetsSeq3
end
section
variable {prog:Program} {w:World} {A:Around} {E:cX} {s:Shared}
def ic(n d:Nat):Option Int->Nat
 | none=>d
 | some v=>if v<0 then (v+(n:Int)).toNat else min v.toNat n
theorem V0(n d:Nat):ic n d none=d:=rfl
theorem Oa(n d k:Nat):ic n d (some (k:Int))=min k n:=by
 show (if (k:Int)<0 then ((k:Int)+(n:Int)).toNat else min (k:Int).toNat n)=min k n
 rw [aq ⋯,dr]
end
end HT
namespace L2
open PySem PySem.Spec PyProof.Rows
abbrev TO:=St->Hp->(Option Int->Hp->Prop)->Prop
def PO(X:Cx)(e:Option Expr)(t:TO):Prop:=
 ∀(pins:cf) (s:Shared) (σ:St) (H:Hp) (Q:Option Int->Hp->Prop),Inv X pins σ H s->t σ H Q->
  wpAny (model X.prog X.w) X.A (evalPart e X.env) (λu s'=>∃o H',Inv X pins σ H' s'/\IsPart u o/\Q o H') X.xe s
def V1:TO:=λ_ H Q=>Q none H
def V2(t:TE):TO:=λσ H Q=>t σ H λx H1=>∃i,x=.int i/\Q (some i) H1
section
variable {X:Cx} {e:Expr} {te:TE} {lo hi:Option Expr} {tl th:TO} {pos p2:Pos}
theorem DL:PO X none V1:=by intro pins s σ H Q I h;rw [evalPart_none];exact fN ⟨none,H,I,.none,h⟩
theorem DM(h:PE X e te):PO X (some e) (V2 te):=by intro pins s σ H Q I hw;rw [evalPart_some];refine bh (h pins s σ H _ I hw) λu s1 ⟨x,H1,I1,r1,q1⟩=>?_;obtain ⟨i,rfl,q⟩:=q1;obtain ⟨t,rfl⟩:=r1;exact ⟨some i,H1,I1,.int i t,q⟩
def ID(X:Cx)(r:V->Option Int->Option Int->Hp->VK->Prop):Prop:=
 ∀(pins:cf) (s:Shared) (σ:St) (H:Hp) (x:V) (v vl vu:Value) (lo hi:Option Int) (sl:Addr) (Q:VK),Inv X pins σ H s->RelV x v->s.heap.IsSliceOf sl vl vu .none->IsPart vl lo->IsPart vu hi->r x lo hi H Q->
  ∃T id,typeLookup (.type T) "__getitem__"=pure (some (.builtin id))/\s.TypeIs v T/\wpAny (model X.prog X.w) X.A (getItem v (.ref sl)) (EP X pins σ Q) X.xe s
def V3(r:V->Option Int->Option Int->Hp->VK->Prop)(te:TE)(tl th:TO):TE:=λσ H Q=>te σ H λx H1=>tl σ H1 λl H2=>th σ H2 λu H3=>r x l u H3 Q
theorem DN{r:V->Option Int->Option Int->Hp->VK->Prop}(hr:ID X r)(he:PE X e te)(hl:PO X lo tl)(hu:PO X hi th):PE X (.Subscript e (.Slice lo hi none p2) pos) (V3 r te tl th):=by intro pins s σ H Q I h;refine Subscript_ (bh (he pins s σ H _ I h) λv s1 ⟨x,H1,I1,r1,q1⟩=>?_);refine wpAny_Slice (bh (hl pins s1 σ H1 _ I1 q1) λvl s2 ⟨l,H2,I2,pl,q2⟩=>bh (hu pins s2 σ H2 _ I2 q2) λvu s3 ⟨u,H3,I3,pu,q3⟩=>?_);rw [evalPart_none];refine fN ?_;have I4:Inv X pins σ H3 {s3 with heap:=s3.heap.push {cls:=.type "slice",data:=.fields #[vl,vu,.none]}}:=I3.kept (t':=s3.toks) λb ob q=>dZ _ q;obtain ⟨T,id,hT,ht,hg⟩:=hr pins {s3 with heap:=s3.heap.push {cls:=.type "slice",data:=.fields #[vl,vu,.none]}} σ H3 x v vl vu l u s3.heap.objs.size Q I4 r1 (Heap.IsSliceOf.new ..) pl pu q3;show wpAny (model X.prog X.w) X.A (subscriptTail e (.Slice lo hi none p2) v (.ref s3.heap.objs.size)) (EP X pins σ Q) X.xe {s3 with heap:=s3.heap.push {cls:=.type "slice",data:=.fields #[vl,vu,.none]}};exact tail_any (ops:=[.ref s3.heap.objs.size,v]) ht hT hg (by with_unfolding_all rfl)
def kR(xs:List V)(lo hi:Option Int):List V:=(xs.drop (HT.ic xs.length 0 lo)).take (HT.ic xs.length xs.length hi-HT.ic xs.length 0 lo)
theorem V4(xs:List V)(lo hi:Option Int):(kR xs lo hi).length<=xs.length:=by unfold kR;rw [List.length_take,r_];lia
end
def ie(n:Nat)(i:Int):Option Nat:=if 0<=i then (if i<n then some i.toNat else none) else if -(n:Int)<=i then some (i+n).toNat else none
def dF{α:Type}(xs:List α)(i:Int):Option α:=(ie xs.length i).bind λj=>xs[j]?
variable {i:Int} {j:Nat}
theorem Ob{n:Nat}(h:ie n i=some j):seqIndex? i n=some j/\j<n/\-(n:Int)<=i/\i<n:=by
 unfold ie at h;by_cases h0:0<=i
 ·rw [ao h0] at h
  by_cases h1:i<n
  ·rw [ao h1] at h
   have e:i.toNat=j:=Option.some.inj h;exact ⟨by rw [seqIndex_of h0 h1,e],⋯,⋯,h1⟩
  ·rw [aq h1] at h;cases h
 ·rw [aq h0] at h
  by_cases h1:-(n:Int)<=i
  ·rw [ao h1] at h
   have e:(i+n).toNat=j:=Option.some.inj h;exact ⟨by rw [seqIndex_neg ⋯ h1,e],⋯,h1,⋯⟩
  ·rw [aq h1] at h;cases h
theorem Oc{α:Type}{xs:List α}{v:α}(h:dF xs i=some v):∃j,seqIndex? i xs.length=some j/\xs[j]?=some v/\j<xs.length/\-(xs.length:Int)<=i/\i<xs.length:=by
 unfold dF at h;cases e:ie xs.length i with
 | none=>rw [e] at h;cases h
 | some j=>rw [e] at h;obtain ⟨h1,h2,h3,h4⟩:=Ob e;exact ⟨j,h1,h,h2,h3,h4⟩
theorem cK{α:Type}{xs:List α}{v:α}(h:xs[j]?=some v):dF xs (j:Int)=some v:=by
 have hj:j<xs.length:=(aL.mp h).1;have e:ie xs.length (j:Int)=some j:=by unfold ie;rw [ao ⋯,ao ⋯];simp
 unfold dF;rw [e];exact h
def Od(b:Expr):Prop:=∀o i,subscripted b false o i=operate [o,i] (getItem o i)
def wR(X:Cx)(r:R2):Prop:=
 ∀(value slice:Expr) (pins:cf) (s:Shared) (σ:St) (H:Hp) (x y:V) (v u:Value) (Q:VK),Inv X pins σ H s->RelV x v->RelV y u->r x y H Q->
  subscripted slice false v u=operate [v,u] (getItem v u)->wpAny (model X.prog X.w) X.A (subscriptTail value slice v u) (EP X pins σ Q) X.xe s
def IE(X:Cx)(id:String)(r:V->List V->Hp->VK->Prop):Prop:=
 ∀(pins:cf) (s:Shared) (σ:St) (H:Hp) (x:V) (xs:List V) (v:Value) (us:List Value) (Q:VK),Inv X pins σ H s->RelV x v->Vals xs us->r x xs H Q->
  wpAny (model X.prog X.w) X.A (call (.builtin id) (v::us)) (EP X pins σ Q) X.xe s
section
variable {X:Cx} {a b:Expr} {ta tb:TE} {pos:Pos}
variable {r:R2}
theorem V5(hr:wR X r)(ha:PE X a ta)(hb:PE X b tb)(hs:Od b):PE X (.Subscript a b pos) (l6 r ta tb):=by intro pins s σ H Q I h;exact Subscript_ (Ir ha hb I h λv u s2 x y H2 I2 rx ry q=>hr a b pins s2 σ H2 x y v u Q I2 rx ry q (hs _ _))
theorem aA{b:Expr}(hr:wR X r)(ha:PE X a ta)(hb:PE X b tb)(hs:Od b:=by exact λ_ _=>rfl):PE X (.Subscript a b pos) (l6 r ta tb):=V5 hr ha hb hs
def IF(K:aQ):R2:=λx y H Q=>∃p xs i v,x=.ref p/\y=.int i/\cG K H p xs/\dF xs i=some v/\Q v H
def Oe(K:aQ):R2:=λx y H Q=>∃p xs i v,x=.ref p/\y=.int i/\h_ K H p xs/\dF xs i=some v/\Q v H
theorem dh:wR X (IF X.K):=by
 intro value slice pins s σ H x y v u Q I rx ry h hs;intros am24 h p xs i z rfl rfl hq amA he q;cases rx;obtain ⟨t,rfl⟩:=ry;obtain ⟨av,r,pl,hz⟩:=I.list hq;obtain ⟨j,h1,h2,h3,h4,h5⟩:=Oc he;obtain ⟨w,ew,sG⟩:=r.get h2;have hl:=r.length;have hn:=AW;have fin:EP X pins σ Q w s:=(ce z H I sG q);by_cases h0:0<=i
 ·have hj:i.toNat=j:=by rw [seqIndex_of h0 h5] at h1;exact Option.some.inj h1
  exact item_listR pl.isList h0 ⋯ (by rw [hj];simpa using ew) fin hs
 ·have hj:(i+(av.toArray.size:Int)).toNat=j:=by
   rw [seqIndex_neg ⋯ h4] at h1
   rw [fh,<-hl];exact Option.some.inj h1
  exact subscriptTail_builtinR (x:=w) pl.isList.typeIs slot_list_getitem.lookup
   (wpAny_getItem_list_neg (Q:=λr s'=>r=w/\EP X pins σ Q r s') pl.isList ⋯ (by rw [fh] <;> lia) ⋯ (by rw [hj];simpa using ew) ⟨rfl,fin⟩) hs
theorem bE:wR X (Oe X.K):=by
 intro value slice pins s σ H x y v u Q I rx ry h hs;intros am24 h p xs i z rfl rfl hq amA he q;cases rx;obtain ⟨t,rfl⟩:=ry;obtain ⟨av,r,pl,hz⟩:=I.tuple hq;obtain ⟨j,h1,h2,h3,h4,h5⟩:=Oc he;obtain ⟨w,ew,sG⟩:=r.get h2;have hl:=r.length;have hn:=AW;have fin:EP X pins σ Q w s:=(ce z H I sG q)
 exact subscriptTail_builtinR (x:=w) pl.typeIs slot_tuple_getitem.lookup
  (getItem_tuple (j:=j) (Q:=λr s'=>r=w/\EP X pins σ Q r s') pl ⋯ ⋯ (by rw [fh,<-hl];exact h1) (by simpa using ew) ⟨rfl,fin⟩) hs
theorem V6(av:List Value)(n j:Nat)(u:Value):Obj.mapSeq (·.setIfInBounds j u) {cls:=.type "list",data:=.seq av.toArray n}={cls:=.type "list",data:=.seq (av.set j u).toArray n}:=by simp [Obj.mapSeq]
theorem Inv.lst{pins:cf}{σ:St}{H:Hp}{s:Shared}{p:Addr}{xs:List V}(I:Inv X pins σ H s)(h:H p=some (.lst xs)) :
  ∃(av:List Value) (n:Nat),Vals xs av/\s.heap.get? p=some {cls:=.type "list",data:=.seq av.toArray n}/\xs.length<=sizeLine:=by
 obtain ⟨z,av,n,r,e⟩:=I.aT p _ h;exact (ce av n r e z)
variable {pins:cf} {σ:St} {H:Hp} {s:Shared}
theorem Inv.V7{p:Addr}{xs ys:List V}{av its':List Value}{n n':Nat}{f:Obj->Obj}(I:Inv X pins σ H s)(h:H p=some (.lst xs))
  (ho:s.heap.get? p=some {cls:=.type "list",data:=.seq av.toArray n}) (hf:f {cls:=.type "list",data:=.seq av.toArray n}={cls:=.type "list",data:=.seq its'.toArray n'}) (r:Vals ys its') (hz:ys.length<=sizeLine) (t:Nat) :
  Inv X pins σ (upd H p (.lst ys)) {s with heap:=s.heap.update p f,toks:=t}:=by
 have e:(s.heap.update p f).get? p=some {cls:=.type "list",data:=.seq its'.toArray n'}:=by rw [Heap.get?_update_self f ho (by rw [hf] <;> rfl),hf]
 refine I.write (x:=p) (e:=p) (by rw [h];trivial) (.inl rfl) (λb u hb q=>(Heap.get?_update_other _ _ (Ne.symm hb)).trans q) ⟨_,e⟩ ?_
 exact ⟨hz,its',n',r,e⟩
def V8:V->V->V->Hp->(Hp->Prop)->Prop:=λo i v H Q=>∃p xs k j,o=.ref p/\i=.int k/\H p=some (.lst xs)/\ie xs.length k=some j/\Q (upd H p (.lst (xs.set j v)))
theorem set_list:Nw X V8:=by
 intro pins s σ H o i v ov iv u Q I ro ri rv h;intros am24 h p xs k j rfl rfl hp amA hj q;cases ro;obtain ⟨t,rfl⟩:=ri;obtain ⟨av,n,r,ho,hz⟩:=I.lst hp;obtain ⟨h1,h2,h3,h4⟩:=Ob hj;have hl:=r.length;have hn:=AW;have I':Inv X pins σ (upd H p (.lst (xs.set j v))) {s with heap:=s.heap.update p (Obj.mapSeq (·.setIfInBounds j u))}:=
  I.V7 hp ho (V6 av n j u) (r.set rv j) (by rw [iB];exact hz) s.toks
 by_cases h0:0<=k
 ·have hk:k.toNat=j:=by rw [seqIndex_of h0 h4] at h1;exact Option.some.inj h1
  exact PySem.W.ki_setAt ho h0 ⋯ (by rw [fh,<-hl];exact h4) (by rw [hk];exact (ad _ I' q))
 ·have hk:(k+(av.toArray.size:Int)).toNat=j:=by
   rw [seqIndex_neg ⋯ h3] at h1
   rw [fh,<-hl];exact Option.some.inj h1
  exact PySem.W.ki_setBack ho ⋯ (by rw [fh,<-hl];exact h3) ⋯ (by rw [hk];exact (ad _ I' q))
theorem V9(lo hi:Option Int)(n:Nat):(sliceBounds lo hi none n).1=((HT.ic n 0 lo:Nat):Int)/\(sliceBounds lo hi none n).2.1=((HT.ic n n hi:Nat):Int)/\(sliceBounds lo hi none n).2.2=1:=by
 refine ⟨?_,?_,rfl⟩
 ·cases lo with
  | none=>simp [sliceBounds,HT.ic]
  | some i=>
   simp only [sliceBounds,HT.ic,Option.getD_none,show (1:Int)>0 by decide,if_true]
   by_cases h:i<0;·simp only [h,if_true] <;> lia
   ·simp only [h,if_false] <;> lia
 ·cases hi with
  | none=>simp [sliceBounds,HT.ic]
  | some i=>
   simp only [sliceBounds,HT.ic,Option.getD_none,show (1:Int)>0 by decide,if_true]
   by_cases h:i<0;·simp only [h,if_true] <;> lia
   ·simp only [h,if_false] <;> lia
theorem V_(av:List Value)(lo hi:Option Int):slicePick av.toArray lo hi none=((av.drop (HT.ic av.length 0 lo)).take (HT.ic av.length av.length hi-HT.ic av.length 0 lo)).toArray:=by obtain ⟨h1,h2,h3⟩:=V9 lo hi av.toArray.size;unfold slicePick;rw [h1,h2,h3];simp only [sliceRange_one,pick_run,fh] <;> rfl
def Of(K:aQ):V->Option Int->Option Int->Hp->VK->Prop:=λx lo hi H Q=>∃a xs,x=.ref a/\cG K H a xs/\∀p,H p=none->Q (.ref p) (upd H p (.lst (kR xs lo hi)))
theorem IG:ID X (Of X.K):=by
 intro pins s σ H x v vl vu lo hi sl Q I rx hs pl pu h;intros am13 h a xs rfl hx q;cases rx;obtain ⟨av,r,ht,hz⟩:=I.list hx;have hlen:=r.length;refine (ce ("list") _ slot_list_getitem.lookup ht.isList.typeIs ?_);refine wpAny_getItem_list_slice ht.isList hs pl pu .none (by simp) ?_ (by rw [fh] <;> lia)
 rw [V_,<-hlen];refine ⟨.ref s.heap.objs.size,_,I.laid (t':=s.toks) (o:=.lst (kR xs lo hi)) (λb ob q=>dZ _ q) (aP _) ?_,rfl,q _ (I.aT.fresh (aP _))⟩;exact ⟨au (V4 xs lo hi) hz,_,0,(r.drop (HT.ic xs.length 0 lo)).take (HT.ic xs.length xs.length hi-HT.ic xs.length 0 lo),iz _ rfl⟩
def iY:V->Bool
 | .bg=>true
 | .bl _=>true
 | .int _=>true
 | .str _=>true
 | _=>false
def iG:V->V->Bool
 | .bg,.bg=>true
 | .bl a,.bl b=>a == b
 | .bl a,.int b=>(if a then 1 else 0) == b
 | .int a,.bl b=>a == (if b then 1 else 0)
 | .int a,.int b=>a == b
 | .str a,.str b=>a == b
 | _,_=>false
variable {y x:V} {u v:Value}
theorem AZ{A:Around}(ry:RelV y u)(rx:RelV x v)(fy:iY y=true)(fx:iY x=true):SeqAt.EqAt A s u v (iG y x):=by
 cases y with
 | bg=>
  cases ry;cases x with
  | bg=>cases rx;exact SeqAt.EqAt.same _
  | bl b=>cases rx;exact SeqAt.EqAt.none_bool b
  | int b=>obtain ⟨t,rfl⟩:=rx;exact SeqAt.EqAt.none_int b t
  | str b=>obtain ⟨t,rfl⟩:=rx;exact SeqAt.EqAt.none_str b t
  | _=>exact absurd (show false=true from fx) d3
 | bl a=>
  cases ry;cases x with
  | bg=>cases rx;exact SeqAt.EqAt.bool_none a
  | bl b=>cases rx;exact SeqAt.EqAt.bool_bool a b
  | int b=>obtain ⟨t,rfl⟩:=rx;exact SeqAt.EqAt.bool_int a b t
  | str b=>obtain ⟨t,rfl⟩:=rx;exact SeqAt.EqAt.bool_str a b t
  | _=>exact absurd (show false=true from fx) d3
 | int a=>
  obtain ⟨t',rfl⟩:=ry;cases x with
  | bg=>cases rx;exact SeqAt.EqAt.int_none a t'
  | bl b=>cases rx;exact SeqAt.EqAt.int_bool a t' b
  | int b=>obtain ⟨t,rfl⟩:=rx;exact SeqAt.EqAt.int_int a t' b t
  | str b=>obtain ⟨t,rfl⟩:=rx;exact SeqAt.EqAt.int_str a t' b t
  | _=>exact absurd (show false=true from fx) d3
 | str a=>
  obtain ⟨t',rfl⟩:=ry;cases x with
  | bg=>cases rx;exact SeqAt.EqAt.str_none a t'
  | bl b=>cases rx;exact SeqAt.EqAt.str_bool a t' b
  | int b=>obtain ⟨t,rfl⟩:=rx;exact SeqAt.EqAt.str_int a t' b t
  | str b=>obtain ⟨t,rfl⟩:=rx;exact SeqAt.EqAt.str_str a t' b t
  | _=>exact absurd (show false=true from fx) d3
 | _=>exact absurd (show false=true from fy) d3
def jK(x:V)(u:Value):Bool:=match u with
 | .none=>iG .bg x
 | .bool b=>iG (.bl b) x
 | .int i _=>iG (.int i) x
 | .str z _=>iG (.str z) x
 | _=>false
theorem Og(r:RelV y u)(f:iY y=true):jK x u=iG y x:=by
 cases y with
 | bg=>cases r;rfl
 | bl b=>cases r;rfl
 | int i=>obtain ⟨t,rfl⟩:=r;rfl
 | str z=>obtain ⟨t,rfl⟩:=r;rfl
 | _=>exact absurd (show false=true from f) d3
theorem A3{x:V}:∀{xs:List V} {us:List Value},Vals xs us->xs.all iY=true->us.any (jK x)=xs.any λy=>iG y x
 | _,_,.nil,_=>rfl
 | y::xs,u::us,.cons r t,f=>by rw [vZ,v_] at f;rw [List.any_cons,List.any_cons,Og r f.1,A3 t f.2]
theorem A6{A:Around}{s:Shared}{x:V}{v:Value}(rx:RelV x v)(fx:iY x=true):∀{xs:List V} {us:List Value},Vals xs us->xs.all iY=true->∀u∈us,SeqAt.EqAt A s u v (jK x u)
 | _,_,.nil,_=>λu hu=>by cases hu
 | y::xs,u::us,.cons r t,f=>λu' hu=>by
  rw [vZ,v_] at f;rcases fM.mp hu with rfl | hu;·rw [Og r f.1];exact AZ r rx f.1 fx
  ·exact A6 rx fx t f.2 u' hu
def A7(x:V)(xs:List V):Bool:=xs.any λy=>iG y x
def IH(K:aQ)(neg:Bool):R2:=λx y H Q=>∃p xs,y=.ref p/\(cG K H p xs\/h_ K H p xs)/\iY x=true/\xs.all iY=true/\Q (.bl (if neg then !A7 x xs else A7 x xs)) H
theorem Wa:cT X (compareOp .In) (IH X.K false):=by
 intro pins s σ H x y v u Q I rx ry h;intros amE h p am14 xs rfl hq fx fs q;cases ry;rcases hq with hq | hq
 ·obtain ⟨av,r,pl,hz⟩:=I.list hq
  refine SeqAt.in_listAt (jK x) pl.isList (λw hw=>A6 rx fx r fs w (by simpa using hw)) (ce (.bl _) H I rfl ?_)
  rw [show av.toArray.any (jK x)=av.any (jK x) by simp,A3 r fs]
  exact q
 ·obtain ⟨av,r,pl,hz⟩:=I.tuple hq
  refine SeqAt.in_tupleAt (jK x) pl (λw hw=>A6 rx fx r fs w (by simpa using hw)) (ce (.bl _) H I rfl ?_)
  rw [show av.toArray.any (jK x)=av.any (jK x) by simp,A3 r fs]
  exact q
theorem Oh:cT X (compareOp .NotIn) (IH X.K true):=by
 intro pins s σ H x y v u Q I rx ry h;intros amE h p am14 xs rfl hq fx fs q;cases ry;rcases hq with hq | hq
 ·obtain ⟨av,r,pl,hz⟩:=I.list hq
  refine SeqAt.notIn_listAt (jK x) pl.isList (λw hw=>A6 rx fx r fs w (by simpa using hw)) (ce (.bl _) H I rfl ?_)
  rw [show av.toArray.any (jK x)=av.any (jK x) by simp,A3 r fs]
  exact q
 ·obtain ⟨av,r,pl,hz⟩:=I.tuple hq
  refine SeqAt.notIn_tupleAt (jK x) pl (λw hw=>A6 rx fx r fs w (by simpa using hw)) (ce (.bl _) H I rfl ?_)
  rw [show av.toArray.any (jK x)=av.any (jK x) by simp,A3 r fs]
  exact q
theorem cm:jH X (.builtin "len") (λxs H Q=>∃p ys,xs=[.ref p]/\(cG X.K H p ys\/h_ X.K H p ys)/\Q (.int ys.length) H):=by
 intro pins s σ H xs us Q I r h;intros am13 h p ys rfl hq q;obtain ⟨u,rfl,rx⟩:=vals1 r;cases rx;have hn:=AW;rcases hq with hq | hq
 ·obtain ⟨av,r',pl,hz⟩:=I.list hq
  have hlen:=r'.length;exact Calls.call_len_list pl.isList (by simp only [fh] <;> lia) ⟨.int ys.length,H,I.tok _,⟨s.toks+1,by rw [fh,hlen]⟩,q⟩
 ·obtain ⟨av,r',pl,hz⟩:=I.tuple hq
  have hlen:=r'.length;exact len_tuple pl (by simp only [fh] <;> lia) ⟨.int ys.length,H,I.tok _,⟨s.toks+1,by rw [fh,hlen]⟩,q⟩
theorem DO:jH X (.type "list") (λxs H Q=>∃p ys,xs=[.ref p]/\(cG X.K H p ys\/h_ X.K H p ys)/\∀l,H l=none->Q (.ref l) (upd H l (.lst ys))):=by
 intro pins s σ H xs us Q I r h;intros am13 h p ys rfl hq q;obtain ⟨u,rfl,rx⟩:=vals1 r;cases rx
 have fin:∀(av:List Value),Vals ys av->ys.length<=sizeLine->∀(h':Heap) (c':Nat),(∀b o',s.heap.get? b=some o'->h'.get? b=some o')->
   h'.get? s.heap.objs.size=some {cls:=.type "list",dict:=none,data:=.seq av.toArray c',slots:=#[]}->EP X pins σ Q (.ref s.heap.objs.size) {s with heap:=h'}:=λav r' hz h' c' kp e=>
  ⟨.ref s.heap.objs.size,_,I.laid (t':=s.toks) kp (aP _) (show gu X.prog X.w _ h' _ (.lst ys) from ⟨hz,av,c',r',e⟩),rfl,q _ (I.aT.fresh (aP _))⟩
 rcases hq with hq | hq
 ·obtain ⟨av,r',pl,hz⟩:=I.list hq
  have hlen:=r'.length;obtain ⟨o,ho,hc,n,hd⟩:=pl.isList;exact call_list_seq p (.inl rfl) ho hc hd (λh' c' kp e=>fin av r' hz h' c' kp e) (by simp only [fh] <;> lia)
 ·obtain ⟨av,r',pl,hz⟩:=I.tuple hq
  have hlen:=r'.length;intros am0 pl o ho am2 hc n hd;exact call_list_seq p (.inr rfl) ho hc hd (λh' c' kp e=>fin av r' hz h' c' kp e) (by simp only [fh] <;> lia)
def II(K:aQ)(T:String)(x:V)(H:Hp):Prop:=match x with
 | .str _=>T="str"
 | .int _=>T="int"
 | .ref p=>(T="list"/\∃xs,cG K H p xs)\/(T="tuple"/\∃o,K.lookup p=some o/\o.cls=.type "tuple"/\o.dict=none) \/
   (T="dict"/\((∃du,H p=some (.dK du))\/∃du,H p=some (.dT du)))\/(T="set"/\∃S n,H p=some (.set S n))
 | _=>False
theorem Oi{T:String}(I:Inv X pins σ H s)(r:RelV x v)(ty:II X.K T x H) :
  s.TypeIs v T/\∀a,v=.ref a->∃ob,s.heap.get? a=some ob/\ob.dict=none:=by
 cases x with
 | str z=>obtain ⟨t,rfl⟩:=r;cases (show T="str" from ty);exact ⟨typeIs_str s z t,λ_ e=>nomatch e⟩
 | int i=>obtain ⟨t,rfl⟩:=r;cases (show T="int" from ty);exact ⟨typeIs_int s i t,λ_ e=>nomatch e⟩
 | ref p=>
  cases r;rcases ty with ⟨rfl,xs,hq⟩ | ⟨rfl,o,hk,hc,hd⟩ | ⟨rfl,hk⟩ | ⟨rfl,S,n,hk⟩
  ·obtain ⟨av,_,pl,_⟩:=I.list hq
   refine ⟨pl.isList.typeIs,λa e=>?_⟩;cases e;intros am15 pl o n e c hd _;exact (ad o e hd)
  ·refine ⟨⟨o,I.fK p o hk,hc⟩,λa e=>?_⟩
   cases e;exact ⟨o,I.fK _ o hk,hd⟩
  ·have z:∃o,s.heap.get? p=some o/\o.ExactDict:=by
    rcases hk with ⟨du,hk⟩ | ⟨du,hk⟩
    ·obtain ⟨_,_,_,_,o,_,_,e,ex,_⟩:=I.aT p _ hk
     exact ⟨o,e,ex⟩
    ·obtain ⟨_,_,_,_,o,_,_,e,ex,_⟩:=I.aT p _ hk
     exact ⟨o,e,ex⟩
   intros am0 z o e ex;refine ⟨(ad o e ex.1),λa e2=>?_⟩;cases e2;exact (ad o e ex.2.1)
  ·obtain ⟨o,_,_,_,e,ex,_⟩:=I.aT p _ hk
   refine ⟨(ad o e ex.1),λa e2=>?_⟩;cases e2;exact (ad o e ex.2.1)
 | _=>exact False.elim ty
def Wb(K:aQ)(T:String)(r:V->List V->Hp->VK->Prop)(to:TE):TE:=λσ H Q=>to σ H λx H1=>II K T x H1/\r x [] H1 Q
def Wc(K:aQ)(T:String)(r:V->List V->Hp->VK->Prop)(to:TE)(t:TA):TE:=λσ H Q=>to σ H λx H1=>II K T x H1/\t σ H1 λxs H2=>r x xs H2 Q
variable {o e:Expr} {es:List Expr} {to:TE} {t:TA} {name:Str} {apos j8:Pos} {T id:String} {r:V->List V->Hp->VK->Prop}
theorem Wd(pa:PlainAttrs T)(slot:Slot T name id)(IJ:typeOf (.builtin id)=pure (.type "method_descriptor"))(hm:IE X id r)(ho:PE X o to)
  (IK:attributeBase o name X.env (eval o X.env)=eval o X.env:=by rfl) (IL:(apos.endLine == j8.line)=true:=by rfl):PE X (.Call (.Attribute o name apos) [] [] j8) (Wb X.K T r to):=by
 intro pins s σ H Q I h;refine wpAny_Call_method0_late IK IL (bh (ho pins s σ H _ I h) λv s1 ⟨x,H1,I1,r1,ty,q1⟩=>?_);obtain ⟨h1,h2⟩:=Oi I1 r1 ty;exact ⟨T,id,pa,slot,IJ,h1,h2,Calls.callWith_builtin rfl (PySem.evalArgs_none (hm pins s1 σ H1 x [] v [] Q I1 r1 .nil q1))⟩
theorem A8(pa:PlainAttrs T)(slot:Slot T name id)(IJ:typeOf (.builtin id)=pure (.type "method_descriptor"))(hm:IE X id r)(ho:PE X o to)(ha:PA X (e::es) t)
  (IK:attributeBase o name X.env (eval o X.env)=eval o X.env:=by rfl)
  (We:((backTo j8 (starEach (e::es) X.env)).all (λx=>!x.1) && (backToKw j8 (keywordEach [] X.env)).all (λx=>x.1.isSome)
   && decide ((e::es).length+([]:List Keyword).length+(if ([]:List Keyword).isEmpty then 0 else 1)<30))=true:=by rfl)
  (IL:(apos.endLine == j8.line)=true:=by rfl) (hs:starEach (e::es) X.env=(false,eval e X.env)::starEach es X.env:=by rfl) (Wf:(backTo j8 (starEach es X.env)).any (·.1)=false:=by rfl) :
  PE X (.Call (.Attribute o name apos) (e::es) [] j8) (Wc X.K T r to t):=by
 intro pins s σ H Q I h;refine wpAny_Call_method_late IK We IL rfl (bh (ho pins s σ H _ I h) λv s1 ⟨x,H1,I1,r1,ty,q1⟩=>?_);obtain ⟨h1,h2⟩:=Oi I1 r1 ty;refine ⟨T,id,pa,slot,IJ,h1,h2,?_⟩;have hA:=ha j8 pins s1 σ H1 _ I1 q1;rw [hs] at hA ⊢;refine Calls.callWith_builtin (by show (false || (backTo j8 (starEach es X.env)).any (·.1))=false;rw [Wf] <;> rfl) (Calls.evalArgs_plain ?_)
 exact bh hA λus s2 ⟨vs,H2,I2,r2,q2⟩=>hm pins s2 σ H2 x vs v us Q I2 r1 r2 q2
end
def Oj(X:Cx)(id:String)(r:V->List V->Hp->VK->Prop):Prop:=
 ∀(pins:cf) (s:Shared) (σ:St) (H:Hp) (x:V) (xs:List V) (v:Value) (us:List Value) (Q:VK),Inv X pins σ H s->RelV x v->Vals xs us->r x xs H Q->
  wpAny (model X.prog X.w) X.A (call (.builtin id) (v::us)) (EP X pins σ Q) X.xe s
theorem Vals.one:∀{x:V} {us:List Value},Vals [x] us->∃u,us=[u]/\RelV x u
 | _,_,.cons r .nil=>⟨_,rfl,r⟩
theorem Vals.zero:∀{us:List Value},Vals [] us->us=[]
 | _,.nil=>rfl
theorem Vals.rep{xs:List V}{us:List Value}(h:Vals xs us):∀k:Nat,Vals (List.replicate k xs).flatten (List.replicate k us).flatten
 | 0=>.nil
 | k+1=>by rw [oP,oP,C9,C9];exact Vals.append h (Vals.rep h k)
theorem foldl_rep(av:List Value):∀(k:Nat) (acc:List Value),
  List.foldl (λx1 x2=>x1++x2) acc.toArray (List.replicate k av.toArray)=(acc++(List.replicate k av).flatten).toArray
 | 0,acc=>by simp
 | k+1,acc=>by
  have e:acc.toArray++av.toArray=(acc++av).toArray:=by simp
  have e2:(acc++av)++(List.replicate k av).flatten=acc++(List.replicate (k+1) av).flatten:=by rw [oP,C9,List.append_assoc]
  rw [<-e2,<-foldl_rep av k (acc++av),<-e,oP,List.foldl_cons]
section
variable {X:Cx} {pins:cf} {σ:St} {H:Hp} {s:Shared} {l b:Addr} {xs ys zs:List V}
variable {av:List Value} {n t':Nat}
theorem Inv.Ol{its':List Value}{f:Array Value->Array Value}(I:Inv X pins σ H s)(hH:H l=some (.lst xs))
  (e:s.heap.get? l=some {cls:=.type "list",data:=.seq av.toArray n}) (hf:f av.toArray=its'.toArray) (hv:Vals ys its') (hz:ys.length<=sizeLine) :
  Inv X pins σ (upd H l (.lst ys)) {s with heap:=s.heap.update l (Obj.mapSeq f),toks:=t'}:=by
 have q:=PySem.IsL.update e f;rw [hf] at q;refine I.write (x:=l) (e:=l) (by rw [hH];exact trivial) (.inl rfl) (λb' u hb hu=>(Heap.get?_update_other s.heap (Obj.mapSeq f) (Ne.symm hb)).trans hu) ⟨_,q⟩ ?_
 exact ⟨hz,its',_,hv,q⟩
theorem Inv.Om(I:Inv X pins σ H s)(hv:Vals ys av)(hz:ys.length<=sizeLine) :
  Inv X pins σ (upd H s.heap.objs.size (.lst ys)) {s with heap:=s.heap.push {cls:=.type "list",data:=.seq av.toArray},toks:=t'}:=
 I.laid (λ_ _ q=>dZ _ q) (aP _) ⟨hz,av,0,hv,iz _ rfl⟩
theorem Inv.fresh(I:Inv X pins σ H s):H s.heap.objs.size=none:=I.aT.fresh (aP _)
theorem Inv.wU(I:Inv X pins σ H s)(hH:H l=some (.lst xs)):xs.length<=sizeLine/\∃(av:List Value) (n:Nat),Vals xs av/\xs.length=av.length/\s.heap.get? l=some {cls:=.type "list",data:=.seq av.toArray n}:=by obtain ⟨z,av,n,r,e⟩:=I.aT l _ hH;exact ⟨z,av,n,r,r.length,e⟩
theorem Oo(h:n<=sizeLine):Builtin.List.listTooLong n=false:=by unfold Builtin.List.listTooLong;exact fD ⋯
end
section
variable {X:Cx}
def Wg:V->List V->Hp->VK->Prop:=λx vs H Q=>∃l xs y,x=.ref l/\vs=[y]/\H l=some (.lst xs)/\xs.length<sizeLine/\Q .bg (upd H l (.lst (xs++[y])))
theorem nY:Oj X "list.append" Wg:=by
 intro pins s σ H x vs v us Q I rx rv h;intros am1 h l xs am14 y rfl rfl hH hz q;cases rx;obtain ⟨u,rfl,ru⟩:=rv.one;obtain ⟨z,av,n,r,hl,e⟩:=I.wU hH;refine call_meets F.slot_list_append (ad _ e rfl) F.entry_list_append (F.args_list_append_2 _ _) (PySem.list_append l av.toArray n u (by rw [fh];lia)) ⟨e,?_⟩
 refine ⟨.bg,_,I.Ol (its':=av++[u]) hH e (by simp) (r.append (.cons ru .nil)) ?_,rfl,q⟩
 rw [kA,List.length_singleton];lia
def Wh:V->List V->Hp->VK->Prop:=λx vs H Q=>∃l b xs zs,x=.ref l/\vs=[.ref b]/\H l=some (.lst xs)/\H b=some (.lst zs)/\xs.length+zs.length<=sizeLine/\Q .bg (upd H l (.lst (xs++zs)))
theorem alg:Oj X "list.extend" Wh:=by
 intro pins s σ H x vs v us Q I rx rv h;intros amE h l am29 b xs zs rfl rfl hH hB hz q;cases rx;obtain ⟨u,rfl,ru⟩:=rv.one;cases ru;obtain ⟨z,av,n,r,hl,e⟩:=I.wU hH;obtain ⟨z2,sN,n2,r2,Wi,e2⟩:=I.wU hB;have NQ:av.toArray.size+sN.toArray.size<=sizeLine:=by rw [fh,fh];lia
 have IM:¬(!av.toArray.isEmpty && Builtin.List.listTooLong (av.toArray.size+sN.toArray.size))=true:=by rw [Oo NQ,Bool.and_false];exact d3
 refine call_meets F.slot_list_extend (ad _ e rfl) F.entry_list_extend (F.args_list_extend_2 _ _)
  (AutoSeq1.list_extend_list_list_0 l av.toArray n b sN.toArray n2 IM (by rw [fh];lia) ⋯) ⟨e,e2,?_⟩
 refine ⟨.bg,_,I.Ol (its':=av++sN) hH e (by simp) (r.append r2) ?_,rfl,q⟩
 rw [kA];lia
def Wj:R2:=λx y H Q=>∃l b xs zs,x=.ref l/\y=.ref b/\H l=some (.lst xs)/\H b=some (.lst zs)/\xs.length+zs.length<=sizeLine/\∀p,H p=none->Q (.ref p) (upd H p (.lst (xs++zs)))
theorem IP:cT X (binaryOp .Add) Wj:=by
 intro pins s σ H x y v u Q I rx ry h;intros amE h l am29 b xs zs rfl rfl hH hB hz q;cases rx;cases ry;obtain ⟨z,av,n,r,hl,e⟩:=I.wU hH;obtain ⟨z2,sN,n2,r2,Wi,e2⟩:=I.wU hB;refine PySem.P.add_list e e2 ?_ (by rw [fh,fh];lia)
 have ea:av.toArray++sN.toArray=(av++sN).toArray:=by simp
 rw [ea];exact ⟨.ref _,_,I.Om (t':=s.toks) (r.append r2) (by rw [kA];lia),rfl,q _ I.fresh⟩
def Wk:R2:=λx y H Q=>∃l k xs,x=.ref l/\y=.int k/\H l=some (.lst xs)/\-(2 ^ 63)<=k/\k<2 ^ 63/\xs.length*k.toNat<=sizeLine /\
 ∀p,H p=none->Q (.ref p) (upd H p (.lst (List.replicate k.toNat xs).flatten))
theorem len_rep{α:Type}(xs:List α)(k:Nat):(List.replicate k xs).flatten.length=k*xs.length:=by
 induction k with
 | zero=>simp
 | succ k ih=>rw [oP,C9,kA,ih,Nat.succ_mul,Nat.add_comm]
theorem sO:cT X (binaryOp .Mult) Wk:=by
 intro pins s σ H x y v u Q I rx ry h;intros am20 h l k xs rfl rfl hH am4 h1 h2 hz q;cases rx;obtain ⟨t,rfl⟩:=ry;obtain ⟨z,av,n,r,hl,e⟩:=I.wU hH;have hlen:av.toArray.size*k.toNat<=sizeLine:=by rw [fh,<-hl];exact hz
 have Wl:¬av.toArray.size*k.toNat>(2 ^ 63-1) / 8:=by
  have:(sizeLine:Nat)<=(2 ^ 63-1) / 8:=by decide
  lia
 have Wm:¬(!Builtin.List.listFitsIndex k)=true:=by rw [fitsIndex_both h1 h2];exact d3
 have IM:¬Builtin.List.listTooLong (av.toArray.size*k.toNat)=true:=by rw [Oo hlen];exact d3
 have Wn:List.foldl (λx1 x2=>x1++x2) #[] (List.replicate (if av.toArray.isEmpty=true then 0 else k.toNat) av.toArray)=(List.replicate k.toNat av).flatten.toArray:=by
  have f0:∀m:Nat,List.foldl (λx1 x2=>x1++x2) #[] (List.replicate m av.toArray)=(List.replicate m av).flatten.toArray:=λm=>by have:=foldl_rep av m [];rw [gM] at this;exact this
  rw [f0];cases av with
  | nil=>simp
  | cons a r'=>rw [aq (by simp)]
 refine wpAny_binaryOp_repeat_ref (T:="list") (U:="int") ∅ (ad _ e rfl) (λs'=>typeIs_int s' k t) noFill_list_mul F.fills_int_mul F.slot_int_rmul repeat_list F.slot_int_index.lookup
  (call_meets F.slot_int_rmul (typeIs_int s k t) F.entry_int_rmul (F.args_int_rmul_2 _ _) (int___rmul___int_list k t l av.toArray n)
   ⟨e,rfl,(ad _ e rfl),call_meets F.slot_list_mul (ad _ e rfl) F.entry_list_mul (F.args_list_mul_2 _ _) (AutoListH.list___mul___list_int_3 l av.toArray n k t Wm Wl IM) ⟨e,?_⟩⟩)
 rw [Wn];exact ⟨.ref _,_,I.Om (t':=s.toks) (r.rep k.toNat) (by rw [len_rep,oQ];exact hz),rfl,q _ I.fresh⟩
end
section
variable {prog:Program} {w:World} {A:Around} {E:cX} {s:Shared}
end
section
variable {X:Cx}
end
end L2
namespace Oq
open PySem PySem.W PySem.Calls PyProof.Rows
variable {P:Params} {h:Heap}
theorem Wo:∀(ns:List Int) (vs:List Value),WellAll P h vs (ns.map WData.int)->IntsAre vs ns:=by
 intro ns
 induction ns with
 | nil=>intro vs w;rw [gZ] at w;cases w;exact .nil
 | cons n ns ih=>
  intro vs w;rw [gE] at w;cases w with
  | cons a b=>cases a;exact .cons _ _ (ih _ b)
variable {l:OpenLaw} {n:Nat}
theorem Wq(hn:l.most=some n){args:List WData}{vals:List Value}
  (DP:l.row.toRowW.claim.pre args=true) (IQ:WellAll P h vals args) :
  ∃a vs ns,vals=[Value.ref a]/\args=[WData.list (ns.map WData.int)]/\h.get? a=some {cls:=.type "list",data:=.seq vs.toArray}/\IntsAre vs ns/\ns.length<=n:=by
 have Wr:WShape.hasAll [] args [.list .int]=true:=(pre_splitW DP).1;have hc:l.pre.holds [] {args:=args}=true:=(pre_splitW DP).2;obtain ⟨d,r,rfl,h1,h2⟩:=hasAllW_cons Wr;obtain rfl:=hasAllW_nil h2;obtain ⟨xs,rfl,h3⟩:=hasW_list h1;obtain ⟨ns,rfl⟩:=items_int h3;have hlen:ns.length<=n:=by
  unfold OpenLaw.pre at hc;have h4:(WTm.not (.lt (.lit (.int (n:Int))) (.len (.arg 0)))).holds [] {args:=[.list (ns.map .int)]}=true:=by have h4:=(holds_andW hc).1;rw [hn] at h4;exact h4
  have h5:=condW_of h4 (w_not (w_lt w_lit (w_len_list (w_arg rfl))));rw [aV] at h5;refine Nat.le_of_not_lt λq=>?_;have q':(n:Int)<((ns.length:Nat):Int):=by lia
  first
   | (rw [cF q'] at h5;exact absurd h5 ∅)
   | (simp at h5;lia)
 cases IQ with
 | cons w1 w2=>
  cases w2;cases w1 with
  | list ho Ws=>exact (o0 _ _ ns rfl rfl ho (Wo ns _ Ws) hlen)
theorem Wt(l:OpenLaw)(args:List WData):l.row.toRowW.claim.post args (.bool true) args=true:=
 postW_of (r:=l.row.toRowW) (X:=(true == true))
  (show WShape.has [] (.bool true) .bool=true by first | rfl | decide | simp [WShape.has,WShape.arms,WShape.armsAll])
  (show (WTm.eq .res (.lit (.bool true))).value [] {args:=args,res:=some (.bool true),after:=args}=some (.bool (true == true)) from w_eq_bool (w_res rfl) w_lit) rfl
theorem Wu{q:Program}{loose:List Str}{XP:(Str->Option Value)->Heap->Prop}{YP:World->Heap->Prop}{d:DefRec}
  (hn:l.most=some n) (A9:d.params.defaults=[])
  (call:∀(w:World) (s₀ s₁:Shared) (mg mb:eK) (fa:Addr) (o:Obj) (pm cd doc:Value) (a:Addr) (vs:List Value) (ns:List Int),
   Ground q loose [] XP w s₀ mg mb s₁.heap->YP w s₁.heap->
   s₁.heap.get? fa=some o->o.data=.func (docDef d.name d.params d.body d.scope pm cd doc)->s₁.heap.CodeRec cd d.name->mg d.name=some (.ref fa)->
   s₁.heap.get? a=some {cls:=.type "list",data:=.seq vs.toArray}->IntsAre vs ns->ns.length<=n->s₁.gens = #[]->
   codeAny (model l.prog w) callerA (.call (.ref fa) ⟨[.ref a],[]⟩) (λr s'=>r=.ok (.ret (.bool true))/\OldK s₁.heap s'.heap/\s'.os=s₁.os/\AllBare s'.gens) s₁) :
  WalkO q loose XP YP l.row.toRowW d [] (λf vs=>PySem.call f vs):=by
 intro w s₀ s₁ mg mb G Y fa o pm cd doc dV kV ho hd hJ hD A_ hg args vals as DP alh hrd IQ hlo;obtain rfl:dV=.none:=Dflts.none hD A9;obtain rfl:kV=.none:=Dflts.noKw hD;obtain ⟨a,vs,ns,rfl,rfl,IS,hints,hlen⟩:=Wq hn DP IQ;refine enter_call (codeAny_mono (call w s₀ s₁ mg mb fa o pm cd doc a vs ns G Y ho (fd_plain hd) hJ A_ IS hints hlen hg) λr s' hq=>?_);obtain ⟨rfl,h2,h3,h4⟩:=hq;exact ⟨.inl ⟨.bool true,.bool true,[],rfl,λ_=>rfl,.bool true,Wt l _,λ_=>⟨List.Pairwise.nil,λ_ hm=>(nomatch hm)⟩⟩,h2,h3,h4⟩
section
variable {prog:Program} {w:World} {A:Around} {E:cX} {s:Shared} {K:Frag}
end
end Oq
namespace L2
open PySem PySem.Spec PyProof.Rows
theorem Ot:∀{vs:List Value} {ns:List Int},IntsAre vs ns->Vals (ns.map V.int) vs
 | _,_,.nil=>.nil
 | _,_,.cons n t h=>.cons ⟨t,rfl⟩ (Ot h)
def IT(H:Hp):Prop:=∀b,H b=none\/∃o xs,H b=some (.jf o (.lst xs))
variable {K:aQ} {k:Nat} {a:Addr} {x:Str}
theorem Wv{P:Program}{w:World}{mg mb:eK}{CX:jJ}{fa:Addr}{fd:FuncData}{sp:Sp}{s₁:Shared}{vs:List Value}{ns:List Int}
  (KX:K.In s₁.heap) (Ou:s₁.heap.Ns mainGlobals mg) (hb:s₁.heap.Ns builtinsNs mb) (Ww:∀x:Str,x ≠ "__name__"->mb x=bootBuiltins x) (Wx:s₁.heap.NoLimit) (hg:s₁.gens = #[])
  (ha:s₁.heap.get? a=some {cls:=.type "list",data:=.seq vs.toArray}) (hi:IntsAre vs ns) (hl:ns.length<=sizeLine) (hr:eP k callerA)
  (F:∀base:Heap,K.In base->base.Ns mainGlobals mg->aO P w K mg base CX k fa fd [x] sp) (Wy:∀(s:Shared) (u:Value),BindsTo s fd ⟨[u],[]⟩ [(x,u)])
  (l_:∀H:Hp,IT H->cG K H a (ns.map V.int)->sp [.ref a] H (λv _=>v=.bl true) λ_ _ _=>False)
  (IU:∀H e s',CX [] H s₁ (λ_ _ _=>False) e s'->False) :
  codeAny (model P w) callerA (.call (.ref fa) ⟨[.ref a],[]⟩) (λr s'=>r=.ok (.ret (.bool true))/\OldK s₁.heap s'.heap/\s'.os=s₁.os/\AllBare s'.gens) s₁:=by
 have rv:=Ot hi;have Wz:=hi.length
 have core:∀H:Hp,IT H->cG K H a (ns.map V.int)->d6 P w H s₁.heap->(∀b,H b≠none->b=a)->(H a≠none->K.lookup a=none)->
   codeAny (model P w) callerA (.call (.ref fa) ⟨[.ref a],[]⟩) (λr s'=>r=.ok (.ret (.bool true))/\OldK s₁.heap s'.heap/\s'.os=s₁.os/\AllBare s'.gens) s₁:=by
  intro H hO hS aT hA hK;have Ov:∀{b:Addr} {o:Obj},s₁.heap.get? b=some o->H b=none->(oV s₁.heap H).get? b=some o:=λe n=>UN e n;have AX:∀{b:Addr} {o:Obj} {es:Array DictEntry} {ep:Nat},s₁.heap.get? b=some o->o.data=.dict es ep->H b=none:=fun{b o es ep} e d=>by
   cases q:H b with
   | none=>rfl
   | some u=>
    have e':b=a:=hA b (by rw [q];simp)
    subst e';rw [ha] at e;cases e;have d':Data.seq vs.toArray _=Data.dict es ep:=d;cases d'
  have DQ:∀{b:Addr} {m:eK},s₁.heap.Ns b m->(oV s₁.heap H).Ns b m:=fun{b m} ⟨o,es,ep,e,d,r⟩=>⟨o,es,ep,Ov e (AX e d),d,r⟩;have Ow:K.In (oV s₁.heap H):=λb o e=>Ov (KX b o e) (by
   cases q:H b with
   | none=>rfl
   | some u=>
    have e':b=a:=hA b (by rw [q];simp)
    subst e';rw [hK (by rw [q];simp)] at e;cases e)
  have hM:Mod K mg (oV s₁.heap H):=⟨Ow,DQ Ou,⟨mb,DQ hb,Ww⟩,let ⟨mc,h1,h2⟩:=Wx;⟨mc,DQ h1,h2⟩⟩
  have e0:sM P w K mg (oV s₁.heap H) callerA [] s₁ H:=⟨rfl,hM,λb o e=>UO e,jz (UM _ _),trivial,λb hb=>absurd (show b∈([]:List Addr) from hb) (by simp),aT,.of_eq hg⟩
  refine codeAny_mono ((F _ Ow (DQ Ou)).run callerA [] s₁ H ⟨[.ref a],[]⟩ [.ref a] [.ref a] _ _ hr e0 (Wy s₁ (.ref a)) (.cons rfl .nil) (l_ H hO hS)) λr s' h=>?_;cases r with
  | error e=>exact (IU H e s' h).elim
  | ok fl=>
   cases fl with
   | next=>exact False.elim h
   | brk=>exact False.elim h
   | cont=>exact False.elim h
   | ret u=>
    intros am26 h v H' os bare un WA r' q;have q':v=.bl true:=q;subst q';obtain rfl:u=Value.bool true:=r';refine ⟨rfl,OldK.of_keep λb o e=>?_,os,bare⟩;cases q:H b with
    | none=>exact un.keep b o e q (by intro z;exact absurd (show b∈([]:List Addr) from z) (by simp)) (by simp)
    | some u=>
     rcases hO b with z | ⟨ob,xs,z⟩;·rw [q] at z;cases z
     ·have z2:=un.iE b ob _ z
      obtain ⟨e1,_⟩:=aT b _ z;obtain ⟨e2,_⟩:=WA b _ z2;rw [e] at e1;cases e1;exact e2
 cases hk:K.lookup a with
 | some o=>have e:=KX a o hk;rw [ha] at e;cases e;refine core (λ_=>none) (λ_=>.inl rfl) (.inr ⟨_,vs.toArray,_,hk,rfl,rfl,rfl,by rw [fh,Wz];exact hl,by simpa using rv⟩) (λb u z=>by have z':(none:Option HO)=some u:=z;cases z') (λb z=>absurd rfl z) λz=>absurd rfl z
 | none=>
  refine core (λb=>if b=a then some (.jf {cls:=.type "list",data:=.seq vs.toArray} (.lst (ns.map V.int))) else none) (λb=>?_) (.inl (.inr ⟨{cls:=.type "list",data:=.seq vs.toArray},ao rfl⟩)) (λb u z=>?_) (λb z=>?_) λ_=>hk
  ·by_cases hb:b=a
   ·exact .inr (xL _ _ (ao hb))
   ·exact .inl (aq hb)
  ·by_cases hb:b=a
   ·have z':=(ao hb).symm.trans z
    cases z';subst hb;exact ⟨ha,by rw [aV];exact hl,vs,_,rv,ha⟩
   ·have z':=(aq hb).symm.trans z
    cases z'
  ·by_cases hb:b=a
   ·exact hb
   ·exact absurd (aq hb) z
abbrev Ox {K:aQ} {h:Heap} (_:K.In h):PySem.W.Frag:=K
variable {n:Nat}
theorem WB{l:PySem.W.OpenLaw}{q:Program}{loose:List Str}{XP:(Str->Option Value)->Heap->Prop}{YP:World->Heap->Prop}{d:DefRec}{K:Params->PySem.W.Frag}{CX:World->jJ}{sp:World->Sp}
  (hn:l.most=some n) (wO:n<=sizeLine) (A9:d.params.defaults=[]) (hr:eP k callerA)
  (hY:∀(w:World) (h:Heap),YP w h->(K w.params).In h)
  (F:∀(w:World) (mg:eK) (fa:Addr) (h:Heap),(K w.params).In h->h.Ns mainGlobals mg->mg d.name=some (.ref fa)->
   ∃fd:FuncData,(∀(s:Shared) (u:Value),BindsTo s fd ⟨[u],[]⟩ [(x,u)]) /\
    ∀base:Heap,(K w.params).In base->base.Ns mainGlobals mg->aO l.prog w (K w.params) mg base (CX w) k fa fd [x] (sp w))
  (l_:∀(w:World) (H:Hp) (a:Addr) (ns:List Int),ns.length<=n->IT H->cG (K w.params) H a (ns.map V.int)->sp w [.ref a] H (λv _=>v=.bl true) λ_ _ _=>False)
  (IU:∀(w:World) (H:Hp) (s:Shared) (e:Value) (s':Shared),CX w [] H s (λ_ _ _=>False) e s'->False) :
  PySem.W.WalkO q loose XP YP l.row.toRowW d [] (λf vs=>PySem.call f vs):=by
 refine Oq.Wu hn A9 λw s₀ s₁ mg mb fa o pm cd doc a vs ns G Y ho hd hJ A_ IS hints hlen hg=>?_;have KX:=hY w _ Y;obtain ⟨fd,hb,hF⟩:=F w mg fa _ KX G.T.g A_;exact Wv KX G.T.g G.T.b G.T.builtins G.T.nolimit hg IS hints (au hlen wO) hr hF hb (λH hO hS=>l_ w H a ns hlen hO hS) λH e s'=>IU w H s₁ e s'
def inClass(s:Stmt)(j:Nat):Stmt:=match s with
 | .ClassDef _ _ _ body _ _ _ _ _ _ _=>body.getD j (.Pass ⟨0,0,0,0⟩)
 | _=>.Pass ⟨0,0,0,0⟩
def kS(s:Stmt):Arguments:=match s with
 | .FunctionDef _ a _ _ _ _ _ _ _ _=>a
 | _=>{posonlyargs:=[],args:=[],vararg:=none,kwonlyargs:=[],kw_defaults:=[],kwarg:=none,defaults:=[]}
def iH(s:Stmt):List Stmt:=match s with
 | .FunctionDef _ _ b _ _ _ _ _ _ _=>b
 | _=>[]
def aR(s:Stmt):Scope:=match s with
 | .FunctionDef _ _ _ _ _ _ sc _ _ _=>sc
 | _=>{kind:=.function,names:=[],isGenerator:=false,isCoroutine:=false}
abbrev bO:jJ:=λ_ _ _ _ _ _=>False
abbrev E0:XK:=λ_ _ _=>False
theorem aF{X:Cx}:Passes bO X E0:=λ_ _ _ _ _ _ _ h=>h.elim
structure gS (K:aQ) (x qual:Str) (st:Stmt) (f:Addr) (fd:FuncData):Prop where
 ex:∃(oc:Value) (od:Option Addr) (kV doc pm:Value) (an:Option Addr) (bN ct:Value) (ib:Array (Option Value)),
  fd=PySem.W.fnOf x qual (kS st) (iH st) (aR st) .none kV doc pm an bN ct/\K.lookup f=some ⟨oc,od,.func fd,ib⟩/\PySem.W.codeIn K bN qual=true
 kp:PySem.W.keepIn K (.ref f)=true
abbrev aB (K:aQ) (x:Str) (st:Stmt) (f:Addr) (fd:FuncData):Prop:=gS K x x st f fd
section
variable {P:Program} {w:World} {K:aQ} {mg:eK} {base:Heap}
variable {qual:Str} {st:Stmt} {fd:FuncData} {N ps:List Str} {sp:Sp}
theorem gS.ok{f:Addr}(F:gS K x qual st f fd)(S:bw N ps (aR st))(len:∀vs H Q E,sp vs H Q E->vs.length=ps.length)
  (mT:∀(bN:Value) (A:Around) (outer:List Env) (s:Shared) (H:Hp) (vs:List V) (Q:VK) (E:XK),eP k (A.deeper (envOfC qual (aR st) s.heap.objs.size f bN))->sp vs H Q E->
   ∃t,gO (kO bO P w K mg base N qual (aR st) f bN A outer s H E).sE (iH st) t/\t {nx:=λ_ H'=>Q .bg H',rt:=Q} (start N vs) H):aO P w K mg base bO (k+1) f fd ps sp:=by
 obtain ⟨oc,od,kV,doc,pm,an,bN,ct,ib,rfl,lk,hJ⟩:=F.ex;refine IC lk hJ S len λA outer s H vs Q E hr l_=>?_;obtain ⟨t,h,q⟩:=mT bN A outer s H vs Q E hr l_;exact (ad t h.sE q)
theorem gS.bV{f:Addr}(F:gS K x qual st f fd)(S:bw N ps (aR st))
  (mT:∀(bN:Value) (A:Around) (outer:List Env) (s:Shared) (H:Hp) (vs:List V) (Q:VK) (E:XK),eP k (A.deeper (envOfC qual (aR st) s.heap.objs.size f bN))->sp vs H Q E->
   ∃t,gO (kO bO P w K mg base N qual (aR st) f bN A outer s H E).sE (iH st) t/\t {nx:=λ_ H'=>Q .bg H',rt:=Q} (start N vs) H)
  (len:∀vs H Q E,sp vs H Q E->vs.length=ps.length:=by intro vs H Q E h;repeat first | (obtain ⟨rfl,_⟩:=h;rfl) | (subst h;rfl) | obtain ⟨_,h⟩:=h):aO P w K mg base bO (k+1) f fd ps sp:=F.ok S len mT
theorem gS.binds{f:Addr}(F:gS K x qual st f fd)
  (h:∀(kV doc pm:Value) (an:Option Addr) (bN ct:Value) (us:List Value),us.length=ps.length->bindArgs (PySem.W.fnOf x qual (kS st) (iH st) (aR st) .none kV doc pm an bN ct) ⟨us,[]⟩=pure (ps.zip us)):Binds K fd ps []:=by
 obtain ⟨oc,od,kV,doc,pm,an,bN,ct,ib,rfl,lk,hJ⟩:=F.ex;exact .all (h kV doc pm an bN ct)
theorem gS.bI{f:Addr}(F:gS K x qual st f fd)
  (h:∀(kV doc pm:Value) (an:Option Addr) (bN ct:Value) (us:List Value),us.length=ps.length->bindArgs (PySem.W.fnOf x qual (kS st) (iH st) (aR st) .none kV doc pm an bN ct) ⟨us,[]⟩=pure (ps.zip us):=by intro _ _ _ _ _ _ us hl;rcases us with _ | ⟨_,_ | ⟨_,_ | ⟨_,_ | ⟨_,_ | ⟨_,_ | ⟨_,_ | ⟨_,_⟩⟩⟩⟩⟩⟩⟩ <;> first | rfl | (simp at hl;done)):Binds K fd ps []:=F.binds h
theorem bJ{f:Addr}{oc:Value}{od an:Option Addr}{ib:Array (Option Value)}{kV doc pm bN ct:Value}(l:K.lookup f=some ⟨oc,od,.func (PySem.W.fnOf x qual (kS st) (iH st) (aR st) .none kV doc pm an bN ct),ib⟩)
  (c:PySem.W.codeIn K bN qual=true) (k:PySem.W.keepIn K (.ref f)=true):gS K x qual st f (PySem.W.fnOf x qual (kS st) (iH st) (aR st) .none kV doc pm an bN ct):=⟨(zn oc od kV doc pm an bN (ce ct ib rfl l c)),k⟩
end
theorem cR(h:n<=1000):n<sizeLine:=bT h ∅
section
variable {X:Cx}
theorem pv(i:Nat){pos:Pos}(hN:X.N[i]?=some x:=by rfl)(hv:oW X.env.scope x:=by first | exact Or.inl rfl | exact Or.inr (Or.inl rfl) | exact Or.inr (Or.inr rfl))(hd:(x == ("__debug__":Str))=false:=by decide)
  (hJ:(x == ("__classdict__":Str))=false:=by decide):PE X (.Name x pos) (jD i):=UW hN hv hd hJ
end
variable {A B:Prop}
theorem bQ(h:B):if false=true then A else B:=by rw [aq d3];exact h
theorem dW(h:A):if true=true then A else B:=by rw [ao rfl];exact h
theorem cM{c:Prop}[Decidable c](h1:c->A)(h2:¬c->B):if c then A else B:=by
 by_cases h:c
 ·rw [ao h]
  exact h1 h
 ·rw [aq h]
  exact h2 h
def ag(H H':Hp):Prop:=∀b o,H b=some o->H' b=some o
theorem ag.refl(H:Hp):ag H H:=λ_ _ h=>h
variable {H:Hp}
theorem ag.trans{H1 H2:Hp}(a:ag H H1)(b:ag H1 H2):ag H H2:=λc o h=>b c o (a c o h)
theorem ag.seq{H':Hp}{xs:List V}(e:ag H H')(h:cG K H a xs):cG K H' a xs:=by
 rcases h with (h | ⟨o,h⟩) | h;·exact .inl (.inl (e _ _ h))
 ·exact .inl (.inr ⟨o,e _ _ h⟩)
 ·exact .inr h
end L2
set_option maxHeartbeats 4000000
namespace L2
open PySem PySem.Spec PyProof.Rows
structure DR (P:Program) (w:World) (outer:List Env) (H:Hp) (s:Shared) (H':Hp) (ea C:Addr) (B:Heap) (t:Addr) (s':Shared):Prop where
 os:s'.os=s.os
 bare:AllBare s'.gens
 fl:Heap.FlyingW B outer ea (.ref C) (.ref t) s'.heap
 aT:d6 P w H' B
 kb:∀b o,s.heap.get? b=some o->H b=none->b∉dJ outer->B.get? b=some o
 tb:∀b o,s.heap.get? b=some o->b∉dJ outer->∃o',B.get? b=some o'
 sl:∀b o,s.heap.get? b=some o->H b=none->b∈dJ outer->∃l,s'.heap.get? b=some {o with slots:=l}
 frh:∀b∈dJ outer,H b=none
 WC:∀b o,s.heap.get? b=some o->H b=none->H' b=none
 iV:∀b xs,H b=some (.tup xs)->H' b=some (.tup xs)
 iE:∀b o u,H b=some (.jf o u)->H' b=some (.jf o u)
 iW:∀b ps,H b=some (.oU ps)->∃more,H' b=some (.oU (ps++more))
def eF(P:Program)(w:World):jJ:=λouter H s E e s'=>∃ea C H' B t,e=.ref ea/\DR P w outer H s H' ea C B t s'/\E (.ref C) none H'
section
variable {P:Program} {w:World} {outer:List Env} {H H':Hp} {s s':Shared} {ea C t:Addr} {B:Heap}
def ExcAt(ea C:Addr)(h:Heap):Prop:=∃oe,h.get? ea=some oe/\oe.cls=.ref C/\PySem.W.notCls oe=true
def WD(ea C:Addr):HO:=.ext (ExcAt ea C)
end
section
variable {X:Cx} {pins:cf} {σ:St} {H H':Hp} {s s':Shared} {ea C t:Addr} {B:Heap}
structure wV (X:Cx) (E:XK):Prop where
 kH:X.stack=X.env::X.outer
 fr:X.env.frame=some X.env.locals
 ex:X.ex=[]
 xe:X.xe=λe s'=>wpAny (model X.prog X.w) X.A (leaving X.env e) (λ_ kP=>eF X.prog X.w X.outer X.H₀ X.s₀ E e kP) (λe' kP=>eF X.prog X.w X.outer X.H₀ X.s₀ E e' kP) s'
theorem DS{env:Env}{outer:List Env}{L:Addr}(h:env.frame=some L):dJ (env::outer)=L::dJ outer:=by unfold dJ;rw [C2,h]
variable {E:XK}
theorem DR.leave(L:wV X E)(I:Inv X pins σ H s)(f:DR X.prog X.w X.stack H s H' ea C B t s'){h:Heap}(x:Heap.FlyingW B X.outer ea (.ref C) (.ref t) h)(up:s'.heap.UpToSlots h):DR X.prog X.w X.outer X.H₀ X.s₀ H' ea C B t {s' with heap:=h}:=by
 have nL:∀b o,X.s₀.heap.get? b=some o->b≠X.env.locals:=λb o e=>f9 (dQ (cB e) I.ok.above);have ns:∀b o,X.s₀.heap.get? b=some o->b∉dJ X.outer->b∉dJ X.stack:=λb o e nb z=>by
  rw [L.kH,DS L.fr] at z;rcases fM.mp z with z | z;·exact nL b o e z
  ·exact nb z
 have nx:∀b:Addr,b∉X.ex:=λb z=>by rw [L.ex] at z;cases z
 refine ⟨f.os.trans I.os,f.bare,x,f.aT,λb o e n nb=>?_,λb o e nb=>?_,λb o e n hb=>?_,I.ok.oZ,λb o e n=>?_,λb xs e=>f.iV b xs (I.base.iV b xs e),λb o u e=>f.iE b o u (I.base.iE b o u e),λb ps e=>?_⟩;·exact f.kb b o (I.base.keep b o e n nb (nx b)) (I.base.free b o e n (nx b)) (ns b o e nb)
 ·obtain ⟨o',e'⟩:=I.base.there b o e (nx b)
  exact f.tb b o' e' (ns b o e nb)
 ·obtain ⟨l,q⟩:=I.base.slot b o e n hb (nx b)
  have hs:b∈dJ X.stack:=by rw [L.kH,DS L.fr];exact iQ _ hb
  obtain ⟨l2,q2⟩:=f.sl b _ q (I.base.free b o e n (nx b)) hs;obtain ⟨_,o2,q3,nf⟩:=f.fl.2.2.1.mem hs;rw [q2] at q3;cases q3;obtain ⟨l3,q4⟩:=up b _ q2 nf;exact ⟨l3,q4⟩
 ·obtain ⟨o',e'⟩:=I.base.there b o e (nx b)
  exact f.WC b o' e' (I.base.free b o e n (nx b))
 ·obtain ⟨m1,e1⟩:=I.base.iW b ps e
  obtain ⟨m2,e2⟩:=f.iW b _ e1;exact ⟨m1++m2,by rw [e2,Array.append_assoc]⟩
theorem e9:Passes (eF X.prog X.w) X (λ_ _ _=>False):=λpins σ H s e s' I h=>by intros am1 h _ _ am18 _ _ _ _ _ q;exact q.elim
theorem j9(L:wV X E):Passes (eF X.prog X.w) X E:=λpins σ H s e s' I h=>by
 intros am1 h ea C am18 H' B t rfl f q;rw [L.xe];refine wpAny_leaves_onW (by rw [I.ok.frames,L.kH]) L.fr (by have z:=f.fl;rw [L.kH] at z;exact z) λh' x up=>?_
 exact ⟨ea,C,H',B,t,rfl,f.leave L I x up,q⟩
end
variable {K:aQ} {h:Heap}
theorem WE{C:Addr}{wX:List Value}{newId:String}(ed:K.In h)(hq:PySem.W.excIn K C wX newId=true) :
  ∃bm N nm qn bs hdct sn sub ab col dd k0 k1 k2 k3 k5 mN,h.get? C=some (excClassObj nm qn C N bs bm hdct sn sub ab col dd k0 k1 k2 k3 k5 newId)/\h.Ns N mN/\mN "__init__"=none/\OwnTail h wX bm/\PySem.W.mroIn K C=λb=>some ((Value.ref C::bm).contains b):=by
 unfold PySem.W.excIn at hq
 split at hq
 ·rename_i sP cls slt look
  split at hq
  ·rename_i CC rest a0 a1 a2 a3 nn a5 em es
   simp only [v_,nJ,Bool.not_eq_true'] at hq;obtain ⟨⟨⟨⟨⟨e1,e2⟩,e3⟩,e4⟩,e5⟩,e6⟩:=hq;subst e1 e2;have WG:PySem.W.mroIn K CC=λb=>some ((Value.ref CC::rest).contains b):=by
    funext b
    unfold PySem.W.mroIn PySem.W.clsIn;rw [look];simp [em]
   obtain ⟨c1,c2,c3,c4,c5,c6,c7,c8,c9,WH,c11⟩:=cls;dsimp only at em e3 e5 e6;subst em e3;have WI:slt = #[a0,a1,a2,a3,some (.builtin nn),a5]:=by obtain ⟨ll⟩:=slt;simp only at es;rw [es]
   subst WI;exact (Re rest c4 c1 c5 c2 c6 (zn c7 c8 c9 WH sP a0 a1 (sB a2 a3 a5 _ (ed _ _ look) (.of_isNs (PySem.W.isNs_of_in ed e5)) (PySem.W.nsMap_none_of_in ed e5 e6) (PySem.W.tail_of_in ed e4) WG)))
  ·cases hq
 ·cases hq
section
variable {X:Cx} {E:XK} {x:Str} {C:Addr} {np j8 pos:Pos} {e:Expr} {es:List Expr} {ta:TA} {B newId WJ:String} {wX:List Value}
def WK(C:Addr)(E:XK)(ta:TA):TS:=λ_ σ H=>ta σ H λvs H1=>vs.length<=sizeLine/\E (.ref C) none H1
theorem mV(L:wV X E)(hc:X.calm=true)(FB:ExcBaseFacts B newId WJ wX)(hq:PySem.W.excIn X.K C wX newId=true)(hg:Gl X x)(hm:X.mg x=some (.ref C))(ha:PA X (e::es) ta)
  (hs:starEach (e::es) X.env=(false,eval e X.env)::starEach es X.env:=by rfl) (hp:(backTo j8 (starEach es X.env)).any (·.1)=false:=by rfl) (hd:(x == ("__debug__":Str))=false:=by decide) :
  PS X (.Raise (some (.Call (.Name x np) (e::es) [] j8)) none pos) (WK C E ta):=by
 intro pins s σ H D I h;have q'18:=WE I.ok.mod.ed hq;intros am21 q'18 bm N nm qn bs hdct am34 sn sub ab col dd k0 k1 k2 k3 k5 am14 mN hC hN WL T _
 refine wpAny_Raise_call_subT (C:=C) (nm:=nm) (q:=qn) (N:=N) (bs:=bs) (bm:=bm) (hdct:=hdct) (sn:=sn) (sub:=sub) (ab:=ab) (col:=col) (dd:=dd) (k0:=k0) (k1:=k1) (k2:=k2) (k3:=k3) (k5:=k5) FB (mN:=mN) (T.hasType FB.hasBase) (I.ok.hd hc)
  (by rw [hs];show (false || (backTo j8 (starEach es X.env)).any (·.1))=false;rw [hp];rfl) WL (Dz I hg hm ⟨rfl,?_⟩ hd)
 have h1:=ha j8 pins s σ H _ I h;rw [hs] at h1 ⊢;refine Calls.evalArgs_plain (bh h1 λus s2 ⟨vs,H1,I1,r,hl,q⟩=>⟨rfl,by rw [<-r.length];exact hl,I1.bk _ _ hC,hN.keeps I1.bk,T.keeps I1.bk,λh' ea mk=>?_⟩)
 rw [L.xe];have nL:∀b o,X.s₀.heap.get? b=some o->b≠X.env.locals:=λb o q=>f9 (dQ (cB q) I1.ok.above);have ns:∀b o,X.s₀.heap.get? b=some o->b∉dJ X.outer->b∉dJ X.stack:=λb o q nb z=>by
  rw [L.kH,DS L.fr] at z;rcases fM.mp z with z | z;·exact nL b o q z
  ·exact nb z
 have nx:∀b:Addr,b∉X.ex:=λb z=>by rw [L.ex] at z;cases z
 have ff:s2.heap.FunFrames (PySem.W.hideAll s2.heap (dJ X.stack)) (X.env::X.outer):=by have z:=I1.stack;rw [<-L.kH];exact PySem.W.funFrames_hide z λenv he a hf=>List.mem_filterMap.mpr (ad env he hf)
 refine wpAny_leaves_madeW (base:=PySem.W.hideAll s2.heap (dJ X.stack)) (h:=s2.heap) (by rw [I1.ok.frames,L.kH]) L.fr (λb o q=>PySem.W.of_hideAll _ q) ff mk λh2 t fl _ _ up=>?_
 refine ⟨ea,C,H1,_,t,rfl,⟨I1.os,I1.bare,fl,λa o e1=>?_,λb o e1 n nb=>?_,λb o e1 nb=>?_,λb o e1 n hb=>?_,I1.ok.oZ,λb o e1 n=>?_,I1.base.iV,I1.base.iE,I1.base.iW⟩,q⟩
 ·refine (I1.aT a o e1).kG (λb u hb e2=>C0 _ e2 λz=>?_) (λ_ z=>z) λ_ _ z=>z
  have n0:=I1.sD b z;rcases hb with hb | hb
  ·subst hb
   rw [e1] at n0;cases n0
  ·rw [hb] at n0
   cases n0
 ·exact C0 _ (I1.base.keep b o e1 n nb (nx b)) (ns b o e1 nb)
 ·obtain ⟨o',e2⟩:=I1.base.there b o e1 (nx b)
  exact ⟨o',C0 _ e2 (ns b o e1 nb)⟩
 ·obtain ⟨l,e2⟩:=I1.base.slot b o e1 n hb (nx b)
  have nX:b∈dJ X.stack:=by rw [L.kH,DS L.fr];exact iQ _ hb
  obtain ⟨_,o2,e3,nf⟩:=I1.stack.mem nX;rw [e2] at e3;cases e3;obtain ⟨l2,e4⟩:=up b _ (mk.keeps _ _ e2) nf;exact ⟨l2,e4⟩
 ·obtain ⟨o',e2⟩:=I1.base.there b o e1 (nx b)
  exact I1.base.free b o e1 n (nx b)
end
section
variable {X:Cx} {k:Nat} {f C:Addr} {fd:FuncData} {ps:List Str} {sp:Sp} {gR:List V} {ds:List Value} {x m:Str} {p pos apos:Pos} {e o:Expr} {es:List Expr} {ta:TE} {t:TA}
variable {te:TX} {i:Nat} {pos':Pos}
end
section
variable {X:Cx} {pins:cf} {σ:St} {H:Hp} {s:Shared} {ea:Addr}
end
section
variable {M:Model} {A:Around} {E:cX} {h:Heap} {g:Array GenState} {d:Drawn} {t:Nat} {os:OsState} {e:Addr} {oe:Obj} {Q:Bool->Shared->Prop}
variable {nm q nm' q':Str} {C N D N':Addr} {bs bm bs' bm':List Value} {hdct alq:Bool} {sn sn':List Str} {sub als:List Value} {ab ab':Bool} {col alv:Option Bool} {dd dd':Option Addr} {k0 k1 k2 k3 k5 j0 j1 j2 j3 j5:Option Value} {newId alx:String}
end
section
variable {X:Cx} {body:List Stmt} {b₀:Stmt} {aly:List Stmt} {np alz pos:Pos} {x n:Str} {D:Addr} {tb:TSX} {ts:TS} {wX:List Value} {newId:String} {i:Nat}
end
section
variable {P:Program} {w:World} {K:aQ} {mg:eK} {base:Heap}
variable {x qual:Str} {st:Stmt} {fd:FuncData} {N ps:List Str} {k:Nat} {sp:Sp}
theorem gS.IV{f:Addr}(F:gS K x qual st f fd)(S:bw N ps (aR st))(len:∀vs H Q E,sp vs H Q E->vs.length=ps.length)
  (mT:∀(bN:Value) (A:Around) (outer:List Env) (s:Shared) (H:Hp) (vs:List V) (Q:VK) (E:XK),eP k (A.deeper (envOfC qual (aR st) s.heap.objs.size f bN))->sp vs H Q E->
   wV (kO (eF P w) P w K mg base N qual (aR st) f bN A outer s H E) E->
   ∃t,gO (kO (eF P w) P w K mg base N qual (aR st) f bN A outer s H E) (iH st) t/\t {nx:=λ_ H'=>Q .bg H',rt:=Q} (start N vs) H):aO P w K mg base (eF P w) (k+1) f fd ps sp:=by
 obtain ⟨oc,od,kV,doc,pm,an,bN,ct,ib,rfl,lk,hJ⟩:=F.ex;exact IC lk hJ S len λA outer s H vs Q E hr l_=>mT bN A outer s H vs Q E hr l_ ⟨rfl,rfl,rfl,rfl⟩
theorem gS.d8{f:Addr}(F:gS K x qual st f fd)(S:bw N ps (aR st))
  (mT:∀(bN:Value) (A:Around) (outer:List Env) (s:Shared) (H:Hp) (vs:List V) (Q:VK) (E:XK),eP k (A.deeper (envOfC qual (aR st) s.heap.objs.size f bN))->sp vs H Q E->
   wV (kO (eF P w) P w K mg base N qual (aR st) f bN A outer s H E) E->
   ∃t,gO (kO (eF P w) P w K mg base N qual (aR st) f bN A outer s H E) (iH st) t/\t {nx:=λ_ H'=>Q .bg H',rt:=Q} (start N vs) H)
  (len:∀vs H Q E,sp vs H Q E->vs.length=ps.length:=by intro vs H Q E h;repeat first | (obtain ⟨rfl,_⟩:=h;rfl) | (subst h;rfl) | obtain ⟨_,h⟩:=h):aO P w K mg base (eF P w) (k+1) f fd ps sp:=F.IV S len mT
end
structure sQ (K:aQ) (C:Addr):Prop where
 ci:PySem.W.hasDictIn K C=true
 ga:PySem.W.findIn K (.ref C) "__getattribute__"=some (some (.builtin "BaseException.__getattribute__"))
 gn:PySem.W.findIn K (.ref C) "__getattr__"=some none
 ca:PySem.W.findIn K (.ref C) "__class__"=some (some (.builtin "object.__class__"))
 mo:PySem.W.mroIn K C (.type "object")=some true
 mb:PySem.W.mroIn K C (.type "BaseException")=some true
section
variable {prog:Program} {w:World} {A:Around} {E:cX} {h:Heap} {g:Array GenState} {d:Drawn} {t:Nat} {os:OsState} {K:aQ} {a C:Addr} {o:Obj}
theorem WM{R:Result->Shared->Prop}(ed:K.In h)(c:sQ K C)(hx:h.get? a=some o)(hc:o.cls=.ref C)(hq:R (.ok (.ret (.ref C))) ⟨h,g,d,t,os⟩) :
  codeAny (model prog w) A (.call (.builtin "getset_descriptor.__get__") ⟨[.builtin "object.__class__",.ref a,.ref C],[]⟩) R ⟨h,g,d,t,os⟩:=by
 have DT:(⟨h,g,d,t,os⟩:Shared).TypeIs (.builtin "object.__class__") "getset_descriptor":=HR;have L1:=PySem.W.looks_mroIn (M:=model prog w) ed c.mo;have ow:=F.owner_object_class;refine codeAny_call_builtin F.slot_gs_get.plain F.entry_gs_get (F.slot_gs_get.check _ _ _ _ _ _ _ _ DT (F.args_gs_get _ _ _) ?_)
 repeat (any_goals (first | assumption | (with_reducible refine Ao hx ?_;rw [hc]) | (rw [ow];with_reducible refine L1.at ?_) | wp_step))
 refine ⟨Code.quiet_builtin _ (by decide +kernel),codeAny_builtin F.entry_object_class ?_⟩
 repeat (any_goals (first | assumption | (with_reducible refine Ao hx ?_;rw [hc]) | wp_step))
variable {tk:Tok}
theorem WN{Q:Fin->Shared->Prop}(ed:K.In h)(c:sQ K C)(hx:h.get? a=some o)(hc:o.cls=.ref C)(hq:Q (.done (.ret (.ref C))) ⟨h,g,d,t,os⟩) :
  wpAny (model prog w) A (Builtin.«object.__getattribute__» ⟨[.ref a,.str "__class__" tk],[]⟩) Q E ⟨h,g,d,t,os⟩:=by
 have DT:(⟨h,g,d,t,os⟩:Shared).TypeIs (.builtin "object.__class__") "getset_descriptor":=HR;have L1:=C6 (M:=model prog w) ed c.ca;have f5:=HR;have f6:=F.slot_gs_get.lookup;have f7:=F.slot_gs_set.lookup
 repeat (any_goals (first | assumption | (with_reducible refine Ao hx ?_;rw [hc]) | with_reducible refine L1.at ?_ | wp_step))
 refine WM ed c hx hc ?_
 repeat (any_goals (first | assumption | wp_step))
theorem WO{M:Model}{nv:Value}{Q:Unit->Shared->Prop}(ed:K.In h)(c:sQ K C)(hx:h.get? a=some o)(hc:o.cls=.ref C)(hq:Q () ⟨h,g,d,t,os⟩) :
  wpAny M A (checkBuiltinCall "BaseException.__getattribute__" ⟨[.ref a,nv],[]⟩) Q E ⟨h,g,d,t,os⟩:=by
 have hk:builtinKind "BaseException.__getattribute__"=some .slot:=by decide +kernel
 have hs:splitId "BaseException.__getattribute__"=some ("BaseException","__getattribute__"):=by decide +kernel
 have L1:=PySem.W.looks_mroIn (M:=M) ed c.mb;have ha:=F.args_bexc_ga (.ref a) nv;simp only [checkBuiltinCall,hk,hs];refine c_ ?_;unfold isInstance
 repeat (first | (with_reducible refine Ao hx ?_;rw [hc]) | with_reducible refine L1.at ?_ | wp_step)
 exact hq
theorem WQ{fill expr:Bool}{Q:cX}(ed:K.In h)(c:sQ K C)(hx:h.get? a=some o)(hc:o.cls=.ref C)(hq:Q (.ref C) ⟨h,g,d,t,os⟩) :
  wpAny (model prog w) A (getAttrBy (.ref a) (.str "__class__" tk) fill expr) Q E ⟨h,g,d,t,os⟩:=by
 have f3:=F.attrBase_ValueError.ga.bind (.ref a);have z0:(expr && onTheHeap (Value.builtin "BaseException.__getattribute__"))=false:=by cases expr <;> rfl
 have z2:(Value.builtin "BaseException.__getattribute__" == Value.builtin "object.__getattribute__")=false:=by decide +kernel
 have z1:(onTheHeap (Value.ref C) && Value.builtin "BaseException.__getattribute__" == Value.builtin "object.__getattribute__")=false:=by rw [z2];rfl
 have L1:=C6 (M:=model prog w) ed c.ga;have L2:=C6 (M:=model prog w) ed c.gn
 repeat (any_goals (first | assumption | (with_reducible refine Ao hx ?_;rw [hc]) | with_reducible refine L1.at ?_ | with_reducible refine L2.at ?_ | wp_step))
 refine codeAny_call_builtin F.attrBase_ValueError.ga.plain F.entry_bexc_ga (WO ed c hx hc (WN ed c hx hc ?_))
 repeat (any_goals (first | assumption | wp_step))
theorem WR{Q:Option Value->Shared->Prop}(ed:K.In h)(c:sQ K C)(hx:h.get? a=some o)(hc:o.cls=.ref C)(hq:Q (some (.ref C)) ⟨h,g,d,t+1,os⟩) :
  wpAny (model prog w) A (getAttr? (.ref a) "__class__") Q E ⟨h,g,d,t,os⟩:=by
 unfold getAttr? getAttrBy?
 repeat (any_goals (first | assumption | with_reducible apply WQ ed c hx hc | wp_step))
theorem WS(c:sQ K C):PySem.W.KitX K (.ref a) (.ref C) (ExcAt a C) where
 ty:=λM h _ k=>by intros am7 k oe e1 e2 _;exact e2▸(PySem.W.Looks.ld e1).andThen .now
 it:=λM h ed _=>by
  obtain ⟨cd,hc,_⟩:=PySem.W.any_some c.ci;unfold PySem.W.clsIn at hc
  split at hc
  ·rename_i look
   intro A' Q' E' s' k q;unfold isType loadHead;exact c_ (wpAny_loadPart (k _ _ (ed _ _ look)) (fN q))
  ·cases hc
 ne:=λh tp dd av n sl ed WT=>by
  obtain ⟨cd,hc,_⟩:=PySem.W.any_some c.ci;refine Bool.eq_false_iff.mpr λq=>?_;have e:C=tp:=Value.ref.inj (nJ.mp q);subst e;unfold PySem.W.clsIn at hc
  split at hc
  ·rename_i look
   have z:=(ed _ _ look).symm.trans WT;cases z
  ·cases hc
 ca:=fun{prog w A E Q s} ed k z=>by intros am7 k oe e1 e2 _;obtain ⟨h,g,d,t,os⟩:=s;exact WR ed c e1 e2 z
end
def DU(a:Addr)(h:Heap):Prop:=∃o ep,h.get? a=some o/\o.ExactDict/\o.data=.dict #[] ep/\(a == sysModules)=false
theorem DU.Bb{a:Addr}(e:DU a h):PySem.W.KitAt a "dict" h:=by intros am13 e o _ e c _;exact (ad o e c.1)
def Oy(a:Addr):HO:=.ext (DU a)
inductive Bc (K:aQ) (H:Hp):V->Value->Prop where
 | of {x:V} {t:Value} (h:kL K H x t):Bc K H x t
 | exc {a C:Addr} (e:H a=some (WD a C)) (c:sQ K C):Bc K H (.ref a) (.ref C)
 | sP {a:Addr} (e:H a=some (Oy a)):Bc K H (.ref a) (.type "dict")
def Oz:V->Value
 | .ty n=>.type n
 | .ref a=>.ref a
 | _=>.none
def WU:V->Bool
 | .ty _=>true
 | .ref _=>true
 | _=>false
def WV(K:aQ):List V->Hp->VK->Prop:=λxs H Q=>∃x c t b,xs=[x,c]/\WU c=true/\Bc K H x t/\PySem.W.kitOne K t (Oz c)=some b/\Q (.bl b) H
variable {X:Cx}
theorem ma(hK:X.K=K:=by rfl):jH X (.builtin "isinstance") (WV K):=by
 intro pins s σ H xs us Q I r h;subst hK;intros am24 h x c t b rfl hc ty amA e q;obtain ⟨u,cv,rfl,rx,rc⟩:=vals2 r;have ec:cv=Oz c:=by
  cases c with
  | ty n=>exact rc
  | ref a=>exact rc
  | _=>cases hc
 subst ec;cases ty with
 | of ty=>exact VN I rx ty e λtk=>⟨.bl b,H,I.tok tk,rfl,q⟩
 | @sP a ea=>cases rx;obtain ⟨k,_,_⟩:=(show gu X.prog X.w H s.heap a (.ext (DU a)) from I.aT a _ ea);exact kz PySem.W.kitx_dict I.fK k.Bb e (λz=>nomatch z) λtk=>⟨.bl b,H,I.tok tk,rfl,q⟩
 | @exc a C ea cc=>cases rx;obtain ⟨k,_,_⟩:=(show gu X.prog X.w H s.heap a (.ext (ExcAt a C)) from I.aT a _ ea);exact kz (WS cc) I.fK k e (λz=>nomatch z) λtk=>⟨.bl b,H,I.tok tk,rfl,q⟩
def ji:List V->List V->Bool
 | [],[]=>true
 | x::xs,y::ys=>iG x y && ji xs ys
 | _,_=>false
def DV(K:aQ)(neg:Bool):R2:=λx y H Q=>∃a b xs ys,x=.ref a/\y=.ref b/\h_ K H a xs/\h_ K H b ys/\xs.all iY=true/\ys.all iY=true/\Q (.bl (if neg then !ji xs ys else ji xs ys)) H
theorem IW{A:Around}{s:Shared}:∀{xs ys:List V} {us vs:List Value},Vals xs us->Vals ys vs->xs.all iY=true->ys.all iY=true->
  ∃e:Nat->Bool,(∀j (h1:j<us.length) (h2:j<vs.length),SeqAt.EqAt A s us[j] vs[j] (e j))/\((List.range (min us.length vs.length)).all e && us.length == vs.length)=ji xs ys
 | [],[],_,_,.nil,.nil,_,_=>⟨λ_=>true,λj h1=>absurd h1 (mG _),by simp [ji]⟩
 | [],_::_,_,_,.nil,.cons _ _,_,_=>⟨λ_=>true,λj h1=>absurd h1 (mG _),by simp [ji]⟩
 | _::_,[],_,_,.cons _ _,.nil,_,_=>⟨λ_=>true,λj _ h2=>absurd h2 (mG _),by simp [ji]⟩
 | x::xs,y::ys,u::us,v::vs,.cons r1 t1,.cons r2 t2,f1,f2=>by
  rw [vZ,v_] at f1 f2;obtain ⟨e,h,q⟩:=IW (A:=A) (s:=s) t1 t2 f1.2 f2.2;refine ⟨λj=>match j with | 0=>iG x y | k+1=>e k,λj h1 h2=>?_,?_⟩
  ·cases j with
   | zero=>exact AZ r1 r2 f1.1 f2.1
   | succ k=>exact h k (by simpa using h1) (by simpa using h2)
  ·have em:min (u::us).length (v::vs).length=min us.length vs.length+1:=by simp only [df];lia
   rw [em,HS,vZ,List.all_map];show (iG x y && (List.range (min us.length vs.length)).all e && ((us.length+1) == (vs.length+1)))=(iG x y && ji xs ys);rw [<-q];have eb:((us.length+1) == (vs.length+1))=(us.length == vs.length):=by rw [vX,nJ,nJ];lia
   rw [eb,Bool.and_assoc]
theorem OA(hu:X.A.units<cLine):cT X (compareOp .Eq) (DV X.K false):=by
 intro pins s σ H x y v u Q I rx ry h;intros am24 h a b xs ys rfl rfl h1 am4 h2 f1 f2 q;cases rx;cases ry;obtain ⟨us,r1,t1,_⟩:=I.tuple h1;obtain ⟨vs,r2,t2,_⟩:=I.tuple h2;obtain ⟨e,he,eq⟩:=IW (A:=X.A.in1) (s:=s) r1 r2 f1 f2;refine SeqAt.eq_tupleAt (e:=e) t1 t2 hu (λj z1 z2=>by simpa using he j (by simpa using z1) (by simpa using z2)) (ce (.bl (ji xs ys)) H I ?_ q)
 show _=Value.bool (ji xs ys);rw [<-eq];simp
theorem WW(hu:X.A.units<cLine):cT X (compareOp .NotEq) (DV X.K true):=by
 intro pins s σ H x y v u Q I rx ry h;intros am24 h a b xs ys rfl rfl h1 am4 h2 f1 f2 q;cases rx;cases ry;obtain ⟨us,r1,t1,_⟩:=I.tuple h1;obtain ⟨vs,r2,t2,_⟩:=I.tuple h2;obtain ⟨e,he,eq⟩:=IW (A:=X.A.in1) (s:=s) r1 r2 f1 f2;refine SeqAt.RcNeAt.tuples (e:=e) t1 t2 hu (λj z1 z2=>by simpa using he j (by simpa using z1) (by simpa using z2)) _ _ _ _ (ce (.bl (!ji xs ys)) H I ?_ q)
 show _=Value.bool (!ji xs ys);rw [<-eq];simp
theorem boot_isinstance:bootBuiltins "isinstance"=some (.builtin "isinstance"):=by decide +kernel
theorem boot_abs:bootBuiltins "abs"=some (.builtin "abs"):=by decide +kernel
theorem boot_min:bootBuiltins "min"=some (.builtin "min"):=by decide +kernel
theorem boot_int:bootBuiltins "int"=some (.type "int"):=by decide +kernel
theorem boot_bool:bootBuiltins "bool"=some (.type "bool"):=by decide +kernel
theorem boot_tuple:bootBuiltins "tuple"=some (.type "tuple"):=by decide +kernel
theorem boot_list:bootBuiltins "list"=some (.type "list"):=by decide +kernel
end L2
namespace My
open PySem L2
def iZ(n:Int):Bool:=(List.range 32).all λe=>decide (e<2) || decide (n<(e:Int)*(e:Int)) || decide (n % (e:Int)≠0)
def ph(n:Int):Bool:=(List.range 32).all λe=>decide (e<2) || decide (n<=(e:Int)) || decide (n % (e:Int)≠0)
set_option maxRecDepth 100000 in
theorem WX:∀k:Nat,k<998->(k<2\/iZ (k:Int)=ph (k:Int)):=by decide +kernel
variable {n:Int}
theorem WY(h1:2<=n)(h2:n<=997):iZ n=ph n:=by
 obtain ⟨k,rfl⟩:∃k:Nat,n=(k:Int):=⟨n.toNat,⋯⟩
 rcases WX k ⋯ with h | h
 ·lia
 ·exact h
variable {d:Int}
theorem OB(h2:n<=997)(hd:2<=d)(hq:d*d<=n)(hm:n % d=0):iZ n=false:=by
 have hd2:d<32:=by
  by_cases h:d<32;·exact h
  ·have:32*32<=d*d:=Int.mul_le_mul ⋯ ⋯ ⋯ ⋯
   lia
 obtain ⟨k,rfl⟩:∃k:Nat,d=(k:Int):=⟨d.toNat,⋯⟩
 cases e:iZ n with
 | false=>rfl
 | true=>
  have z:=nK.mp e k (gs.mpr ⋯)
  simp only [C_,De] at z;rcases z with (z | z) | z;·lia
  ·lia
  ·exact absurd hm z
theorem WZ(hq:n<d*d)(hd:2<=d)(hm:∀e:Int,2<=e->e<d->n % e≠0):iZ n=true:=by
 refine nK.mpr λk _=>?_;simp only [C_,De];by_cases h1:k<2;·exact .inl (.inl h1)
 ·by_cases h2:n<(k:Int)*(k:Int)
  ·exact .inl (.inr h2)
  ·refine .inr (hm k ⋯ ?_)
   by_cases h3:(k:Int)<d;·exact h3
   ·have:d*d<=(k:Int)*(k:Int):=Int.mul_le_mul ⋯ ⋯ ⋯ ⋯
    lia
theorem W0(hd:2<=d)(h32:d<32)(hn:d<n)(hm:n % d=0):ph n=false:=by
 obtain ⟨k,rfl⟩:∃k:Nat,d=(k:Int):=⟨d.toNat,⋯⟩
 cases e:ph n with
 | false=>rfl
 | true=>
  have z:=nK.mp e k (gs.mpr ⋯)
  simp only [C_,De] at z;rcases z with (z | z) | z;·lia
  ·lia
  ·exact absurd hm z
theorem W2(hm:∀e:Int,2<=e->e<32->e<n->n % e≠0):ph n=true:=by
 refine nK.mpr λk hk=>?_;have:=gs.mp hk;simp only [C_,De];by_cases h1:k<2;·exact .inl (.inl h1)
 ·by_cases h2:n<=(k:Int)
  ·exact .inl (.inr h2)
  ·exact .inr (hm k ⋯ ⋯ ⋯)
inductive Td where
 | a (w:Str)
 | b (w:Str) (n:Int)
def Td.vs:Td->List V
 | .a w=>[.str w]
 | .b w n=>[.str w,.int n]
def Td.Bd:Td->Bool
 | .a w=>decide (w="fractions")
 | .b _ _=>false
def Td.me:Td->Bool
 | .a _=>false
 | .b w n=>decide (w="wheel") && (decide (2<=n) && decide (n<=997) && iZ n)
def Td.good(d:Td):Bool:=d.Bd || d.me
def Td.prime:Td->V
 | .a _=>.bg
 | .b _ n=>.int n
end My
namespace L2
open PySem PySem.Spec PyProof.Rows
abbrev Cx.bZ (X:Cx) (N:List Str) (scope:Scope) (cl:List (Str×Addr)) (s₃:Shared) (H₃:Hp) (fp:List Addr):Cx:=
 {X with N:=N,s₀:=s₃,H₀:=H₃,env:=compEnvC scope cl s₃.heap.objs.size X.env,outer:=X.stack,stack:=X.stack,ex:=fp,fn:=λ_=>false,pn:=[],xe:=λ_ _=>False}
inductive mf (X:Cx):List Expr->TT->Prop where
 | nil:mf X [] (λ_ H Q=>Q true H)
 | one {c:Expr} {t:TT} (h:PT X c t):mf X [c] t
def jL(wi:TI)(ρ:St->St)(tt:TT)(te:TE):TE:=λσ H Q=>wi σ H λJ H1=>∀D,H1 D=none->∃W:Nat->Nat->List V->Hp->Prop,(∃m,W 0 m [] (upd H1 D (.lst []))) /\
 ∀i m ys Hc,W i m ys Hc->Hc D=some (.lst ys)/\((J.stop i Hc/\Q (.ref D) Hc)\/(J.go i Hc/\∀x H',J.gv i Hc x H'->tt (some x::ρ σ) H' λb H2=>
  if b=true then te (some x::ρ σ) H2 λy H3=>H3 D=some (.lst ys)/\ys.length<sizeLine/\∃m',m'<m/\W (i+1) m' (ys++[y]) (upd H3 D (.lst (ys++[y]))) else ∃m',m'<m/\W (i+1) m' ys H2))
section
variable {X:Cx} {N:List Str} {scope:Scope} {cl:List (Str×Addr)} {x:Str} {px pos:Pos} {iter elt:Expr} {ifs:List Expr} {wi:TI} {ρ:St->St} {tt:TT} {te:TE}
structure IY (X:Cx) (N:List Str) (scope:Scope) (cl:List (Str×Addr)) (x:Str) (ρ:St->St):Prop where
 sR:closureFor scope X.env=pure cl
 kind:scope.kind=.function
 Be:∀y∈scope.names,y.2≠.cell
 names:∀y∈scope.names,y.2=.local->scope.names.lookup y.1=some .local
 sub:∀p∈cl,X.env.cells.lookup p.1=some p.2
 has:∀y,((relabel scope X.env).names.lookup y=some .cell\/(relabel scope X.env).names.lookup y=some .free)->∃c,cl.lookup y=some c
 n0:N[0]?=some x
 nd:N.Nodup
 hx:scope.names.lookup x=some .local
 sS:∀(σ:St) (j:Nat) (v:V),(ρ σ)[j]?=some (some v)->∃(i:Nat) (y:Str),N[j+1]?=some y/\X.N[i]?=some y/\σ[i]?=some (some v)/\oW X.env.scope y/\(X.env.kindOf y=some .cell\/X.env.kindOf y=some .free)/\((relabel scope X.env).names.lookup y=some .cell\/(relabel scope X.env).names.lookup y=some .free)
 len:∀σ:St,σ.length=X.N.length->(ρ σ).length+1=N.length
theorem OC{names:List (Str×NameKind)}(h:(names.all λq=>(q.2 != .cell && q.2 != .free) || (cl.lookup q.1).isSome)=true) :
  ∀y,(names.lookup y=some .cell\/names.lookup y=some .free)->∃c,cl.lookup y=some c:=λy hy=>by
 have key:∀k:NameKind,(k != .cell && k != .free)=false->names.lookup y=some k->∃c,cl.lookup y=some c:=λk hk e=>by have z:=nK.mp h (y,k) (lM e);rw [hk,Bool.false_or] at z;exact HQ.mp z
 rcases hy with e | e;·exact key .cell rfl e
 ·exact key .free rfl e
theorem join_some{o:Option (Option V)}{v:V}(h:some o.join=some (some v)):o=some (some v):=by
 cases o with
 | none=>cases h
 | some o=>cases h;rfl
def DW(X:Cx)(sc:Scope):List Str->List Nat->Prop
 | n::ns,i::is=>(X.N[i]?=some n/\oW X.env.scope n/\(X.env.kindOf n=some .cell\/X.env.kindOf n=some .free)/\((relabel sc X.env).names.lookup n=some .cell\/(relabel sc X.env).names.lookup n=some .free))/\DW X sc ns is
 | _,[]=>True
 | [],_::_=>False
theorem IZ{X:Cx}{sc:Scope}:∀{ns:List Str} {is:List Nat},DW X sc ns is->∀(σ:St) (j:Nat) (v:V),(is.map λi=>σ[i]?.join)[j]?=some (some v)->∃(i:Nat) (n:Str),ns[j]?=some n/\X.N[i]?=some n/\σ[i]?=some (some v)/\oW X.env.scope n/\(X.env.kindOf n=some .cell\/X.env.kindOf n=some .free)/\((relabel sc X.env).names.lookup n=some .cell\/(relabel sc X.env).names.lookup n=some .free)
 | _,[],_,_,_,_,e=>by cases e
 | [],_::_,h,_,_,_,_=>h.elim
 | n::_,i::_,h,_,0,_,e=>(gl i n rfl h.1.1 (join_some e) h.1.2)
 | _::_,_::_,h,σ,j+1,v,e=>IZ h.2 σ j v e
theorem cP(is:List Nat)(h1:closureFor scope X.env=pure cl)(h:DW X scope N.tail is:=by repeat' first | exact True.intro | refine And.intro ⟨rfl,Or.inr (Or.inl rfl),.inl rfl,.inl rfl⟩ ?_)(h2:scope.kind=.function:=by rfl)(h3:∀y∈scope.names,y.2≠.cell:=by decide +kernel)(h4:∀y∈scope.names,y.2=.local->scope.names.lookup y.1=some .local:=by decide +kernel)(h5:∀p∈cl,X.env.cells.lookup p.1=some p.2:=by repeat' first | exact Df _ | refine qp.mpr ⟨rfl,?_⟩)(h6:((relabel scope X.env).names.all λq=>(q.2 != .cell && q.2 != .free) || (cl.lookup q.1).isSome)=true:=by rfl)(h7:N[0]?=some x:=by rfl)(h8:N.Nodup:=by decide +kernel)(h9:scope.names.lookup x=some .local:=by rfl)(hr:∀σ:St,ρ σ=is.map λi=>σ[i]?.join:=by exact λ_=>rfl)(hl:is.length+1=N.length:=by rfl):IY X N scope cl x ρ:=
 ⟨h1,h2,h3,h4,h5,OC h6,h7,h8,h9,λσ j v e=>by rw [hr] at e;rw [<-List.getElem?_tail];exact IZ h σ j v e,λσ _=>by rw [hr,aV];exact hl⟩
theorem dA(B:IY X N scope cl x ρ)(hc:X.calm=true)(hi:PI X (.Name x px) iter wi)(ht:∀s₃ H₃ fp,mf (X.bZ N scope cl s₃ H₃ fp) ifs tt)(he:∀s₃ H₃ fp,PE (X.bZ N scope cl s₃ H₃ fp) elt te)
  (hs:∀x,foldedSetIterable iter X.env x=pure x:=by intro _;rfl):PE X (.ListComp elt [⟨.Name x px,iter,ifs,0⟩] scope pos) (jL wi ρ tt te):=by
 intro pins s σ H Q I h
 rw [eval_ListComp]
 refine Ap (use:=none) rfl hs B.sR B.kind B.names (bh (hi pins s σ H _ I h) λv s1 h1=>bh h1 λsI s2 h2=>?_)
 intros am33 h2 it fp tn J H2 rfl I2 T gH f2 q2
 have nD:H2 s2.heap.objs.size=none:=I2.aT.fresh (aP _)
 obtain ⟨W,⟨m0,w0⟩,turn⟩:=q2 _ nD
 refine vW (Dg B.Be (by intro y hy;simp at hy) (λh₁ gI ig=>?_) B.kind)
 dsimp only at gI ig ⊢
 generalize hD:s2.heap.objs.size=D at nD w0 turn gI ig ⊢
 generalize gh:({s2 with heap:=s2.heap.push {cls:=.type "list",dict:=none,data:=.seq ([]:List Value).toArray}}:Shared)=s3
 have I3:Inv X pins σ (upd H2 D (.lst [])) s3:=by
  subst hD gh
  exact I2.laid (t':=s2.toks) (λb u e=>dZ _ e) (aP _) ⟨f_ _,[],_,.nil,iz _ rfl⟩
 have e3:s3.heap=s2.heap.push {cls:=.type "list",dict:=none,data:=.seq ([]:List Value).toArray}:=by rw [<-gh]
 have fP:∀b o,s2.heap.get? b=some o->s3.heap.get? b=some o:=λb o e=>by rw [e3];exact dZ _ e
 rw [<-e3] at gI ig ⊢
 have below:∀b o,s3.heap.get? b=some o->b≠s3.heap.objs.size:=λb o e=>f9 (cB e)
 have dY:∀b o,s3.heap.get? b=some o->h₁.get? b=some o:=λb o e=>ig.extBut b o (below b o e) (dZ _ e)
 have gT:∀b∈fp,∃o,s2.heap.get? b=some o/\∀v,o.data≠.cell v:=T.obj _ _ gH
 have pj:∀b∈fp,b≠D:=λb hb z=>by
  obtain ⟨o,e,_⟩:=gT b hb
  rw [z,<-hD] at e
  exact absurd (cB e) (iy _)
 have dj:∀y c,cl.lookup y=some c->X.env.cells.lookup y=some c:=λy c e=>B.sub (y,c) (lM e)
 have pk:=I3.sD
 have d8:(X.bZ N scope cl s3 (upd H2 D (.lst [])) fp).Ok:=by
  refine ⟨I.ok.mod,B.kind,I.ok.glob,I.ok.blt,aP _,λa b c e1 e2=>I.ok.inj a b c (dj a c e1) (dj b c e2),λy hy=>B.has y hy,(λ_ _ z _=>absurd z d3),(λ_=>I.ok.hd hc),I.ok.frames,.inl rfl,λb hb=>⟨?_,λy c e z=>?_⟩,λb o e=>?_,au I.ok.iX I3.sz,λb o e hb=>?_,λb hb z=>?_,I3.stack,pk⟩
  ·obtain ⟨o,e,_⟩:=gT b hb
   exact below b o (fP b o e)
  ·exact (f2 b hb).2.2.2.2.1 y c (dj y c e) z
  ·exact I3.bs b o e
  ·rcases (f2 b hb).2.2.2.1 with z | z
   ·exact I.ok.oX b o e z
   ·exact absurd (dQ (cB e) (au I.ok.iX z)) (iy _)
  ·rcases fM.mp (I3.sC b z) with z | z
   ·exact (f2 b hb).2.1 z
   ·exact (f2 b hb).2.2.1 z
 have IB:∀tk:Nat,Inv (X.bZ N scope cl s3 (upd H2 D (.lst [])) fp) [] (none::ρ σ) (upd H2 D (.lst [])) {s3 with heap:=h₁,toks:=tk}:=λtk=>by
  refine ⟨d8,rfl,I3.bare,Un.kept dY,(ad _ gI (λj y v e1 e2 e3=>?_)),λy c e=>?_,?_,λy c e=>I3.jZ y c (dj y c e),(λp hp=>nomatch hp),I3.aT.kept dY,?_⟩
  ·cases j with
   | zero=>cases e2
   | succ j=>
    obtain ⟨i,y',a1,a2,a3,a4,a5,a6⟩:=B.sS σ j v e2
    have jj:N[j+1]?=some y:=e1
    rw [jj] at a1
    cases a1
    obtain ⟨m,hn,hl⟩:=I3.loc
    obtain ⟨u,r,l⟩:=hl i y v a2 a3 a4
    refine (ad u r (.inr ⟨a6,?_⟩))
    obtain ⟨c,ec⟩:=B.has y a6
    rcases l with ⟨k,_⟩ | ⟨_,c',j_,z⟩
    ·rcases a5 with q | q <;> (rw [k] at q;cases q)
    ·have:=dj y c ec
     rw [this] at j_
     cases j_
     intros am0 z o ho hd
     exact (db c ec o (dY _ _ ho) hd)
  ·obtain ⟨v,o,ho,hd⟩:=I3.cell y c (dj y c e)
   exact ⟨v,o,dY _ _ ho,hd⟩
  ·exact I3.aT.fresh (aP _)
  ·show (none::ρ σ).length=N.length
   rw [df]
   exact B.len σ I.len
 have fin:∀{σ':St} {H':Hp} {s':Shared},Inv (X.bZ N scope cl s3 (upd H2 D (.lst [])) fp) [] σ' H' s'->Q (.ref D) H'->compPost (model X.prog X.w) X.A X.xe none (EP X pins σ Q) (.ref D) s3.heap.objs.size (.ok .next) s':=fun{σ' H' s'} J q=>by
  obtain ⟨m,hn,_⟩:=J.loc
  refine (ad m hn (λh' dG=>(ce (.ref D) H' ?_ rfl q)))
  have old:∀b o,s3.heap.get? b=some o->b≠s3.heap.objs.size:=below
  have u1:Un (dJ X.stack) fp (upd H2 D (.lst [])) H' s3.heap h':=by
   refine ⟨λb o e n hb hx=>?_,λb o e n hb hx=>?_,J.base.free,λb o e hx=>?_,J.base.iV,J.base.iE,J.base.iW⟩
   ·exact (dG.2 b (old b o e)).trans (J.base.keep b o e n hb hx)
   ·obtain ⟨sl,z⟩:=J.base.slot b o e n hb hx
    exact ⟨sl,(dG.2 b (old b o e)).trans z⟩
   ·obtain ⟨o',z⟩:=J.base.there b o e hx
    exact ⟨o',(dG.2 b (old b o e)).trans z⟩
  have pz:d6 X.prog X.w H' h':=λb u e=>by
   refine (J.aT b u e).kG (λc v hc z=>(dG.2 c λy=>?_).trans z) (λ_ z=>z) λ_ _ z=>z
   have fr:=J.free
   have y':c=s3.heap.objs.size:=y
   rcases hc with hc | hc
   ·rw [<-hc,y'] at e
    exact absurd (fr.symm.trans e) (by simp)
   ·rw [y'] at hc
    exact absurd (fr.symm.trans hc) (by simp)
  refine I3.o5 (s':={s' with heap:=h'}) (ch:=fp) (J.os) u1 pz J.bare λb hb=>?_
  obtain ⟨g0,g1,g2,g3,g4,g5⟩:=f2 b hb
  exact ⟨g3,g1,g4,g5⟩
 have gf:∀{H':Hp},(∀b∈fp,H' b=none)->∀b∈fp,mO (X.bZ N scope cl s3 (upd H2 D (.lst [])) fp) [] H' b:=λhn b hb=>by
  refine ⟨hn b hb,?_,?_,.inl hb,λy c e z=>(f2 b hb).2.2.2.2.1 y c (dj y c e) z,λp hp=>nomatch hp⟩
  ·obtain ⟨o,e,_⟩:=gT b hb
   exact below b o (fP b o e)
  ·exact d8.oY b hb
 have loop:∀tk:Nat,codeAny (model X.prog X.w) X.A (.compLoop (.ListComp elt [⟨.Name x px,iter,ifs,0⟩] scope pos) 0 (.ref it) (.ref D) (compEnvC scope cl s3.heap.objs.size X.env))
   (compPost (model X.prog X.w) X.A X.xe none (EP X pins σ Q) (.ref D) s3.heap.objs.size) {s3 with heap:=h₁,toks:=tk}:=λtk=>by
  refine HU (λn s'=>∃i ys o H',Inv (X.bZ N scope cl s3 (upd H2 D (.lst [])) fp) [] (o::ρ σ) H' s'/\tn i s'.heap/\(∀b∈fp,H' b=none)/\W i n ys H') ?_ m0
   ⟨0,[],none,_,IB tk,T.keep _ _ _ gH λb hb o e=>dY _ _ (fP _ _ e),λb hb=>by rw [cj (pj b hb)];exact (f2 b hb).1,w0⟩
  intro n s4;intros am24 _ i ys o H4 I4 ka ke w4
  obtain ⟨DX,pA⟩:=turn i n ys H4 w4
  rcases pA with ⟨stop,qn⟩ | ⟨go,step⟩
  ·refine cQ (T.done (X.bZ N scope cl s3 (upd H2 D (.lst [])) fp) rfl rfl rfl hc i [] s4 _ H4 (λ_ _=>False) I4 (gf ke) ka stop) (λr s5 ⟨hr,I5⟩=>?_) λ_ _ z=>z.elim
   subst hr
   exact fin I5 qn
  ·refine cQ (T.item (X.bZ N scope cl s3 (upd H2 D (.lst [])) fp) rfl rfl rfl hc i [] s4 _ H4 (λ_ _=>False) I4 (gf ke) ka go) (λr s5 ⟨u,hr,h5⟩=>?_) λ_ _ z=>z.elim
   subst hr
   have z:letOwnedTupleGo (.Name x px) (.ref it) u=pure ():=rfl
   rw [z] at h5
   show wpAny _ _ ((pure ():Sem Unit) >>= λ_=>assign (.Name x px) (compEnvC scope cl s3.heap.objs.size X.env) u) _ _ s5
   refine c_ (cQ h5 (λ_ s5 ⟨y,H5,I5,r5,y5,gg,mP⟩=>?_) λ_ _ z=>z.elim)
   have mQ:=I5.pinned (gf mP) (T.obj _ _ gg)
   have pg:PG (X.bZ N scope cl s3 (upd H2 D (.lst [])) fp) (.Name x px) (aN 0):=dE (i:=0) B.nd B.n0 (.inl (lO B.hx)) (.inr (lO B.hx))
   have again:∀{σ7:St} {H7:Hp} {s7:Shared},Inv (X.bZ N scope cl s3 (upd H2 D (.lst [])) fp) ([]++j7 fp s5.heap) σ7 H7 s7->Inv (X.bZ N scope cl s3 (upd H2 D (.lst [])) fp) [] σ7 H7 s7/\tn (i+1) s7.heap/\∀b∈fp,H7 b=none:=fun{σ7 H7 s7} I7=>by
    refine ⟨I7.qy,T.keep _ _ _ gg λb hb o e=>(I7.pin (b,o) (fG _ (fG _ (lY hb e)))).1,λb hb=>?_⟩
    obtain ⟨o,e,d⟩:=T.obj _ _ gg b hb
    exact (I7.pin (b,o) (fG _ (fG _ (lY hb e)))).2.1
   refine cQ (pg _ s5 _ H5 y u (λσ2 H6=>σ2=some y::ρ σ/\H6=H5) mQ r5 ⟨rfl,rfl⟩) (λ_ s6 ⟨σ6,H6,I6,q6⟩=>?_) λ_ _ z=>z.elim
   obtain ⟨rfl,rfl⟩:=q6
   have pB:=step y _ y5
   have tests:∀{ik:TT},mf (X.bZ N scope cl s3 (upd H2 D (.lst [])) fp) ifs ik->∀{R:Bool->Hp->Prop},ik (some y::ρ σ) H6 R->wpAny (model X.prog X.w) X.A
     (forIn ifs true λc r=>if r=true then do let ok <-isTrue c (compEnvC scope cl s3.heap.objs.size X.env) (eval c (compEnvC scope cl s3.heap.objs.size X.env));pure (ForInStep.yield ok) else pure (ForInStep.yield r))
     (λok s7=>∃H7,Inv (X.bZ N scope cl s3 (upd H2 D (.lst [])) fp) ([]++j7 fp s5.heap) (some y::ρ σ) H7 s7/\R ok H7) (λ_ _=>False) s6:=fun{ik} p {R} hR=>by
    cases p with
    | nil=>exact Aq (ad _ I6 hR)
    | one p=>exact Ar (p _ s6 _ _ _ I6 hR)
   refine cQ (tests (ht s3 _ fp) pB) (λok s7 ⟨H7,I7,q7⟩=>?_) λ_ _ z=>z.elim
   cases ok with
   | false=>
    intros am0 q7 m' gU w7
    obtain ⟨a1,a2,a3⟩:=again I7
    exact (Rs m' gU (i+1) ys (gl _ H7 a1 a2 a3 w7))
   | true=>
    refine cQ (he s3 _ fp _ s7 _ H7 _ I7 q7) (λev s8 ⟨z,H8,I8,r8,mX,hz,m',gU,w8⟩=>?_) λ_ _ z=>z.elim
    refine cQ (nY (X:=X.bZ N scope cl s3 (upd H2 D (.lst [])) fp) _ s8 _ H8 (.ref D) [z] (.ref D) [ev] (λ_ H9=>H9=upd H8 D (.lst (ys++[z]))) I8 rfl (.cons r8 .nil) (o0 D ys z rfl rfl mX hz rfl)) (λ_ s9 ⟨_,H9,I9,_,q9⟩=>?_) λ_ _ z=>z.elim
    subst q9
    obtain ⟨a1,a2,a3⟩:=again I9
    exact ⟨m',gU,i+1,ys++[z],_,_,a1,a2,a3,w8⟩
 have start:=loop (s3.toks+([]:List (Str×Value)).length)
 have es:({s3 with heap:=h₁,toks:=s3.toks+([]:List (Str×Value)).length}:Shared)={s2 with heap:=h₁,toks:=s2.toks+([]:List (Str×Value)).length}:=by rw [<-gh]
 rw [es] at start
 exact As start (T.self _ 0 _ _ _ (T.keep _ _ _ gH λb hb o e=>dY _ _ (fP _ _ e)) start)
end
def b_(i:Int):Prop:=i.natAbs<2 ^ 2048
variable {i:Int}
theorem b_.log(h:b_ i):i.natAbs.log2<2048:=by
 by_cases z:i.natAbs=0;·rw [z];decide
 ·exact (Nat.log2_lt z).mpr h
def OD(i j:Int):Prop:=j≠0/\b_ j
def I_(i j:Int):Prop:=b_ i/\b_ j
theorem I_.ok{j:Int}(h:I_ i j):IntMulOk i j:=by
 have b:∀{k:Int},b_ k->Builtin.Int.intBits k<=2048:=fun{k} hk=>by
  have z:=hk.log;unfold Builtin.Int.intBits
  split <;> lia
 unfold IntMulOk;have e:Builtin.Int.intTooBig ((Builtin.Int.intBits i:Int)+(Builtin.Int.intBits j:Int))=false:=by
  unfold Builtin.Int.intTooBig;have h1:=b h.1;have h2:=b h.2;have h3:(4096:Int)<=bitsLine:=by decide +kernel
  exact fD ⋯
 intro z;rw [v_] at z;have z2:=z.2;rw [show Builtin.Int.intTooBig ((Builtin.Int.intBits i:Int)+(Builtin.Int.intBits j:Int))=false from e] at z2;cases z2
theorem OE:∀{xs:List V} {us:List Value},xs.length=us.length->(∀(i:Nat) (x:V) (u:Value),xs[i]?=some x->us[i]?=some u->RelV x u)->Vals xs us
 | [],[],_,_=>.nil
 | [],_::_,h,_=>by simp at h
 | _::_,[],h,_=>by simp at h
 | x::xs,u::us,h,k=>.cons (k 0 x u rfl rfl) (OE (by simpa using h) λi a b h1 h2=>k (i+1) a b (by simpa using h1) (by simpa using h2))
section
variable {X:Cx}
theorem Ja:cT X (binaryOp .FloorDiv) (rI OD λi j=>.int (i.fdiv j)):=o8 λ_ _ _ _ _ _ _ hc q=>floordiv_int hc.1 q (.inl (HV (dQ hc.2.log ∅)))
theorem kg:cT X (binaryOp .Mult) (rI I_ λi j=>.int (i*j)):=o8 λ_ _ _ _ _ _ _ hc q=>mul_int q hc.ok
def OF(i j:Int):Prop:=0<j/\b_ j
theorem i4:cT X (binaryOp .FloorDiv) (rI OF λi j=>.int (i / j)):=o8 λi j _ _ _ _ _ hc q=>floordiv_int (Int.ne_of_gt hc.1) (by rw [Al i (Int.le_of_lt hc.1)];exact q) (.inl (HV (dQ hc.2.log ∅)))
def allR(K:aQ):List V->Hp->VK->Prop:=λxs H Q=>∃(p:Addr) (bs:List Bool),xs=[.ref p]/\cG K H p (bs.map V.bl)/\Q (.bl (bs.all id)) H
theorem pC{K:aQ}(hc:X.calm=true)(hK:X.K=K:=by rfl):jH X (.builtin "all") (allR K):=by
 intro pins s σ H xs us Q I r h;subst hK;intros am13 h p bs rfl hq q;obtain ⟨u,rfl,ru⟩:=vals1 r;cases ru;obtain ⟨av,rv,pl,hz⟩:=I.list hq;have dB:p≠s.heap.objs.size:=by obtain ⟨o,e,_⟩:=pl.isList;exact f9 (cB e)
 have hl:av.length=bs.length:=by rw [<-rv.length,aV]
 refine call_all_walk (C4 pl.isList ?_);refine ⟨s.heap.objs.size,_,_,_,_,_,λi=>bs.getD i true,rfl,Walks.list (A:=X.A.in1) (show X.A.in1.handled=none from I.ok.hd hc) s.heap.objs.size p dB av.toArray,⟨(am _ (iz _ rfl) rfl rfl),pl.isList.push _⟩,λi v s' Q' E' hv pe=>?_,λh' tk hk=>?_⟩
 ·have fO:av[i]?=some v:=by simpa using hv
  cases eb:bs[i]? with
  | none=>
   have:=rv.none_of (i:=i) (by rw [bu,eb];rfl)
   rw [this] at fO;cases fO
  | some b=>
   obtain ⟨u,hu,ru⟩:=rv.get (i:=i) (x:=V.bl b) (by rw [bu,eb];rfl)
   rw [hu] at fO;cases fO;cases ru;have e:bs.getD i true=b:=by rw [cb,eb];rfl
   have mh:Q' (bs.getD i true) s':=pe;rw [e] at mh;exact nI mh
 ·refine (ce (.bl (bs.all id)) H (I.kept λb o e=>hk b o (λz=>?_) (dZ _ e)) ?_ q)
  ·exact absurd (cB e) (by rw [iC.mp z];exact iy _)
  ·show Value.bool _=Value.bool _
   congr 1
   rw [fh,hl];clear hk q rv pl hz hl hq
   induction bs with
   | nil=>rfl
   | cons b bs ih=>rw [df,HS,vZ,List.all_map,vZ];show (b && (List.range bs.length).all λi=>bs.getD i true)=(b && bs.all id);rw [ih]
def W3:List V->Hp->VK->Prop:=λxs H Q=>∃j:Int,xs=[.int j]/\∀p,H p=none->Q (.ref p) (upd H p (.jC 0 j))
theorem OG:jH X (.type "range") W3:=by intro pins s σ H xs us Q I r h;intros am0 h j rfl q;obtain ⟨u,rfl,ru⟩:=vals1 r;obtain ⟨t,rfl⟩:=ru;refine call_range_1 ⟨.ref s.heap.objs.size,_,I.laid (o:=.jC 0 j) (λb o e=>dZ _ e) (aP _) ⟨_,_,_,iz _ rfl⟩,rfl,q _ (I.aT.fresh (aP _))⟩
def jM(n:Nat):List V:=(List.range n).map λi:Nat=>V.int (i:Int)
def W4:List V->Hp->VK->Prop:=λxs H Q=>∃p n,xs=[.ref p]/\H p=some (.jC 0 (n:Nat))/\n<=10000/\∀l,H l=none->Q (.ref l) (upd H l (.lst (jM n)))
theorem OH(hc:X.calm=true):jH X (.type "list") W4:=by
 intro pins s σ H xs us Q I r h;intros am15 h p n rfl hp hn q;obtain ⟨u,rfl,ru⟩:=vals1 r;cases ru;obtain ⟨t,u,v,e⟩:=(show gu X.prog X.w H s.heap p (.jC 0 n) from I.aT p _ hp);refine call_list_range (n:=n) (I.ok.hd hc) e (small_one ⋯ ⋯ ⋯ ⋯) (by rw [rangeSize_one];split <;> lia) ⋯ λh' tk acc c hk hD hit=>?_
 refine ⟨.ref s.heap.objs.size,_,I.laid (o:=.lst (jM n)) (λb o e=>hk b o e) (aP _) ⟨?_,acc.toList,c,?_,?_⟩,rfl,q _ (I.aT.fresh (aP _))⟩
 ·unfold jM
  rw [aV,gc];exact au hn ∅
 ·refine OE ?_ λi x u h1 h2=>?_
  ·unfold jM
   rw [aV,gc,Array.length_toList,hit.1]
  ·have OI:acc[i]?=some u:=by simpa using h2
   obtain ⟨W5,e'⟩:=hit.2 i u OI;unfold jM at h1;rw [bu] at h1;have hi:i<n:=by have z:=(Array.getElem?_eq_some_iff.mp OI).1;rw [hit.1] at z;exact z
   rw [List.getElem?_range hi] at h1;cases h1;exact ⟨W5,by rw [e'];simp⟩
 ·rw [hD]
end
theorem boot_all:bootBuiltins "all"=some (.builtin "all"):=by decide +kernel
theorem OJ:bootBuiltins "range"=some (.type "range"):=by decide +kernel
def Jb:Expr->Bool
 | .Starred _ _=>false
 | _=>true
variable {es:List Expr}
theorem W6{e:Expr}{env:Env}(h:Jb e=true):starEach (e::es) env=(false,eval e env)::starEach es env:=by cases e <;> first | rfl | cases h
variable {X:Cx} {te:TE} {t:TA}
theorem W7{e:Expr}(hs:Jb e=true)(ha:PE X e te)(hr:PA X es t):PA X (e::es) (mS te t):=
 VQ ha hr (W6 hs)
theorem ae{e:Expr}(ha:PE X e te)(hr:PA X es t)(hs:Jb e=true:=by rfl):PA X (e::es) (mS te t):=W7 hs ha hr
variable {pos pos':Pos} {x:Str}
theorem OK{i:Nat}{e:Expr}(hs:swapsWith e (some (.Name x pos')) pos.line X.env=pure false)(hf:X.fn x=true\/X.env.scope.names.lookup x=some .local)(hN:X.N.Nodup)(hi:X.N[i]?=some x)(hx:Loc X.env.scope x)(he:PE X e te) :
  PS X (.Assign [.Name x pos'] e pos) (o7 te (aN i)):=U8 hN hi hx he hs hf
theorem putL(i:Nat){e:Expr}(hN:X.N.Nodup)(he:PE X e te)(hs:swapsWith e (some (.Name x pos')) pos.line X.env=pure false:=by rfl)(hi:X.N[i]?=some x:=by rfl)(hx:X.env.scope.names.lookup x=some .local:=by rfl) :
  PS X (.Assign [.Name x pos'] e pos) (o7 te (aN i)):=OK hs (.inr hx) hN hi (.inl hx) he
theorem d4(i:Nat){e:Expr}(hN:X.N.Nodup)(he:PE X e te)(hs:swapsWith e (some (.Name x pos')) pos.line X.env=pure false:=by rfl)(hf:X.fn x=true\/X.env.scope.names.lookup x=some .local:=by first | exact .inl rfl | exact .inr rfl | assumption)(hi:X.N[i]?=some x:=by rfl)(hx:X.env.scope.names.lookup x=some .cell:=by rfl) :
  PS X (.Assign [.Name x pos'] e pos) (o7 te (aN i)):=OK hs hf hN hi (.inr hx) he
def W8:V->List V->Hp->VK->Prop:=λx xs H Q=>∃i:Int,x=.int i/\xs=[]/\Q (.int ((Builtin.Int.intBits i:Nat):Int)) H
theorem W9:IE X "int.bit_length" W8:=by intro pins s σ H x xs v us Q I rx rv h;intros am7 h i rfl rfl q;have W_:=rv.zero;subst W_;obtain ⟨t,rfl⟩:=rx;exact call_int_bit_length ⟨.int ((Builtin.Int.intBits i:Nat):Int),H,I.tok _,⟨_,rfl⟩,q⟩
theorem Xa(h:b_ i):Builtin.Int.intBits i<=2048:=by
 have z:=h.log;unfold Builtin.Int.intBits
 split <;> lia
end L2
namespace My
open PySem L2
theorem Jc(a b:Str):decide (V.str a=V.str b)=decide (a=b):=by
 by_cases h:a=b;·subst h;simp
 ·rw [fD h];exact fD λe=>h (V.str.inj e)
theorem eZ(a b:Int):decide (V.int a=V.int b)=decide (a=b):=by
 by_cases h:a=b;·subst h;simp
 ·rw [fD h];exact fD λe=>h (V.int.inj e)
variable {K:aQ}
theorem sU{T:String}:PySem.W.kitOne K (.type T) (.type T)=some true:=by unfold PySem.W.kitOne;rw [ao (beq_self_eq_true _)]
variable {H:Hp} {p:Addr}
theorem a9{o:HO}(h:H p=none):ag H (upd H p o):=λb u e=>by rw [cj (gN e h)];exact e
variable {i:Int}
theorem Xb{α:Type}{xs:List α}(h0:0<=i)(h1:i<xs.length):∃v,dF xs i=some v/\v∈xs:=by
 obtain ⟨k,rfl⟩:∃k:Nat,i=(k:Int):=⟨i.toNat,⋯⟩
 have hk:k<xs.length:=by lia
 exact ⟨xs[k],cK (by simp [hk]),aG _⟩
theorem pD(v:V):([(("prime":Str),v)]:List (Str×V)).lookup ("prime":Str)=some v:=by simp [List.lookup]
inductive Any (H:Hp):V->Prop where
 | bg:Any H .bg
 | bl (b:Bool):Any H (.bl b)
 | int (i:Int):Any H (.int i)
 | str (x:Str):Any H (.str x)
 | lst {a:Addr} {xs:List V} (e:H a=some (.lst xs)):Any H (.ref a)
 | tup {a:Addr} {xs:List V} (e:H a=some (.tup xs)):Any H (.ref a)
 | sP {a:Addr} (e:H a=some (Oy a)):Any H (.ref a)
def kT:V->Bool
 | .int _=>true
 | _=>false
def pF:V->Bool
 | .bl _=>true
 | _=>false
def nZ(H:Hp):V->Bool
 | .ref a=>(match H a with | some (.tup _)=>true | _=>false)
 | _=>false
variable {v:V}
theorem Any.Bb(h:Any H v):∃T:String,Bc K H v (.type T)/\PySem.W.kitOne K (.type T) (.type "int")=some (kT v || pF v)/\PySem.W.kitOne K (.type T) (.type "bool")=some (pF v) /\
  PySem.W.kitOne K (.type T) (.type "tuple")=some (nZ H v):=by
 cases h with
 | bg=>exact ⟨"NoneType",.of .bg,rfl,rfl,rfl⟩
 | bl b=>exact ⟨"bool",.of (.bl b),rfl,rfl,rfl⟩
 | int i=>exact ⟨"int",.of (.int i),rfl,rfl,rfl⟩
 | str x=>exact ⟨"str",.of (.str x),rfl,rfl,rfl⟩
 | lst e=>exact ⟨"list",.of (.lst e),rfl,rfl,by unfold nZ;dsimp only;rw [e];rfl⟩
 | tup e=>exact ⟨"tuple",.of (.tup e),rfl,rfl,by unfold nZ;dsimp only;rw [e];rfl⟩
 | sP e=>exact ⟨"dict",.sP e,rfl,rfl,by unfold nZ;dsimp only;rw [e];rfl⟩
theorem OL(h:pF v=true):kT v=false:=by cases v <;> first | rfl | cases h
def sV(H:Hp):V->Bool
 | .ref a=>(match H a with | some (.tup [.int x,.int y])=>decide (1<=y) && decide (Int.gcd x y=1) | _=>false)
 | _=>false
def DY(p:Int):V->Bool
 | .int i=>decide (0<=i) && decide (i<p)
 | _=>false
def Bf:V->V->Bool
 | .int x,.int y=>decide (1<=y) && decide (Int.gcd x y=1)
 | _,_=>false
theorem Jd{a:Addr}{x y:V}(e:H a=some (.tup [x,y])):sV H (.ref a)=Bf x y:=by unfold sV;dsimp only;rw [e];cases x <;> cases y <;> rfl
theorem Xc{a:Addr}{xs:List V}(e:H a=some (.tup xs))(h:xs.length≠2):sV H (.ref a)=false:=by
 unfold sV;dsimp only;rw [e]
 match xs,h with
 | [],_=>rfl
 | [x],_=>cases x <;> rfl
 | x::y::z::r,_=>cases x <;> (try rfl) <;> cases y <;> rfl
 | [x,y],h=>exact absurd rfl h
theorem Xd(h:nZ H v=false):sV H v=false:=by
 unfold sV;unfold nZ at h;cases v with
 | ref a=>
  dsimp only at h ⊢;cases e:H a with
  | none=>rfl
  | some o=>rw [e] at h;cases o <;> first | rfl | cases h
 | _=>rfl
structure Thing (H:Hp) (v:V):Prop where
 any:Any H v
 two:∀(a:Addr) (x y:V),v=.ref a->H a=some (.tup [x,y])->Any H x/\Any H y/\∀i:Int,y=.int i->b_ i
theorem Xe:Thing H (.int i):=⟨.int i,λa x y e=>by cases e⟩
theorem Xf{x y:V}(e:H p=some (.tup [x,y]))(ax:Any H x)(ay:Any H y)(m:∀i:Int,y=.int i->b_ i):Thing H (.ref p):=⟨.tup e,λa x' y' z h=>by cases z;rw [e] at h;cases h;exact ⟨ax,ay,m⟩⟩
theorem iI{m:Str}(e:(m == ("prime":Str))=false):([(("prime":Str),v)]:List (Str×V)).lookup m=none:=by simp [List.lookup,e]
theorem OM(m n:Nat):Nat.gcd n (m % n)=Nat.gcd m n:=by rw [Nat.gcd_comm n,<-Nat.gcd_rec,Nat.gcd_comm]
theorem DZ(a:Int):(if a<0 then -a else a)=(a.natAbs:Int):=by split <;> lia
def lowG(a b:Int):Int:=if b<0 then 0-(Int.gcd a b:Int) else (Int.gcd a b:Int)
variable {a:Int}
theorem pG{b:Int}(h:b≠0):0<Int.gcd a b:=Au _ (kC.mpr h)
theorem Xg{b:Int}(h:b≠0)(m:b_ b):Int.gcd a b<2 ^ 2048:=bT (Nat.gcd_le_right _ (kC.mpr h)) m
theorem Xh{b:Int}(h:b≠0)(m:b_ b):OD 0 (lowG a b):=by
 have h1:=pG (a:=a) h;have h2:=Xg (a:=a) h m;unfold lowG;refine ⟨by split <;> lia,?_⟩
 unfold b_
 split
 ·rw [show (0-(Int.gcd a b:Int)).natAbs=Int.gcd a b by lia];exact h2
 ·rw [wc];exact h2
theorem b_.of_lt(h1:-(10 ^ 70)<i)(h2:i<10 ^ 70):b_ i:=by
 have h3:i.natAbs<2 ^ 240:=by lia
 exact dQ h3 (dR ∅ ∅)
def ON:Sp:=λvs H Q _=>∃v:V,vs=[v]/\Any H v/\Q (.bl (kT v)) H
def Xi:Sp:=λvs H Q _=>∃a b:Int,vs=[.int a,.int b]/\b_ b/\Q (.int (Int.gcd a b:Int)) H
def Xj:Sp:=λvs H Q _=>∃n:Int,vs=[.int n]/\2<=n/\n<=997/\Q (.bl (iZ n)) H
def Xk:Sp:=λvs H Q _=>∃(p:Addr) (d:Td),vs=[.ref p]/\H p=some (.tup d.vs)/\Q (.bl d.Bd) H
def Xl:Sp:=λvs H Q _=>∃(p:Addr) (d:Td),vs=[.ref p]/\H p=some (.tup d.vs)/\Q (.bl d.me) H
def Xm(C N:Addr):Sp:=λvs H Q E=>∃(x dx p:Addr) (d:Td),vs=[.ref x,.ref p]/\H x=some (.ins C dx [])/\H p=some (.tup d.vs) /\
 (d.good=true->Q .bg (upd H x (.ins C dx [("prime",d.prime)])))/\(d.good=false->E (.ref N) none H)
def da(C:Addr)(H:Hp)(x:Addr)(q:Int):Prop:=∃dx,H x=some (.ins C dx [("prime",if q=0 then .bg else .int q)])
variable {H':Hp} {q:Int}
theorem da.mono{C:Addr}{x:Addr}(h:da C H x q)(s:ag H H'):da C H' x q:=by obtain ⟨dx,e⟩:=h;exact ⟨dx,s _ _ e⟩
def Bg(H:Hp)(q:Int)(v:V):Bool:=if q=0 then sV H v else DY q v
def Xn:Sp:=λvs H Q _=>∃(q:Int) (v:V),vs=[.int q,v]/\Thing H v/\∀H',ag H H'->Q (.bl (Bg H q v)) H'
def Xo:Sp:=λvs H Q _=>∃c:Int,vs=[.int c]/\∀(p:Int) (H':Hp),ag H H'->2<=p->p<=997->iZ p=true->Q (.int p) H'
def OO(m c:Int):Int:=(m*69621+c % 998244353+1) % 1000000007
def D3(ns:List Int)(k:Int):Int:=
 let m:=(ns.take 7).foldl OO (1000003*(k+1))
 let m2:=m*m % 1000000007
 let m3:=(m2+7919*k*k)*48271 % 2147483647
 m3*m3 % 2147483647 / 8
def mY(ns:List Int)(k:Int):Int:=if k<ns.length then ns.getD k.toNat 0 % 10 ^ 40 else D3 ns k
theorem Bh(ns:List Int)(k:Int):0<=mY ns k:=by
 unfold mY
 split
 ·exact fi _ ∅
 ·unfold D3
  exact Av (fi _ ∅) ∅
theorem OP(ns:List Int)(k:Int):mY ns k<10 ^ 40:=by
 unfold mY
 split
 ·exact fH _ ∅
 ·unfold D3
  have:∀a:Int,a % 2147483647 / 8<10 ^ 40:=λa=>by lia
  exact this _
def Xp(K:aQ):Sp:=λvs H Q _=>∃(a:Addr) (ns:List Int) (k:Int),vs=[.ref a,.int k]/\cG K H a (ns.map V.int)/\0<=k/\k<=1000000/\∀H',ag H H'->Q (.int (mY ns k)) H'
def D4(K:aQ):Sp:=λvs H Q _=>∃(a:Addr) (ns:List Int),vs=[.ref a]/\cG K H a (ns.map V.int)/\ns.length<=63/\∀H',Q (.bl true) H'
def kh(v:Int)(i:Nat):List Bool:=((List.range i).filter λe:Nat=>decide ((2+(e:Int))<v)).map λe:Nat=>!decide (v % (2+(e:Int))=0)
theorem Xq{v:Int}{i:Nat}(h:2+(i:Int)<v):kh v (i+1)=kh v i++[!decide (v % (2+(i:Int))=0)]:=by unfold kh;rw [Aw,Dh,Di,Dj,ao (cF h)];rfl
theorem Xr{v:Int}{i:Nat}(h:¬2+(i:Int)<v):kh v (i+1)=kh v i:=by
 unfold kh;rw [Aw,Dh,Dj,aq (by simpa using h)]
 simp
theorem Xs(v:Int)(i:Nat):(kh v i).length<=i:=by unfold kh;rw [aV];exact au (List.length_filter_le _ _) (by simp)
theorem Xt(v:Int):(kh v 30).all id=ph v:=by
 rw [vX];unfold kh;rw [List.all_map,nK];constructor
 ·intro h
  refine W2 λe h1 h2 h3=>?_;have z:=h (e-2).toNat (vV.mpr ⟨gs.mpr ⋯,cF ⋯⟩)
  have e1:(2:Int)+((e-2).toNat:Int)=e:=by lia
  simp only [Function.comp_apply,id,e1,Bool.not_eq_true',decide_eq_false_iff_not] at z;exact z
 ·intro h k hk
  obtain ⟨k1,k2⟩:=vV.mp hk;have k1:=gs.mp k1;have k2:=iS k2;simp only [Function.comp_apply,id,Bool.not_eq_true',decide_eq_false_iff_not];intro hm;rw [W0 (d:=2+(k:Int)) ⋯ ⋯ ⋯ hm] at h
  cases h
set_option maxRecDepth 100000 in
theorem Xu:ph 997=true:=by decide +kernel
theorem Xv(xs:List V)(k:Nat):kR xs none (some (k:Int))=xs.take k:=by unfold kR;rw [HT.V0,HT.Oa,List.drop_zero,Nat.sub_zero];rw [List.take_eq_take_iff];lia
theorem Xw{b:Int}(h:1<=b):((a.fdiv (lowG a b) == a) && (b.fdiv (lowG a b) == b))=decide (Int.gcd a b=1):=by
 have hp:=pG (a:=a) (b:=b) ⋯
 have e:lowG a b=(Int.gcd a b:Int):=by unfold lowG;rw [aq ⋯]
 rw [e];by_cases g:Int.gcd a b=1
 ·rw [g]
  simp [Int.fdiv_one]
 ·rw [fD g]
  have hb:¬b.fdiv (Int.gcd a b:Int)=b:=λz=>by
   rw [Al _ ⋯] at z
   have z2:=Int.ediv_mul_le b (b:=(Int.gcd a b:Int)) ⋯
   rw [z] at z2;have z3:b*2<=b*(Int.gcd a b:Int):=Ax ⋯ ⋯
   lia
  rw [qo.mpr hb,Bool.and_false]
variable {u:Int}
theorem wY{v:Int}(hu:0<u)(h:0<u*v):0<v:=by
 by_cases z:0<v;·exact z
 ·have y:=Ax (show v<=0 by lia) (show 0<=u by lia)
  rw [cI] at y;lia
theorem qA{b:Int}(h:∀d:Nat,(d:Int)∣a->(d:Int)∣b->d=1):Int.gcd a b=1:=h _ (sg ..) (qr ..)
variable {d:Nat}
theorem qB{b:Int}(h:Int.gcd a b=1)(h1:(d:Int)∣a)(h2:(d:Int)∣b):d=1:=by have z:(d:Int)∣((Int.gcd a b:Nat):Int):=Int.dvd_coe_gcd h1 h2;rw [h] at z;exact Nat.dvd_one.mp (Int.natCast_dvd_natCast.mp z)
variable {c:Int}
theorem sW{b:Int}(h:Int.gcd b c=1)(h1:(d:Int)∣b)(h2:(d:Int)∣a*c):(d:Int)∣a:=by
 have hc:Nat.Coprime d c.natAbs:=by have z:Nat.Coprime b.natAbs c.natAbs:=h;exact Nat.Coprime.coprime_dvd_left (Int.ofNat_dvd_left.mp h1) z
 have z:d∣a.natAbs*c.natAbs:=by rw [<-bU];exact Int.ofNat_dvd_left.mp h2
 exact Int.ofNat_dvd_left.mpr (hc.dvd_of_dvd_mul_right z)
theorem wZ{b:Int}(h1:Int.gcd a b=1)(h2:Int.gcd a c=1):Int.gcd a (b*c)=1:=by refine qA λd x y=>?_;exact qB h1 x (sW (a:=b) (b:=a) (c:=c) h2 x y)
theorem Je{b:Int}(h:Int.gcd a b=1):Int.gcd b a=1:=by rw [Int.gcd_comm];exact h
theorem OQ{b:Int}(h:Int.gcd a b=1)(h1:c∣a):Int.gcd c b=1:=qA λd x y=>qB h (jW x h1) y
theorem D5{b:Int}(h:b≠0):Int.gcd (a / (Int.gcd a b:Int)) (b / (Int.gcd a b:Int))=1:=by have z:0<Int.gcd a b:=Au _ (kC.mpr h);exact Int.gcd_ediv_gcd_ediv_gcd z
structure eQ (x m:Int):Prop where
 pos:1<=m
 pH:Int.gcd x m=1
variable {x m y n:Int}
theorem Xx(a:eQ x m)(b:eQ y n)(h:Int.gcd m n=1):eQ (x*n+y*m) (m*n):=by
 have m0:=a.pos;have n0:=b.pos;refine ⟨fk ⋯ ⋯,wZ (qA λd h1 h2=>?_) (qA λd h1 h2=>?_)⟩
 ·have z:(d:Int)∣x*n:=(Int.dvd_add_left (jW h2 (qs ..))).mp h1
  exact qB a.pH (sW h h2 z) h2
 ·have z:(d:Int)∣y*m:=(Int.dvd_add_right (jW h2 (qs ..))).mp h1
  exact qB b.pH (sW (Je h) h2 z) h2
theorem Xy(a:eQ x m)(b:eQ y n)(g k:Nat)(eg:g=Int.gcd m n)(top:Int)(et:top=x*(n / (g:Int))+y*(m / (g:Int)))(ek:k=Int.gcd top (g:Int)) :
  eQ (top / (k:Int)) (m / (g:Int)*(n / (k:Int)))/\top / (k:Int)*(m*n)=(x*n+y*m)*(m / (g:Int)*(n / (k:Int))):=by
 have m0:=a.pos
 have n0:=b.pos
 have gp:0<g:=by rw [eg];exact Au _ (kC.mpr ⋯)
 have kp:0<k:=by rw [ek];exact Au _ (kC.mpr ⋯)
 have c1:=D5 (a:=m) (b:=n) ⋯
 have c2:=D5 (a:=top) (b:=(g:Int)) ⋯
 rw [<-eg] at c1
 rw [<-ek] at c2
 obtain ⟨m',em⟩:=sg (a:=m) (b:=n)
 obtain ⟨n',en⟩:=qr (a:=m) (b:=n)
 obtain ⟨t',e1⟩:=sg (a:=top) (b:=(g:Int))
 obtain ⟨g',e2⟩:=qr (a:=top) (b:=(g:Int))
 rw [<-eg] at em en
 rw [<-ek] at e1 e2
 have g0:(g:Int)≠0:=by lia
 have k0:(k:Int)≠0:=by lia
 have dm:m / (g:Int)=m':=by rw [em];exact lQ _ g0
 have dn:n / (g:Int)=n':=by rw [en];exact lQ _ g0
 have dt:top / (k:Int)=t':=by rw [e1];exact lQ _ k0
 have dg:(g:Int) / (k:Int)=g':=by rw [e2];exact lQ _ k0
 have dk:n / (k:Int)=g'*n':=by rw [en,e2,mH];exact lQ _ k0
 rw [dm,dn] at c1 et
 rw [dt,dg] at c2
 rw [dt,dm,dk]
 have pos:∀{u v:Int},0<u->0<u*v->0<v:=λhu hz=>wY hu hz
 have mp:0<m':=pos (u:=(g:Int)) ⋯ (by rw [<-em];lia)
 have np:0<n':=pos (u:=(g:Int)) ⋯ (by rw [<-en];lia)
 have Xz:0<g':=pos (u:=(k:Int)) ⋯ (by rw [<-e2];lia)
 have tm:Int.gcd top m'=1:=qA λd h1 h2=>by
  rw [et] at h1
  have z:(d:Int)∣x*n':=(Int.dvd_add_left (jW h2 (qs ..))).mp h1
  exact qB a.pH (sW c1 h2 z) (jW h2 ⟨g,by rw [em,fU]⟩)
 have tn:Int.gcd top n'=1:=qA λd h1 h2=>by
  rw [et] at h1
  have z:(d:Int)∣y*m':=(Int.dvd_add_right (jW h2 (qs ..))).mp h1
  exact qB b.pH (sW (Je c1) h2 z) (jW h2 ⟨g,by rw [en,fU]⟩)
 have tt:t'∣top:=⟨k,by rw [e1,fU]⟩
 refine ⟨⟨fk mp (fk Xz np),wZ (OQ tm tt) (wZ c2 (OQ tn tt))⟩,?_⟩
 have q:(k:Int)*t'=x*n'+y*m':=by rw [<-e1,et]
 have l:t'*(m*n)=(k:Int)*t'*(m'*(g'*n')*(g:Int)):=by
  rw [em,en]
  conv=>lhs;rw [show (g:Int)*n'=(k:Int)*g'*n' by rw [<-e2]]
  simp only [mH,fU,Dk]
 rw [l,q,em,en]
 simp only [Int.add_mul,mH,fU,Dk]
def dH(x:Int):Prop:=x.natAbs<=10 ^ 300
theorem XA:(10:Nat) ^ 300<2 ^ 2048:=by decide +kernel
theorem dH.mid(h:dH x):b_ x:=bT h XA
theorem dH.over{g:Int}(h:dH x):dH (x / g):=au (oR x g) h
theorem dH.neg(h:dH x):dH (-x):=by unfold dH;rw [qt];exact h
theorem dH.gcd(h:dH y)(z:y≠0):dH (Int.gcd x y:Int):=by unfold dH;rw [wc];exact au (Nat.gcd_le_right _ (kC.mpr z)) h
theorem OR(z:y≠0):(0:Int)<(Int.gcd x y:Int):=by have:=pG (a:=x) z;lia
def XB:Sp:=λvs H Q _=>∃(p q:Addr) (x m y n:Int),vs=[.ref p,.ref q]/\H p=some (.tup [.int x,.int m])/\H q=some (.tup [.int y,.int n])/\eQ x m/\eQ y n/\dH x/\dH m/\dH y/\dH n /\
 ∀(r:Addr) (H':Hp) (u d:Int),ag H H'->H' r=some (.tup [.int u,.int d])->eQ u d->u*(m*n)=(x*n+y*m)*d->Q (.ref r) H'
def XC:Sp:=λvs H Q _=>∃(p q:Addr) (x m y n:Int),vs=[.ref p,.ref q]/\H p=some (.tup [.int x,.int m])/\H q=some (.tup [.int y,.int n])/\eQ x m/\eQ y n/\dH x/\dH m/\dH y/\dH n /\
 ∀(r:Addr) (H':Hp) (u d:Int),ag H H'->H' r=some (.tup [.int u,.int d])->eQ u d->u*(m*n)=(x*n-y*m)*d->Q (.ref r) H'
theorem eQ.neg(h:eQ x m):eQ (-x) m:=⟨h.pos,by rw [Int.neg_gcd];exact h.pH⟩
def Jf(C:Addr)(fr:Int->Int->Int->Int->Int)(rm:Int->Int->Int):Sp:=λvs H Q _=>∃(z:Addr) (q:Int) (v u:V),vs=[.ref z,v,u]/\da C H z q /\
  ((q=0/\∃(p r:Addr) (x m y n:Int),v=.ref p/\u=.ref r/\H p=some (.tup [.int x,.int m])/\H r=some (.tup [.int y,.int n])/\eQ x m/\eQ y n/\dH x/\dH m/\dH y/\dH n /\
    ∀(r':Addr) (H':Hp) (a d:Int),ag H H'->H' r'=some (.tup [.int a,.int d])->eQ a d->a*(m*n)=fr x m y n*d->Q (.ref r') H') \/
   (2<=q/\∃i j:Int,v=.int i/\u=.int j/\0<=i/\i<1000/\Q (.int (rm i j % q)) H))
def aD(p:Int):Prop:=p=0\/(2<=p/\p<=997/\iZ p=true)
def XD:Sp:=λvs H Q _=>∃c:Int,vs=[.int c]/\∀(p:Int) (H':Hp),ag H H'->aD p->Q (.int p) H'
def XE(C:Addr):Sp:=λvs H Q _=>∃p:Int,vs=[.int p]/\aD p/\∀(z:Addr) (H':Hp),ag H H'->da C H' z p->Q (.ref z) H'
inductive cH (B:Nat) (H:Hp):Int->V->Int->Int->Prop where
 | cq {p:Addr} {x m:Int} (e:H p=some (.tup [.int x,.int m])) (l:eQ x m) (bx:x.natAbs<=B) (bm:m.natAbs<=B):cH B H 0 (.ref p) x m
 | rem {q i:Int} (h0:0<=i) (h1:i<q) (h2:q<=997):cH B H q (.int i) i 1
theorem cH.mono{B:Nat}(h:cH B H q v x m)(s:ag H H'):cH B H' q v x m:=by
 cases h with
 | cq e l bx bm=>exact .cq (s _ _ e) l bx bm
 | rem h0 h1 h2=>exact .rem h0 h1 h2
theorem XF{b:Int}(h:1<=b):∃u d:Int,a.fdiv (lowG a b)=u/\b.fdiv (lowG a b)=d/\eQ u d/\u.natAbs<=a.natAbs/\d.natAbs<=b.natAbs:=by
 have hp:=pG (a:=a) (b:=b) ⋯
 have e:lowG a b=(Int.gcd a b:Int):=by unfold lowG;rw [aq ⋯]
 rw [e]
 refine ⟨a / (Int.gcd a b:Int),b / (Int.gcd a b:Int),Al _ ⋯,Al _ ⋯,⟨?_,D5 ⋯⟩,oR ..,oR ..⟩
 obtain ⟨b',eb⟩:=qr (a:=a) (b:=b)
 have z:b / (Int.gcd a b:Int)=b':=by
                       conv=>lhs;lhs;rw [eb]
                       exact lQ _ ⋯
 rw [z]
 exact wY (u:=(Int.gcd a b:Int)) ⋯ (by rw [<-eb];lia)
theorem D8{d T B:Int}(l:eQ u d)(hB:0<B)(e:u*B=T*d):d<=B/\u.natAbs<=T.natAbs:=by
 have h0:=l.pos;have hd:d∣B:=by
  have z:((d.natAbs:Nat):Int)∣B:=sW (a:=B) (b:=d) (c:=u) (Je l.pH) (Int.natAbs_dvd.mpr (mI d)) ⟨T*(d / (d.natAbs:Int)),by
   have q:(d.natAbs:Int)=d:=by lia
   rw [q,Int.ediv_self ⋯,jV,fU B u,e,fU]⟩
  exact Int.natAbs_dvd.mp z
 have hle:=Ay hB hd;refine ⟨hle,?_⟩;have z:u.natAbs*B.natAbs=T.natAbs*d.natAbs:=by rw [<-bU,e,bU]
 have z2:T.natAbs*d.natAbs<=T.natAbs*B.natAbs:=fq _ ⋯
 rw [<-z] at z2;exact Nat.le_of_mul_le_mul_right z2 ⋯
theorem Jg{b:Int}(h1:2<=q)(h2:q<=997)(hp:iZ q=true)(b1:1<=b)(b2:b<q):Int.gcd q b=1:=by
 have gp:0<Int.gcd q b:=Au _ (kC.mpr ⋯)
 by_cases g1:Int.gcd q b=1;·exact g1
 exfalso
 obtain ⟨k,ek⟩:=sg (a:=q) (b:=b);have hb:=Ay ⋯ (qr (a:=q) (b:=b))
 generalize Int.gcd q b=g at *;have kp:0<k:=wY (u:=(g:Int)) ⋯ (by rw [<-ek];lia)
 have k2:k≠1:=λz=>by rw [z,jV] at ek;lia
 have no:∀d:Int,2<=d->d*d<=q->q % d=0->False:=λd x y z=>by rw [OB h2 x y z] at hp;cases hp
 by_cases c:(g:Int)<=k;·exact no g ⋯ (by rw [ek];exact Ax c ⋯) (by rw [ek];exact Int.mul_emod_right ..)
 ·exact no k ⋯ (by rw [ek];exact Int.mul_le_mul_of_nonneg_right ⋯ ⋯) (by rw [ek];exact Int.mul_emod_left ..)
structure pI (q b last lt now nt:Int):Prop where
 l:∃s,last=lt*b+s*q
 n:∃s,now=nt*b+s*q
 pH:Int.gcd last now=1
 pos:1<=now
 less:now<=last
variable {nt:Int}
theorem pI.step{b last lt now:Int}(h:pI q b last lt now nt)(h1:1<now):pI q b now nt (last-last / now*now) (lt-last / now*nt)/\last-last / now*now<now:=by
 obtain ⟨⟨s,es⟩,⟨r,er⟩,c,p,le⟩:=h;have e:last-last / now*now=last % now:=by have z:=HW last now;rw [fU] at z;lia
 have lt1:=fH last (show 0<now by lia)
 have ge:=fi last (show now≠0 by lia)
 have c':Int.gcd now (last % now)=1:=qA λd x y=>qB c (by have z:=HW last now;rw [<-z];exact Int.dvd_add y (jW x (Int.dvd_mul_right ..))) x
 have nz:last % now≠0:=λz=>by rw [z,Int.gcd_zero_right] at c';lia
 refine ⟨⟨⟨r,er⟩,⟨s-last / now*r,?_⟩,by rw [e];exact c',⋯,⋯⟩,⋯⟩
 generalize last / now=f;rw [es,er,Int.sub_mul,Int.sub_mul,Int.mul_add,mH,mH];lia
theorem pI.done{b last lt:Int}(h:pI q b last lt 1 nt)(hq:2<=q):(nt % q*b) % q=1:=by
 obtain ⟨s,e⟩:=h.n;have z:nt*b=1+(-s)*q:=by rw [wg];lia
 have y:nt % q*b % q=nt*b % q:=by rw [sh (nt % q) b,Int.emod_emod,<-sh]
 rw [y,z,Int.add_mul_emod_self_right];exact si ⋯ ⋯
theorem pI.start{b:Int}(h1:2<=q)(h2:q<=997)(hp:iZ q=true)(b1:1<=b)(b2:b<q):pI q b q 0 b 1:=
 ⟨⟨1,⋯⟩,⟨0,⋯⟩,Jg h1 h2 hp b1 b2,b1,⋯⟩
end My
namespace L2
open PySem PySem.Spec PyProof.Rows
def OS(K:aQ):R2:=λx y H Q=>(∃a xs i,x=.ref a/\y=.int i/\h_ K H a xs/\Q (.bl false) H)\/(∃a xs i,x=.int i/\y=.ref a/\h_ K H a xs/\Q (.bl false) H)\/DV K false x y H Q\/AV x y H Q
theorem XG{X:Cx}(hu:X.A.units<cLine):cT X (compareOp .Eq) (OS X.K):=by
 intro pins s σ H x y v u Q I rx ry h;rcases h with ⟨a,xs,i,rfl,rfl,h1,q⟩ | ⟨a,xs,i,rfl,rfl,h1,q⟩ | h | h
 ·cases rx
  obtain ⟨t,rfl⟩:=ry;obtain ⟨us,r1,t1,_⟩:=I.tuple h1;exact SeqAt.RcAt.tuple_int i t t1 hu _ _ _ _ ⟨.bl false,H,I,rfl,q⟩
 ·cases ry
  obtain ⟨t,rfl⟩:=rx;obtain ⟨us,r1,t1,_⟩:=I.tuple h1;exact SeqAt.RcAt.int_tuple i t t1 hu _ _ _ _ ⟨.bl false,H,I,rfl,q⟩
 ·exact OA hu pins s σ H x y v u Q I rx ry h
 ·exact eE pins s σ H x y v u Q I rx ry h
end L2
namespace My
open PySem L2
def XH(N:Addr):Sp:=λvs H Q E=>∃q b:Int,vs=[.int q,.int b]/\2<=q/\q<=997/\iZ q=true/\0<=b/\b<q/\(b=0->E (.ref N) none H)/\(b≠0->∀r:Int,0<=r->r<q->(r*b) % q=1->Q (.int r) H)
def XI(N:Addr):Sp:=λvs H Q E=>∃q i j:Int,vs=[.int q,.int i,.int j]/\2<=q/\q<=997/\iZ q=true/\0<=i/\i<q/\0<=j/\j<q/\(j=0->E (.ref N) none H)/\(j≠0->∀r:Int,0<=r->r<q->(r*j) % q=i->Q (.int r) H)
theorem XJ{q i j r:Int}(hq:2<=q)(i0:0<=i)(i1:i<q)(h:(r*j) % q=1):(i*r % q*j) % q=i:=by
 have y:i*r % q*j % q=i*(r*j) % q:=by rw [sh (i*r % q) j,Int.emod_emod,<-sh,mH]
 rw [y,sh,h,si i0 i1,jV,si i0 i1]
end My
namespace L2
open PySem PySem.Spec PyProof.Rows
structure kU (K:aQ) (x qual:Str) (st:Stmt) (i:Int) (f:Addr) (fd:FuncData):Prop where
 ex:∃(oc:Value) (od:Option Addr) (kV doc pm:Value) (an:Option Addr) (bN ct:Value) (ib:Array (Option Value)) (dT:Addr) (tk:Tok) (qC:Value) (qD:Option Addr) (n:Nat) (qE:Array (Option Value)),
  fd=PySem.W.fnOf x qual (kS st) (iH st) (aR st) (.ref dT) kV doc pm an bN ct/\K.lookup f=some ⟨oc,od,.func fd,ib⟩/\PySem.W.codeIn K bN qual=true/\K.lookup dT=some ⟨qC,qD,.seq #[.int i tk] n,qE⟩
 kp:PySem.W.keepIn K (.ref f)=true
section
variable {P:Program} {w:World} {K:aQ} {mg:eK} {base:Heap}
variable {x qual:Str} {st:Stmt} {i:Int} {fd:FuncData} {ps:List Str}
theorem kU.IV{f:Addr}{N:List Str}{k:Nat}{sp:Sp}(F:kU K x qual st i f fd)(S:bw N ps (aR st))(len:∀vs H Q E,sp vs H Q E->vs.length=ps.length)
  (mT:∀(bN:Value) (A:Around) (outer:List Env) (s:Shared) (H:Hp) (vs:List V) (Q:VK) (E:XK),eP k (A.deeper (envOfC qual (aR st) s.heap.objs.size f bN))->sp vs H Q E->
   wV (kO (eF P w) P w K mg base N qual (aR st) f bN A outer s H E) E->
   ∃t,gO (kO (eF P w) P w K mg base N qual (aR st) f bN A outer s H E) (iH st) t/\t {nx:=λ_ H'=>Q .bg H',rt:=Q} (start N vs) H):aO P w K mg base (eF P w) (k+1) f fd ps sp:=by
 have q'47:=F.ex;intros am34 q'47 oc od kV doc pm an bN ct ib dT am27 tk qC qD n qE rfl lk hJ ld;exact IC lk hJ S len λA outer s H vs Q E hr l_=>mT bN A outer s H vs Q E hr l_ ⟨rfl,rfl,rfl,rfl⟩
theorem D9{f dT:Addr}{oc:Value}{od an:Option Addr}{ib:Array (Option Value)}{kV doc pm bN ct:Value}{tk:Tok}{qC:Value}{qD:Option Addr}{n:Nat}{qE:Array (Option Value)}
  (l:K.lookup f=some ⟨oc,od,.func (PySem.W.fnOf x qual (kS st) (iH st) (aR st) (.ref dT) kV doc pm an bN ct),ib⟩)
  (c:PySem.W.codeIn K bN qual=true) (k:PySem.W.keepIn K (.ref f)=true) (ld:K.lookup dT=some ⟨qC,qD,.seq #[.int i tk] n,qE⟩):kU K x qual st i f (PySem.W.fnOf x qual (kS st) (iH st) (aR st) (.ref dT) kV doc pm an bN ct):=
 ⟨(Re oc od kV doc pm an (zn bN ct ib dT tk qC qD (gl n qE rfl l c ld))),k⟩
theorem kU.binds{f:Addr}(F:kU K x qual st i f fd)
  (h:∀(s:Shared) (dT:Addr) (kV doc pm:Value) (an:Option Addr) (bN ct:Value) (tk:Tok) (o:Obj) (n:Nat) (us:List Value),s.heap.get? dT=some o->o.data=.seq #[.int i tk] n->us.length=ps.length->
   BindsTo s (PySem.W.fnOf x qual (kS st) (iH st) (aR st) (.ref dT) kV doc pm an bN ct) ⟨us,[]⟩ (ps.zip us)):Binds K fd ps []:=by
 have q'48:=F.ex;intros am34 q'48 oc od kV doc pm an bN ct ib dT am27 tk qC qD n qE rfl lk hJ ld;intro s us X hl;rw [List.append_nil] at hl ⊢;exact h s dT kV doc pm an bN ct tk _ n us (X _ _ ld) rfl hl
theorem kU.XM{f:Addr}(F:kU K x qual st i f fd)
  (h:∀(s:Shared) (dT:Addr) (kV doc pm:Value) (an:Option Addr) (bN ct:Value) (tk:Tok) (o:Obj) (n:Nat) (us:List Value),s.heap.get? dT=some o->o.data=.seq #[.int i tk] n->us.length+1=ps.length->
   BindsTo s (PySem.W.fnOf x qual (kS st) (iH st) (aR st) (.ref dT) kV doc pm an bN ct) ⟨us,[]⟩ (ps.zip (us++[.int i tk]))):∃v,Vals [V.int i] [v]/\Binds K fd ps [v]:=by
 have q'49:=F.ex;intros am34 q'49 oc od kV doc pm an bN ct ib dT am27 tk qC qD n qE rfl lk hJ ld;refine ⟨.int i tk,.cons ⟨tk,rfl⟩ .nil,λs us X hl=>?_⟩;exact h s dT kV doc pm an bN ct tk _ n us (X _ _ ld) rfl (by simpa using hl)
theorem kU.XN{f:Addr}{y:Str}(F:kU K x qual st i f fd)
  (h:∀(s:Shared) (dT:Addr) (kV doc pm:Value) (an:Option Addr) (bN ct:Value) (tk:Tok) (o:Obj) (n:Nat) (us ws:List Value),s.heap.get? dT=some o->o.data=.seq #[.int i tk] n->ws.length=1->us.length+1=ps.length->
   BindsTo s (PySem.W.fnOf x qual (kS st) (iH st) (aR st) (.ref dT) kV doc pm an bN ct) ⟨us,[y].zip ws⟩ (ps.zip (us++ws))) :
  ∀(s:Shared) (us ws:List Value),K.In s.heap->ws.length=1->us.length+1=ps.length->BindsTo s fd ⟨us,[y].zip ws⟩ (ps.zip (us++ws)):=by
 have q'50:=F.ex;intros am34 q'50 oc od kV doc pm an bN ct ib dT am27 tk qC qD n qE rfl lk hJ ld;intro s us ws X hw hl;exact h s dT kV doc pm an bN ct tk _ n us ws (X _ _ ld) rfl hw hl
end
section
variable {X:Cx} {CX:jJ} {k:Nat} {f C:Addr} {fd:FuncData} {ps:List Str} {y:Str} {sp:Sp} {E:XK} {m:Str} {pos apos VW:Pos} {e e' o:Expr} {ta:TE} {t tk:TA}
def OT(K:aQ):R2:=λx y H Q=>DV K true x y H Q\/NH x y H Q
theorem D_(hu:X.A.units<cLine):cT X (compareOp .NotEq) (OT X.K):=by
 intro pins s σ H x y v u Q I rx ry h;rcases h with h | h;·exact WW hu pins s σ H x y v u Q I rx ry h
 ·exact fX pins s σ H x y v u Q I rx ry h
end
end L2
namespace My
open PySem L2
def n6(a b:Int):Int:=a.fdiv (lowG a b)
def n8(a b:Int):Int:=b.fdiv (lowG a b)
variable {a:Int}
theorem Jh{b:Int}(hb:b≠0):eQ (n6 a b) (n8 a b)/\n6 a b*b=a*n8 a b/\(n6 a b).natAbs<=a.natAbs/\(n8 a b).natAbs<=b.natAbs:=by
 have gp:=pG (a:=a) hb;have c:=D5 (a:=a) hb;obtain ⟨a',ea⟩:=sg (a:=a) (b:=b);obtain ⟨b',eb⟩:=qr (a:=a) (b:=b);unfold n6 n8 lowG;generalize Int.gcd a b=g at *;have g0:(g:Int)≠0:=by lia
 have ga:a / (g:Int)=a':=by rw [ea];exact lQ _ g0
 have gb:b / (g:Int)=b':=by rw [eb];exact lQ _ g0
 rw [ga,gb] at c;have la:a'.natAbs<=a.natAbs:=by rw [<-ga];exact oR ..
 have lb:b'.natAbs<=b.natAbs:=by rw [<-gb];exact oR ..
 have cr:a'*b=a*b':=by rw [ea,eb];simp only [mH,fU,Dk]
 by_cases h:b<0
 ·have d1:(0-(g:Int))∣a:=⟨-a',by rw [ea,Int.zero_sub,Int.neg_mul_neg]⟩
  have d2:(0-(g:Int))∣b:=⟨-b',by rw [eb,Int.zero_sub,Int.neg_mul_neg]⟩
  rw [ao h,Dm d1,Dm d2,Int.zero_sub,Int.ediv_neg,Int.ediv_neg,ga,gb];refine ⟨⟨?_,by rw [Int.neg_gcd,Int.gcd_neg];exact c⟩,?_,?_,?_⟩
  ·have z:0 < -b':=wY (u:=(g:Int)) ⋯ (by rw [je,<-eb];lia)
   lia
  ·rw [wg,je,cr]
  ·rw [qt];exact la
  ·rw [qt];exact lb
 ·rw [aq h,Dm ⟨a',ea⟩,Dm ⟨b',eb⟩,ga,gb]
  have z:0<b':=wY (u:=(g:Int)) ⋯ (by rw [<-eb];lia)
  exact ⟨⟨⋯,c⟩,cr,la,lb⟩
theorem OU(a:Int):n6 a 1=a/\n8 a 1=1:=by
 unfold n6 n8 lowG;rw [nM,aq ∅]
 exact ⟨Int.fdiv_one a,Int.fdiv_one 1⟩
def XO(N:Addr):Sp:=λvs H Q E=>∃a b:Int,vs=[.int a,.int b]/\b_ b/\(b=0->E (.ref N) none H)/\(b≠0->∀(r:Addr) (H':Hp),ag H H'->H' r=some (.tup [.int (n6 a b),.int (n8 a b)])->Q (.ref r) H')
def n9(q b:Int):Prop:=if q=0 then b=0 else b % q=0
def sX(H:Hp)(q:Int)(v:V)(a b:Int):Prop:=
 (q=0/\∃r:Addr,v=.ref r/\H r=some (.tup [.int (n6 a b),.int (n8 a b)]))\/(2<=q/\∃r:Int,v=.int r/\0<=r/\r<q/\(r*(b % q)) % q=a % q)
variable {q:Int}
theorem sX.mono{H H':Hp}{v:V}{b:Int}(h:sX H q v a b)(s:ag H H'):sX H' q v a b:=by
 rcases h with ⟨h,r,e,h2⟩ | h;·exact .inl (sw h r e (s _ _ h2))
 ·exact .inr h
def XQ(C N:Addr):Sp:=λvs H Q E=>∃(z:Addr) (q a b:Int),vs=[.ref z,.int a,.int b]/\da C H z q/\aD q/\b_ b /\
 (n9 q b->E (.ref N) none H)/\(¬n9 q b->∀(v:V) (H':Hp),ag H H'->sX H' q v a b->Q v H')
theorem XR{r b:Int}(h:2<=q)(e:(r*(b % q)) % q=a % q):(r*b-a) % q=0:=by
 have z:(r*b) % q=a % q:=by rw [<-e,sh r b,sh r (b % q),Int.emod_emod]
 exact Int.emod_eq_emod_iff_emod_sub_eq_zero.mp z
end My
namespace L2
open PySem PySem.Spec PyProof.Rows
section
variable {X:Cx}
theorem Ji:cT X (compareOp .Is) (λx y H Q=>∃a b,x=.bl a/\y=.bl b/\Q (.bl (a == b)) H):=by intro pins s σ H x y v u Q I rx ry h;intros am13 h a b rfl rfl q;cases rx;cases ry;exact fN (dU I q (by cases a <;> cases b <;> rfl))
theorem OV:cT X (compareOp .IsNot) (λx y H Q=>∃a b,x=.bl a/\y=.bl b/\Q (.bl (!(a == b))) H):=by intro pins s σ H x y v u Q I rx ry h;intros am13 h a b rfl rfl q;cases rx;cases ry;exact fN (dU I q (by cases a <;> cases b <;> rfl))
end
end L2
namespace My
open PySem L2
inductive cN (H:Hp):Int->V->Int->Int->Prop where
 | cq {p:Addr} {u d t b:Int} (e:H p=some (.tup [.int u,.int d])) (l:eQ u d) (hb:b≠0) (h:u*b=t*d):cN H 0 (.ref p) t b
 | rem {q r t b:Int} (q2:2<=q) (h0:0<=r) (h1:r<q) (g:Int.gcd q b=1) (h:q∣r*b-t):cN H q (.int r) t b
variable {H H':Hp} {q t:Int} {v:V}
theorem cN.mono{b:Int}(h:cN H q v t b)(s:ag H H'):cN H' q v t b:=by
 cases h with
 | cq e l hb h=>exact .cq (s _ _ e) l hb h
 | rem q2 h0 h1 g h=>exact .rem q2 h0 h1 g h
variable {B:Nat} {x m:Int}
theorem cH.jk(h:cH B H q v x m)(hq:aD q):cN H q v x m:=by
 cases h with
 | cq e l bx bm=>exact .cq e l (by have:=l.pos;lia) rfl
 | rem h0 h1 h2=>
  have q2:2<=q:=(hq.resolve_left ⋯).1
  exact .rem q2 h0 h1 (by rw [nM]) ⟨0,⋯⟩
theorem w6{u d b:Int}(l:eQ u d)(hb:b≠0)(e:u*b=t*d):u.natAbs<=t.natAbs/\d.natAbs<=b.natAbs:=by
 have h3:=l.pos;by_cases c:0<b
 ·obtain ⟨z1,z2⟩:=D8 l c e
  lia
 ·have e':u*(-b)=(-t)*d:=by rw [je,e,wg]
  obtain ⟨z1,z2⟩:=D8 l (show 0 < -b by lia) e'
  lia
variable {a c:Int}
theorem w9{b:Int}(h:c≠0)(e:a*c=b*c):a=b:=Int.eq_of_mul_eq_mul_right h e
theorem OW(h:Int.gcd q c=1)(d:q∣c-t):Int.gcd q t=1:=by
 refine qA λe h1 h2=>qB h h1 ?_;have z:=Int.dvd_add (jW h1 d) h2;rw [show c-t+t=c by lia] at z
 exact z
theorem Ea(q2:2<=q)(g:Int.gcd q c=1)(d:q∣a*c):q∣a:=by
 have qq:((q.natAbs:Nat):Int)=q:=by lia
 have z:=sW (a:=a) (b:=q) (c:=c) (d:=q.natAbs) g (by rw [qq];exact mI q) (by rw [qq];exact d)
 rw [qq] at z;exact z
theorem Bi(a q:Int):∃w,a % q+q*w=a:=⟨a / q,HW a q⟩
section
variable {C N z:Addr} {q:Int} {v u:V} {t b t' b':Int} {H:Hp} {Q:VK} {E:XK}
theorem alD(hw:da C H z q)(hq:aD q)(hv:cN H q v t b)(hu:cN H q u t' b')(b1:dH t)(b2:dH b)(b3:dH t')(b4:dH b')
  (k:∀(v':V) (H':Hp),ag H H'->cN H' q v' (t*b'+t'*b) (b*b')->Q v' H'):Jf C (λx m y n=>x*n+y*m) (λi j=>i+j) [.ref z,v,u] H Q E:=by
 refine (xL z q (ce v u rfl hw ?_));cases hv with
 | cq e l hb h=>
  cases hu with
  | cq e' l' ki h'=>
   rename_i p x m p' y n
   obtain ⟨c1,c2⟩:=w6 l hb h;obtain ⟨c3,c4⟩:=w6 l' ki h';refine .inl (And.intro rfl (SC _ _ x m y (SL n rfl rfl e e' l l' (au c1 b1) (au c2 b2) (au c3 b3) ⟨au c4 b4,λr' H' a d s' er la ea=>k _ H' s' (.cq er la (Az hb ki) ?_)⟩)));have m0:=l.pos;have n0:=l'.pos;refine w9 (c:=m*n) (Az ⋯ ⋯) ?_
   grind
  | rem q2 h0 h1 g h=>lia
 | rem q2 h0 h1 g h=>
  cases hu with
  | cq e' l' ki h'=>lia
  | rem OX OY pJ g' h'=>
   rename_i i j
   have q3:q<=997:=(hq.resolve_left ⋯).2.1
   refine .inr ⟨q2,i,j,rfl,rfl,h0,⋯,k _ H (ag.refl H) (.rem q2 (fi _ ⋯) (fH _ ⋯) (wZ g g') ?_)⟩
   obtain ⟨k1,e1⟩:=h;obtain ⟨k2,e2⟩:=h';obtain ⟨w,ew⟩:=Bi (i+j) q;exact ⟨k1*b'+k2*b-w*(b*b'),by grind⟩
theorem XS(hw:da C H z q)(hq:aD q)(hv:cN H q v t b)(hu:cN H q u t' b')(b1:dH t)(b2:dH b)(b3:dH t')(b4:dH b')
  (k:∀(v':V) (H':Hp),ag H H'->cN H' q v' (t*b'-t'*b) (b*b')->Q v' H'):Jf C (λx m y n=>x*n-y*m) (λi j=>i-j) [.ref z,v,u] H Q E:=by
 refine (xL z q (ce v u rfl hw ?_));cases hv with
 | cq e l hb h=>
  cases hu with
  | cq e' l' ki h'=>
   rename_i p x m p' y n
   obtain ⟨c1,c2⟩:=w6 l hb h;obtain ⟨c3,c4⟩:=w6 l' ki h';refine .inl (And.intro rfl (SC _ _ x m y (SL n rfl rfl e e' l l' (au c1 b1) (au c2 b2) (au c3 b3) ⟨au c4 b4,λr' H' a d s' er la ea=>k _ H' s' (.cq er la (Az hb ki) ?_)⟩)));have m0:=l.pos;have n0:=l'.pos;refine w9 (c:=m*n) (Az ⋯ ⋯) ?_
   grind
  | rem q2 h0 h1 g h=>lia
 | rem q2 h0 h1 g h=>
  cases hu with
  | cq e' l' ki h'=>lia
  | rem OX OY pJ g' h'=>
   rename_i i j
   have q3:q<=997:=(hq.resolve_left ⋯).2.1
   refine .inr ⟨q2,i,j,rfl,rfl,h0,⋯,k _ H (ag.refl H) (.rem q2 (fi _ ⋯) (fH _ ⋯) (wZ g g') ?_)⟩
   obtain ⟨k1,e1⟩:=h;obtain ⟨k2,e2⟩:=h';obtain ⟨w,ew⟩:=Bi (i-j) q;exact ⟨k1*b'-k2*b-w*(b*b'),by grind⟩
theorem OZ{b:Int}(nz:¬q∣b):¬n9 q b:=λh=>nz (by
  unfold n9 at h;by_cases z:q=0;·rw [ao z] at h;rw [h];exact Int.dvd_zero q
  ·rw [aq z] at h;exact Dn h)
theorem XT{b:Int}(ho:sX H q v a b)(hq:aD q)(nz:¬q∣b):cN H q v a b:=by
 rcases ho with ⟨rfl,r,rfl,e⟩ | ⟨q2,r,rfl,r0,r1,er⟩
 ·have b0:b≠0:=λz=>nz (by rw [z];exact mI 0)
  have lw:=Jh (a:=a) b0;exact .cq e lw.1 b0 lw.2.1
 ·obtain ⟨_,q3,q4⟩:=hq.resolve_left ⋯
  have h1:=fi b (show q≠0 by lia)
  have h2:=fH b (show 0<q by lia)
  have h3:b % q≠0:=λz=>nz (Dn z);have g:=Jg q2 q3 q4 (show 1<=b % q by lia) h2
  obtain ⟨w,ew⟩:=Bi b q;exact .rem q2 r0 r1 (OW g ⟨-w,by rw [je];lia⟩) (Dn (XR q2 er))
theorem XU(h:cN H q v t b):Bg H q v=true:=by
 unfold Bg;cases h with
 | cq e l hb h=>
  rw [ao rfl,Jd e]
  rename_i u d
  show (decide (1<=d) && decide (Int.gcd u d=1))=true;rw [cF l.pos,cF l.pH];rfl
 | rem q2 h0 h1 g h=>
  rw [aq ⋯]
  rename_i r
  show (decide (0<=r) && decide (r<q))=true;rw [cF h0,cF h1];rfl
theorem XW{u d u' d':Int}(l:eQ u d)(l':eQ u' d')(e:u*d'=u'*d):u=u'/\d=d':=by
 have h1:=l.pos;have h2:=l'.pos;have a:=(D8 l (show 0<d' by lia) e).1
 have c:=(D8 l' (show 0<d by lia) e.symm).1
 have dd:d=d':=by lia
 subst dd;exact ⟨w9 (show d≠0 by lia) e,rfl⟩
theorem Jj(hv:cN H q v t b)(hu:cN H q u t' b')(e:t*b'=t'*b) :
  (∃p p' x m,v=.ref p/\u=.ref p'/\H p=some (.tup [.int x,.int m])/\H p'=some (.tup [.int x,.int m]))\/(∃i:Int,v=.int i/\u=.int i):=by
 cases hv with
 | cq e1 l hb h=>
  cases hu with
  | cq e2 l' ki h'=>
   rename_i p x m p' y n
   have z:x*n=y*m:=by refine w9 (c:=b*b') (Az hb ki) ?_;grind
   obtain ⟨rfl,rfl⟩:=XW l l' z;exact .inl ⟨_,_,_,_,rfl,rfl,e1,e2⟩
  | rem q2 h0 h1 g h=>lia
 | rem q2 h0 h1 g h=>
  cases hu with
  | cq e' l' ki h'=>lia
  | rem OX OY pJ g' h'=>
   rename_i i j
   have d:q∣(i-j)*(b*b'):=by obtain ⟨k1,e1⟩:=h;obtain ⟨k2,e2⟩:=h';exact ⟨k1*b'-k2*b,by grind⟩
   have d2:=Ea q2 (wZ g g') d;have ij:i=j:=by
    obtain ⟨k,ek⟩:=d2;by_cases z:k=0;·rw [z,cI] at ek;lia
    ·exfalso
     rcases Int.lt_or_gt_of_ne z with z | z
     ·have:=Ax (show k<=-1 by lia) (show 0<=q by lia)
      lia
     ·have:=Ax (show 1<=k by lia) (show 0<=q by lia)
      lia
   subst ij;exact .inr ⟨_,rfl,rfl⟩
theorem O0(x m:Int):ji [V.int x,V.int m] [V.int x,V.int m]=true:=by show ((x == x) && ((m == m) && true))=true;simp
variable {K:aQ} {R:VK}
theorem XX(hv:cN H q v t b)(hu:cN H q u t' b')(e:t*b'=t'*b)(k:R (.bl true) H):OS K v u H R:=by
 rcases Jj hv hu e with ⟨p,p',x,m,rfl,rfl,e1,e2⟩ | ⟨i,rfl,rfl⟩
 ·refine .inr (.inr (.inl ⟨p,p',_,_,rfl,rfl,.of e1,.of e2,rfl,rfl,?_⟩))
  show R (.bl (ji [V.int x,V.int m] [V.int x,V.int m])) H;rw [O0];exact k
 ·refine .inr (.inr (.inr ⟨by simp [DE],?_⟩))
  rw [cF rfl];exact k
theorem Eb(hv:cN H q v t b)(hu:cN H q u t' b')(e:t*b'=t'*b)(k:R (.bl false) H):OT K v u H R:=by
 rcases Jj hv hu e with ⟨p,p',x,m,rfl,rfl,e1,e2⟩ | ⟨i,rfl,rfl⟩
 ·refine .inl ⟨p,p',_,_,rfl,rfl,.of e1,.of e2,rfl,rfl,?_⟩
  show R (.bl (!ji [V.int x,V.int m] [V.int x,V.int m])) H;rw [O0];exact k
 ·refine .inr ⟨by simp [DE],?_⟩
  rw [cF rfl];exact k
end
theorem cH.cC{D:Addr}{ys:List V}(h:cH B H q v x m)(eD:H D=some (.lst ys))(k:∀b o,b≠D->H b=some o->H' b=some o):cH B H' q v x m:=by
 cases h with
 | cq e l bx bm=>refine .cq (k _ _ (λz=>?_) e) l bx bm;rw [z,eD] at e;cases e
 | rem h0 h1 h2=>exact .rem h0 h1 h2
end My
namespace L2
open PySem PySem.Spec PyProof.Rows
structure n_ (J:It) (xs:List V) (H1:Hp):Prop where
 go:∀i Hc,ag H1 Hc->i<xs.length->J.go i Hc
 gv:∀i Hc x H',ag H1 Hc->J.gv i Hc x H'->H'=Hc/\(i<xs.length->xs[i]?=some x)
 stop:∀i Hc,ag H1 Hc->xs.length<=i->J.stop i Hc
variable {K:aQ} {a:Addr} {xs:List V} {H1:Hp}
theorem eR(h:cG K H1 a xs):n_ (wI K a) xs H1 where
 go:=λi Hc s hi=>⟨xs,xs[i],s.seq h,by simp [hi]⟩
 gv:=λi Hc x H' s y=>⟨y.1,λ_=>y.2 xs (s.seq h)⟩
 stop:=λi Hc s hi=>⟨xs,s.seq h,hi⟩
theorem mi{lo:Int}{n:Nat}:n_ (qx lo n) ((List.range n).map λi:Nat=>V.int (lo+(i:Int))) H1 where
 go:=λi Hc s hi=>by
  have hi:i<n:=by simpa using hi
  exact hi
 gv:=λi Hc x H' s y=>⟨y.1,λhi=>by
  have hi:i<n:=by simpa using hi
  rw [y.2];simp [hi]⟩
 stop:=λi Hc s hi=>by
  have hi:n<=i:=by simpa using hi
  exact hi
variable {H:Hp}
theorem e_{H':Hp}{D:Addr}{o:HO}(s:ag H H')(n:H D=none):ag H (upd H' D o):=λb u e=>by rw [cj (gN e n)];exact s b u e
variable {te:TE} {Q:VK}
theorem O1{J:It}{ρσ:St}{D:Addr}(js:n_ J xs H1)(nD:H1 D=none)(hn:xs.length<sizeLine)
  (P:Nat->V->Hp->Prop) (mono:∀i y H H' ys,P i y H->H D=some (.lst ys)->(∀b o,b≠D->H b=some o->H' b=some o)->P i y H')
  (step:∀i x,xs[i]?=some x->∀(Hc:Hp) (R:VK),ag H1 Hc->(∃ys,Hc D=some (.lst ys))->(∀y H3,ag Hc H3->P i y H3->R y H3)->te (some x::ρσ) Hc R)
  (fin:∀ys Hc,ag H1 Hc->ys.length=xs.length->(∀i y,ys[i]?=some y->P i y Hc)->Hc D=some (.lst ys)->Q (.ref D) Hc) :
  ∃W:Nat->Nat->List V->Hp->Prop,(∃m,W 0 m [] (upd H1 D (.lst []))) /\
   ∀i m ys Hc,W i m ys Hc->Hc D=some (.lst ys)/\((J.stop i Hc/\Q (.ref D) Hc)\/(J.go i Hc/\∀x H',J.gv i Hc x H'->
    if true=true then te (some x::ρσ) H' λy H3=>H3 D=some (.lst ys)/\ys.length<sizeLine/\∃m',m'<m/\W (i+1) m' (ys++[y]) (upd H3 D (.lst (ys++[y]))) else ∃m',m'<m/\W (i+1) m' ys H')):=by
 refine (ad (λi m ys Hc=>m=xs.length-i/\i<=xs.length/\Hc D=some (.lst ys)/\ag H1 Hc/\ys.length=i/\∀j y,ys[j]?=some y->P j y Hc) (ww _ rfl (f_ _) aK (e_ (ag.refl H1) nD) rfl (λj y e=>by simp at e)) ?_)
 rintro i m ys Hc ⟨rfl,hi,eD,sH,el,hP⟩;refine ⟨eD,?_⟩;by_cases dS:i<xs.length
 ·refine .inr ⟨js.go i Hc sH dS,λx H' hy=>?_⟩
  obtain ⟨rfl,hx⟩:=js.gv i Hc x H' sH hy;rw [ao rfl];refine step i x (hx dS) _ _ sH ⟨ys,eD⟩ λy H3 s3 hp=>?_;have e3:=s3 _ _ eD;refine ⟨e3,⋯,xs.length-(i+1),⋯,rfl,dS,aK,e_ (sH.trans s3) nD,by simp [el],λj y' e=>?_⟩
  have cC:∀b o,b≠D->H3 b=some o->upd H3 D (.lst (ys++[y])) b=some o:=λb o nb e=>by rw [cj nb];exact e
  by_cases hj:j<i
  ·have e':ys[j]?=some y':=by rw [gL ⋯] at e;exact e
   refine mono j y' H' _ ys (hP j y' e') eD λb o nb e=>?_;exact cC b o nb (s3 _ _ e)
  ·have hj:j=i:=by have:=(aL.mp e).1;simp at this;lia
   subst hj;have e':y'=y:=by rw [iA ⋯,el,qu] at e;simpa using e.symm
   subst e';exact mono _ _ H3 _ ys hp e3 cC
 ·have e:i=xs.length:=by lia
  subst e;exact .inl ⟨js.stop _ Hc sH (aP _),fin ys Hc sH el hP eD⟩
variable {wi:TI} {ρ:St->St} {σ:St}
theorem qF(il:∀R:It->Hp->Prop,(∀J H1,ag H H1->n_ J xs H1->R J H1)->wi σ H R)(hn:xs.length<sizeLine)
  (P:Addr->Nat->V->Hp->Prop) (mono:∀D i y H H' ys,P D i y H->H D=some (.lst ys)->(∀b o,b≠D->H b=some o->H' b=some o)->P D i y H')
  (step:∀D i x,xs[i]?=some x->∀(Hc:Hp) (R:VK),ag H Hc->(∃ys,Hc D=some (.lst ys))->(∀y H3,ag Hc H3->P D i y H3->R y H3)->te (some x::ρ σ) Hc R)
  (fin:∀D ys Hc,ag H Hc->ys.length=xs.length->(∀i y,ys[i]?=some y->P D i y Hc)->Hc D=some (.lst ys)->Q (.ref D) Hc):jL wi ρ (λ_ H Q=>Q true H) te σ H Q:=by
 refine il _ λJ H1 s1 js=>?_;intro D nD;exact O1 (ρσ:=ρ σ) (te:=te) (Q:=Q) js nD hn (P D) (mono D) (λi x hx Hc R sc=>step D i x hx Hc R (s1.trans sc)) (λys Hc sc=>fin D ys Hc (s1.trans sc))
variable {g:TG} {D:Ends}
theorem gx(h:te σ H λx H1=>g x σ H1 D.nx):o7 te g D σ H:=h
theorem fY{a b:TS}(h:a {D with nx:=λσ H=>b D σ H} σ H):Ih a b D σ H:=h
section
variable {X:Cx} {N:List Str} {scope:Scope} {cl:List (Str×Addr)} {x:Str} {px pos:Pos} {iter elt:Expr} {ifs:List Expr} {wi:TI} {ρ:St->St} {tt:TT} {te:TE}
theorem pK{y:Str}{py Bj:Pos}{i0:Nat}(B:IY X N scope cl x ρ)(hc:X.calm=true)(hN:X.N.Nodup)(w_:X.N[i0]?=some y)(hy:Loc X.env.scope y)(hi:PI X (.Name x px) iter wi)(ht:∀s₃ H₃ fp,mf (X.bZ N scope cl s₃ H₃ fp) ifs tt)(he:∀s₃ H₃ fp,PE (X.bZ N scope cl s₃ H₃ fp) elt te)
  (Jk:swapsWith (.ListComp elt [⟨.Name x px,iter,ifs,0⟩] scope pos) (some (.Name y py)) Bj.line X.env=pure true:=by rfl) (hf:X.fn y=true\/X.env.scope.names.lookup y=some .local:=by first | exact .inl rfl | exact .inr rfl | assumption)
  (hs:∀x,foldedSetIterable iter X.env x=pure x:=by intro _;rfl):PS X (.Assign [.Name y py] (.ListComp elt [⟨.Name x px,iter,ifs,0⟩] scope pos) Bj) (o7 (jL wi ρ tt te) (aN i0)):=by
 intro pins s σ H D0 I h
 have h:jL wi ρ tt te σ H (λv H1=>D0.nx (σ.set i0 (some v)) H1):=h
 rw [exec_Assign_Name_used _ _ _ _ Jk]
 refine c_ (Ak (c_ ?_))
 show wpAny _ X.A (do let _ <-comprehension (.ListComp elt [⟨.Name x px,iter,ifs,0⟩] scope pos) scope X.env _ (newList []) false (eval iter X.env) (some (assign (.Name y py) X.env))) _ _ s
 refine c_ (cQ (Q:=λ_ s'=>SP X pins D0 .next s') ?_ (λ_ s' hq=>fN (fN hq)) λ_ _ e=>e)
 refine Ap (use:=some (assign (.Name y py) X.env)) rfl hs B.sR B.kind B.names (bh (hi pins s σ H _ I h) λv s1 h1=>bh h1 λsI s2 h2=>?_)
 intros am33 h2 it fp tn J H2 rfl I2 T gH f2 q2
 have nD:H2 s2.heap.objs.size=none:=I2.aT.fresh (aP _)
 obtain ⟨W,⟨m0,w0⟩,turn⟩:=q2 _ nD
 refine vW (Dg B.Be (by intro y hy;simp at hy) (λh₁ gI ig=>?_) B.kind)
 dsimp only at gI ig ⊢
 generalize hD:s2.heap.objs.size=D at nD w0 turn gI ig ⊢
 generalize gh:({s2 with heap:=s2.heap.push {cls:=.type "list",dict:=none,data:=.seq ([]:List Value).toArray}}:Shared)=s3
 have I3:Inv X pins σ (upd H2 D (.lst [])) s3:=by
  subst hD gh
  exact I2.laid (t':=s2.toks) (λb u e=>dZ _ e) (aP _) ⟨f_ _,[],_,.nil,iz _ rfl⟩
 have e3:s3.heap=s2.heap.push {cls:=.type "list",dict:=none,data:=.seq ([]:List Value).toArray}:=by rw [<-gh]
 have fP:∀b o,s2.heap.get? b=some o->s3.heap.get? b=some o:=λb o e=>by rw [e3];exact dZ _ e
 rw [<-e3] at gI ig ⊢
 have below:∀b o,s3.heap.get? b=some o->b≠s3.heap.objs.size:=λb o e=>f9 (cB e)
 have dY:∀b o,s3.heap.get? b=some o->h₁.get? b=some o:=λb o e=>ig.extBut b o (below b o e) (dZ _ e)
 have gT:∀b∈fp,∃o,s2.heap.get? b=some o/\∀v,o.data≠.cell v:=T.obj _ _ gH
 have pj:∀b∈fp,b≠D:=λb hb z=>by
  obtain ⟨o,e,_⟩:=gT b hb
  rw [z,<-hD] at e
  exact absurd (cB e) (iy _)
 have dj:∀y c,cl.lookup y=some c->X.env.cells.lookup y=some c:=λy c e=>B.sub (y,c) (lM e)
 have pk:=I3.sD
 have d8:(X.bZ N scope cl s3 (upd H2 D (.lst [])) fp).Ok:=by
  refine ⟨I.ok.mod,B.kind,I.ok.glob,I.ok.blt,aP _,λa b c e1 e2=>I.ok.inj a b c (dj a c e1) (dj b c e2),λy hy=>B.has y hy,(λ_ _ z _=>absurd z d3),(λ_=>I.ok.hd hc),I.ok.frames,.inl rfl,λb hb=>⟨?_,λy c e z=>?_⟩,λb o e=>?_,au I.ok.iX I3.sz,λb o e hb=>?_,λb hb z=>?_,I3.stack,pk⟩
  ·obtain ⟨o,e,_⟩:=gT b hb
   exact below b o (fP b o e)
  ·exact (f2 b hb).2.2.2.2.1 y c (dj y c e) z
  ·exact I3.bs b o e
  ·rcases (f2 b hb).2.2.2.1 with z | z
   ·exact I.ok.oX b o e z
   ·exact absurd (dQ (cB e) (au I.ok.iX z)) (iy _)
  ·rcases fM.mp (I3.sC b z) with z | z
   ·exact (f2 b hb).2.1 z
   ·exact (f2 b hb).2.2.1 z
 have IB:∀tk:Nat,Inv (X.bZ N scope cl s3 (upd H2 D (.lst [])) fp) [] (none::ρ σ) (upd H2 D (.lst [])) {s3 with heap:=h₁,toks:=tk}:=λtk=>by
  refine ⟨d8,rfl,I3.bare,Un.kept dY,(ad _ gI (λj y v e1 e2 e3=>?_)),λy c e=>?_,?_,λy c e=>I3.jZ y c (dj y c e),(λp hp=>nomatch hp),I3.aT.kept dY,?_⟩
  ·cases j with
   | zero=>cases e2
   | succ j=>
    obtain ⟨i,y',a1,a2,a3,a4,a5,a6⟩:=B.sS σ j v e2
    have jj:N[j+1]?=some y:=e1
    rw [jj] at a1
    cases a1
    obtain ⟨m,hn,hl⟩:=I3.loc
    obtain ⟨u,r,l⟩:=hl i y v a2 a3 a4
    refine (ad u r (.inr ⟨a6,?_⟩))
    obtain ⟨c,ec⟩:=B.has y a6
    rcases l with ⟨k,_⟩ | ⟨_,c',j_,z⟩
    ·rcases a5 with q | q <;> (rw [k] at q;cases q)
    ·have:=dj y c ec
     rw [this] at j_
     cases j_
     intros am0 z o ho hd
     exact (db c ec o (dY _ _ ho) hd)
  ·obtain ⟨v,o,ho,hd⟩:=I3.cell y c (dj y c e)
   exact ⟨v,o,dY _ _ ho,hd⟩
  ·exact I3.aT.fresh (aP _)
  ·show (none::ρ σ).length=N.length
   rw [df]
   exact B.len σ I.len
 have sY:∀b o,s3.heap.get? b=some o->b≠s3.heap.objs.size:=below
 have fin:∀{σ':St} {H':Hp} {s':Shared},Inv (X.bZ N scope cl s3 (upd H2 D (.lst [])) fp) [] σ' H' s'->D0.nx (σ.set i0 (some (.ref D))) H'->compPost (model X.prog X.w) X.A X.xe (some (assign (.Name y py) X.env)) (λ_ s'=>SP X pins D0 .next s') (.ref D) s3.heap.objs.size (.ok .next) s':=fun{σ' H' s'} J q=>by
  obtain ⟨m,hn,_⟩:=J.loc
  have hn:s'.heap.Ns s3.heap.objs.size m:=hn
  have JC:H' s3.heap.objs.size=none:=J.free
  have u1:Un (dJ X.stack) fp (upd H2 D (.lst [])) H' s3.heap s'.heap:=by
   refine ⟨λb o e n hb hx=>J.base.keep b o e n hb hx,λb o e n hb hx=>J.base.slot b o e n hb hx,J.base.free,λb o e hx=>J.base.there b o e hx,J.base.iV,J.base.iE,J.base.iW⟩
  have IX:Inv X pins σ H' s':=I3.o5 (ch:=fp) (J.os) u1 J.aT J.bare λb hb=>by
   obtain ⟨g0,g1,g2,g3,g4,g5⟩:=f2 b hb
   exact ⟨g3,g1,g4,g5⟩
  have nl:X.env.locals≠s3.heap.objs.size:=by
   obtain ⟨m3,⟨o3,_,_,e3,_⟩,_⟩:=I3.loc
   exact sY _ _ e3
  have nc:∀z c,X.env.cells.lookup z=some c->c≠s3.heap.objs.size:=λz c e=>by
   obtain ⟨v3,o3,e3,_⟩:=I3.cell z c e
   exact sY _ _ e3
  refine wpAny_assign_Name (Ic (v:=.ref D) IX hN w_ hy rfl (λkP sZ s_=>?_) hf)
  intros am0 s_ a s_ ha
  have na:s3.heap.objs.size≠a:=by
   rcases ha with rfl | e
   ·exact λz=>nl z.symm
   ·exact λz=>nc _ _ e z.symm
  refine ⟨m,hn.sameBut s_ na,λh' dG=>⟨σ.set i0 (some (.ref D)),H',?_,q⟩⟩
  have u2:Un (dJ X.stack) [s3.heap.objs.size] H' H' kP.heap h':=by
   refine ⟨λb o e n hb hx=>(dG.2 b (by simpa using hx)).trans e,λb o e n hb hx=>⟨o.slots,(dG.2 b (by simpa using hx)).trans e⟩,λb o e n hx=>n,λb o e hx=>⟨o,(dG.2 b (by simpa using hx)).trans e⟩,λb xs z=>z,λb o u z=>z,λb ps z=>⟨#[],by simpa using z⟩⟩
  have pz:d6 X.prog X.w H' h':=λb u e=>by
   refine (sZ.aT b u e).kG (λc v hc z=>(dG.2 c λy=>?_).trans z) (λ_ z=>z) λ_ _ z=>z
   have y':c=s3.heap.objs.size:=y
   rcases hc with hc | hc
   ·rw [<-hc,y',JC] at e
    cases e
   ·rw [y',JC] at hc
    cases hc
  refine sZ.o5 (s':={kP with heap:=h'}) (ch:=[s3.heap.objs.size]) rfl u2 pz sZ.bare λb hb=>?_
  have eb:b=s3.heap.objs.size:=by simpa using hb
  subst eb
  refine ⟨.inr I3.sz,λz=>nl z.symm,λz c e=>nc z c e,λp hp=>?_⟩
  exact sY _ _ (I3.pin p hp).1
 have gf:∀{H':Hp},(∀b∈fp,H' b=none)->∀b∈fp,mO (X.bZ N scope cl s3 (upd H2 D (.lst [])) fp) [] H' b:=λhn b hb=>by
  refine ⟨hn b hb,?_,?_,.inl hb,λy c e z=>(f2 b hb).2.2.2.2.1 y c (dj y c e) z,λp hp=>nomatch hp⟩
  ·obtain ⟨o,e,_⟩:=gT b hb
   exact below b o (fP b o e)
  ·exact d8.oY b hb
 have loop:∀tk:Nat,codeAny (model X.prog X.w) X.A (.compLoop (.ListComp elt [⟨.Name x px,iter,ifs,0⟩] scope pos) 0 (.ref it) (.ref D) (compEnvC scope cl s3.heap.objs.size X.env))
   (compPost (model X.prog X.w) X.A X.xe (some (assign (.Name y py) X.env)) (λ_ s'=>SP X pins D0 .next s') (.ref D) s3.heap.objs.size) {s3 with heap:=h₁,toks:=tk}:=λtk=>by
  refine HU (λn s'=>∃i ys o H',Inv (X.bZ N scope cl s3 (upd H2 D (.lst [])) fp) [] (o::ρ σ) H' s'/\tn i s'.heap/\(∀b∈fp,H' b=none)/\W i n ys H') ?_ m0
   ⟨0,[],none,_,IB tk,T.keep _ _ _ gH λb hb o e=>dY _ _ (fP _ _ e),λb hb=>by rw [cj (pj b hb)];exact (f2 b hb).1,w0⟩
  intro n s4;intros am24 _ i ys o H4 I4 ka ke w4
  obtain ⟨DX,pA⟩:=turn i n ys H4 w4
  rcases pA with ⟨stop,qn⟩ | ⟨go,step⟩
  ·refine cQ (T.done (X.bZ N scope cl s3 (upd H2 D (.lst [])) fp) rfl rfl rfl hc i [] s4 _ H4 (λ_ _=>False) I4 (gf ke) ka stop) (λr s5 ⟨hr,I5⟩=>?_) λ_ _ z=>z.elim
   subst hr
   exact fin I5 qn
  ·refine cQ (T.item (X.bZ N scope cl s3 (upd H2 D (.lst [])) fp) rfl rfl rfl hc i [] s4 _ H4 (λ_ _=>False) I4 (gf ke) ka go) (λr s5 ⟨u,hr,h5⟩=>?_) λ_ _ z=>z.elim
   subst hr
   have z:letOwnedTupleGo (.Name x px) (.ref it) u=pure ():=rfl
   rw [z] at h5
   show wpAny _ _ ((pure ():Sem Unit) >>= λ_=>assign (.Name x px) (compEnvC scope cl s3.heap.objs.size X.env) u) _ _ s5
   refine c_ (cQ h5 (λ_ s5 ⟨y,H5,I5,r5,y5,gg,mP⟩=>?_) λ_ _ z=>z.elim)
   have mQ:=I5.pinned (gf mP) (T.obj _ _ gg)
   have pg:PG (X.bZ N scope cl s3 (upd H2 D (.lst [])) fp) (.Name x px) (aN 0):=dE (i:=0) B.nd B.n0 (.inl (lO B.hx)) (.inr (lO B.hx))
   have again:∀{σ7:St} {H7:Hp} {s7:Shared},Inv (X.bZ N scope cl s3 (upd H2 D (.lst [])) fp) ([]++j7 fp s5.heap) σ7 H7 s7->Inv (X.bZ N scope cl s3 (upd H2 D (.lst [])) fp) [] σ7 H7 s7/\tn (i+1) s7.heap/\∀b∈fp,H7 b=none:=fun{σ7 H7 s7} I7=>by
    refine ⟨I7.qy,T.keep _ _ _ gg λb hb o e=>(I7.pin (b,o) (fG _ (fG _ (lY hb e)))).1,λb hb=>?_⟩
    obtain ⟨o,e,d⟩:=T.obj _ _ gg b hb
    exact (I7.pin (b,o) (fG _ (fG _ (lY hb e)))).2.1
   refine cQ (pg _ s5 _ H5 y u (λσ2 H6=>σ2=some y::ρ σ/\H6=H5) mQ r5 ⟨rfl,rfl⟩) (λ_ s6 ⟨σ6,H6,I6,q6⟩=>?_) λ_ _ z=>z.elim
   obtain ⟨rfl,rfl⟩:=q6
   have pB:=step y _ y5
   have tests:∀{ik:TT},mf (X.bZ N scope cl s3 (upd H2 D (.lst [])) fp) ifs ik->∀{R:Bool->Hp->Prop},ik (some y::ρ σ) H6 R->wpAny (model X.prog X.w) X.A
     (forIn ifs true λc r=>if r=true then do let ok <-isTrue c (compEnvC scope cl s3.heap.objs.size X.env) (eval c (compEnvC scope cl s3.heap.objs.size X.env));pure (ForInStep.yield ok) else pure (ForInStep.yield r))
     (λok s7=>∃H7,Inv (X.bZ N scope cl s3 (upd H2 D (.lst [])) fp) ([]++j7 fp s5.heap) (some y::ρ σ) H7 s7/\R ok H7) (λ_ _=>False) s6:=fun{ik} p {R} hR=>by
    cases p with
    | nil=>exact Aq (ad _ I6 hR)
    | one p=>exact Ar (p _ s6 _ _ _ I6 hR)
   refine cQ (tests (ht s3 _ fp) pB) (λok s7 ⟨H7,I7,q7⟩=>?_) λ_ _ z=>z.elim
   cases ok with
   | false=>
    intros am0 q7 m' gU w7
    obtain ⟨a1,a2,a3⟩:=again I7
    exact (Rs m' gU (i+1) ys (gl _ H7 a1 a2 a3 w7))
   | true=>
    refine cQ (he s3 _ fp _ s7 _ H7 _ I7 q7) (λev s8 ⟨z,H8,I8,r8,mX,hz,m',gU,w8⟩=>?_) λ_ _ z=>z.elim
    refine cQ (nY (X:=X.bZ N scope cl s3 (upd H2 D (.lst [])) fp) _ s8 _ H8 (.ref D) [z] (.ref D) [ev] (λ_ H9=>H9=upd H8 D (.lst (ys++[z]))) I8 rfl (.cons r8 .nil) (o0 D ys z rfl rfl mX hz rfl)) (λ_ s9 ⟨_,H9,I9,_,q9⟩=>?_) λ_ _ z=>z.elim
    subst q9
    obtain ⟨a1,a2,a3⟩:=again I9
    exact ⟨m',gU,i+1,ys++[z],_,_,a1,a2,a3,w8⟩
 have start:=loop (s3.toks+([]:List (Str×Value)).length)
 have es:({s3 with heap:=h₁,toks:=s3.toks+([]:List (Str×Value)).length}:Shared)={s2 with heap:=h₁,toks:=s2.toks+([]:List (Str×Value)).length}:=by rw [<-gh]
 rw [es] at start
 exact As start (T.self _ 0 _ _ _ (T.keep _ _ _ gH λb hb o e=>dY _ _ (fP _ _ e)) start)
end
def xc(K:aQ)(l1 l2:Addr):It:=
  ⟨λi H=>∃xs ys x y,cG K H l1 xs/\cG K H l2 ys/\xs[i]?=some x/\ys[i]?=some y,
   λi H v H'=>∃T x y,H T=none/\v=.ref T/\H'=upd H T (.tup [x,y])/\∀xs ys,cG K H l1 xs->cG K H l2 ys->xs[i]?=some x/\ys[i]?=some y,
   λi H=>∃xs ys,cG K H l1 xs/\cG K H l2 ys/\(xs.length<=i\/ys.length<=i)⟩
variable {l1 l2:Addr}
theorem XY{P:Program}{w:World}{elts:List Expr}{k:Nat}{pos:Pos}{z TI TO i1 i2:Addr}(D:ZipApart z TI TO i1 i2 l1 l2):Turn P w K (.Tuple elts k pos) (xc K l1 l2) [z,TI,TO,i1,i2] z
  (λi h=>IsZip h z TI TO .none/\IsPair h TI (.ref i1) (.ref i2)/\(∃a b,IsPair h TO a b)/\h.IsListIter i1 l1 i/\h.IsListIter i2 l2 i) where
 mem:=by simp
 obj:=λi h st b hb=>by
  obtain ⟨hz,pL,⟨a,c,qG⟩,h1,h2⟩:=st;simp only [fM,sj,or_false] at hb;rcases hb with rfl | rfl | rfl | rfl | rfl;·exact ⟨_,hz,λv z=>by cases z⟩
  ·exact ⟨_,pL,λv z=>by cases z⟩
  ·exact ⟨_,qG,λv z=>by cases z⟩
  ·intros am7 h1 o e c d
   exact ⟨o,e,λv z=>by rw [d] at z;cases z⟩
  ·intros am7 h2 o e c d
   exact ⟨o,e,λv z=>by rw [d] at z;cases z⟩
 keep:=λi h h' st k=>by obtain ⟨hz,pL,⟨a,c,qG⟩,h1,h2⟩:=st;exact ⟨k _ (by simp) _ hz,k _ (by simp) _ pL,⟨a,c,k _ (by simp) _ qG⟩,h1.at λo e=>k _ (by simp) o e,h2.at λo e=>k _ (by simp) o e⟩
 item:=by
  intro X hP hw hK hc i pins s σ H E I hf st hg;subst hP hw hK;obtain ⟨hz,pL,⟨a,c,qG⟩,h1,h2⟩:=st;intros am24 hg xs ys x y xf mh hx hy;obtain ⟨av,rv,p,_⟩:=I.list xf;obtain ⟨O2,Ec,p',_⟩:=I.list mh;obtain ⟨u,hu,ru⟩:=rv.get hx;obtain ⟨u',Ed,XZ⟩:=Ec.get hy;refine wpAny_pyNext_zip_item D hz pL qG h1 h2 p.isList p'.isList (x:=u) (y:=u') (by simpa using hu) (by simpa using Ed) λh' g1 g2 g3 g4 g5 g6 g7=>(ad _ rfl ?_)
  refine wpAny_letOwnedTupleGo_zip g1 λBk q1 sb=>?_;have O3:H s.heap.objs.size=none:=I.aT.fresh (aP _);have lt:∀b o,s.heap.get? b=some o->b≠s.heap.objs.size:=λb o e=>f9 (cB e);have keep:∀b o,b∉[z,TI,TO,i1,i2]->s.heap.get? b=some o->Bk.get? b=some o:=λb o nb e=>by simp only [fM,sj,or_false,not_or] at nb;exact sb.extBut _ _ nb.1 (g7 b o nb.1 nb.2.2.1 nb.2.2.2.1 nb.2.2.2.2 e)
  have X3:z≠s.heap.objs.size:=lt _ _ hz;have pT:IsPair Bk s.heap.objs.size u u':=sb.extBut _ _ X3.symm g5;have Bl:∀{b:Addr} {o:HO} (e:H b=some o),upd H s.heap.objs.size (.tup [x,y]) b=some o:=λe=>by rw [cj (gN e O3)];exact e
  have aT:d6 X.prog X.w (upd H s.heap.objs.size (.tup [x,y])) Bk:=λb o e=>by
   by_cases hb:b=s.heap.objs.size
   ·subst hb
    rw [aK] at e;cases e;exact ⟨by show 2<=sizeLine;decide,[u,u'],.cons ru (.cons XZ .nil),⟨_,pT,rfl,_,rfl⟩⟩
   ·rw [cj hb] at e
    refine (I.aT b o e).kG (λc v fV q=>keep c v (λm=>?_) q) (λc q=>Bl q) λc xs q=>Bl q;have nn:=(hf c m).1;rcases fV with rfl | fV;·rw [nn] at e;cases e
    ·rw [nn] at fV;cases fV
  have u1:Un (dJ X.stack) [z,TI,TO,i1,i2] H (upd H s.heap.objs.size (.tup [x,y])) s.heap Bk:=
   ⟨λb o e n _ hx=>keep b o hx e,λb o e n _ hx=>⟨o.slots,keep b o hx e⟩,λb o e n hx=>by rw [cj (lt b o e)];exact n,λb o e hx=>⟨o,keep b o hx e⟩,λb xs e=>Bl e,λb o u e=>Bl e,λb ps e=>⟨#[],by rw [Bl e];simp⟩⟩
  refine ⟨.ref s.heap.objs.size,upd H s.heap.objs.size (.tup [x,y]),I.o5 (s':={s with heap:=Bk}) (ch:=[z,TI,TO,i1,i2]) rfl u1 aT I.bare (λb hb=>?_),rfl,⟨_,x,y,O3,rfl,rfl,λas bs ha hb=>⟨by rw [I.Ig ha xf];exact hx,by rw [I.Ig hb mh];exact hy⟩⟩,?_,λb hb=>?_⟩
  ·obtain ⟨f0,f1,f2,f3,f4,f5⟩:=hf b hb
   exact ⟨f3,f1,f4,f5⟩
  ·exact ⟨q1,sb.extBut _ _ D.TIz (g7 _ _ D.TIz D.TITO D.TIi1 D.TIi2 pL),⟨_,_,sb.extBut _ _ D.TOz g2⟩,g3.extBut sb.extBut D.i1z,g4.extBut sb.extBut D.i2z⟩
  ·have nb:b≠s.heap.objs.size:=by
    simp only [fM,sj,or_false] at hb;rcases hb with rfl | rfl | rfl | rfl | rfl;·exact lt _ _ hz
    ·exact lt _ _ pL
    ·exact lt _ _ qG
    ·intros am0 h1 o e _;exact lt _ _ e
    ·intros am0 h2 o e _;exact lt _ _ e
   rw [cj nb];exact (hf b hb).1
 done:=by
  intro X hP hw hK hc i pins s σ H E I hf st hg;subst hP hw hK;obtain ⟨hz,pL,⟨a,c,qG⟩,h1,h2⟩:=st;intros am13 hg xs ys xf mh hx;obtain ⟨av,rv,p,_⟩:=I.list xf;obtain ⟨O2,Ec,p',_⟩:=I.list mh;have hl:=rv.length;have mZ:=Ec.length;refine wpAny_pyNext_zip_end (I.ok.hd hc) D hz pL qG h1 h2 p.isList p'.isList (hx.imp (λh=>by simp;lia) λh=>by simp;lia) λh' g=>⟨rfl,?_⟩
  have keep:∀b o,b∉[z,TI,TO,i1,i2]->s.heap.get? b=some o->h'.get? b=some o:=λb o nb e=>by simp only [fM,sj,or_false,not_or] at nb;exact g b o nb.1 nb.2.2.1 nb.2.2.2.1 nb.2.2.2.2 e
  have aT:d6 X.prog X.w H h':=λb o e=>by
   refine (I.aT b o e).kG (λc v fV q=>keep c v (λm=>?_) q) (λc q=>q) λc xs q=>q;have nn:=(hf c m).1;rcases fV with rfl | fV;·rw [nn] at e;cases e
   ·rw [nn] at fV;cases fV
  have u1:Un (dJ X.stack) [z,TI,TO,i1,i2] H H s.heap h':=
   ⟨λb o e n _ hx=>keep b o hx e,λb o e n _ hx=>⟨o.slots,keep b o hx e⟩,λb o e n hx=>n,λb o e hx=>⟨o,keep b o hx e⟩,λb xs e=>e,λb o u e=>e,λb ps e=>⟨#[],by rw [e];simp⟩⟩
  refine I.o5 (s':={s with heap:=h'}) (ch:=[z,TI,TO,i1,i2]) rfl u1 aT I.bare λb hb=>?_;obtain ⟨f0,f1,f2,f3,f4,f5⟩:=hf b hb;exact ⟨f3,f1,f4,f5⟩
 self:=λ_ _ _ _ _ st h=>wpAny_pyIter_zip st.1 h
theorem boot_zip:bootBuiltins "zip"=some (.type "zip"):=by decide +kernel
def X4(K:aQ)(ta:TA):TI:=λσ H R=>ta σ H λvs H1=>∃l1 l2,vs=[.ref l1,.ref l2]/\(∃xs,cG K H1 l1 xs)/\(∃ys,cG K H1 l2 ys)/\R (xc K l1 l2) H1
section
variable {X:Cx}
theorem kW{elts:List Expr}{k:Nat}{NV:Pos}{a b:Expr}{ta:TA}{p pos:Pos}(hg:Gl X "zip")(hm:X.mg "zip"=none)(ha:PA X [a,b] ta)(hs:starEach [a,b] X.env=[(false,eval a X.env),(false,eval b X.env)]:=by rfl)(nX:starEach [b] X.env=[(false,eval b X.env)]:=by rfl) :
  PI X (.Tuple elts k NV) (.Call (.Name "zip" p) [a,b] [] pos) (X4 X.K ta):=by
 intro pins s σ H R I h;refine Call_ (wD I hg hm boot_zip (C5 (bh (ha pos pins s σ H _ I h) λus s1 ⟨vs,H1,I1,r1,q1⟩=>?_) (by rw [hs,nX]) (by rw [nX];rfl)))
 obtain ⟨l1,l2,e,⟨xs,xf⟩,⟨ys,mh⟩,q⟩:=q1;subst e;cases r1 with
 | cons r rr=>
  cases rr with
  | cons r' rr=>
   cases rr;cases r;cases r';obtain ⟨av,rv,p1,_⟩:=I1.list xf;obtain ⟨O2,Ec,p2,_⟩:=I1.list mh;have b1:l1<s1.heap.objs.size:=by obtain ⟨o,e,_⟩:=p1.isList;exact cB e
   have b2:l2<s1.heap.objs.size:=by obtain ⟨o,e,_⟩:=p2.isList;exact cB e
   refine call_zip_2 p1.isList p2.isList λh' z1 z2 z3 z4 z5 z6 z7=>?_;refine wpAny_pyIter_zip (s:={s1 with heap:=h'}) z1 ?_;have D:ZipApart (s1.heap.objs.size+4) (s1.heap.objs.size+2) (s1.heap.objs.size+3) s1.heap.objs.size (s1.heap.objs.size+1) l1 l2:=by constructor <;> (intro h;have h:@Eq Nat _ _:=h;have b1:@LT.lt Nat _ l1 s1.heap.objs.size:=b1;have b2:@LT.lt Nat _ l2 s1.heap.objs.size:=b2;lia)
   refine ⟨_,_,_,_,H1,rfl,I1.kept (t':=s1.toks) z7,XY D,⟨z1,z2,(xL _ _ z3),z4,z5⟩,λb hb=>?_,q⟩;have le:s1.heap.objs.size<=b:=by
    simp only [fM,sj,or_false] at hb;rcases hb with rfl | rfl | rfl | rfl | rfl;·exact AB ..
    ·exact AB ..
    ·exact AB ..
    ·exact aP _
    ·exact AB ..
   exact I1.Ip le (I1.aT.fresh le)
end
section
variable {prog:Program} {w:World} {A:Around} {R:Result->Shared->Prop} {s:Shared}
theorem O4{elt target iter:Expr}{ifs:List Expr}{scope:Scope}{pos:Pos}{it acc:Value}{env:Env}(I:Nat->Shared->Prop)
  (turn:∀n s,I n s->wpAny (model prog w) A (pyNext it) (λr s₁=>match r with
   | none=>R (.ok .next) s₁
   | some v=>wpAny (model prog w) A (letOwnedTupleGo target it v) (λ_ s₁=>wpAny (model prog w) A (assign target env v) (λ_ s₂=>
     wpAny (model prog w) A (forIn ifs true λc r=>if r=true then do let ok <-isTrue c env (eval c env);pure (ForInStep.yield ok) else pure (ForInStep.yield r)) (λok s₃=>
      if ok=true then wpAny (model prog w) A (eval elt env) (λx s₄=>
       wpAny (model prog w) A (call (.builtin "list.append") [acc,x]) (λ_ s₅=>∃m,m<n/\I m s₅) (notedBy (model prog w) A env λe s'=>R (.error e) s') s₄) (notedBy (model prog w) A env λe s'=>R (.error e) s') s₃
      else ∃m,m<n/\I m s₃) (notedBy (model prog w) A env λe s'=>R (.error e) s') s₂) (notedBy (model prog w) A env λe s'=>R (.error e) s') s₁) (notedBy (model prog w) A env λe s'=>R (.error e) s') s₁) (notedBy (model prog w) A env λe s'=>R (.error e) s') s)
  (n:Nat) (h:I n s):codeAny (model prog w) A (.compLoop (.ListComp elt [⟨target,iter,ifs,0⟩] scope pos) 0 it acc env) R s:=by
 refine codeAny_loop rfl I (λn s hI=>?_) n h
 show wpAny _ A ((compTurn (.ListComp elt [⟨target,iter,ifs,0⟩] scope pos) 0 it acc env).onRaise (λx=>do noteFrame x env;theTreesLotGoes x)) _ _ s
 refine wpAny_noted ?_
 rw [compTurn_list]
 refine c_ (Ak (c_ (cQ (turn n s hI) (λr s₁ h₁=>?_) λ_ _ h'=>h')))
 cases r with
 | none=>exact fN h₁
 | some v=>
  refine c_ (cQ h₁ (λ_ s₁ h₁=>?_) λ_ _ h'=>h')
  refine c_ (cQ h₁ (λ_ s₂ h₂=>c_ (cQ h₂ (λok s₃ h₃=>?_) λ_ _ h'=>h')) λ_ _ h'=>h')
  cases ok with
  | false=>exact fN ⟨rfl,h₃⟩
  | true=>
   exact c_ (c_ (cQ h₃ (λx s₄ h₄=>c_ (cQ h₄ (λ_ s₅ h₅=>fN (fN ⟨rfl,h₅⟩)) λ_ _ h'=>h')) λ_ _ h'=>h'))
end
def xg(K:aQ)(wi:TI)(ρ:St->St)(tt:TT)(te:TE):TE:=λσ H Q=>wi σ H λJ H1=>∀D,H1 D=none->∃W:Nat->Nat->List V->Hp->Prop,(∃m,W 0 m [] (upd H1 D (.lst []))) /\
 ∀i m ys Hc,W i m ys Hc->Hc D=some (.lst ys)/\((J.stop i Hc/\Q (.ref D) Hc)\/(J.go i Hc/\∀v H',J.gv i Hc v H'->∃T x1 x2,v=.ref T/\h_ K H' T [x1,x2]/\tt (some x1::some x2::ρ σ) H' λb H2=>
  if b=true then te (some x1::some x2::ρ σ) H2 λy H3=>H3 D=some (.lst ys)/\ys.length<sizeLine/\∃m',m'<m/\W (i+1) m' (ys++[y]) (upd H3 D (.lst (ys++[y]))) else ∃m',m'<m/\W (i+1) m' ys H2))
section
variable {X:Cx} {N:List Str} {scope:Scope} {cl:List (Str×Addr)} {x y:Str} {px py pos tp:Pos} {m4:Nat} {iter elt:Expr} {ifs:List Expr} {wi:TI} {ρ:St->St} {tt:TT} {te:TE}
structure Jl (X:Cx) (N:List Str) (scope:Scope) (cl:List (Str×Addr)) (x y:Str) (ρ:St->St):Prop where
 sR:closureFor scope X.env=pure cl
 kind:scope.kind=.function
 Be:∀y∈scope.names,y.2≠.cell
 names:∀y∈scope.names,y.2=.local->scope.names.lookup y.1=some .local
 sub:∀p∈cl,X.env.cells.lookup p.1=some p.2
 has:∀y,((relabel scope X.env).names.lookup y=some .cell\/(relabel scope X.env).names.lookup y=some .free)->∃c,cl.lookup y=some c
 n0:N[0]?=some x
 n1:N[1]?=some y
 nd:N.Nodup
 hx:scope.names.lookup x=some .local
 hy:scope.names.lookup y=some .local
 sS:∀(σ:St) (j:Nat) (v:V),(ρ σ)[j]?=some (some v)->∃(i:Nat) (y:Str),N[j+1+1]?=some y/\X.N[i]?=some y/\σ[i]?=some (some v)/\oW X.env.scope y/\(X.env.kindOf y=some .cell\/X.env.kindOf y=some .free)/\((relabel scope X.env).names.lookup y=some .cell\/(relabel scope X.env).names.lookup y=some .free)
 len:∀σ:St,σ.length=X.N.length->(ρ σ).length+1+1=N.length
theorem oa(is:List Nat)(h1:closureFor scope X.env=pure cl)(h:DW X scope N.tail.tail is:=by repeat' first | exact True.intro | refine And.intro ⟨rfl,Or.inr (Or.inl rfl),.inl rfl,.inl rfl⟩ ?_)(h2:scope.kind=.function:=by rfl)(h3:∀y∈scope.names,y.2≠.cell:=by decide +kernel)(h4:∀y∈scope.names,y.2=.local->scope.names.lookup y.1=some .local:=by decide +kernel)(h5:∀p∈cl,X.env.cells.lookup p.1=some p.2:=by repeat' first | exact Df _ | refine qp.mpr ⟨rfl,?_⟩)(h6:((relabel scope X.env).names.all λq=>(q.2 != .cell && q.2 != .free) || (cl.lookup q.1).isSome)=true:=by rfl)(h7:N[0]?=some x:=by rfl)(X5:N[1]?=some y:=by rfl)(h8:N.Nodup:=by decide +kernel)(h9:scope.names.lookup x=some .local:=by rfl)(X6:scope.names.lookup y=some .local:=by rfl)(hr:∀σ:St,ρ σ=is.map λi=>σ[i]?.join:=by exact λ_=>rfl)(hl:is.length+1+1=N.length:=by rfl):Jl X N scope cl x y ρ:=
 ⟨h1,h2,h3,h4,h5,OC h6,h7,X5,h8,h9,X6,λσ j v e=>by rw [hr] at e;rw [<-List.getElem?_tail,<-List.getElem?_tail];exact IZ h σ j v e,λσ _=>by rw [hr,aV];exact hl⟩
theorem pM(B:Jl X N scope cl x y ρ)(hc:X.calm=true)(hi:PI X (.Tuple [.Name x px,.Name y py] m4 tp) iter wi)(ht:∀s₃ H₃ fp,mf (X.bZ N scope cl s₃ H₃ fp) ifs tt)(he:∀s₃ H₃ fp,PE (X.bZ N scope cl s₃ H₃ fp) elt te)
  (hs:∀x,foldedSetIterable iter X.env x=pure x:=by intro _;rfl):PE X (.ListComp elt [⟨.Tuple [.Name x px,.Name y py] m4 tp,iter,ifs,0⟩] scope pos) (xg X.K wi ρ tt te):=by
 intro pins s σ H Q I h
 rw [eval_ListComp]
 refine Ap (use:=none) rfl hs B.sR B.kind B.names (bh (hi pins s σ H _ I h) λv s1 h1=>bh h1 λsI s2 h2=>?_)
 intros am33 h2 it fp tn J H2 rfl I2 T gH f2 q2
 have nD:H2 s2.heap.objs.size=none:=I2.aT.fresh (aP _)
 obtain ⟨W,⟨m0,w0⟩,turn⟩:=q2 _ nD
 refine vW (Dg B.Be (by intro y hy;simp at hy) (λh₁ gI ig=>?_) B.kind)
 dsimp only at gI ig ⊢
 generalize hD:s2.heap.objs.size=D at nD w0 turn gI ig ⊢
 generalize gh:({s2 with heap:=s2.heap.push {cls:=.type "list",dict:=none,data:=.seq ([]:List Value).toArray}}:Shared)=s3
 have I3:Inv X pins σ (upd H2 D (.lst [])) s3:=by
  subst hD gh
  exact I2.laid (t':=s2.toks) (λb u e=>dZ _ e) (aP _) ⟨f_ _,[],_,.nil,iz _ rfl⟩
 have e3:s3.heap=s2.heap.push {cls:=.type "list",dict:=none,data:=.seq ([]:List Value).toArray}:=by rw [<-gh]
 have fP:∀b o,s2.heap.get? b=some o->s3.heap.get? b=some o:=λb o e=>by rw [e3];exact dZ _ e
 rw [<-e3] at gI ig ⊢
 have below:∀b o,s3.heap.get? b=some o->b≠s3.heap.objs.size:=λb o e=>f9 (cB e)
 have dY:∀b o,s3.heap.get? b=some o->h₁.get? b=some o:=λb o e=>ig.extBut b o (below b o e) (dZ _ e)
 have gT:∀b∈fp,∃o,s2.heap.get? b=some o/\∀v,o.data≠.cell v:=T.obj _ _ gH
 have pj:∀b∈fp,b≠D:=λb hb z=>by
  obtain ⟨o,e,_⟩:=gT b hb
  rw [z,<-hD] at e
  exact absurd (cB e) (iy _)
 have dj:∀y c,cl.lookup y=some c->X.env.cells.lookup y=some c:=λy c e=>B.sub (y,c) (lM e)
 have pk:=I3.sD
 have d8:(X.bZ N scope cl s3 (upd H2 D (.lst [])) fp).Ok:=by
  refine ⟨I.ok.mod,B.kind,I.ok.glob,I.ok.blt,aP _,λa b c e1 e2=>I.ok.inj a b c (dj a c e1) (dj b c e2),λy hy=>B.has y hy,(λ_ _ z _=>absurd z d3),(λ_=>I.ok.hd hc),I.ok.frames,.inl rfl,λb hb=>⟨?_,λy c e z=>?_⟩,λb o e=>?_,au I.ok.iX I3.sz,λb o e hb=>?_,λb hb z=>?_,I3.stack,pk⟩
  ·obtain ⟨o,e,_⟩:=gT b hb
   exact below b o (fP b o e)
  ·exact (f2 b hb).2.2.2.2.1 y c (dj y c e) z
  ·exact I3.bs b o e
  ·rcases (f2 b hb).2.2.2.1 with z | z
   ·exact I.ok.oX b o e z
   ·exact absurd (dQ (cB e) (au I.ok.iX z)) (iy _)
  ·rcases fM.mp (I3.sC b z) with z | z
   ·exact (f2 b hb).2.1 z
   ·exact (f2 b hb).2.2.1 z
 have IB:∀tk:Nat,Inv (X.bZ N scope cl s3 (upd H2 D (.lst [])) fp) [] (none::none::ρ σ) (upd H2 D (.lst [])) {s3 with heap:=h₁,toks:=tk}:=λtk=>by
  refine ⟨d8,rfl,I3.bare,Un.kept dY,(ad _ gI (λj y v e1 e2 e3=>?_)),λy c e=>?_,?_,λy c e=>I3.jZ y c (dj y c e),(λp hp=>nomatch hp),I3.aT.kept dY,?_⟩
  ·cases j with
   | zero=>cases e2
   | succ j=>
   cases j with
   | zero=>cases e2
   | succ j=>
    obtain ⟨i,y',a1,a2,a3,a4,a5,a6⟩:=B.sS σ j v e2
    have jj:N[j+1+1]?=some y:=e1
    rw [jj] at a1
    cases a1
    obtain ⟨m,hn,hl⟩:=I3.loc
    obtain ⟨u,r,l⟩:=hl i y v a2 a3 a4
    refine (ad u r (.inr ⟨a6,?_⟩))
    obtain ⟨c,ec⟩:=B.has y a6
    rcases l with ⟨k,_⟩ | ⟨_,c',j_,z⟩
    ·rcases a5 with q | q <;> (rw [k] at q;cases q)
    ·have:=dj y c ec
     rw [this] at j_
     cases j_
     intros am0 z o ho hd
     exact (db c ec o (dY _ _ ho) hd)
  ·obtain ⟨v,o,ho,hd⟩:=I3.cell y c (dj y c e)
   exact ⟨v,o,dY _ _ ho,hd⟩
  ·exact I3.aT.fresh (aP _)
  ·show (none::none::ρ σ).length=N.length
   rw [df,df]
   exact B.len σ I.len
 have fin:∀{σ':St} {H':Hp} {s':Shared},Inv (X.bZ N scope cl s3 (upd H2 D (.lst [])) fp) [] σ' H' s'->Q (.ref D) H'->compPost (model X.prog X.w) X.A X.xe none (EP X pins σ Q) (.ref D) s3.heap.objs.size (.ok .next) s':=fun{σ' H' s'} J q=>by
  obtain ⟨m,hn,_⟩:=J.loc
  refine (ad m hn (λh' dG=>(ce (.ref D) H' ?_ rfl q)))
  have old:∀b o,s3.heap.get? b=some o->b≠s3.heap.objs.size:=below
  have u1:Un (dJ X.stack) fp (upd H2 D (.lst [])) H' s3.heap h':=by
   refine ⟨λb o e n hb hx=>?_,λb o e n hb hx=>?_,J.base.free,λb o e hx=>?_,J.base.iV,J.base.iE,J.base.iW⟩
   ·exact (dG.2 b (old b o e)).trans (J.base.keep b o e n hb hx)
   ·obtain ⟨sl,z⟩:=J.base.slot b o e n hb hx
    exact ⟨sl,(dG.2 b (old b o e)).trans z⟩
   ·obtain ⟨o',z⟩:=J.base.there b o e hx
    exact ⟨o',(dG.2 b (old b o e)).trans z⟩
  have pz:d6 X.prog X.w H' h':=λb u e=>by
   refine (J.aT b u e).kG (λc v hc z=>(dG.2 c λy=>?_).trans z) (λ_ z=>z) λ_ _ z=>z
   have fr:=J.free
   have y':c=s3.heap.objs.size:=y
   rcases hc with hc | hc
   ·rw [<-hc,y'] at e
    exact absurd (fr.symm.trans e) (by simp)
   ·rw [y'] at hc
    exact absurd (fr.symm.trans hc) (by simp)
  refine I3.o5 (s':={s' with heap:=h'}) (ch:=fp) (J.os) u1 pz J.bare λb hb=>?_
  obtain ⟨g0,g1,g2,g3,g4,g5⟩:=f2 b hb
  exact ⟨g3,g1,g4,g5⟩
 have gf:∀{H':Hp},(∀b∈fp,H' b=none)->∀b∈fp,mO (X.bZ N scope cl s3 (upd H2 D (.lst [])) fp) [] H' b:=λhn b hb=>by
  refine ⟨hn b hb,?_,?_,.inl hb,λy c e z=>(f2 b hb).2.2.2.2.1 y c (dj y c e) z,λp hp=>nomatch hp⟩
  ·obtain ⟨o,e,_⟩:=gT b hb
   exact below b o (fP b o e)
  ·exact d8.oY b hb
 have loop:∀tk:Nat,codeAny (model X.prog X.w) X.A (.compLoop (.ListComp elt [⟨.Tuple [.Name x px,.Name y py] m4 tp,iter,ifs,0⟩] scope pos) 0 (.ref it) (.ref D) (compEnvC scope cl s3.heap.objs.size X.env))
   (compPost (model X.prog X.w) X.A X.xe none (EP X pins σ Q) (.ref D) s3.heap.objs.size) {s3 with heap:=h₁,toks:=tk}:=λtk=>by
  refine O4 (λn s'=>∃i ys o o2 H',Inv (X.bZ N scope cl s3 (upd H2 D (.lst [])) fp) [] (o::o2::ρ σ) H' s'/\tn i s'.heap/\(∀b∈fp,H' b=none)/\W i n ys H') ?_ m0
   ⟨0,[],none,none,_,IB tk,T.keep _ _ _ gH λb hb o e=>dY _ _ (fP _ _ e),λb hb=>by rw [cj (pj b hb)];exact (f2 b hb).1,w0⟩
  intro n s4;intros am27 _ i ys o o2 H4 I4 ka ke w4
  obtain ⟨DX,pA⟩:=turn i n ys H4 w4
  rcases pA with ⟨stop,qn⟩ | ⟨go,step⟩
  ·refine cQ (T.done (X.bZ N scope cl s3 (upd H2 D (.lst [])) fp) rfl rfl rfl hc i [] s4 _ H4 (λ_ _=>False) I4 (gf ke) ka stop) (λr s5 ⟨hr,I5⟩=>?_) λ_ _ z=>z.elim
   subst hr
   exact fin I5 qn
  ·refine cQ (T.item (X.bZ N scope cl s3 (upd H2 D (.lst [])) fp) rfl rfl rfl hc i [] s4 _ H4 (λ_ _=>False) I4 (gf ke) ka go) (λr s5 ⟨u,hr,h5⟩=>?_) λ_ _ z=>z.elim
   subst hr
   refine cQ h5 (λ_ s5 ⟨y0,H5,I5,r5,y5,gg,mP⟩=>?_) λ_ _ z=>z.elim
   have q'83:=step y0 _ y5;intros am18 q'83 Tt x1 x2 e0 Jm pB
   subst e0
   have mQ:=I5.pinned (gf mP) (T.obj _ _ gg)
   have pg:PG (X.bZ N scope cl s3 (upd H2 D (.lst [])) fp) (.Tuple [.Name x px,.Name y py] m4 tp) (Ik X.K 2 (AR (aN 0) (AR (aN 1) Ij))):=
    wH (X:=X.bZ N scope cl s3 (upd H2 D (.lst [])) fp) hc (jF (dE (i:=0) B.nd B.n0 (.inl (lO B.hx)) (.inr (lO B.hx))) (jF (dE (i:=1) B.nd B.n1 (.inl (lO B.hy)) (.inr (lO B.hy))) wG))
   have again:∀{σ7:St} {H7:Hp} {s7:Shared},Inv (X.bZ N scope cl s3 (upd H2 D (.lst [])) fp) ([]++j7 fp s5.heap) σ7 H7 s7->Inv (X.bZ N scope cl s3 (upd H2 D (.lst [])) fp) [] σ7 H7 s7/\tn (i+1) s7.heap/\∀b∈fp,H7 b=none:=fun{σ7 H7 s7} I7=>by
    refine ⟨I7.qy,T.keep _ _ _ gg λb hb o e=>(I7.pin (b,o) (fG _ (fG _ (lY hb e)))).1,λb hb=>?_⟩
    obtain ⟨o,e,d⟩:=T.obj _ _ gg b hb
    exact (I7.pin (b,o) (fG _ (fG _ (lY hb e)))).2.1
   refine cQ (pg _ s5 _ H5 (.ref Tt) u (λσ2 H6=>σ2=some x1::some x2::ρ σ/\H6=H5) mQ r5 (ce Tt _ rfl Jm (re rfl _ (on _ rfl _ _ rfl rfl rfl rfl)))) (λ_ s6 ⟨σ6,H6,I6,q6⟩=>?_) λ_ _ z=>z.elim
   obtain ⟨rfl,rfl⟩:=q6
   have tests:∀{ik:TT},mf (X.bZ N scope cl s3 (upd H2 D (.lst [])) fp) ifs ik->∀{R:Bool->Hp->Prop},ik (some x1::some x2::ρ σ) H6 R->wpAny (model X.prog X.w) X.A
     (forIn ifs true λc r=>if r=true then do let ok <-isTrue c (compEnvC scope cl s3.heap.objs.size X.env) (eval c (compEnvC scope cl s3.heap.objs.size X.env));pure (ForInStep.yield ok) else pure (ForInStep.yield r))
     (λok s7=>∃H7,Inv (X.bZ N scope cl s3 (upd H2 D (.lst [])) fp) ([]++j7 fp s5.heap) (some x1::some x2::ρ σ) H7 s7/\R ok H7) (λ_ _=>False) s6:=fun{ik} p {R} hR=>by
    cases p with
    | nil=>exact Aq (ad _ I6 hR)
    | one p=>exact Ar (p _ s6 _ _ _ I6 hR)
   refine cQ (tests (ht s3 _ fp) pB) (λok s7 ⟨H7,I7,q7⟩=>?_) λ_ _ z=>z.elim
   cases ok with
   | false=>
    intros am0 q7 m' gU w7
    obtain ⟨a1,a2,a3⟩:=again I7
    exact ⟨m',gU,i+1,ys,_,_,H7,a1,a2,a3,w7⟩
   | true=>
    refine cQ (he s3 _ fp _ s7 _ H7 _ I7 q7) (λev s8 ⟨z,H8,I8,r8,mX,hz,m',gU,w8⟩=>?_) λ_ _ z=>z.elim
    refine cQ (nY (X:=X.bZ N scope cl s3 (upd H2 D (.lst [])) fp) _ s8 _ H8 (.ref D) [z] (.ref D) [ev] (λ_ H9=>H9=upd H8 D (.lst (ys++[z]))) I8 rfl (.cons r8 .nil) (o0 D ys z rfl rfl mX hz rfl)) (λ_ s9 ⟨_,H9,I9,_,q9⟩=>?_) λ_ _ z=>z.elim
    subst q9
    obtain ⟨a1,a2,a3⟩:=again I9
    exact ⟨m',gU,i+1,ys++[z],_,_,_,a1,a2,a3,w8⟩
 have start:=loop (s3.toks+([]:List (Str×Value)).length)
 have es:({s3 with heap:=h₁,toks:=s3.toks+([]:List (Str×Value)).length}:Shared)={s2 with heap:=h₁,toks:=s2.toks+([]:List (Str×Value)).length}:=by rw [<-gh]
 rw [es] at start
 exact As start (T.self _ 0 _ _ _ (T.keep _ _ _ gH λb hb o e=>dY _ _ (fP _ _ e)) start)
end
section
variable {X:Cx}
def anyR(K:aQ):List V->Hp->VK->Prop:=λxs H Q=>∃(p:Addr) (bs:List Bool),xs=[.ref p]/\cG K H p (bs.map V.bl)/\Q (.bl (bs.any id)) H
theorem O5(hc:X.calm=true)(hK:X.K=K:=by rfl):jH X (.builtin "any") (anyR K):=by
 intro pins s σ H xs us Q I r h;subst hK;intros am13 h p bs rfl hq q;obtain ⟨u,rfl,ru⟩:=vals1 r;cases ru;obtain ⟨av,rv,pl,hz⟩:=I.list hq;have dB:p≠s.heap.objs.size:=by obtain ⟨o,e,_⟩:=pl.isList;exact f9 (cB e)
 have hl:av.length=bs.length:=by rw [<-rv.length,aV]
 refine call_any_walk (C4 pl.isList ?_);refine ⟨s.heap.objs.size,_,_,_,_,_,λi=>bs.getD i false,rfl,Walks.list (A:=X.A.in1) (show X.A.in1.handled=none from I.ok.hd hc) s.heap.objs.size p dB av.toArray,⟨(am _ (iz _ rfl) rfl rfl),pl.isList.push _⟩,λi v s' Q' E' hv pe=>?_,λh' tk hk=>?_⟩
 ·have fO:av[i]?=some v:=by simpa using hv
  cases eb:bs[i]? with
  | none=>
   have:=rv.none_of (i:=i) (by rw [bu,eb];rfl)
   rw [this] at fO;cases fO
  | some b=>
   obtain ⟨u,hu,ru⟩:=rv.get (i:=i) (x:=V.bl b) (by rw [bu,eb];rfl)
   rw [hu] at fO;cases fO;cases ru;have e:bs.getD i false=b:=by rw [cb,eb];rfl
   have mh:Q' (bs.getD i false) s':=pe;rw [e] at mh;exact nI mh
 ·refine (ce (.bl (bs.any id)) H (I.kept λb o e=>hk b o (λz=>?_) (dZ _ e)) ?_ q)
  ·exact absurd (cB e) (by rw [iC.mp z];exact iy _)
  ·show Value.bool _=Value.bool _
   congr 1
   rw [fh,hl];clear hk q rv pl hz hl hq
   induction bs with
   | nil=>rfl
   | cons b bs ih=>rw [df,HS,List.any_cons,List.any_map,List.any_cons];show (b || (List.range bs.length).any λi=>bs.getD i false)=(b || bs.any id);rw [ih]
def X7(K:aQ):List V->Hp->VK->Prop:=λxs H Q=>∃(p:Addr) (ns:List Int),xs=[.ref p]/\cG K H p (ns.map V.int)/\Q (.int ns.sum) H
theorem X8:∀(ns:List Int),preSum (λi=>ns.getD i 0) ns.length=ns.sum:=by
 intro ns;have key:∀k,k<=ns.length->preSum (λi=>ns.getD i 0) k=(ns.take k).sum:=by
  intro k
  induction k with
  | zero=>intro _;rfl
  | succ k ih=>
   intro hk;show preSum (λi=>ns.getD i 0) k+ns.getD k 0=_;rw [ih ⋯,List.take_add_one,List.sum_append]
   have e:ns[k]?=some ns[k]:=by simp [show k<ns.length by lia]
   rw [cb,e];simp
 rw [key ns.length (aP _),List.take_length]
theorem O6(hc:X.calm=true)(hK:X.K=K:=by rfl):jH X (.builtin "sum") (X7 K):=by
 intro pins s σ H xs us Q I r h;subst hK;intros am13 h p ns rfl hq q;obtain ⟨u,rfl,ru⟩:=vals1 r;cases ru;obtain ⟨av,rv,pl,hz⟩:=I.list hq;have dB:p≠s.heap.objs.size:=by obtain ⟨o,e,_⟩:=pl.isList;exact f9 (cB e)
 have hl:av.length=ns.length:=by rw [<-rv.length,aV]
 refine call_sum_walkG (C4 pl.isList ?_);refine (Re s.heap.objs.size _ _ _ _ _ (ww (λi=>ns.getD i 0) rfl (Walks.list (A:=X.A.in1) (show X.A.in1.handled=none from I.ok.hd hc) s.heap.objs.size p dB av.toArray) ⟨(am _ (iz _ rfl) rfl rfl),pl.isList.push _⟩ ?_ (λi v hv=>?_) (λh' tk t' hk=>?_)))
 ·intro b hb
  rw [Am];simp only [fM,sj,or_false] at hb;rcases hb with rfl | rfl;·exact vY _
  ·obtain ⟨o,e,_⟩:=pl.isList
   exact AD (cB e)
 ·have fO:av[i]?=some v:=by simpa using hv
  cases eb:ns[i]? with
  | none=>
   have:=rv.none_of (i:=i) (by rw [bu,eb];rfl)
   rw [this] at fO;cases fO
  | some b=>
   obtain ⟨u,hu,ru⟩:=rv.get (i:=i) (x:=V.int b) (by rw [bu,eb];rfl)
   rw [hu] at fO;cases fO;obtain ⟨t,rfl⟩:=ru;exact ⟨t,by show Value.int b t=Value.int (ns.getD i 0) t;rw [cb,eb];rfl⟩
 ·refine (ce (.int ns.sum) H (I.kept λb o e=>hk b o (λz=>?_) (dZ _ e)) ⟨t',?_⟩ q)
  ·exact absurd (cB e) (by rw [iC.mp z];exact iy _)
  ·congr 1
   rw [fh,hl];exact X8 ns
end
theorem boot_any:bootBuiltins "any"=some (.builtin "any"):=by decide +kernel
theorem boot_sum:bootBuiltins "sum"=some (.builtin "sum"):=by decide +kernel
abbrev Cx.jN (X:Cx) (N:List Str) (scope:Scope) (cl:List (Str×Addr)) (x:Str) (s₃:Shared) (H₃:Hp) (fp:List Addr):Cx:=
 {X with N:=N,s₀:=s₃,H₀:=H₃,env:=compEnvC scope ((x,s₃.heap.objs.size+1)::cl) s₃.heap.objs.size X.env,outer:=X.stack,stack:=X.stack,ex:=fp,fn:=λy=>y == x,pn:=[],xe:=λ_ _=>False}
section
variable {M:Model} {A:Around} {E:cX} {s:Shared}
theorem X9{scope:Scope}{globals:Addr}{cl:List (Str×Addr)}{qual x:Str}{env:Env}{Q:Env->Shared->Prop}
  (c1:∀n,cellsFrom n scope.names cl=(x,n)::cl) (p1:∀h:Heap,pushCells h scope.names=h.push {cls:=.type "cell",data:=.cell none})
  (hQ:Q (newEnv scope s.heap.objs.size globals ((x,s.heap.objs.size+1)::cl) qual none .none (some env) builtinsNs) {s with heap:=(s.heap.push {cls:=.type "dict",data:=.dict #[]}).push {cls:=.type "cell",data:=.cell none}}) :
  wpAny M A (newFunctionEnv scope globals cl [] qual none .none (some env)) Q E s:=by
 simp only [newFunctionEnv,Option.isSome_some,if_true];refine c_ (wpAny_alloc ?_);refine c_ (wpAny_layCells _ (λname kind cells=>by cases X_:kind == NameKind.cell <;> simp [X_]) _ _ _ _ ?_)
 rw [show ({s with heap:=s.heap.push {cls:=.type "dict",data:=.dict #[]}}:Shared).heap.objs.size=s.heap.objs.size+1 from Am ..,c1,p1];exact c_ (fN (fN hQ))
end
section
variable {X:Cx} {N:List Str} {scope:Scope} {cl:List (Str×Addr)} {x:Str} {px pos:Pos} {iter elt:Expr} {ifs:List Expr} {wi:TI} {ρ:St->St} {tt:TT} {te:TE}
theorem O7{names:List (Str×NameKind)}(h:(names.all λq=>(q.2 != .cell && q.2 != .free) || ((cl.lookup q.1).isSome || q.1 == x))=true) :
  ∀y,y≠x->(names.lookup y=some .cell\/names.lookup y=some .free)->∃c,cl.lookup y=some c:=λy hx hy=>by
 have key:∀k:NameKind,(k != .cell && k != .free)=false->names.lookup y=some k->∃c,cl.lookup y=some c:=λk hk e=>by have z:=nK.mp h (y,k) (lM e);rw [hk,Bool.false_or,show ((y,k).1 == x)=false from qo.mpr hx,Bool.or_false] at z;exact HQ.mp z
 rcases hy with e | e;·exact key .cell rfl e
 ·exact key .free rfl e
structure Ya (X:Cx) (N:List Str) (scope:Scope) (cl:List (Str×Addr)) (x:Str) (ρ:St->St):Prop where
 sR:closureFor scope X.env=pure cl
 kind:scope.kind=.function
 Yb:∀n,cellsFrom n scope.names cl=(x,n)::cl
 Yc:∀h:Heap,pushCells h scope.names=h.push {cls:=.type "cell",data:=.cell none}
 names:∀y∈scope.names,y.2=.local->scope.names.lookup y.1=some .local
 sub:∀p∈cl,X.env.cells.lookup p.1=some p.2
 has:∀y,y≠x->((relabel scope X.env).names.lookup y=some .cell\/(relabel scope X.env).names.lookup y=some .free)->∃c,cl.lookup y=some c
 n0:N[0]?=some x
 nd:N.Nodup
 Yd:(relabel scope X.env).names.lookup x=some .cell
 sS:∀(σ:St) (j:Nat) (v:V),(ρ σ)[j]?=some (some v)->∃(i:Nat) (y:Str),N[j+1]?=some y/\X.N[i]?=some y/\σ[i]?=some (some v)/\oW X.env.scope y/\(X.env.kindOf y=some .cell\/X.env.kindOf y=some .free)/\((relabel scope X.env).names.lookup y=some .cell\/(relabel scope X.env).names.lookup y=some .free)
 len:∀σ:St,σ.length=X.N.length->(ρ σ).length+1=N.length
theorem O8(B:Ya X N scope cl x ρ)(hc:X.calm=true)(hi:PI X (.Name x px) iter wi)(ht:∀s₃ H₃ fp,mf (X.jN N scope cl x s₃ H₃ fp) ifs tt)(he:∀s₃ H₃ fp,PE (X.jN N scope cl x s₃ H₃ fp) elt te)
  (hs:∀x,foldedSetIterable iter X.env x=pure x:=by intro _;rfl):PE X (.ListComp elt [⟨.Name x px,iter,ifs,0⟩] scope pos) (jL wi ρ tt te):=by
 intro pins s σ H Q I h
 rw [eval_ListComp]
 refine Ap (use:=none) rfl hs B.sR B.kind B.names (bh (hi pins s σ H _ I h) λv s1 h1=>bh h1 λsI s2 h2=>?_)
 intros am33 h2 it fp tn J H2 rfl I2 T gH f2 q2
 have nD:H2 s2.heap.objs.size=none:=I2.aT.fresh (aP _)
 obtain ⟨W,⟨m0,w0⟩,turn⟩:=q2 _ nD
 refine vW (X9 B.Yb B.Yc ?_)
 dsimp only
 generalize hD:s2.heap.objs.size=D at nD w0 turn ⊢
 generalize gh:({s2 with heap:=s2.heap.push {cls:=.type "list",dict:=none,data:=.seq ([]:List Value).toArray}}:Shared)=s3
 have I3:Inv X pins σ (upd H2 D (.lst [])) s3:=by
  subst hD gh
  exact I2.laid (t':=s2.toks) (λb u e=>dZ _ e) (aP _) ⟨f_ _,[],_,.nil,iz _ rfl⟩
 have e3:s3.heap=s2.heap.push {cls:=.type "list",dict:=none,data:=.seq ([]:List Value).toArray}:=by rw [<-gh]
 have fP:∀b o,s2.heap.get? b=some o->s3.heap.get? b=some o:=λb o e=>by rw [e3];exact dZ _ e
 rw [<-e3]
 obtain ⟨h₁,eh⟩:∃h₁,h₁=(s3.heap.push {cls:=.type "dict",data:=.dict #[]}).push {cls:=.type "cell",data:=.cell none}:=⟨_,rfl⟩
 rw [<-eh]
 have gI:h₁.Ns s3.heap.objs.size (λ_=>none):=by
  rw [eh]
  exact (Heap.Ns.new s3.heap (.type "dict")).keeps λb o e=>dZ _ e
 have Ye:(s3.heap.push {cls:=.type "dict",data:=.dict #[]}).objs.size=s3.heap.objs.size+1:=Am ..
 have Yf:h₁.IsCell (s3.heap.objs.size+1) none:=by
  rw [eh,<-Ye]
  exact (ad _ (iz _ rfl) rfl)
 have below:∀b o,s3.heap.get? b=some o->b≠s3.heap.objs.size:=λb o e=>f9 (cB e)
 have dY:∀b o,s3.heap.get? b=some o->h₁.get? b=some o:=λb o e=>by rw [eh];exact dZ _ (dZ _ e)
 have gT:∀b∈fp,∃o,s2.heap.get? b=some o/\∀v,o.data≠.cell v:=T.obj _ _ gH
 have pj:∀b∈fp,b≠D:=λb hb z=>by
  obtain ⟨o,e,_⟩:=gT b hb
  rw [z,<-hD] at e
  exact absurd (cB e) (iy _)
 have dj:∀y c,cl.lookup y=some c->X.env.cells.lookup y=some c:=λy c e=>B.sub (y,c) (lM e)
 have O9:∀y c,cl.lookup y=some c->c<s3.heap.objs.size:=λy c e=>by
  obtain ⟨v,o,eo,_⟩:=I3.cell y c (dj y c e)
  exact cB eo
 have lk:∀y c,((x,s3.heap.objs.size+1)::cl).lookup y=some c->(y=x/\c=s3.heap.objs.size+1)\/(y≠x/\cl.lookup y=some c):=λy c e=>by
  by_cases z:y=x
  ·subst z
   rw [Dp,beq_self_eq_true] at e
   exact .inl ⟨rfl,(Option.some.inj e).symm⟩
  ·rw [Dp,qo.mpr z] at e
   exact .inr ⟨z,e⟩
 have O_:∀y c,y≠x->cl.lookup y=some c->((x,s3.heap.objs.size+1)::cl).lookup y=some c:=λy c z e=>by
  rw [Dp,qo.mpr z]
  exact e
 have Pa:∀b∈fp,b<s3.heap.objs.size:=λb hb=>by
  obtain ⟨o,e,_⟩:=gT b hb
  exact cB (fP b o e)
 have pk:=I3.sD
 have d8:(X.jN N scope cl x s3 (upd H2 D (.lst [])) fp).Ok:=by
  refine ⟨I.ok.mod,B.kind,I.ok.glob,I.ok.blt,aP _,λa b c e1 e2=>?inj,λy hy=>?has,(λy c z e=>?sy),(λ_=>I.ok.hd hc),I.ok.frames,.inl rfl,λb hb=>⟨?_,λy c e z=>?_⟩,λb o e=>?_,au I.ok.iX I3.sz,λb o e hb=>?_,λb hb z=>?_,I3.stack,pk⟩
  case inj=>
   rcases lk a c e1 with ⟨z1,Yg⟩ | ⟨_,f1⟩ <;> rcases lk b _ e2 with ⟨z2,ec⟩ | ⟨_,Pb⟩
   ·rw [z1,z2]
   ·have:=O9 _ _ Pb
    rw [Yg] at this
    exact absurd this (Nat.not_lt.mpr (lK _))
   ·have:=O9 _ _ f1
    rw [ec] at this
    exact absurd this (Nat.not_lt.mpr (lK _))
   ·exact I.ok.inj a b c (dj a c f1) (dj b c Pb)
  case has=>
   by_cases z:y=x
   ·subst z
    exact ⟨_,by rw [show (compEnvC scope ((y,s3.heap.objs.size+1)::cl) s3.heap.objs.size X.env).cells=(y,s3.heap.objs.size+1)::cl from rfl,Dp,beq_self_eq_true]⟩
   ·obtain ⟨c,ec⟩:=B.has y z hy
    exact ⟨c,O_ y c z ec⟩
  case sy=>
   have z:y=x:=by simpa using z
   rcases lk y c e with ⟨_,rfl⟩ | ⟨z',_⟩
   ·exact lK _
   ·exact absurd z z'
  ·obtain ⟨o,e,_⟩:=gT b hb
   exact below b o (fP b o e)
  ·rcases lk y c e with ⟨rfl,rfl⟩ | ⟨_,e⟩
   ·rw [<-z] at hb
    exact absurd (Pa _ hb) (Nat.not_lt.mpr (lK _))
   ·exact (f2 b hb).2.2.2.2.1 y c (dj y c e) z
  ·exact I3.bs b o e
  ·rcases (f2 b hb).2.2.2.1 with z | z
   ·exact I.ok.oX b o e z
   ·exact absurd (dQ (cB e) (au I.ok.iX z)) (iy _)
  ·rcases fM.mp (I3.sC b z) with z | z
   ·exact (f2 b hb).2.1 z
   ·exact (f2 b hb).2.2.1 z
 have IB:∀tk:Nat,Inv (X.jN N scope cl x s3 (upd H2 D (.lst [])) fp) [] (none::ρ σ) (upd H2 D (.lst [])) {s3 with heap:=h₁,toks:=tk}:=λtk=>by
  refine ⟨d8,rfl,I3.bare,Un.kept dY,(ad _ gI (λj y v e1 e2 e3=>?_)),λy c e=>?_,?_,λy c e=>?fC,(λp hp=>nomatch hp),I3.aT.kept dY,?_⟩
  ·cases j with
   | zero=>cases e2
   | succ j=>
    have q'0:=B.sS σ j v e2;intros am26 q'0 i y' a1 a2 a3 a4 a5 a6
    have jj:N[j+1]?=some y:=e1
    rw [jj] at a1
    cases a1
    obtain ⟨m,hn,hl⟩:=I3.loc
    obtain ⟨u,r,l⟩:=hl i y v a2 a3 a4
    refine (ad u r (.inr ⟨a6,?_⟩))
    have yx:y≠x:=λz=>by
     have n0:=B.n0
     rw [<-z] at n0
     have:=(List.getElem?_inj (aL.mp n0).1 B.nd).mp (n0.trans jj.symm)
     lia
    obtain ⟨c,ec⟩:=B.has y yx a6
    rcases l with ⟨k,_⟩ | ⟨_,c',j_,z⟩
    ·rcases a5 with q | q <;> (rw [k] at q;cases q)
    ·have:=dj y c ec
     rw [this] at j_
     cases j_
     intros am0 z o ho hd
     exact ⟨c,O_ y c yx ec,o,dY _ _ ho,hd⟩
  case fC=>
   rcases lk y c e with ⟨rfl,rfl⟩ | ⟨_,e⟩
   ·exact I3.aT.fresh (lK _)
   ·exact I3.jZ y c (dj y c e)
  ·rcases lk y c e with ⟨rfl,rfl⟩ | ⟨_,e⟩
   ·exact ⟨none,Yf⟩
   ·obtain ⟨v,o,ho,hd⟩:=I3.cell y c (dj y c e)
    exact ⟨v,o,dY _ _ ho,hd⟩
  ·exact I3.aT.fresh (aP _)
  ·show (none::ρ σ).length=N.length
   rw [df]
   exact B.len σ I.len
 have fin:∀{σ':St} {H':Hp} {s':Shared},Inv (X.jN N scope cl x s3 (upd H2 D (.lst [])) fp) [] σ' H' s'->Q (.ref D) H'->compPost (model X.prog X.w) X.A X.xe none (EP X pins σ Q) (.ref D) s3.heap.objs.size (.ok .next) s':=fun{σ' H' s'} J q=>by
  obtain ⟨m,hn,_⟩:=J.loc
  refine (ad m hn (λh' dG=>(ce (.ref D) H' ?_ rfl q)))
  have old:∀b o,s3.heap.get? b=some o->b≠s3.heap.objs.size:=below
  have u1:Un (dJ X.stack) fp (upd H2 D (.lst [])) H' s3.heap h':=by
   refine ⟨λb o e n hb hx=>?_,λb o e n hb hx=>?_,J.base.free,λb o e hx=>?_,J.base.iV,J.base.iE,J.base.iW⟩
   ·exact (dG.2 b (old b o e)).trans (J.base.keep b o e n hb hx)
   ·obtain ⟨sl,z⟩:=J.base.slot b o e n hb hx
    exact ⟨sl,(dG.2 b (old b o e)).trans z⟩
   ·obtain ⟨o',z⟩:=J.base.there b o e hx
    exact ⟨o',(dG.2 b (old b o e)).trans z⟩
  have pz:d6 X.prog X.w H' h':=λb u e=>by
   refine (J.aT b u e).kG (λc v hc z=>(dG.2 c λy=>?_).trans z) (λ_ z=>z) λ_ _ z=>z
   have fr:=J.free
   have y':c=s3.heap.objs.size:=y
   rcases hc with hc | hc
   ·rw [<-hc,y'] at e
    exact absurd (fr.symm.trans e) (by simp)
   ·rw [y'] at hc
    exact absurd (fr.symm.trans hc) (by simp)
  refine I3.o5 (s':={s' with heap:=h'}) (ch:=fp) (J.os) u1 pz J.bare λb hb=>?_
  obtain ⟨g0,g1,g2,g3,g4,g5⟩:=f2 b hb
  exact ⟨g3,g1,g4,g5⟩
 have gf:∀{H':Hp},(∀b∈fp,H' b=none)->∀b∈fp,mO (X.jN N scope cl x s3 (upd H2 D (.lst [])) fp) [] H' b:=λhn b hb=>by
  refine ⟨hn b hb,?_,?_,.inl hb,λy c e z=>?sc,λp hp=>nomatch hp⟩
  case sc=>
   rcases lk y c e with ⟨rfl,rfl⟩ | ⟨_,e⟩
   ·rw [<-z] at hb
    exact absurd (Pa _ hb) (Nat.not_lt.mpr (lK _))
   ·exact (f2 b hb).2.2.2.2.1 y c (dj y c e) z
  ·obtain ⟨o,e,_⟩:=gT b hb
   exact below b o (fP b o e)
  ·exact d8.oY b hb
 have loop:∀tk:Nat,codeAny (model X.prog X.w) X.A (.compLoop (.ListComp elt [⟨.Name x px,iter,ifs,0⟩] scope pos) 0 (.ref it) (.ref D) (compEnvC scope ((x,s3.heap.objs.size+1)::cl) s3.heap.objs.size X.env))
   (compPost (model X.prog X.w) X.A X.xe none (EP X pins σ Q) (.ref D) s3.heap.objs.size) {s3 with heap:=h₁,toks:=tk}:=λtk=>by
  refine HU (λn s'=>∃i ys o H',Inv (X.jN N scope cl x s3 (upd H2 D (.lst [])) fp) [] (o::ρ σ) H' s'/\tn i s'.heap/\(∀b∈fp,H' b=none)/\W i n ys H') ?_ m0
   ⟨0,[],none,_,IB tk,T.keep _ _ _ gH λb hb o e=>dY _ _ (fP _ _ e),λb hb=>by rw [cj (pj b hb)];exact (f2 b hb).1,w0⟩
  intro n s4;intros am24 _ i ys o H4 I4 ka ke w4
  obtain ⟨DX,pA⟩:=turn i n ys H4 w4
  rcases pA with ⟨stop,qn⟩ | ⟨go,step⟩
  ·refine cQ (T.done (X.jN N scope cl x s3 (upd H2 D (.lst [])) fp) rfl rfl rfl hc i [] s4 _ H4 (λ_ _=>False) I4 (gf ke) ka stop) (λr s5 ⟨hr,I5⟩=>?_) λ_ _ z=>z.elim
   subst hr
   exact fin I5 qn
  ·refine cQ (T.item (X.jN N scope cl x s3 (upd H2 D (.lst [])) fp) rfl rfl rfl hc i [] s4 _ H4 (λ_ _=>False) I4 (gf ke) ka go) (λr s5 ⟨u,hr,h5⟩=>?_) λ_ _ z=>z.elim
   subst hr
   have z:letOwnedTupleGo (.Name x px) (.ref it) u=pure ():=rfl
   rw [z] at h5
   show wpAny _ _ ((pure ():Sem Unit) >>= λ_=>assign (.Name x px) (compEnvC scope ((x,s3.heap.objs.size+1)::cl) s3.heap.objs.size X.env) u) _ _ s5
   refine c_ (cQ h5 (λ_ s5 ⟨y,H5,I5,r5,y5,gg,mP⟩=>?_) λ_ _ z=>z.elim)
   have mQ:=I5.pinned (gf mP) (T.obj _ _ gg)
   have pg:PG (X.jN N scope cl x s3 (upd H2 D (.lst [])) fp) (.Name x px) (aN 0):=dE (i:=0) B.nd B.n0 (.inr B.Yd) (.inl (by show (x == x)=true;simp))
   have again:∀{σ7:St} {H7:Hp} {s7:Shared},Inv (X.jN N scope cl x s3 (upd H2 D (.lst [])) fp) ([]++j7 fp s5.heap) σ7 H7 s7->Inv (X.jN N scope cl x s3 (upd H2 D (.lst [])) fp) [] σ7 H7 s7/\tn (i+1) s7.heap/\∀b∈fp,H7 b=none:=fun{σ7 H7 s7} I7=>by
    refine ⟨I7.qy,T.keep _ _ _ gg λb hb o e=>(I7.pin (b,o) (fG _ (fG _ (lY hb e)))).1,λb hb=>?_⟩
    obtain ⟨o,e,d⟩:=T.obj _ _ gg b hb
    exact (I7.pin (b,o) (fG _ (fG _ (lY hb e)))).2.1
   refine cQ (pg _ s5 _ H5 y u (λσ2 H6=>σ2=some y::ρ σ/\H6=H5) mQ r5 ⟨rfl,rfl⟩) (λ_ s6 ⟨σ6,H6,I6,q6⟩=>?_) λ_ _ z=>z.elim
   obtain ⟨rfl,rfl⟩:=q6
   have pB:=step y _ y5
   have tests:∀{ik:TT},mf (X.jN N scope cl x s3 (upd H2 D (.lst [])) fp) ifs ik->∀{R:Bool->Hp->Prop},ik (some y::ρ σ) H6 R->wpAny (model X.prog X.w) X.A
     (forIn ifs true λc r=>if r=true then do let ok <-isTrue c (compEnvC scope ((x,s3.heap.objs.size+1)::cl) s3.heap.objs.size X.env) (eval c (compEnvC scope ((x,s3.heap.objs.size+1)::cl) s3.heap.objs.size X.env));pure (ForInStep.yield ok) else pure (ForInStep.yield r))
     (λok s7=>∃H7,Inv (X.jN N scope cl x s3 (upd H2 D (.lst [])) fp) ([]++j7 fp s5.heap) (some y::ρ σ) H7 s7/\R ok H7) (λ_ _=>False) s6:=fun{ik} p {R} hR=>by
    cases p with
    | nil=>exact Aq (ad _ I6 hR)
    | one p=>exact Ar (p _ s6 _ _ _ I6 hR)
   refine cQ (tests (ht s3 _ fp) pB) (λok s7 ⟨H7,I7,q7⟩=>?_) λ_ _ z=>z.elim
   cases ok with
   | false=>
    intros am0 q7 m' gU w7
    obtain ⟨a1,a2,a3⟩:=again I7
    exact (Rs m' gU (i+1) ys (gl _ H7 a1 a2 a3 w7))
   | true=>
    refine cQ (he s3 _ fp _ s7 _ H7 _ I7 q7) (λev s8 ⟨z,H8,I8,r8,mX,hz,m',gU,w8⟩=>?_) λ_ _ z=>z.elim
    refine cQ (nY (X:=X.jN N scope cl x s3 (upd H2 D (.lst [])) fp) _ s8 _ H8 (.ref D) [z] (.ref D) [ev] (λ_ H9=>H9=upd H8 D (.lst (ys++[z]))) I8 rfl (.cons r8 .nil) (o0 D ys z rfl rfl mX hz rfl)) (λ_ s9 ⟨_,H9,I9,_,q9⟩=>?_) λ_ _ z=>z.elim
    subst q9
    obtain ⟨a1,a2,a3⟩:=again I9
    exact ⟨m',gU,i+1,ys++[z],_,_,a1,a2,a3,w8⟩
 have start:=loop s3.toks
 have es:({s3 with heap:=h₁,toks:=s3.toks}:Shared)={s2 with heap:=h₁}:=by rw [<-gh]
 rw [es] at start
 exact As start (T.self _ 0 _ _ _ (T.keep _ _ _ gH λb hb o e=>dY _ _ (fP _ _ e)) start)
end
def xh(K:aQ)(H:Hp):Nat->V->V->Prop
 | 0,v,u=>v=u/\iY v=true
 | n+1,v,u=>(v=u/\iY v=true)\/∃a b xs ys,v=.ref a/\u=.ref b/\((cG K H a xs/\cG K H b ys)\/(h_ K H a xs/\h_ K H b ys))/\xs.length=ys.length/\∀(j:Nat) (x y:V),xs[j]?=some x->ys[j]?=some y->xh K H n x y
theorem Ee{v:V}(h:iY v=true):iG v v=true:=by
 cases v with
 | bg=>rfl
 | bl b=>show (b == b)=true;simp
 | int i=>show (i == i)=true;simp
 | str x=>show (x == x)=true;simp
 | _=>cases h
theorem all_range(n:Nat):(List.range n).all (λ_=>true)=true:=by simp
section
variable {X:Cx} {pins:cf} {σ:St} {H:Hp} {s:Shared}
theorem Eg(I:Inv X pins σ H s):∀(n:Nat) (A:Around) (v u:V) (a b:Value),xh X.K H n v u->RelV v a->RelV u b->A.units+n<cLine->SeqAt.EqAt A s a b true
 | 0,A,v,u,a,b,h,ra,rb,hu=>by obtain ⟨rfl,hf⟩:=h;have z:=AZ (A:=A) (s:=s) ra rb hf hf;rw [Ee hf] at z;exact z
 | n+1,A,v,u,a,b,h,ra,rb,hu=>by
  rcases h with ⟨rfl,hf⟩ | ⟨p,q,xs,ys,rfl,rfl,hs,hl,hi⟩
  ·have z:=AZ (A:=A) (s:=s) ra rb hf hf
   rw [Ee hf] at z;exact z
  ·cases ra
   cases rb;by_cases pq:p=q
   ·subst pq
    exact SeqAt.EqAt.same _
   rcases hs with ⟨h1,h2⟩ | ⟨h1,h2⟩
   ·obtain ⟨us,r1,t1,_⟩:=I.list h1
    obtain ⟨vs,r2,t2,_⟩:=I.list h2;have l1:=r1.length;have l2:=r2.length;have z:=SeqAt.RcAt.lists (A:=A) (e:=λ_=>true) t1.isList t2.isList (by simp;lia) ⋯ (λj z1 z2=>by
     have Eh:j<us.length:=by simpa using z1
     have Ei:j<vs.length:=by simpa using z2
     obtain ⟨x,ex⟩:∃x,xs[j]?=some x:=⟨xs[j],by simp [show j<xs.length by lia]⟩
     obtain ⟨y,ey⟩:∃y,ys[j]?=some y:=⟨ys[j],by simp [show j<ys.length by lia]⟩
     obtain ⟨x',nR,rx⟩:=r1.get ex;obtain ⟨y',pN,ry⟩:=r2.get ey;have e1:us.toArray[j]=x':=by simpa using (aL.mp nR).2
     have e2:vs.toArray[j]=y':=by simpa using (aL.mp pN).2
     rw [e1,e2];exact Eg I n A.in1 x y x' y' (hi j x y ex ey) rx ry (by rw [Dq];lia))
    rw [all_range] at z;exact SeqAt.EqAt.of_refs pq z
   ·obtain ⟨us,r1,t1,_⟩:=I.tuple h1
    obtain ⟨vs,r2,t2,_⟩:=I.tuple h2;have l1:=r1.length;have l2:=r2.length;have z:=SeqAt.RcAt.tuples (A:=A) (e:=λ_=>true) t1 t2 ⋯ (λj z1 z2=>by
     have Eh:j<us.length:=by simpa using z1
     have Ei:j<vs.length:=by simpa using z2
     obtain ⟨x,ex⟩:∃x,xs[j]?=some x:=⟨xs[j],by simp [show j<xs.length by lia]⟩
     obtain ⟨y,ey⟩:∃y,ys[j]?=some y:=⟨ys[j],by simp [show j<ys.length by lia]⟩
     obtain ⟨x',nR,rx⟩:=r1.get ex;obtain ⟨y',pN,ry⟩:=r2.get ey;have e1:us.toArray[j]=x':=by simpa using (aL.mp nR).2
     have e2:vs.toArray[j]=y':=by simpa using (aL.mp pN).2
     rw [e1,e2];exact Eg I n A.in1 x y x' y' (hi j x y ex ey) rx ry (by rw [Dq];lia))
    have e3:(us.toArray.size == vs.toArray.size)=true:=by simp;lia
    rw [all_range,e3] at z;exact SeqAt.EqAt.of_refs pq z
end
section
variable {X:Cx}
def Ej(K:aQ)(n:Nat)(r:Bool):R2:=λx y H Q=>∃a b xs ys,x=.ref a/\y=.ref b/\cG K H a xs/\cG K H b ys/\xs.length=ys.length/\(∀(j:Nat) (x y:V),xs[j]?=some x->ys[j]?=some y->xh K H n x y)/\Q (.bl r) H
variable {n:Nat}
theorem Ek(hu:X.A.units+64<cLine)(hn:n<60:=by decide):cT X (compareOp .Eq) (Ej X.K n true):=by
 intro pins s σ H x y v u Q I rx ry h;intros am24 h a b xs ys rfl rfl h1 am4 h2 hl hi q;cases rx;cases ry;obtain ⟨us,r1,t1,_⟩:=I.list h1;obtain ⟨vs,r2,t2,_⟩:=I.list h2;have l1:=r1.length;have l2:=r2.length;refine SeqAt.eq_listAt (e:=λ_=>true) t1.isList t2.isList (by simp;lia) ⋯ (λj z1 z2=>?_) ?_
 ·have Eh:j<us.length:=by simpa using z1
  have Ei:j<vs.length:=by simpa using z2
  obtain ⟨x,ex⟩:∃x,xs[j]?=some x:=⟨xs[j],by simp [show j<xs.length by lia]⟩
  obtain ⟨y,ey⟩:∃y,ys[j]?=some y:=⟨ys[j],by simp [show j<ys.length by lia]⟩
  obtain ⟨x',nR,rx⟩:=r1.get ex;obtain ⟨y',pN,ry⟩:=r2.get ey;have e1:us.toArray[j]=x':=by simpa using (aL.mp nR).2
  have e2:vs.toArray[j]=y':=by simpa using (aL.mp pN).2
  rw [e1,e2];exact Eg I n X.A.in1 x y x' y' (hi j x y ex ey) rx ry (by rw [Dq];lia)
 ·rw [all_range]
  exact ⟨.bl true,H,I,rfl,q⟩
theorem El(hu:X.A.units+64<cLine)(hn:n<60:=by decide):cT X (compareOp .NotEq) (Ej X.K n false):=by
 intro pins s σ H x y v u Q I rx ry h;intros am24 h a b xs ys rfl rfl h1 am4 h2 hl hi q;cases rx;cases ry;obtain ⟨us,r1,t1,_⟩:=I.list h1;obtain ⟨vs,r2,t2,_⟩:=I.list h2;have l1:=r1.length;have l2:=r2.length;refine SeqAt.RcNeAt.lists (e:=λ_=>true) t1.isList t2.isList (by simp;lia) ⋯ (λj z1 z2=>?_) _ _ _ _ ?_
 ·have Eh:j<us.length:=by simpa using z1
  have Ei:j<vs.length:=by simpa using z2
  obtain ⟨x,ex⟩:∃x,xs[j]?=some x:=⟨xs[j],by simp [show j<xs.length by lia]⟩
  obtain ⟨y,ey⟩:∃y,ys[j]?=some y:=⟨ys[j],by simp [show j<ys.length by lia]⟩
  obtain ⟨x',nR,rx⟩:=r1.get ex;obtain ⟨y',pN,ry⟩:=r2.get ey;have e1:us.toArray[j]=x':=by simpa using (aL.mp nR).2
  have e2:vs.toArray[j]=y':=by simpa using (aL.mp pN).2
  rw [e1,e2];exact Eg I n X.A.in1 x y x' y' (hi j x y ex ey) rx ry (by rw [Dq];lia)
 ·rw [all_range]
  exact ⟨.bl false,H,I,rfl,q⟩
end
section
variable {X:Cx} {N:List Str} {scope:Scope} {cl:List (Str×Addr)} {x:Str} {px pos:Pos} {iter elt:Expr} {ifs:List Expr} {wi:TI} {ρ:St->St} {tt:TT} {te:TE}
end
structure Em (J:It) (zs:List (V×V)) (H1:Hp):Prop where
 go:∀i Hc,ag H1 Hc->i<zs.length->J.go i Hc
 gv:∀i Hc v H',ag H1 Hc->J.gv i Hc v H'->∃T x y,v=.ref T/\Hc T=none/\H'=upd Hc T (.tup [x,y])/\(i<zs.length->zs[i]?=some (x,y))
 stop:∀i Hc,ag H1 Hc->zs.length<=i->J.stop i Hc
variable {ys:List V}
theorem m6{b:Addr}(h1:cG K H1 a xs)(h2:cG K H1 b ys):Em (xc K a b) (xs.zip ys) H1 where
 go:=λi Hc s hi=>by
  have hi:i<min xs.length ys.length:=by simpa using hi
  exact ⟨xs,ys,xs[i],ys[i],s.seq h1,s.seq h2,by simp [show i<xs.length by lia],by simp [show i<ys.length by lia]⟩
 gv:=λi Hc v H' s y=>by intros am20 y T x y nT ev eH hx;obtain ⟨e1,e2⟩:=hx xs ys (s.seq h1) (s.seq h2);exact ⟨T,x,y,ev,nT,eH,λ_=>by rw [lR];exact ⟨e1,e2⟩⟩
 stop:=λi Hc s hi=>by
  have hi:min xs.length ys.length<=i:=by simpa using hi
  exact ⟨xs,ys,s.seq h1,s.seq h2,⋯⟩
theorem Pc{zs:List (V×V)}(il:∀R:It->Hp->Prop,(∀J H1,ag H H1->Em J zs H1->R J H1)->wi σ H R)(hn:zs.length<sizeLine)
  (P:Nat->V->Prop)
  (step:∀i x y,zs[i]?=some (x,y)->∀(Hc:Hp) (R:VK),ag H Hc->(∀v H3,ag Hc H3->P i v->R v H3)->te (some x::some y::ρ σ) Hc R)
  (fin:∀D vs Hc,ag H Hc->vs.length=zs.length->(∀(i:Nat) (v:V),vs[i]?=some v->P i v)->Hc D=some (.lst vs)->Q (.ref D) Hc):xg K wi ρ (λ_ H Q=>Q true H) te σ H Q:=by
 refine il _ λJ H1 s1 js=>?_;intro D nD;refine (ad (λi m vs Hc=>m=zs.length-i/\i<=zs.length/\Hc D=some (.lst vs)/\ag H1 Hc/\vs.length=i/\∀(j:Nat) (v:V),vs[j]?=some v->P j v) (ww _ rfl (f_ _) aK (e_ (ag.refl H1) nD) rfl (λj y e=>by simp at e)) ?_)
 rintro i m vs Hc ⟨rfl,hi,eD,sH,el,hP⟩;refine ⟨eD,?_⟩;by_cases dS:i<zs.length
 ·refine .inr ⟨js.go i Hc sH dS,λv H' hy=>?_⟩
  have q'22:=js.gv i Hc v H' sH hy;intros am20 q'22 T x y ev nT eH hx;subst ev eH;refine (Exists.intro T (ce x y rfl (.of aK) ?_));dsimp only;rw [ao rfl];have sT:ag Hc (upd Hc T (.tup [x,y])):=λb o e=>by rw [cj (gN e nT)];exact e
  refine step i x y (hx dS) _ _ (s1.trans (sH.trans sT)) λw H3 s3 hp=>?_;have e3:=s3 _ _ (sT _ _ eD);refine ⟨e3,⋯,zs.length-(i+1),⋯,rfl,dS,aK,e_ (sH.trans (sT.trans s3)) nD,by simp [el],λj v' e=>?_⟩
  by_cases hj:j<i;·exact hP j v' (by rw [gL ⋯] at e;exact e)
  ·have hj:j=i:=by have:=(aL.mp e).1;simp at this;lia
   subst hj;have e':v'=w:=by rw [iA ⋯,el,qu] at e;simpa using e.symm
   subst e';exact hp
 ·have e:i=zs.length:=by lia
  subst e;exact .inl ⟨js.stop _ Hc sH (aP _),fin D vs Hc (s1.trans sH) el hP eD⟩
theorem fc(il:∀R:It->Hp->Prop,(∀J H1,ag H H1->n_ J xs H1->R J H1)->wi σ H R)(hn:xs.length<sizeLine)
  (P:Addr->Nat->V->Hp->Prop) (mono:∀D i y H H' ys,P D i y H->H D=some (.lst ys)->(∀b o,b≠D->H b=some o->H' b=some o)->P D i y H')
  (step:∀D i x,xs[i]?=some x->∀(Hc:Hp) (R:VK),ag H Hc->(∃ys,Hc D=some (.lst ys))->(∀y H3,ag Hc H3->P D i y H3->R y H3)->te (some x::ρ σ) Hc R)
  (fin:∀D ys Hc,H D=none->ag H Hc->ys.length=xs.length->(∀(i:Nat) (y:V),ys[i]?=some y->P D i y Hc)->Hc D=some (.lst ys)->Q (.ref D) Hc):jL wi ρ (λ_ H Q=>Q true H) te σ H Q:=by
 refine il _ λJ H1 s1 js=>?_;intro D nD;have hD:H D=none:=by
  cases e:H D with
  | none=>rfl
  | some o=>rw [s1 _ _ e] at nD;cases nD
 exact O1 (ρσ:=ρ σ) (te:=te) (Q:=Q) js nD hn (P D) (mono D) (λi x hx Hc R sc=>step D i x hx Hc R (s1.trans sc)) (λys Hc sc=>fin D ys Hc hD (s1.trans sc))
theorem Jn{tb:TS}(Pv:Nat->St->Hp->Prop)(h0:Pv 0 σ H)(hl:∀i σ H,Pv i σ H->cG K H l1 xs/\cG K H l2 ys)
  (hs:∀(i:Nat) (x y:V) σ H T,(xs.zip ys)[i]?=some (x,y)->Pv i σ H->H T=none->g (.ref T) σ (upd H T (.tup [x,y])) λσ2 H2=>tb {D with nx:=Pv (i+1),ct:=Pv (i+1),bk:=D.nx} σ2 H2) (hd:∀σ H,Pv (xs.zip ys).length σ H->D.nx σ H) :
  ∃W:Nat->Nat->St->Hp->Prop,(∃m,W 0 m σ H)/\∀i m σ H,W i m σ H->
   ((xc K l1 l2).stop i H/\D.nx σ H)\/((xc K l1 l2).go i H/\∃N:St->Hp->Prop,(∀σ' H',N σ' H'->∃m',m'<m/\W (i+1) m' σ' H')/\∀x H',(xc K l1 l2).gv i H x H'->g x σ H' λσ2 H2=>tb {D with nx:=N,ct:=N,bk:=D.nx} σ2 H2):=by
 refine (ad (λi m σ H=>m=(xs.zip ys).length-i/\i<=(xs.zip ys).length/\Pv i σ H) ⟨(xs.zip ys).length,by simp,f_ _,h0⟩ ?_)
 rintro i m σ H ⟨rfl,hi,p⟩;obtain ⟨q1,q2⟩:=hl i σ H p;have js:=m6 q1 q2;by_cases dS:i<(xs.zip ys).length
 ·refine .inr ⟨js.go i H (ag.refl H) dS,Pv (i+1),λσ' H' p'=>⟨(xs.zip ys).length-(i+1),⋯,rfl,dS,p'⟩,λv H' hy=>?_⟩
  obtain ⟨T,x,y,rfl,nT,rfl,hx⟩:=js.gv i H v H' (ag.refl H) hy;exact hs i x y σ H T (hx dS) p nT
 ·have e:i=(xs.zip ys).length:=by lia
  subst e;exact .inl ⟨js.stop _ H (ag.refl H) (aP _),hd σ H p⟩
section
variable {X:Cx} {K:aQ}
theorem qH(hK:X.K=K:=by rfl):wR X (Oe K):=by subst hK;exact bE
theorem ip(hK:X.K=K:=by rfl):wR X (IF K):=by subst hK;exact dh
def Yh(K:aQ):List V->Hp->VK->Prop:=λxs H Q=>∃p ys,xs=[.ref p]/\(cG K H p ys\/h_ K H p ys)/\Q (.int (ys.length:Int)) H
theorem Jo(hK:X.K=K:=by rfl):jH X (.builtin "len") (Yh K):=by subst hK;exact cm
theorem Yi{tg l:Expr}{tl:TE}(hl:PE X l tl)(hK:X.K=K:=by rfl):PI X tg l (wJ K tl):=by subst hK;exact cY hl
def Pd(K:aQ):List V->Hp->VK->Prop:=λxs H Q=>∃p ys,xs=[.ref p]/\(cG K H p ys\/h_ K H p ys)/\∀l,H l=none->Q (.ref l) (upd H l (.lst ys))
theorem Pe(hK:X.K=K:=by rfl):jH X (.type "list") (Pd K):=by subst hK;exact DO
end
end L2
namespace My
open PySem L2
variable {te:TE} {σ:St} {H:Hp} {Q:VK}
theorem m7{r:List V->Hp->VK->Prop}(h:te σ H λx H1=>r [x] H1 Q):AY r (mS te wQ) σ H Q:=h
theorem gy{D:Ends}(h:te σ H D.rt):Nv te D σ H:=h
theorem Jp{t:TA}(h:te σ H λx H1=>t σ H1 λxs H2=>(x::xs).length<=sizeLine/\∀p,H2 p=none->Q (.ref p) (upd H2 p (.tup (x::xs)))):NY (mS te t) σ H Q:=h
def pO(H:Hp)(v:V)(ts:List Int)(B:Int):Prop:=∃tp l:Addr,v=.ref tp/\H tp=some (.tup [.ref l,.int B])/\H l=some (.lst (ts.map V.int))
variable {H':Hp} {v:V} {ts:List Int}
theorem pO.mono{B:Int}(h:pO H v ts B)(s:ag H H'):pO H' v ts B:=by intros am13 h tp l e e1 e2;exact ⟨tp,l,e,s _ _ e1,s _ _ e2⟩
def kj(ts us:List Int):Int:=(List.zipWith (· * ·) ts us).sum
def Yj(C:Addr):Sp:=λvs H Q _=>∃(z:Addr) (q:Int) (v u:V) (ts us:List Int) (b c:Int),vs=[.ref z,v,u]/\da C H z q/\aD q/\pO H v ts b/\pO H u us c/\ts.length<=1000/\us.length<=1000/\(∀t∈ts,b_ t)/\(∀t∈us,b_ t)/\b_ b/\b_ c/\b_ (b*c)/\¬q∣b*c /\
 ∀(v':V) (H':Hp),ag H H'->cN H' q v' (kj ts us) (b*c)->Q v' H'
variable {i:Nat}
theorem Pf{us:List Int}{x y:V}(h:((ts.map V.int).zip (us.map V.int))[i]?=some (x,y)):∃t u:Int,x=.int t/\y=.int u/\ts[i]?=some t/\us[i]?=some u:=by rw [lR] at h;obtain ⟨h1,h2⟩:=h;rw [bu] at h1 h2;obtain ⟨t,e1,e2⟩:=Option.map_eq_some_iff.mp h1;obtain ⟨u,e3,e4⟩:=Option.map_eq_some_iff.mp h2;exact (gl t u e2.symm e4.symm e1 e3)
theorem pP{vs:List V}{ws:List Int}(hl:vs.length=ws.length)(h:∀(i:Nat) (v:V),vs[i]?=some v->∃w,ws[i]?=some w/\v=.int w):vs=ws.map V.int:=by
 refine List.ext_getElem? λi=>?_;rw [bu];by_cases hi:i<vs.length
 ·obtain ⟨w,e1,e2⟩:=h i vs[i] (by simp [hi])
  rw [e1,show vs[i]?=some vs[i] by simp [hi],e2]
  rfl
 ·rw [sk ⋯,sk ⋯]
  rfl
def xi(H0 H:Hp)(v:V)(ts:List Int)(B:Int):Prop:=∃tp l:Addr,v=.ref tp/\H tp=some (.tup [.ref l,.int B])/\H l=some (.lst (ts.map V.int))/\H0 l=none
variable {m:Int}
theorem Yk{b:Int}(hb:1<=b)(hm:1<=m):1<=b / (Int.gcd b m:Int)*m/\m∣b / (Int.gcd b m:Int)*m/\b∣b / (Int.gcd b m:Int)*m/\(b / (Int.gcd b m:Int)*m).natAbs<=b.natAbs*m.natAbs:=by
 have gp:=pG (a:=b) (b:=m) ⋯
 obtain ⟨b',eb⟩:=sg (a:=b) (b:=m);obtain ⟨m',em⟩:=qr (a:=b) (b:=m);generalize Int.gcd b m=g at *;have g0:(g:Int)≠0:=by lia
 have gb:b / (g:Int)=b':=by rw [eb];exact lQ _ g0
 rw [gb];have b0:0<b':=wY (u:=(g:Int)) ⋯ (by rw [<-eb];lia)
 have mp:0<b'*m:=fk b0 ⋯
 refine ⟨⋯,qs ..,⟨m',?_⟩,?_⟩
 ·rw [em,eb]
  simp only [mH,fU,Dk]
 ·rw [bU]
  refine g8 _ ?_;rw [<-gb];exact oR ..
variable {H0:Hp}
theorem xi.at{B:Int}(h:xi H0 H v ts B):pO H v ts B:=by intros am15 h tp l e e1 e2 _;exact (ce tp l e e1 e2)
def qI(D:Addr)(H:Hp)(v:V)(ts:List Int)(B:Int):Prop:=∃tp l:Addr,v=.ref tp/\H tp=some (.tup [.ref l,.int B])/\H l=some (.lst (ts.map V.int))/\l≠D
variable {zs:List V} {D:Addr}
theorem xi.cC{B:Int}(h:xi H0 H v ts B)(e:H0 D=some (.lst zs)):qI D H v ts B:=by intros am15 h tp l e0 e1 e2 n;exact (gl tp l e0 e1 e2 (λz=>by rw [z,e] at n;cases n))
theorem qI.keep{B:Int}(h:qI D H v ts B)(eD:H D=some (.lst zs))(k:∀b o,b≠D->H b=some o->H' b=some o):qI D H' v ts B:=by intros am15 h tp l e0 e1 e2 n;exact ⟨tp,l,e0,k _ _ (λz=>by rw [z,eD] at e1;cases e1) e1,k _ _ n e2,n⟩
theorem qI.at{B:Int}(h:qI D H v ts B):pO H v ts B:=by intros am15 h tp l e e1 e2 _;exact (ce tp l e e1 e2)
structure Bm (H:Hp) (a:Addr) (ws:List (List Int×Int)):Prop where
 ex:∃vs:List V,H a=some (.lst vs)/\vs.length=ws.length/\∀(i:Nat) (v:V) (w:List Int×Int),vs[i]?=some v->ws[i]?=some w->pO H v w.1 w.2
variable {a:Addr}
theorem Bm.mono{ws:List (List Int×Int)}(h:Bm H a ws)(s:ag H H'):Bm H' a ws:=by obtain ⟨vs,e,l,k⟩:=h.ex;exact ⟨(am vs (s _ _ e) l (λi v w h1 h2=>(k i v w h1 h2).mono s))⟩
variable {α:Type}
theorem pick{β:Type}{xs:List α}{R:Nat->α->β->Prop}(h:∀(i:Nat) (x:α),xs[i]?=some x->∃w,R i x w):∃ws:List β,ws.length=xs.length/\∀(i:Nat) (x:α) (w:β),xs[i]?=some x->ws[i]?=some w->R i x w:=by
 refine ⟨List.ofFn λi:Fin xs.length=>Classical.choose (h i.1 xs[i.1] (by simp)),by simp,λi x w hx hw=>?_⟩
 have hi:i<xs.length:=(aL.mp hx).1;have ex:xs[i]=x:=(aL.mp hx).2;rw [List.getElem?_ofFn,dif_pos hi] at hw;have hw:=Option.some.inj hw;rw [<-hw];have z:=HX (h i xs[i] (by simp [hi]))
 rw [<-ex];exact z
variable {q:Int}
theorem i5{b c:Int}(hq:aD q)(h1:¬q∣b)(h2:¬q∣c):¬q∣b*c:=λh=>by
 rcases hq with rfl | ⟨q2,q3,q4⟩
 ·have z:=kD.mp h
  rcases Ds.mp z with z | z;·exact h1 (by rw [z];exact mI 0)
  ·exact h2 (by rw [z];exact mI 0)
 ·have k1:=fi c (show q≠0 by lia)
  have k2:=fH c (show 0<q by lia)
  have k3:c % q≠0:=λz=>h2 (Dn z);have g:=Jg q2 q3 q4 (show 1<=c % q by lia) k2
  obtain ⟨w,ew⟩:=Bi c q;exact h1 (Ea q2 (OW g ⟨-w,by rw [je];lia⟩) h)
variable {t:Int}
theorem cN.cC{b:Int}{ys:List V}(h:cN H q v t b)(eD:H D=some (.lst ys))(k:∀b o,b≠D->H b=some o->H' b=some o):cN H' q v t b:=by
 cases h with
 | cq e l hb h=>refine .cq (k _ _ (λz=>?_) e) l hb h;rw [z,eD] at e;cases e
 | rem q2 h0 h1 g h=>exact .rem q2 h0 h1 g h
def iJ(H:Hp)(q:Int)(a:Addr)(tb:aI):Prop:=∃vs:List V,H a=some (.lst vs)/\vs.length=tb.length/\∀(i:Nat) (v:V) (p:Int×Int),vs[i]?=some v->tb[i]?=some p->cN H q v p.1 p.2
def aW:List (Int×Int)->List (Int×Int)->Int×Int->Int×Int
 | p::ps,r::rs,acc=>aW ps rs (acc.1*p.2*r.2+p.1*r.1*acc.2,acc.2*p.2*r.2)
 | _,_,acc=>acc
theorem En{B C:Int}:∀{ps rs:aI} {ts us:List Int} {S:Int} {acc:Int×Int},ts.length=ps.length->us.length=rs.length->
  (∀(i:Nat) (p:Int×Int) (t:Int),ps[i]?=some p->ts[i]?=some t->t*p.2=p.1*B)->(∀(i:Nat) (p:Int×Int) (t:Int),rs[i]?=some p->us[i]?=some t->t*p.2=p.1*C)->
  S*acc.2=acc.1*(B*C)->(S+kj ts us)*(aW ps rs acc).2=(aW ps rs acc).1*(B*C)
 | p::ps,r::rs,t::ts,u::us,S,acc,hl,mZ,h1,h2,e=>by
  have a:=h1 0 p t rfl rfl;have b:=h2 0 r u rfl rfl
  have z:=En (ps:=ps) (rs:=rs) (ts:=ts) (us:=us) (S:=S+t*u) (acc:=(acc.1*p.2*r.2+p.1*r.1*acc.2,acc.2*p.2*r.2)) (by simpa using hl) (by simpa using mZ)
   (λi q v x y=>h1 (i+1) q v (by simpa using x) (by simpa using y)) (λi q v x y=>h2 (i+1) q v (by simpa using x) (by simpa using y)) (by dsimp only;obtain ⟨a1,a2⟩:=acc;dsimp only at e ⊢;grind)
  have d:kj (t::ts) (u::us)=t*u+kj ts us:=by unfold kj;simp
  rw [d,<-Int.add_assoc];exact z
 | [],rs,ts,us,S,acc,hl,mZ,h1,h2,e=>by
  have:ts=[]:=jB.mp (by simpa using hl)
  subst this;have d:kj [] us=0:=by unfold kj;simp
  have f:aW [] rs acc=acc:=by unfold aW;rfl
  rw [d,AE,f];exact e
 | p::ps,[],ts,us,S,acc,hl,mZ,h1,h2,e=>by
  have:us=[]:=jB.mp (by simpa using mZ)
  subst this;have d:kj ts []=0:=by unfold kj;simp
  have f:aW (p::ps) [] acc=acc:=by unfold aW;rfl
  rw [d,AE,f];exact e
def aC(q:Int)(b:Int):Prop:=(q=0->1<=b)/\(q≠0->b=1)
theorem Eo{q:Int}:∀{ps rs:aI} {acc:Int×Int},(∀p∈ps,aC q p.2)->(∀p∈rs,aC q p.2)->aC q acc.2->aC q (aW ps rs acc).2
 | p::ps,r::rs,acc,h1,h2,h3=>by
  unfold aW;refine Eo (λx hx=>h1 x (iQ _ hx)) (λx hx=>h2 x (iQ _ hx)) ?_;have a:=h1 p jx;have b:=h2 r jx;refine ⟨λz=>?_,λz=>?_⟩
  ·have x1:=a.1 z
   have x2:=b.1 z;have x3:=h3.1 z;have:=fk (fk (show 0<acc.2 by lia) (show 0<p.2 by lia)) (show 0<r.2 by lia)
   dsimp only;lia
  ·dsimp only
   rw [h3.2 z,a.2 z,b.2 z];rfl
 | [],rs,acc,h1,h2,h3=>by rw [show aW [] rs acc=acc by unfold aW;rfl];exact h3
 | p::ps,[],acc,h1,h2,h3=>by rw [show aW (p::ps) [] acc=acc by unfold aW;rfl];exact h3
variable {t' b':Int}
theorem cN.to{b:Int}(h:cN H q v t b)(hq:aD q)(e:t*b'=t'*b)(ok:aC q b'):cN H q v t' b':=by
 cases h with
 | cq e1 l hb h=>
  rename_i p x m
  have b0:=ok.1 rfl;refine .cq e1 l ⋯ (w9 (c:=b) hb ?_)
  grind
 | rem q2 h0 h1 g h=>
  rename_i r
  have b0:=ok.2 ⋯
  subst b0;refine .rem q2 h0 h1 (by rw [nM]) (Ea q2 g ?_)
  obtain ⟨k,ek⟩:=h;exact ⟨k,by grind⟩
variable {B:Nat} {x:Int}
theorem cH.bot(h:cH B H q v x m)(hq:aD q):aC q m:=by
 cases h with
 | cq e l bx bm=>exact ⟨λ_=>l.pos,λz=>absurd rfl z⟩
 | rem h0 h1 h2=>exact ⟨λ_=>by lia,λ_=>rfl⟩
def Ep(D:Addr)(H:Hp)(q:Int)(a:Addr)(tb:aI):Prop:=a≠D/\iJ H q a tb
theorem Ep.keep{tb:aI}(h:Ep D H q a tb)(eD:H D=some (.lst zs))(k:∀b o,b≠D->H b=some o->H' b=some o):Ep D H' q a tb:=by intros amA h n am7 vs e l f;exact ⟨n,vs,k _ _ n e,l,λi v p h1 h2=>(f i v p h1 h2).cC eD k⟩
theorem Pg{c:TT}{t u:TS}{D:Ends}(h:c σ H λb H1=>if b=true then t D σ H1 else u D σ H1):AQ c t u D σ H:=h
theorem Yl{Q:Bool->Hp->Prop}(h:te σ H λx H1=>∃c,x=.bl c/\Q c H1):tB te σ H Q:=h
theorem pQ{vs:List V}{b:Bool}(h:∀(i:Nat) (v:V),vs[i]?=some v->v=.bl b):vs=(List.replicate vs.length b).map V.bl:=by
 refine List.ext_getElem? λi=>?_;rw [bu];by_cases hi:i<vs.length
 ·rw [show vs[i]?=some vs[i] by simp [hi],h i vs[i] (by simp [hi])]
  simp [hi]
 ·rw [sk ⋯,sk (by simp;lia)]
  rfl
theorem Ym(n:Nat):(List.replicate n false).any id=false:=by simp
theorem qJ(n:Nat):(List.replicate n true).all id=true:=by simp
theorem Ph:∀(ps rs:aI) (i:Nat) (acc:Int×Int) (p r:Int×Int),ps[i]?=some p->rs[i]?=some r->
  aW (ps.take (i+1)) (rs.take (i+1)) acc=((aW (ps.take i) (rs.take i) acc).1*p.2*r.2+p.1*r.1*(aW (ps.take i) (rs.take i) acc).2,(aW (ps.take i) (rs.take i) acc).2*p.2*r.2)
 | x::ps,y::rs,0,acc,p,r,h1,h2=>by cases h1;cases h2;simp [aW]
 | x::ps,y::rs,i+1,acc,p,r,h1,h2=>by
  have z:=Ph ps rs i (acc.1*x.2*y.2+x.1*y.1*acc.2,acc.2*x.2*y.2) p r (by simpa using h1) (by simpa using h2)
  simp only [List.take_succ_cons,aW];exact z
 | [],rs,i,acc,p,r,h1,h2=>by simp at h1
 | x::ps,[],i,acc,p,r,h1,h2=>by simp at h2
theorem Yn(ps rs:aI)(acc:Int×Int)(n:Nat)(h:min ps.length rs.length<=n):aW (ps.take n) (rs.take n) acc=aW ps rs acc:=by
 induction ps generalizing rs acc n with
 | nil=>simp [aW]
 | cons p ps ih=>
  cases rs with
  | nil=>simp [aW]
  | cons r rs=>
   cases n with
   | zero=>simp at h
   | succ n=>simp only [List.take_succ_cons,aW];exact ih rs _ n (by simp at h;lia)
theorem Bn{r:R2}{ta tb:TE}(h:ta σ H λx H1=>tb σ H1 λy H2=>r x y H2 Q):l6 r ta tb σ H Q:=h
def Yo:Sp:=λvs H Q _=>∃(q:Int) (a:Addr) (tb:aI) (n:Int),vs=[.int q,.ref a,.int n]/\iJ H q a tb/\(tb.length:Int)=n/\tb.length<=40/\(∀p∈tb,b_ p.2)/\∀H',ag H H'->Q (.bl true) H'
theorem Yp{b:Int}(h:cN H q v t b)(bb:b_ b):Thing H v:=by
 cases h with
 | cq e l hb h=>exact Xf e (.int _) (.int _) (λi e=>by have e:=V.int.inj e;rw [<-e];exact bT (w6 l hb h).2 bb)
 | rem q2 h0 h1 g h=>exact Xe
theorem Er:∀(ps rs:aI) (acc:Int×Int),aW ps rs acc=aW rs ps acc
 | p::ps,r::rs,acc=>by unfold aW;rw [Er ps rs,show acc.1*p.2*r.2+p.1*r.1*acc.2=acc.1*r.2*p.2+r.1*p.1*acc.2 by grind,show acc.2*p.2*r.2=acc.2*r.2*p.2 by grind]
 | [],[],acc=>rfl
 | [],r::rs,acc=>by simp [aW]
 | p::ps,[],acc=>by simp [aW]
variable {n:Nat}
theorem pR(h:((List.range n).map λi:Nat=>V.int (0+(i:Int)))[i]?=some v):i<n/\v=.int (i:Int):=by
 have a_:i<n:=by have:=(aL.mp h).1;simpa using this
 refine ⟨a_,?_⟩;rw [bu] at h;simp [a_] at h;exact h.symm
theorem none_of{b:Addr}(s:ag H H')(h:H' b=none):H b=none:=by
 cases e:H b with
 | none=>rfl
 | some o=>rw [s _ _ e] at h;cases h
variable {K:aQ}
theorem td{u:V}{b:Int}(hv:cN H q v t b)(hu:cN H q u t' b')(e:t*b'=t'*b)(n:Nat):xh K H (n+1) v u:=by
 rcases Jj hv hu e with ⟨p,p',x,m,rfl,rfl,e1,e2⟩ | ⟨i,rfl,rfl⟩
 ·refine .inr (sB p p' _ _ rfl rfl (.inr ⟨.of e1,.of e2⟩) rfl (λj x y h1 h2=>?_))
  rw [h1] at h2;cases h2;have hf:iY x=true:=by
   match j,h1 with
   | 0,h1=>cases h1;rfl
   | 1,h1=>cases h1;rfl
   | j+2,h1=>cases h1
  cases n with
  | zero=>exact ⟨rfl,hf⟩
  | succ n=>exact .inl ⟨rfl,hf⟩
 ·exact .inl ⟨rfl,rfl⟩
theorem Jq{t:TA}(h:te σ H λx H1=>t σ H1 λxs H2=>(x::xs).length<=sizeLine/\∀p,H2 p=none->Q (.ref p) (upd H2 p (.lst (x::xs)))):NZ (mS te t) σ H Q:=h
def kX(H:Hp)(q:Int)(r:Addr)(M:Nat)(g:Nat->Int×Int):Prop:=∃ws:List V,H r=some (.lst ws)/\ws.length=M/\∀(j:Nat) (w:V),ws[j]?=some w->cN H q w (g j).1 (g j).2
variable {r:Addr} {M:Nat} {g:Nat->Int×Int}
theorem kX.mono(h:kX H q r M g)(s:ag H H'):kX H' q r M g:=by intros am7 h ws e l k;exact ⟨ws,s _ _ e,l,λj w hw=>(k j w hw).mono s⟩
theorem kX.Yq(h:kX H q r M g):iJ H q r ((List.range M).map g):=by
 intros am7 h ws e l k;refine (am ws e (by simp [l]) (λi v p h1 h2=>?_))
 have hi:i<M:=by rw [<-l];exact (aL.mp h1).1
 rw [bu] at h2;simp [hi] at h2;subst h2;exact k i v h1
def Bp(H0 H:Hp)(q:Int)(a:Addr)(N M:Nat)(f:Nat->Nat->Int×Int):Prop:=∃vs:List V,H a=some (.lst vs)/\vs.length=N/\∀(i:Nat) (v:V),vs[i]?=some v->∃r:Addr,v=.ref r/\r≠a/\H0 r=none/\kX H q r M (f i)
variable {N:Nat}
theorem Bp.mono{f:Nat->Nat->Int×Int}(h:Bp H0 H q a N M f)(s:ag H H'):Bp H0 H' q a N M f:=by intros am7 h vs e l k;exact ⟨vs,s _ _ e,l,λi v hv=>by obtain ⟨r,e1,e2,e3,e4⟩:=k i v hv;exact (ii r e1 e2 e3 (e4.mono s))⟩
theorem Pj{b:Addr}{f:Nat->Int×Int}(h1:kX H q a M f)(h2:kX H q b M f)(n:Nat):xh K H (n+2) (.ref a) (.ref b):=by intros am7 h1 vs e1 l1 f1;intros am7 h2 us e2 l2 f2;exact .inr (sB a b vs us rfl rfl (.inl ⟨.of e1,.of e2⟩) ⋯ (λj x y hx hy=>td (f1 j x hx) (f2 j y hy) rfl n))
def o1:Int×Int:=(0,1)
def Yr:Sp:=λvs H Q _=>∃(q:Int) (H0:Hp) (a:Addr) (N M:Nat) (f:Nat->Nat->Int×Int),vs=[.int q,.ref a,.int (N:Int),.int (M:Int)]/\Bp H0 H q a N M f/\N<=40/\M<=40/\(∀i j,i<N->j<M->b_ (f i j).2)/\∀H',ag H H'->Q (.bl true) H'
theorem getD_at{α:Type}{xs:List α}{d:α}(hi:i<xs.length):xs.getD i d=xs[i]:=by
 rw [cb,show xs[i]?=some xs[i] by simp [hi]]
 rfl
def Jr(H:Hp)(q:Int)(a:Addr)(ps:aI):Prop:=∃vs:List V,H a=some (.lst vs)/\vs.length=ps.length/\∀(i:Nat) (v:V) (p:Int×Int),vs[i]?=some v->ps[i]?=some p->cH (10 ^ 60) H q v p.1 p.2
def Es(H:Hp)(q:Int)(a:Addr)(aa:aH):Prop:=∃vs:List V,H a=some (.lst vs)/\vs.length=aa.length/\∀(i:Nat) (v:V) (ps:aI),vs[i]?=some v->aa[i]?=some ps->∃r:Addr,v=.ref r/\Jr H q r ps
def a8(q:Int)(p t:Int×Int):Prop:=q∣p.1*t.2-t.1*p.2
theorem a8.refl(p:Int×Int):a8 q p p:=⟨0,by rw [Int.sub_self,cI]⟩
variable {p:Int×Int}
theorem a8.symm{t:Int×Int}(h:a8 q p t):a8 q t p:=by obtain ⟨k,e⟩:=h;exact ⟨-k,by rw [je];lia⟩
theorem a8.cancel{b:Int}(ok:aC q b)(h:q∣b*x):q∣x:=by
 by_cases z:q=0
 ·subst z
  have h0:=kD.mp h;have b1:=ok.1 rfl;rcases Ds.mp h0 with e | e;·lia
  ·rw [e];exact mI 0
 ·rw [ok.2 z,mJ] at h
  exact h
theorem a8.trans{t s:Int×Int}(h1:a8 q p t)(h2:a8 q t s)(ok:aC q t.2):a8 q p s:=by obtain ⟨k1,e1⟩:=h1;obtain ⟨k2,e2⟩:=h2;refine a8.cancel ok ⟨k1*s.2+k2*p.2,?_⟩;grind
def ah:Nat->(Nat->Int)->Int
 | 0,_=>0
 | n+1,f=>f 0+ah n λi=>f (i+1)
theorem dc:∀{n:Nat} {f g:Nat->Int},(∀i,i<n->f i=g i)->ah n f=ah n g
 | 0,f,g,_=>rfl
 | n+1,f,g,h=>by unfold ah;rw [h 0 ⋯,dc λi hi=>h (i+1) ⋯]
theorem og:∀(n:Nat) (f g:Nat->Int),ah n (λi=>f i+g i)=ah n f+ah n g
 | 0,f,g=>rfl
 | n+1,f,g=>by show f 0+g 0+ah n (λi=>f (i+1)+g (i+1))=(f 0+ah n λi=>f (i+1))+(g 0+ah n λi=>g (i+1));rw [og n];lia
theorem cD(c:Int):∀(n:Nat) (f:Nat->Int),c*ah n f=ah n λi=>c*f i
 | 0,f=>by unfold ah;rw [cI]
 | n+1,f=>by unfold ah;rw [Int.mul_add,cD c n]
theorem gz:∀(n:Nat),ah n (λ_=>0)=0
 | 0=>rfl
 | n+1=>by unfold ah;rw [gz n];rfl
theorem tq:∀(n m:Nat) (F:aE),ah n (λi=>ah m λj=>F i j)=ah m λj=>ah n λi=>F i j
 | 0,m,F=>by show (0:Int)=_;rw [show (λj=>ah 0 λi=>F i j)=λ_=>(0:Int) from rfl,gz]
 | n+1,m,F=>by show (ah m λj=>F 0 j)+ah n (λi=>ah m λj=>F (i+1) j)=ah m λj=>F 0 j+ah n λi=>F (i+1) j;rw [tq n m,<-og]
theorem kY:∀(n j:Nat) (f:Nat->Int),j<n->ah n (λi=>if i=j then f i else 0)=f j
 | n+1,0,f,_=>by
  show (if (0:Nat)=0 then f 0 else 0)+ah n (λi=>if i+1=0 then f (i+1) else 0)=f 0
  rw [ao rfl,show (λi=>if i+1=0 then f (i+1) else 0)=λ_=>(0:Int) from funext λi=>aq ⋯,gz]
  lia
 | n+1,j+1,f,h=>by
  show (if (0:Nat)=j+1 then f 0 else 0)+ah n (λi=>if i+1=j+1 then f (i+1) else 0)=f (j+1)
  rw [aq ⋯,show (λi=>if i+1=j+1 then f (i+1) else 0)=λi=>if i=j then (λi=>f (i+1)) i else 0 from funext λi=>by by_cases z:i=j <;> simp [z],kY n j (λi=>f (i+1)) ⋯]
  lia
theorem Js{q D1 D2:Int}:∀(n:Nat) (ps rs:aI) (f g:Nat->Int) (acc:Int×Int) (S:Int),ps.length=n->rs.length=n->(∀i,i<n->a8 q (ps.getD i o1) (f i,D1))->(∀i,i<n->a8 q (rs.getD i o1) (g i,D2))->
  a8 q acc (S,D1*D2)->a8 q (aW ps rs acc) (S+ah n (λi=>f i*g i),D1*D2)
 | 0,ps,rs,f,g,acc,S,h1,h2,_,_,h=>by
  have:ps=[]:=jB.mp h1;subst this;rw [show aW [] rs acc=acc by unfold aW;rfl]
  show a8 q acc (S+0,_);rw [AE];exact h
 | n+1,p::ps,r::rs,f,g,acc,S,h1,h2,hp,hr,h=>by
  have a:=hp 0 ⋯
  have b:=hr 0 ⋯
  have z:=Js (D1:=D1) (D2:=D2) n ps rs (λi=>f (i+1)) (λi=>g (i+1)) (acc.1*p.2*r.2+p.1*r.1*acc.2,acc.2*p.2*r.2) (S+f 0*g 0) (by simpa using h1) (by simpa using h2)
   (λi hi=>by simpa using hp (i+1) ⋯) (λi hi=>by simpa using hr (i+1) ⋯) (by obtain ⟨k1,e1⟩:=a;obtain ⟨k2,e2⟩:=b;obtain ⟨k3,e3⟩:=h;simp only [List.getD_cons_zero] at e1 e2;refine ⟨p.2*r.2*k3+acc.2*(p.1*D1*k2+g 0*r.2*k1),?_⟩;dsimp only at e1 e2 e3 ⊢;grind)
  unfold aW;show a8 q _ (S+(f 0*g 0+ah n λi=>f (i+1)*g (i+1)),_);rw [<-Int.add_assoc];exact z
variable {ps:aI}
theorem Pk{D1 D2:Int}{rs:aI}{f g:Nat->Int}(h1:ps.length=n)(h2:rs.length=n)(hp:∀i,i<n->a8 q (ps.getD i o1) (f i,D1))(hr:∀i,i<n->a8 q (rs.getD i o1) (g i,D2)) :
  a8 q (aW ps rs (0,1)) (ah n (λi=>f i*g i),D1*D2):=by
 have z:=Js (D1:=D1) (D2:=D2) n ps rs f g (0,1) 0 h1 h2 hp hr ⟨0,by simp⟩
 rw [wj] at z;exact z
theorem Jt{q:Int}:∀(xs:aI),(∀p∈xs,aC q p.2)->(q=0\/q≠0)->∃D:Int,aC q D/\∀p∈xs,p.2∣D
 | [],_,_=>⟨1,⟨λ_=>by decide,λ_=>rfl⟩,λp hp=>by simp at hp⟩
 | x::xs,h,hq=>by
  obtain ⟨D,h1,h2⟩:=Jt xs (λp hp=>h p (iQ _ hp)) hq;have hx:=h x jx;refine ⟨x.2*D,⟨λz=>?_,λz=>?_⟩,λp hp=>?_⟩
  ·have:=fk (show 0<x.2 by have:=hx.1 z;lia) (show 0<D by have:=h1.1 z;lia)
   lia
  ·rw [hx.2 z,h1.2 z];rfl
  ·rcases fM.mp hp with e | e
   ·rw [e];exact Int.dvd_mul_right ..
   ·exact jW (h2 p e) (qs ..)
def Et(D:Int)(p:Int×Int):Int:=p.1*(D / p.2)
theorem Pl{D:Int}(h:p.2∣D)(ok:aC q p.2):a8 q p (Et D p,D):=by
 obtain ⟨c,e⟩:=h;refine ⟨0,?_⟩;rw [cI];unfold Et;dsimp only;by_cases z:p.2=0
 ·rw [z,iT] at e
  rw [e,z];simp
 ·rw [e,lQ _ z]
  grind
theorem cN.i6{b:Int}(h:cN H q v t b)(e:a8 q (t,b) (t',b'))(ok:aC q b'):cN H q v t' b':=by
 cases h with
 | cq e1 l hb h=>
  rename_i p x m
  have b0:=ok.1 rfl;have e:=kD.mp e;refine .cq e1 l ⋯ (w9 (c:=b) hb ?_)
  dsimp only at e;grind
 | rem q2 h0 h1 g h=>
  rename_i r
  have b0:=ok.2 ⋯
  subst b0;refine .rem q2 h0 h1 (by rw [nM]) (Ea q2 g ?_)
  obtain ⟨k,ek⟩:=h;obtain ⟨k2,Ju⟩:=e;dsimp only at Ju;exact ⟨k+k2,by grind⟩
theorem Eu{b:Int}(h:cN H q v t b)(hq:aD q)(bt:t.natAbs<=B)(bb:b.natAbs<=B):∃xm:Int×Int,cH B H q v xm.1 xm.2/\a8 q xm (t,b):=by
 cases h with
 | cq e l hb h=>
  rename_i p x m
  obtain ⟨c1,c2⟩:=w6 l hb h;exact ⟨(x,m),.cq e l (au c1 bt) (au c2 bb),⟨0,by dsimp only;rw [h];lia⟩⟩
 | rem q2 h0 h1 g h=>
  rename_i r
  obtain ⟨k,ek⟩:=h;have q3:q<=997:=by rcases hq with z | ⟨_,z,_⟩ <;> lia
  exact ⟨(r,1),.rem h0 h1 q3,⟨k,by dsimp only;rw [jV];exact ek⟩⟩
def iK(n i:Nat):List (Int×Int):=(List.range n).map λj=>if j=i then ((1:Int),(1:Int)) else ((0:Int),(1:Int))
theorem oh(hB:1<=B){a:Int}(h:sX H q v a 1)(hq:aD q)(ha:a=0\/a=1):cH B H q v a 1:=by
 rcases h with ⟨rfl,r,rfl,e⟩ | ⟨q2,r,rfl,r0,r1,er⟩
 ·rw [(OU a).1,(OU a).2] at e
  exact .cq e ⟨∅,nM ..⟩ (by rcases ha with rfl | rfl <;> simp [hB]) (by simpa using hB)
 ·have q3:q<=997:=by rcases hq with z | ⟨_,z,_⟩ <;> lia
  rw [si (show (0:Int)<=1 by decide) (show (1:Int)<q by lia),jV,si r0 r1] at er
  have ea:a % q=a:=si ⋯ ⋯
  rw [ea] at er;subst er;exact .rem r0 r1 q3
theorem xj(hq:aD q):¬n9 q 1:=λh=>by
 unfold n9 at h;rcases hq with rfl | ⟨q2,q3,q4⟩;·rw [ao rfl] at h;lia
 ·rw [aq ⋯,si ⋯ ⋯] at h;lia
theorem aC.mul{a b:Int}(h1:aC q a)(h2:aC q b):aC q (a*b):=⟨λz=>by
  have:=fk (show 0<a by have:=h1.1 z;lia) (show 0<b by have:=h2.1 z;lia)
  lia,λz=>by rw [h1.2 z,h2.2 z];rfl⟩
theorem aC.one:aC q 1:=⟨λ_=>by decide,λ_=>rfl⟩
theorem Ys(hb:∀p∈ps,aC q p.2):∃(D:Int) (A:Nat->Int),aC q D/\∀j,j<ps.length->a8 q (ps.getD j o1) (A j,D):=by obtain ⟨D,h1,h2⟩:=Jt ps hb (Classical.em _);refine ⟨D,λj=>Et D (ps.getD j o1),h1,λj hj=>?_⟩;dsimp only;rw [getD_at hj];exact Pl (h2 _ (aG hj)) (hb _ (aG hj))
theorem Yt{aa:aH}(hb:∀ps∈aa,∀p∈ps,aC q p.2)(hN:aa.length=N)(hM:∀ps∈aa,ps.length=M):∃(D:Int) (A:aE),aC q D/\∀i j,i<N->j<M->a8 q ((aa.getD i []).getD j o1) (A i j,D):=by
 obtain ⟨D,h1,h2⟩:=Jt aa.flatten (λp hp=>by obtain ⟨ps,a,b⟩:=AF.mp hp;exact hb ps a p b) (Classical.em _)
 refine ⟨D,λi j=>Et D ((aa.getD i []).getD j o1),h1,λi j hi hj=>?_⟩;have a_:i<aa.length:=by lia
 dsimp only;rw [getD_at a_];have eG:j<aa[i].length:=by rw [hM _ (aG a_)];exact hj
 rw [getD_at eG];exact Pl (h2 _ (AF.mpr ⟨_,aG a_,aG eG⟩)) (hb _ (aG a_) _ (aG eG))
theorem cH.both(h:cH B H q v x m)(b1:1000<=B):x.natAbs<=B/\m.natAbs<=B:=by
 cases h with
 | cq e l bx bm=>exact ⟨bx,bm⟩
 | rem h0 h1 h2=>exact ⟨⋯,by show Int.natAbs 1<=B;lia⟩
theorem Ew{j:Nat}(hj:j<n):(iK n i).getD j o1=((if j=i then 1 else 0:Int),(1:Int)):=by
 unfold iK;rw [getD_at (by simpa using hj),iU,List.getElem_range]
 by_cases z:j=i <;> simp [z]
theorem xn:(iK n i).length=n:=by simp [iK]
theorem Ex(k m:Nat)(A:Nat->Int)(B:aE)(R:Nat->Int):(ah k λj=>(ah m λl=>A l*B l j)*R j)=ah m λl=>A l*ah k λj=>B l j*R j:=by
 have e1:(λj=>(ah m λl=>A l*B l j)*R j)=λj=>ah m λl=>A l*(B l j*R j):=funext λj=>by rw [fU,cD];exact dc λl _=>by rw [fU,mH]
 rw [e1,tq];exact dc λl _=>(cD ..).symm
def aM(B:Nat)(H:Hp)(q:Int)(a:Addr)(ps:aI):Prop:=∃vs:List V,H a=some (.lst vs)/\vs.length=ps.length/\∀(i:Nat) (v:V) (p:Int×Int),vs[i]?=some v->ps[i]?=some p->cH B H q v p.1 p.2
theorem aM.mono(h:aM B H q a ps)(s:ag H H'):aM B H' q a ps:=by intros am7 h vs e l k;exact (am vs (s _ _ e) l (λi v p h1 h2=>(k i v p h1 h2).mono s))
variable {B':Nat}
theorem cH.weak(h:cH B H q v x m)(hb:B<=B'):cH B' H q v x m:=by
 cases h with
 | cq e l bx bm=>exact .cq e l (au bx hb) (au bm hb)
 | rem h0 h1 h2=>exact .rem h0 h1 h2
theorem aM.weak(h:aM B H q a ps)(hb:B<=B'):aM B' H q a ps:=by intros am7 h vs e l k;exact (am vs e l (λi v p h1 h2=>(k i v p h1 h2).weak hb))
theorem Yu(hq:aD q){b:Addr}(h1:aM B H q a ps)(h2:aM B' H q b ps)(n:Nat):xh K H (n+2) (.ref a) (.ref b):=by
 intros am7 h1 vs e1 l1 f1;intros am7 h2 us e2 l2 f2;refine .inr (sB a b vs us rfl rfl (.inl ⟨.of e1,.of e2⟩) ⋯ (λj x y hx hy=>?_))
 have hj:j<ps.length:=by rw [<-l1];exact (aL.mp hx).1
 exact td ((f1 j x ps[j] hx (by simp [hj])).jk hq) ((f2 j y ps[j] hy (by simp [hj])).jk hq) rfl n
theorem Yv(hq:aD q){b:Addr}{R:VK}{r:Bool}(h1:aM B H q a ps)(h2:aM B' H q b ps)(k:R (.bl r) H):Ej K 1 r (.ref a) (.ref b) H R:=by
 intros am7 h1 vs e1 l1 f1;intros am7 h2 us e2 l2 f2;refine ⟨a,b,vs,us,rfl,rfl,.of e1,.of e2,⋯,λj x y hx hy=>?_,k⟩
 have hj:j<ps.length:=by rw [<-l1];exact (aL.mp hx).1
 exact td ((f1 j x ps[j] hx (by simp [hj])).jk hq) ((f2 j y ps[j] hy (by simp [hj])).jk hq) rfl 0
end My
namespace L2
open PySem PySem.Spec PyProof.Rows
def Yw(K:aQ):R2:=λx y H Q=>∃a b xs,x=.ref a/\y=.ref b/\cG K H a xs/\H b=some (.lst [])/\(∀v∈xs,∃i,v=.int i)/\Q (.bl (!xs.isEmpty)) H
theorem Yx{X:Cx}(hu:X.A.units+64<cLine):cT X (compareOp .NotEq) (Yw X.K):=by
 intro pins s σ H x y v u Q I rx ry h;intros am29 h a b xs rfl rfl h1 h2 _ q;cases rx;cases ry;obtain ⟨us,r1,t1,_⟩:=I.list h1;obtain ⟨vs,r2,t2,_⟩:=I.list (cG.of h2);have l1:=r1.length;have l2:=r2.length;cases xs with
 | nil=>
  refine SeqAt.RcNeAt.lists (e:=λ_=>true) t1.isList t2.isList (by simp at l1 l2 ⊢;lia) ⋯ (λj z1 z2=>?_) _ _ _ _ ?_
  ·simp at l1
   have:us=[]:=jB.mp l1.symm;subst this;simp at z1
  ·rw [all_range]
   exact ⟨.bl false,H,I,rfl,q⟩
 | cons w ws=>
  refine SeqAt.RcNeAt.lists_lengths t1.isList t2.isList ?_ ⋯ _ _ _ _ ⟨.bl true,H,I,rfl,q⟩
  simp at l1 l2 ⊢;lia
end L2
namespace My
open PySem L2
theorem aM.cat{B:Nat}{H:Hp}{q:Int}{r:Addr}{vs us:List V}{ps rs:aI}(e:H r=some (.lst (vs++us)))(l1:vs.length=ps.length)(l2:us.length=rs.length)(f1:∀(i:Nat) (v:V) (p:Int×Int),vs[i]?=some v->ps[i]?=some p->cH B H q v p.1 p.2)(f2:∀(i:Nat) (v:V) (p:Int×Int),us[i]?=some v->rs[i]?=some p->cH B H q v p.1 p.2):aM B H q r (ps++rs):=by
 refine ⟨vs++us,e,by simp [l1,l2],λi v p h1 h2=>?_⟩
 by_cases hi:i<vs.length
 ·rw [gL hi] at h1
  rw [gL ⋯] at h2
  exact f1 i v p h1 h2
 ·rw [iA ⋯] at h1
  rw [iA ⋯,<-l1] at h2
  exact f2 _ v p h1 h2
end My
namespace L2
open PySem PySem.Spec PyProof.Rows
theorem xo{K:aQ}{wi:TI}{ρ:St->St}{te:TE}{σ:St}{H:Hp}{Q:VK}{Z:List (V×V)->Hp->Prop}(il:∀R:It->Hp->Prop,(∀J H1 zs,ag H H1->Em J zs H1->zs.length<sizeLine->Z zs H1->R J H1)->wi σ H R)
  (P:Addr->Nat->V->Hp->Prop) (mono:∀D i y H H' ys,P D i y H->H D=some (.lst ys)->(∀b o,b≠D->H b=some o->H' b=some o)->P D i y H')
  (step:∀zs H1,Z zs H1->ag H H1->∀D i x y,zs[i]?=some (x,y)->∀(Hc:Hp) (R:VK),ag H1 Hc->(∃ys,Hc D=some (.lst ys))->(∀v H3,ag Hc H3->P D i v H3->R v H3)->te (some x::some y::ρ σ) Hc R)
  (fin:∀zs H1,Z zs H1->ag H H1->∀D vs Hc,H D=none->ag H1 Hc->vs.length=zs.length->(∀(i:Nat) (v:V),vs[i]?=some v->P D i v Hc)->Hc D=some (.lst vs)->Q (.ref D) Hc):xg K wi ρ (λ_ H Q=>Q true H) te σ H Q:=by
 refine il _ λJ H1 zs s1 js hn hZ=>?_;intro D nD;have hD:H D=none:=by
  cases e:H D with
  | none=>rfl
  | some o=>rw [s1 _ _ e] at nD;cases nD
 refine (ad (λi m vs Hc=>m=zs.length-i/\i<=zs.length/\Hc D=some (.lst vs)/\ag H1 Hc/\vs.length=i/\∀(j:Nat) (v:V),vs[j]?=some v->P D j v Hc) (ww _ rfl (f_ _) aK (e_ (ag.refl H1) nD) rfl (λj y e=>by simp at e)) ?_)
 rintro i m vs Hc ⟨rfl,hi,eD,sH,el,hP⟩;refine ⟨eD,?_⟩;by_cases dS:i<zs.length
 ·refine .inr ⟨js.go i Hc sH dS,λv H' hy=>?_⟩
  have q'34:=js.gv i Hc v H' sH hy;intros am20 q'34 T x y ev nT eH hx;subst ev eH;refine (Exists.intro T (ce x y rfl (.of aK) ?_));dsimp only;rw [ao rfl];have sT:ag Hc (upd Hc T (.tup [x,y])):=λb o e=>by rw [cj (gN e nT)];exact e
  refine step zs H1 hZ s1 D i x y (hx dS) _ _ (sH.trans sT) ⟨vs,sT _ _ eD⟩ λw H3 s3 hp=>?_;have e3:=s3 _ _ (sT _ _ eD);have cC:∀b o,b≠D->H3 b=some o->upd H3 D (.lst (vs++[w])) b=some o:=λb o nb e=>by rw [cj nb];exact e
  refine ⟨e3,⋯,zs.length-(i+1),⋯,rfl,dS,aK,e_ (sH.trans (sT.trans s3)) nD,by simp [el],λj v' e=>?_⟩
  by_cases hj:j<i;·exact mono D j v' Hc _ vs (hP j v' (by rw [gL ⋯] at e;exact e)) eD λb o nb e=>cC b o nb (s3 _ _ (sT _ _ e))
  ·have hj:j=i:=by have:=(aL.mp e).1;simp at this;lia
   subst hj;have e':v'=w:=by rw [iA ⋯,el,qu] at e;simpa using e.symm
   subst e';exact mono D _ _ H3 _ vs hp e3 cC
 ·have e:i=zs.length:=by lia
  subst e;exact .inl ⟨js.stop _ Hc sH (aP _),fin zs H1 hZ s1 D vs Hc hD sH el hP eD⟩
end L2
namespace My
open PySem L2
end My
namespace L2
open PySem PySem.Spec PyProof.Rows
section
variable {X:Cx}
end
end L2
namespace My
open PySem L2
theorem oi:∀(n:Nat) (f:Nat->Int),ah (n+1) f=ah n f+f n
 | 0,f=>by show f 0+0=0+f 0;lia
 | n+1,f=>by show f 0+ah (n+1) (λi=>f (i+1))=(f 0+ah n λi=>f (i+1))+f (n+1);rw [oi n];lia
def Canon(q:Int)(p:Int×Int):Prop:=(q=0->eQ p.1 p.2)/\(q≠0->p.2=1/\0<=p.1/\p.1<q)
variable {q m:Int}
theorem cH.canon{B:Nat}{H:Hp}{v:V}{x:Int}(h:cH B H q v x m):Canon q (x,m):=by
 cases h with
 | cq e l bx bm=>exact ⟨λ_=>l,λz=>absurd rfl z⟩
 | rem h0 h1 h2=>exact ⟨λz=>by lia,λ_=>⟨rfl,h0,h1⟩⟩
theorem aC.nz{b:Int}(hq:aD q)(h:aC q b):¬q∣b:=λhd=>by
 by_cases z:q=0
 ·subst z
  have:=h.1 rfl;have:=kD.mp hd;lia
 ·rw [h.2 z] at hd
  have q2:2<=q:=by rcases hq with h | h <;> lia
  have:=Ay ∅ hd
  lia
variable {D:Int}
theorem lcm_dvd{b:Int}(hb:1<=b)(hm:1<=m)(h1:b∣D)(h2:m∣D):b / (Int.gcd b m:Int)*m∣D:=by
 have gp:=pG (a:=b) (b:=m) ⋯
 obtain ⟨b',eb⟩:=sg (a:=b) (b:=m)
 have g0:(Int.gcd b m:Int)≠0:=by lia
 have gb:b / (Int.gcd b m:Int)=b':=by
  conv=>lhs;lhs;rw [eb]
  exact lQ _ g0
 have z:((Int.lcm b m:Nat):Int)∣D:=Int.coe_lcm_dvd h1 h2
 have e:((Int.lcm b m:Nat):Int)=b'*m:=by
  have h:=Int.gcd_mul_lcm b m
  have h2:((Int.gcd b m:Nat):Int)*((Int.lcm b m:Nat):Int)=((b*m).natAbs:Int):=by
   rw [<-Int.natCast_mul,h,bU]
  have bm:0<b*m:=fk ⋯ ⋯
  have h3:((b*m).natAbs:Int)=b*m:=by lia
  rw [h3] at h2
  refine nN g0 ?_
  rw [h2,<-mH,<-eb]
 rw [gb,<-e]
 exact z
structure Ey (q:Int) (ps:aI) (ts:List Int) (b D:Int) (B:Nat):Prop where
 len:ts.length=ps.length
 ok:aC q b
 dvd:b∣D
 each:∀i,i<ps.length->ts.getD i 0*(ps.getD i o1).2=(ps.getD i o1).1*b/\(ts.getD i 0).natAbs<=B*D.natAbs
theorem Jv{b:Int}(h:b∣D)(hD:D≠0):b.natAbs<=D.natAbs:=Nat.le_of_dvd (kC.mpr hD) (HY.mpr h)
structure pU (q:Int) (n:Nat):Prop where
 qK:n<=40
 l4:q=0->n<=4
def Yy(C:Addr):Sp:=λvs H Q _=>∃(z:Addr) (q:Int) (n i:Nat),vs=[.ref z,.int (n:Int),.int (i:Int)]/\da C H z q/\aD q/\n<=40/\i<n/\∀(r:Addr) (H':Hp),ag H H'->H r=none->Jr H' q r (iK n i)->Q (.ref r) H'
def Yz(C:Addr):Sp:=λvs H Q _=>∃(z:Addr) (q:Int) (n:Nat),vs=[.ref z,.int (n:Int)]/\da C H z q/\aD q/\n<=40/\∀(r:Addr) (H':Hp),ag H H'->H r=none->Es H' q r ((List.range n).map (iK n))->Q (.ref r) H'
def cS(q:Int)(N M:Nat)(f:Nat->Nat->Int×Int)(A:aE)(D:Int):Prop:=aC q D/\∀i j,i<N->j<M->a8 q (f i j) (A i j,D)
def atT(aa:aH)(i j:Nat):Int×Int:=(aa.getD i []).getD j o1
variable {aa:aH}
theorem YA(h:∀ps∈aa,∀p∈ps,aC q p.2)(i j:Nat):aC q (atT aa i j).2:=by
 unfold atT;by_cases hi:i<aa.length
 ·rw [getD_at hi]
  by_cases hj:j<aa[i].length
  ·rw [getD_at hj]
   exact h _ (aG _) _ (aG _)
  ·rw [cb,sk ⋯]
   exact aC.one
 ·rw [cb (l:=aa),sk ⋯]
  exact aC.one
variable {M:Nat}
theorem Pm{N:Nat}(hb:∀ps∈aa,∀p∈ps,aC q p.2)(hN:aa.length=N)(hM:∀ps∈aa,ps.length=M):∃(A:aE) (D:Int),cS q N M (atT aa) A D:=by obtain ⟨D,A,h1,h2⟩:=Yt hb hN hM;exact ⟨A,D,h1,h2⟩
def oj(q:Int)(M:Nat)(g:Nat->Int×Int)(A:Nat->Int)(D:Int):Prop:=aC q D/\∀j,j<M->a8 q (g j) (A j,D)
theorem xp{ps:aI}(hb:∀p∈ps,aC q p.2)(l:ps.length=M):∃(A:Nat->Int) (D:Int),oj q M (λj=>ps.getD j o1) A D:=by obtain ⟨D,A,h1,h2⟩:=Ys hb;exact ⟨A,D,h1,λj hj=>h2 j ⋯⟩
end My
namespace L2
open PySem PySem.Spec PyProof.Rows
section
variable {X:Cx} {tg:Expr}
end
theorem YB{X:Cx}{K:aQ}{e:Expr}{f:Str}{pos:Pos}{ta:TE}(he:PE X e ta)(hb:attributeBase e f X.env (eval e X.env)=eval e X.env)(hK:X.K=K:=by rfl):PE X (.Attribute e f pos) (NU K ta f):=by subst hK;exact o9 he hb
end L2
namespace My
open PySem L2
def Cg(q a b:Int):Prop:=q∣a-b
variable {q:Int}
theorem Cg.refl(a:Int):Cg q a a:=⟨0,⋯⟩
variable {a:Int}
theorem Cg.of_eq{b:Int}(h:a=b):Cg q a b:=h▸Cg.refl a
theorem Cg.symm{b:Int}(h:Cg q a b):Cg q b a:=by obtain ⟨k,e⟩:=h;exact ⟨-k,by rw [je];lia⟩
theorem Cg.trans{b c:Int}(h1:Cg q a b)(h2:Cg q b c):Cg q a c:=by obtain ⟨k,e⟩:=h1;obtain ⟨l,e'⟩:=h2;exact ⟨k+l,by rw [Int.mul_add];lia⟩
variable {d:Int}
theorem Cg.add{b c:Int}(h1:Cg q a b)(h2:Cg q c d):Cg q (a+c) (b+d):=by obtain ⟨k,e⟩:=h1;obtain ⟨l,e'⟩:=h2;exact ⟨k+l,by rw [Int.mul_add];lia⟩
theorem Cg.sub{b c:Int}(h1:Cg q a b)(h2:Cg q c d):Cg q (a-c) (b-d):=by obtain ⟨k,e⟩:=h1;obtain ⟨l,e'⟩:=h2;exact ⟨k-l,by rw [Int.mul_sub];lia⟩
theorem Cg.mulL{b:Int}(c:Int)(h:Cg q a b):Cg q (c*a) (c*b):=by obtain ⟨k,e⟩:=h;exact ⟨c*k,by rw [<-Int.mul_sub,e];grind⟩
theorem Cg.mulR{b:Int}(c:Int)(h:Cg q a b):Cg q (a*c) (b*c):=by rw [fU a,fU b];exact h.mulL c
theorem Bq(q a:Int):Cg q (a % q) a:=⟨-(a / q),by have:=Int.mul_ediv_add_emod a q;rw [je];lia⟩
theorem Cg.nz{b:Int}(h:Cg q a b)(n:¬q∣b):¬q∣a:=λd=>n (by
 have:b=a-(a-b):=by lia
 rw [this];exact Int.dvd_sub d h)
theorem dq{q:Int}:∀{n:Nat} {f g:Nat->Int},(∀i,i<n->Cg q (f i) (g i))->Cg q (ah n f) (ah n g)
 | 0,_,_,_=>Cg.refl _
 | n+1,f,g,h=>by unfold ah;exact (h 0 ⋯).add (dq λi hi=>h (i+1) ⋯)
theorem Pn{α:Type}{xs:List α}{k:Nat}{d:α}(h:xs.length<=k):xs.getD k d=d:=by rw [cb,sk h];rfl
variable {wi:TI} {ρ:St->St} {te:TE} {σ:St} {H:Hp} {Q:VK}
theorem YC{ts:List Int}(g:Int->Int)(hn:ts.length<=500)
  (il:∀R:It->Hp->Prop,(∀J H1,ag H H1->n_ J (ts.map V.int) H1->R J H1)->wi σ H R)
  (step:∀t∈ts,∀(Hc:Hp) (R:VK),ag H Hc->(∀H3,ag Hc H3->R (.int (g t)) H3)->te (some (.int t)::ρ σ) Hc R)
  (fin:∀D Hc,H D=none->ag H Hc->Hc D=some (.lst ((ts.map g).map V.int))->Q (.ref D) Hc):jL wi ρ (λ_ H Q=>Q true H) te σ H Q:=by
 refine fc (xs:=ts.map V.int) il (by rw [aV];exact cR ⋯) (λ_ i y _=>∃t,ts[i]?=some t/\y=.int (g t)) (λ_ _ _ _ _ _ h _ _=>h) ?_ ?_
 ·intro D i v hi Hc R sc _ kc
  rw [bu] at hi;cases e:ts[i]? with
  | none=>rw [e] at hi;cases hi
  | some t=>rw [e] at hi;cases hi;exact step t (jA e) Hc R sc λH3 s3=>kc _ H3 s3 (ad t e rfl)
 ·intro D ys Hc nD sc dN hP eD
  have ey:ys=(ts.map g).map V.int:=pP (by rw [dN,aV,aV]) λi v e=>by obtain ⟨t,e1,e2⟩:=hP i v e;exact ⟨g t,by rw [bu,e1];rfl,e2⟩
  rw [ey] at eD;exact fin D Hc nD sc eD
def cu(j:Nat)(v:aE):Nat->Nat->Int:=λi=>if i<j then v i else v (i+1)
def sgn(j:Nat):Int:=if j % 2=0 then 1 else -1
theorem Jw(j:Nat):sgn (j+1)=-sgn j:=by
 unfold sgn;by_cases h:j % 2=0;·rw [ao h,aq ⋯]
 ·rw [aq h,ao ⋯];rfl
def aS:List Nat->(Nat->Nat->Int)->Int
 | [],_=>1
 | c::cs,v=>ah (cs.length+1) λj=>sgn j*v j c*aS cs (cu j v)
theorem Br(c:Nat)(cs:List Nat)(v:aE):aS (c::cs) v=ah (cs.length+1) λj=>sgn j*v j c*aS cs (cu j v):=rfl
variable {j:Nat}
theorem YD{l:Nat}(h:l<=j)(v:aE):cu l (cu (j+1) v)=cu j (cu l v):=by
 funext i
 unfold cu;by_cases h1:i<l;·rw [ao h1,ao ⋯,ao ⋯,ao h1]
 ·rw [aq h1]
  by_cases h2:i<j;·rw [ao h2,aq h1,ao ⋯]
  ·rw [aq h2,aq ⋯,aq ⋯]
theorem Po(n:Nat)(f:Nat->Int):ah n (λi=>-f i)=-ah n f:=by
 have:=cD (-1) n f;rw [show (λi=>-f i)=λi=>-1*f i from funext λi=>by lia,<-this]
 lia
theorem YE(n:Nat)(F:aE):(ah (n+1) λj=>ah n λl=>F j l)=(ah n λj=>ah (j+1) λl=>F (j+1) l)+ah n λl=>ah (l+1) λj=>F j l:=by
 induction n with
 | zero=>rfl
 | succ n ih=>
  rw [oi (n+1) λj=>ah (n+1) λl=>F j l];have e1:(ah (n+1) λj=>ah (n+1) λl=>F j l)=(ah (n+1) λj=>ah n λl=>F j l)+ah (n+1) λj=>F j n:=by rw [<-og];exact dc λj _=>oi n _
  rw [e1,ih,oi n λj=>ah (j+1) λl=>F (j+1) l,oi n λl=>ah (l+1) λj=>F j l];lia
theorem Pp(a b:Nat)(cs:List Nat)(v:aE):aS (a::b::cs) v=-aS (b::a::cs) v:=by
 have ex:∀x y:Nat,aS (x::y::cs) v=(ah (cs.length+1) λj=>ah (j+1) λl=>sgn (j+1)*sgn l*(v (j+1) x*v l y)*aS cs (cu j (cu l v)))-ah (cs.length+1) λj=>ah (j+1) λl=>sgn (j+1)*sgn l*(v l x*v (j+1) y)*aS cs (cu j (cu l v)):=λx y=>by
  have e0:aS (x::y::cs) v=ah (cs.length+2) λj=>ah (cs.length+1) λl=>sgn j*v j x*(sgn l*cu j v l y*aS cs (cu l (cu j v))):=by rw [Br,df];refine dc λj _=>?_;rw [Br,cD]
  rw [e0,YE (cs.length+1)];rw [Int.sub_eq_add_neg,<-Po]
  congr 1
  ·refine dc λj _=>dc λl hl=>?_
   rw [YD ⋯,show cu (j+1) v l y=v l y by unfold cu;rw [ao ⋯]]
   grind
  ·refine dc λl _=>?_
   rw [<-Po];refine dc λj hj=>?_;rw [show cu j v l y=v (l+1) y by unfold cu;rw [aq ⋯],Jw]
   grind
 rw [ex a b,ex b a];have f:∀x y:Nat,(ah (cs.length+1) λj=>ah (j+1) λl=>sgn (j+1)*sgn l*(v l x*v (j+1) y)*aS cs (cu j (cu l v)))=ah (cs.length+1) λj=>ah (j+1) λl=>sgn (j+1)*sgn l*(v (j+1) y*v l x)*aS cs (cu j (cu l v)):=λx y=>dc λj _=>dc λl _=>by rw [fU (v l x)]
 rw [f a b,f b a];lia
theorem xq(c:Nat):∀(cs:List Nat) (v:aE),c∈cs->aS (c::cs) v=0
 | b::cs,v,h=>by
  by_cases e:c=b
  ·subst e
   have:=Pp c c cs v;lia
  ·have h':c∈cs:=by
    rcases fM.mp h with z | z;·exact absurd z e
    ·exact z
   rw [Pp,Br];rw [show (λj=>sgn j*v j b*aS (c::cs) (cu j v))=λ_=>0 from funext λj=>by rw [xq c cs _ h',cI],gz]
   rfl
def bq(e:Nat->Int)(R:aE):Nat->Nat->Int
 | 0=>e
 | i+1=>R i
theorem Pq(e:Nat->Int)(R:aE):cu 0 (bq e R)=R:=by
 funext i
 unfold cu;rw [aq ⋯]
 rfl
theorem Pr(i:Nat)(e:Nat->Int)(R:aE):cu (i+1) (bq e R)=bq e (cu i R):=by
 funext j
 unfold cu;cases j with
 | zero=>rw [ao ⋯];rfl
 | succ j=>
  by_cases h:j<i
  ·rw [ao ⋯]
   show R j=if j<i then R j else R (j+1)
   rw [ao h]
  ·rw [aq ⋯]
   show R (j+1)=if j<i then R j else R (j+1)
   rw [aq h]
theorem qL(k:Nat)(C:List Nat)(e:Nat->Int)(R:aE):aS (k::C) (bq e R)=aS C R*e k+ah C.length λi=>R i k*(-(sgn i)*aS C (bq e (cu i R))):=by
 rw [Br,ah];have e0:sgn 0*bq e R 0 k*aS C (cu 0 (bq e R))=aS C R*e k:=by rw [Pq];show 1*e k*aS C R=_;rw [mJ,fU]
 rw [e0]
 congr 1
 refine dc λi _=>?_;rw [Pr,Jw];show -sgn i*R i k*_=_;grind
def qM(C:List Nat)(R:aE):Prop:=∀x:Nat->Int,(∀c∈C,(ah C.length λi=>R i c*x i)=0)->∀k,(ah C.length λi=>R i k*x i)=0
theorem YF(R:aE):qM [] R:=λ_ _ _=>rfl
variable {C:List Nat} {R:aE} {h:Nat->Int} {c:Nat}
theorem YG(sp:qM C R)(d0:aS C R≠0)(p0:aS (c::C) (bq h R)≠0):qM (c::C) (bq h R):=by
 intro x hx k;have ex:∀k,(ah (c::C).length λi=>bq h R i k*x i)=h k*x 0+ah C.length λi=>R i k*x (i+1):=λk=>rfl;have hz:∀k,aS C R*(h k*x 0+ah C.length λi=>R i k*x (i+1))-x 0*aS (k::C) (bq h R)=ah C.length λi=>R i k*(aS C R*x (i+1)-x 0*(-(sgn i)*aS C (bq h (cu i R)))):=λk=>by
  rw [qL,show (λi=>R i k*(aS C R*x (i+1)-x 0*(-(sgn i)*aS C (bq h (cu i R)))))=λi=>aS C R*(R i k*x (i+1)) + -(x 0)*(R i k*(-(sgn i)*aS C (bq h (cu i R)))) from funext λi=>by grind,og,<-cD,<-cD]
  grind
 have z:=sp _ λc' fV=>by rw [<-hz c',<-ex c',hx c' (iQ _ fV),xq c' C _ fV];simp
 have z1:∀k,aS C R*(h k*x 0+ah C.length λi=>R i k*x (i+1))=x 0*aS (k::C) (bq h R):=λk=>by have:=hz k;rw [z k] at this;omega
 have x0:x 0=0:=by
  have e:=z1 c;rw [<-ex c,hx c jx,cI] at e;rcases Ds.mp e.symm with h | h;·exact h
  ·exact absurd h p0
 have e:=z1 k;rw [x0,iT] at e;rw [ex k,x0];rcases Ds.mp e with h | h;·exact absurd h d0
 ·exact h
theorem Jx(sp:qM C R)(e h:Nat->Int)(c k:Nat) :
  aS C R*aS (k::c::C) (bq e (bq h R))=aS (c::C) (bq h R)*aS (k::C) (bq e R)-aS (c::C) (bq e R)*aS (k::C) (bq h R):=by
 have two:∀k,aS (k::c::C) (bq e (bq h R))=aS (c::C) (bq h R)*e k-aS (c::C) (bq e R)*h k+ah C.length λi=>R i k*(sgn i*aS (c::C) (bq e (bq h (cu i R)))):=λk=>by
  rw [qL,df,ah];have e0:bq h R 0 k*(-(sgn 0)*aS (c::C) (bq e (cu 0 (bq h R))))=-(aS (c::C) (bq e R)*h k):=by rw [Pq];show h k*(-1*_)=_;grind
  rw [e0,show (λi=>bq h R (i+1) k*(-(sgn (i+1))*aS (c::C) (bq e (cu (i+1) (bq h R)))))=λi=>R i k*(sgn i*aS (c::C) (bq e (bq h (cu i R)))) from funext λi=>by rw [Pr,Jw,Int.neg_neg];rfl]
  lia
 have hz:∀k,aS C R*aS (k::c::C) (bq e (bq h R))-(aS (c::C) (bq h R)*aS (k::C) (bq e R)-aS (c::C) (bq e R)*aS (k::C) (bq h R))=ah C.length λi=>R i k*(aS C R*(sgn i*aS (c::C) (bq e (bq h (cu i R))))-aS (c::C) (bq h R)*(-(sgn i)*aS C (bq e (cu i R)))+aS (c::C) (bq e R)*(-(sgn i)*aS C (bq h (cu i R)))):=λk=>by
  rw [two k,qL k C e R,qL k C h R];rw [show (λi=>R i k*(aS C R*(sgn i*aS (c::C) (bq e (bq h (cu i R))))-aS (c::C) (bq h R)*(-(sgn i)*aS C (bq e (cu i R)))+aS (c::C) (bq e R)*(-(sgn i)*aS C (bq h (cu i R)))))=λi=>(aS C R*(R i k*(sgn i*aS (c::C) (bq e (bq h (cu i R))))) + -(aS (c::C) (bq h R))*(R i k*(-(sgn i)*aS C (bq e (cu i R)))))+aS (c::C) (bq e R)*(R i k*(-(sgn i)*aS C (bq h (cu i R)))) from funext λi=>by grind,og,og,<-cD,<-cD,<-cD]
  grind
 have z:=sp _ λc' fV=>by rw [<-hz c',xq c' (c::C) _ (iQ _ fV),xq c' C _ fV,xq c' C _ fV];simp
 have:=hz k;rw [z k] at this;omega
def iL(c:Nat):Nat->Int:=λk=>if k=c then -1 else 0
def jo(C:List Nat)(R:aE)(f:Nat->Int):Nat->Int:=λk=>aS (k::C) (bq f R)
def kZ(C:List Nat)(R:aE)(c:Nat):Nat->Int:=λk=>aS (k::C) (bq (iL c) R)-aS C R*iL c k
theorem YH(R:aE)(f:Nat->Int)(k:Nat):jo [] R f k=f k:=by show aS [k] (bq f R)=f k;rw [qL];show 1*f k+0=f k;lia
theorem YI(R:aE)(c':Nat)(h:c∈C):kZ C R c' c=if c=c' then aS C R else 0:=by
 unfold kZ;rw [xq c C _ h];unfold iL
 split <;> lia
theorem Pt{e:Nat->Int}:∀{C:List Nat} (S:aE),C≠[]->(∀x∈C,e x=0)->aS C (bq e S)=0
 | x::C,S,_,h=>by
  rw [qL,h x jx,cI,wj];cases C with
  | nil=>rfl
  | cons y C=>rw [show (λi=>S i x*(-(sgn i)*aS (y::C) (bq e (cu i S))))=λ_=>0 from funext λi=>by rw [Pt (cu i S) (by simp) λz hz=>h z (iQ _ hz)];simp,gz]
theorem YJ(R:aE)(h:c∉C)(k:Nat):jo C R (iL c) k=aS C R*iL c k:=by
 unfold jo;rw [qL];have z:(ah C.length λi=>R i k*(-(sgn i)*aS C (bq (iL c) (cu i R))))=0:=by
  cases C with
  | nil=>rfl
  | cons y C=>
   rw [show (λi=>R i k*(-(sgn i)*aS (y::C) (bq (iL c) (cu i R))))=λ_=>0 from funext λi=>by
    rw [Pt (e:=iL c) (C:=y::C) (cu i R) (by simp) λz hz=>aq fun(e:z=c)=>h (by rw [<-e];exact hz)]
    simp,gz]
 rw [z,AE]
theorem Pu(sp:qM C R)(f h:Nat->Int)(c k:Nat):jo C R h c*jo C R f k-jo C R f c*jo C R h k=aS C R*jo (c::C) (bq h R) f k:=(Jx sp f h c k).symm
theorem Pw(sp:qM C R)(h:Nat->Int){c':Nat}(ne:c≠c')(k:Nat):jo C R h c*kZ C R c' k-kZ C R c' c*jo C R h k=aS C R*kZ (c::C) (bq h R) c' k:=by have e:=Jx sp (iL c') h c k;have z:iL c' c=0:=aq ne;unfold kZ jo;rw [z,cI,Int.sub_zero,Int.mul_sub (aS C R),e];grind
theorem YK(sp:qM C R)(d0:aS C R≠0)(h:Nat->Int)(nc:c∉C)(k:Nat):kZ (c::C) (bq h R) c k=jo C R h k:=by
 have e:=Jx sp (iL c) h c k;have u:=YJ R nc;unfold jo at u;rw [u k,u c,show iL c c=-1 from ao rfl] at e;unfold kZ jo;have:aS C R*(aS (k::c::C) (bq (iL c) (bq h R))-aS (c::C) (bq h R)*iL c k)=aS C R*aS (k::C) (bq h R):=by rw [Int.mul_sub,e];grind
 exact nN d0 this
def br:Nat->Nat
 | 0=>1
 | n+1=>(n+1)*br n
theorem Ez{M:Nat}:∀(n:Nat) (f:Nat->Int),(∀i,i<n->(f i).natAbs<=M)->(ah n f).natAbs<=n*M
 | 0,_,_=>by show (0:Int).natAbs<=_;simp
 | n+1,f,h=>by rw [oi,Nat.succ_mul];exact au (Int.natAbs_add_le ..) (Nat.add_le_add (Ez n f λi hi=>h i ⋯) (h n ⋯))
variable {n:Nat}
theorem Jy{xs:List V}(hl:xs.length=n)(il:∀R:It->Hp->Prop,(∀J H1,ag H H1->n_ J xs H1->R J H1)->wi σ H R)(hn:n<sizeLine)
  (P:Addr->Nat->Addr->Hp->Prop) (mono:∀D i y H H' ys,P D i y H->y≠D->H D=some (.lst ys)->(∀b o,b≠D->H b=some o->H' b=some o)->P D i y H')
  (step:∀D (i:Nat) (x:V),xs[i]?=some x->∀(Hc:Hp) (R:VK),ag H Hc->(∃ys,Hc D=some (.lst ys))->(∀y H3,ag Hc H3->Hc y=none->(∃o,H3 y=some o)->P D i y H3->R (.ref y) H3)->te (some x::ρ σ) Hc R)
  (fin:∀D (A:Nat->Addr) Hc,H D=none->ag H Hc->(∀i j,i<n->j<n->A i=A j->i=j)->(∀i,i<n->P D i (A i) Hc/\A i≠D)->Hc D=some (.lst ((List.range n).map λi=>V.ref (A i)))->Q (.ref D) Hc):jL wi ρ (λ_ H Q=>Q true H) te σ H Q:=by
 refine il _ λJ H1 s1 js=>?_;intro D nD;have hD:H D=none:=by
  cases e:H D with
  | none=>rfl
  | some o=>rw [s1 _ _ e] at nD;cases nD
 refine (ad (λi m ys Hc=>m=n-i/\i<=n/\Hc D=some (.lst ys)/\ag H1 Hc/\∃A:Nat->Addr,ys=(List.range i).map (λj=>V.ref (A j))/\(∀a b,a<i->b<i->A a=A b->a=b)/\∀j,j<i->P D j (A j) Hc/\A j≠D/\∃o,Hc (A j)=some o) ⟨_,rfl,f_ _,aK,e_ (ag.refl H1) nD,λ_=>D,rfl,(λa b h=>by lia),λj h=>by lia⟩ ?_)
 intro i m ys Hc;intros amA _ rfl am4 hi eD sH am7 A rfl inj hA;refine ⟨eD,?_⟩;by_cases dS:i<n
 ·refine .inr ⟨js.go i Hc sH ⋯,λx H' hy=>?_⟩
  obtain ⟨rfl,hx⟩:=js.gv i Hc x H' sH hy;rw [ao rfl];refine step D i x (hx ⋯) _ _ (s1.trans sH) ⟨_,eD⟩ λy H3 s3 ny ⟨o,ho⟩ hp=>?_
  have e3:=s3 _ _ eD;have yD:y≠D:=λe=>by rw [e,eD] at ny;cases ny
  have cC:∀b o,b≠D->H3 b=some o->upd H3 D (.lst ((List.range i).map (λj=>V.ref (A j))++[.ref y])) b=some o:=λb o nb e=>by rw [cj nb];exact e
  have nA:∀j,j<i->A j≠y:=λj hj e=>by obtain ⟨_,_,o',h'⟩:=hA j hj;rw [e,ny] at h';cases h'
  refine ⟨e3,by simp;lia,n-(i+1),⋯,rfl,dS,aK,e_ (sH.trans s3) nD,λj=>if j=i then y else A j,?_,λa b ha hb e=>?_,λj hj=>?_⟩
  ·rw [Aw,Di]
   congr 1
   ·refine wk λj hj=>?_
    dsimp only;rw [aq (by have:=gs.mp hj;lia)]
   ·simp
  ·dsimp only at e
   by_cases z1:a=i
   ·by_cases z2:b=i
    ·lia
    ·rw [ao z1,aq z2] at e
     exact absurd e.symm (nA b ⋯)
   ·by_cases z2:b=i
    ·rw [aq z1,ao z2] at e
     exact absurd e (nA a ⋯)
    ·rw [aq z1,aq z2] at e
     exact inj a b ⋯ ⋯ e
  ·dsimp only
   by_cases z:j=i
   ·rw [ao z,z]
    exact ⟨mono D i y H3 _ _ hp yD e3 cC,yD,o,cC _ _ yD ho⟩
   ·rw [aq z]
    obtain ⟨h1,h2,o',h3⟩:=hA j ⋯
    exact ⟨mono D j (A j) H' _ _ h1 h2 eD (λb o nb e=>cC b o nb (s3 _ _ e)),h2,o',cC _ _ h2 (s3 _ _ h3)⟩
 ·have e:i=n:=by lia
  subst e;exact .inl ⟨js.stop _ Hc sH ⋯,fin D A Hc hD (s1.trans sH) inj (λj hj=>⟨(hA j hj).1,(hA j hj).2.1⟩) eD⟩
def bS:Nat->(Nat->Nat)->Nat
 | 0,_=>1
 | n+1,g=>bS n g*g n
def mj(j:Nat)(g:Nat->Nat):Nat->Nat:=λi=>if i<j then g i else g (i+1)
def Bs(x:Nat)(g:Nat->Nat):Nat->Nat
 | 0=>x
 | i+1=>g i
theorem om:∀{n:Nat} {f g:Nat->Nat},(∀i,i<n->f i=g i)->bS n f=bS n g
 | 0,_,_,_=>rfl
 | n+1,f,g,h=>by show bS n f*f n=bS n g*g n;rw [om λi hi=>h i ⋯,h n ⋯]
theorem Jz:∀(n j:Nat) (g:Nat->Nat),j<=n->bS n (mj j g)*g j=bS (n+1) g
 | 0,j,g,h=>by
  have:j=0:=by lia
  subst this;rfl
 | n+1,j,g,h=>by
  by_cases e:j=n+1
  ·subst e
   show bS (n+1) (mj (n+1) g)*g (n+1)=bS (n+1) g*g (n+1);rw [om λi hi=>by unfold mj;rw [ao hi]]
  ·have ih:=Jz n j g ⋯
   show bS n (mj j g)*mj j g n*g j=bS (n+1) g*g (n+1);have:mj j g n=g (n+1):=by unfold mj;rw [aq ⋯]
   rw [this,Nat.mul_right_comm,ih]
theorem Bt:∀(n x:Nat) (g:Nat->Nat),bS (n+1) (Bs x g)=x*bS n g
 | 0,x,g=>by show 1*x=x*1;lia
 | n+1,x,g=>by show bS (n+1) (Bs x g)*g n=x*(bS n g*g n);rw [Bt n x g,lU]
theorem Px(j:Nat):(sgn j).natAbs=1:=by unfold sgn;split <;> rfl
theorem EA:∀(C:List Nat) (v:aE) (g:Nat->Nat),(∀i c,(v i c).natAbs<=g i)->(aS C v).natAbs<=br C.length*bS C.length g
 | [],_,_,_=>by show (1:Int).natAbs<=1*1;decide
 | c::C,v,g,h=>by
  rw [Br];refine au (Ez (M:=br C.length*bS (C.length+1) g) _ _ λj hj=>?_) (jz ?_)
  ·rw [bU,bU,Px,Nat.one_mul]
   have d:=EA C (cu j v) (mj j g) λi c'=>by
    unfold cu mj
    split
    ·exact h _ _
    ·exact h _ _
   refine au (cA (h j c) d) (jz ?_);rw [<-Jz C.length j g ⋯,so,oQ (g j)]
  ·rw [df,br,lU]
variable {g:Nat->Nat}
theorem YL(h:∀i c,(R i c).natAbs<=g i)(c k:Nat):(kZ C R c k).natAbs<=C.length*(br C.length*bS C.length g):=by
 have e:kZ C R c k=ah C.length λi=>R i k*(-(sgn i)*aS C (bq (iL c) (cu i R))):=by unfold kZ;rw [qL];lia
 rw [e];refine Ez _ _ λi hi=>?_;rw [bU,bU,qt,Px,Nat.one_mul];have d:=EA C (bq (iL c) (cu i R)) (Bs 1 (mj i g)) λj c'=>by
  cases j with
  | zero=>
   show (iL c c').natAbs<=1;unfold iL
   split <;> decide
  | succ j=>
   show (cu i R j c').natAbs<=mj i g j;unfold cu mj
   split
   ·exact h _ _
   ·exact h _ _
 refine au (cA (h i k) d) (jz ?_);obtain ⟨m,em⟩:∃m,C.length=m+1:=⟨C.length-1,⋯⟩
 rw [em,Bt,Nat.one_mul,<-Jz m i g ⋯,so,oQ (g i)]
theorem JA:∀{n:Nat} {g:Nat->Nat},(∀i,1<=g i)->1<=bS n g
 | 0,_,_=>aP _
 | n+1,g,h=>cA (JA h) (h n)
theorem EB:∀n,1<=br n
 | 0=>aP _
 | n+1=>cA (by lia:1<=n+1) (EB n)
theorem EC:∀{m n:Nat},m<=n->br m<=br n
 | m,n,h=>by
  by_cases e:m=n;·rw [e];exact aP _
  ·obtain ⟨n',rfl⟩:∃n',n=n'+1:=⟨n-1,⋯⟩
   exact au (EC ⋯) (g9 _ ⋯)
def setG(g:Nat->Nat)(r x:Nat):Nat->Nat:=λi=>if i=r then x else g i
theorem xr:∀(n r:Nat) (g:Nat->Nat),r<n->bS n (setG g r 1)*g r=bS n g
 | 0,_,_,h=>by lia
 | n+1,r,g,h=>by
  show bS n (setG g r 1)*setG g r 1 n*g r=bS n g*g n;by_cases e:r=n
  ·subst e
   rw [show setG g r 1 r=1 from ao rfl,Nat.mul_one,show bS r (setG g r 1)=bS r g from om λi hi=>aq ⋯]
  ·rw [show setG g r 1 n=g n from aq (λz=>e z.symm),Nat.mul_right_comm,xr n r g ⋯]
def k6(r n:Nat)(g:Nat->Nat):Nat:=bS (n-r) λi=>g (r+i)
variable {r:Nat}
theorem YM(h:r<n)(g:Nat->Nat):k6 r n g=g r*k6 (r+1) n g:=by
 unfold k6;obtain ⟨m,e⟩:∃m,n-r=m+1:=⟨n-r-1,⋯⟩
 rw [e,show n-(r+1)=m by lia,<-Bt]
 refine om λi _=>?_;cases i with
 | zero=>rfl
 | succ i=>show g (r+(i+1))=g (r+1+i);congr 1;lia
def km(g:Nat->Nat)(r s:Nat):Nat->Nat:=λi=>if i=s then g r else if i=r then g s else g i
variable {s:Nat}
theorem YN(hr:r<n)(hs:r<=s)(sn:s<n)(g:Nat->Nat):k6 r n (km g r s)=k6 r n g:=by
 by_cases e:s=r
 ·subst e
  have:km g s s=g:=funext λi=>by unfold km;split <;> simp_all
  rw [this]
 ·unfold k6
  have h1:=xr (n-r) 0 (λi=>g (r+i)) ⋯
  have h2:=xr (n-r) (s-r) (setG (λi=>g (r+i)) 0 1) ⋯
  have k1:=xr (n-r) 0 (λi=>km g r s (r+i)) ⋯
  have k2:=xr (n-r) (s-r) (setG (λi=>km g r s (r+i)) 0 1) ⋯
  have a1:setG (λi=>g (r+i)) 0 1 (s-r)=g s:=by
   show (if s-r=0 then 1 else g (r+(s-r)))=g s
   rw [aq ⋯,show r+(s-r)=s by lia]
  have b1:setG (λi=>km g r s (r+i)) 0 1 (s-r)=g r:=by
   show (if s-r=0 then 1 else km g r s (r+(s-r)))=g r
   rw [aq ⋯,show r+(s-r)=s by lia]
   exact ao rfl
  have b2:km g r s (r+0)=g s:=by unfold km;rw [aq ⋯,ao ⋯]
  have c:setG (setG (λi=>km g r s (r+i)) 0 1) (s-r) 1=setG (setG (λi=>g (r+i)) 0 1) (s-r) 1:=funext λi=>by
   unfold setG km;by_cases z1:i=s-r;·rw [ao z1,ao z1]
   ·rw [aq z1,aq z1]
    by_cases z2:i=0;·rw [ao z2,ao z2]
    ·rw [aq z2,aq z2]
     dsimp only;rw [aq ⋯,aq ⋯]
  rw [<-h1,<-k1,<-h2,<-k2,c,a1,b1];rw [b2,show r+0=r from rfl,Nat.mul_right_comm]
def Made(q:Int)(n:Nat)(A:aE)(f:Nat->Int):Prop:=∃(e:Int) (x:Nat->Int),¬q∣e/\∀k,Cg q (e*f k) (ah n λt=>x t*A t k)
theorem xt(hq:aD q):¬q∣1:=λh=>by
 rcases hq with rfl | ⟨h2,_⟩
 ·have:=kD.mp h
  lia
 ·have:=Ay ∅ h
  lia
variable {t:Nat}
theorem YO(ht:t<n)(f:Nat->Int):(ah n λi=>(if i=t then 1 else 0)*f i)=f t:=by
 have e:(λi=>(if i=t then (1:Int) else 0)*f i)=λi=>if i=t then f i else 0:=funext λi=>by
  by_cases h:i=t;·rw [ao h,ao h,mJ]
  ·rw [aq h,aq h,iT]
 rw [e,kY n t f ht]
theorem xu(hq:aD q)(ht:t<n)(A:aE):Made q n A (A t):=
 ⟨1,λi=>if i=t then 1 else 0,xt hq,λk=>Cg.of_eq (by rw [YO ht λi=>A i k];lia)⟩
variable {A:aE} {u:Int}
theorem ED(hq:aD q){f g:Nat->Int}{b:Int}(nu:¬q∣u)(hf:Made q n A f)(hg:Made q n A g)(e:∀k,Cg q (u*h k) (a*f k-b*g k)):Made q n A h:=by
 intros am6 hf e1 x n1 h1;intros am6 hg e2 y n2 h2;refine ⟨e1*e2*u,λt=>a*e2*x t-b*e1*y t,i5 hq (i5 hq n1 n2) nu,λk=>?_⟩;have z1:=(e k).mulL (e1*e2);have z2:=(h1 k).mulL (a*e2);have z3:=(h2 k).mulL (b*e1);have z4:=z2.sub z3;rw [show (λt=>(a*e2*x t-b*e1*y t)*A t k)=λt=>a*e2*(x t*A t k) + -(b*e1)*(y t*A t k) from funext λt=>by grind,og,<-cD,<-cD]
 refine (Cg.of_eq (by grind)).trans (z1.trans ((Cg.of_eq ?_).trans (z4.trans (Cg.of_eq ?_))))
 ·grind
 ·grind
structure dI (q:Int) (n:Nat) (A M:aE) (L:List Nat) (cur:Nat):Prop where
 len:L.length<=n
 lt:∀c∈L,c<cur
 up:L.Pairwise (· < ·)
 lead:∀j,j<L.length->¬q∣M j (L.getD j 0)
 off:∀i j,i<n->j<L.length->i≠j->Cg q (M i (L.getD j 0)) 0
 low:∀i k,i<n->L.length<=i->k<cur->Cg q (M i k) 0
 tu:∀j k,j<L.length->k<L.getD j 0->Cg q (M j k) 0
 qN:∀i,i<n->Made q n A (M i)
 ofM:∀t,t<n->Made q n M (A t)
theorem dI.start(hq:aD q)(n:Nat)(A:aE):dI q n A A [] 0:=
 ⟨f_ _,λ_ h=>by simp at h,.nil,λ_ h=>by simp at h,λ_ _ _ h=>by simp at h,λ_ _ _ _ h=>by lia,λ_ _ h=>by simp at h,λi hi=>xu hq hi A,λi hi=>xu hq hi A⟩
variable {M:aE} {L:List Nat} {cur:Nat}
theorem dI.skip(h:dI q n A M L cur)(z:∀i,i<n->L.length<=i->Cg q (M i cur) 0):dI q n A M L (cur+1):=
 ⟨h.len,λc hc=>AD (h.lt c hc),h.up,h.lead,h.off,λi k hi hl hk=>by
  by_cases e:k=cur;·rw [e];exact z i hi hl
  ·exact h.low i k hi hl ⋯,h.tu,h.qN,h.ofM⟩
theorem Py(hq:aD q)(n:Nat)(A:aE):Made q n A λ_=>0:=
 ⟨1,λ_=>0,xt hq,λk=>Cg.of_eq (by rw [show (λt=>(0:Int)*A t k)=λ_=>0 from funext λt=>iT _,gz];rfl)⟩
theorem Pz{q:Int}(hq:aD q){n:Nat}{A:aE}(y:Nat->Int)(g:aE):∀m,(∀i,i<m->Made q n A (g i))->Made q n A λk=>ah m λi=>y i*g i k
 | 0,_=>Py hq n A
 | m+1,h=>ED hq (u:=1) (a:=1) (b:=-(y m)) (xt hq) (Pz hq y g m λi hi=>h i ⋯) (h m ⋯) λk=>Cg.of_eq (by rw [oi];grind)
theorem PB(hq:aD q){m:Nat}{B:aE}{f:Nat->Int}(h:∀i,i<m->Made q n A (B i))(hf:Made q m B f):Made q n A f:=by intros am6 hf e y ne hy;exact ED hq (u:=e) (a:=1) (b:=0) ne (Pz hq y B m h) (Py hq n A) λk=>(hy k).trans (Cg.of_eq (by grind))
theorem fZ{x:Int}(hq:aD q)(nu:¬q∣u)(h:Cg q (u*x) 0):Cg q x 0:=by unfold Cg at h ⊢;rw [Int.sub_zero] at h ⊢;exact oS λnx=>i5 hq nu nx h
variable {M':aE}
theorem dI.swap(hq:aD q)(h:dI q n A M L cur)(hs:L.length<=s)(sn:s<n)(e1:M' L.length=M s)(e2:M' s=M L.length)(e3:∀i,i≠L.length->i≠s->M' i=M i):dI q n A M' L cur:=by
 have rn:L.length<n:=by lia
 have up:∀i,i<n->∃i',i'<n/\M' i=M i'/\(i<L.length->i'=i)/\(L.length<=i->L.length<=i'):=λi hi=>by
  by_cases z1:i=L.length;·exact ⟨s,sn,by rw [z1,e1],λ_=>by lia,λ_=>hs⟩
  ·by_cases z2:i=s
   ·exact ⟨L.length,rn,by rw [z2,e2],λ_=>by lia,λ_=>aP _⟩
   ·exact ⟨i,hi,e3 i z1 z2,λ_=>rfl,λz=>z⟩
 have dn:∀i,i<n->∃i',i'<n/\M i=M' i':=λi hi=>by
  by_cases z1:i=L.length;·exact ⟨s,sn,by rw [z1,e2]⟩
  ·by_cases z2:i=s
   ·exact ⟨L.length,rn,by rw [z2,e1]⟩
   ·exact ⟨i,hi,(e3 i z1 z2).symm⟩
 refine ⟨h.len,h.lt,h.up,λj hj=>?_,λi j hi hj ne=>?_,λi k hi hl hk=>?_,λj k hj hk=>?_,λi hi=>?_,λt ht=>?_⟩
 ·rw [e3 j ⋯ ⋯]
  exact h.lead j hj
 ·obtain ⟨i',h1,h2,h3,h4⟩:=up i hi
  rw [h2];refine h.off i' j h1 hj λz=>?_;by_cases y:i<L.length;·have:=h3 y;lia
  ·have:=h4 ⋯;lia
 ·obtain ⟨i',h1,h2,h3,h4⟩:=up i hi
  rw [h2];exact h.low i' k h1 (h4 hl) hk
 ·rw [e3 j ⋯ ⋯]
  exact h.tu j k hj hk
 ·obtain ⟨i',h1,h2,_⟩:=up i hi
  rw [h2];exact h.qN i' h1
 ·refine PB hq (λi hi=>?_) (h.ofM t ht)
  obtain ⟨i',h1,h2⟩:=dn i hi;rw [h2];exact xu hq h1 M'
theorem dI.step(hq:aD q)(h:dI q n A M L c)(rn:L.length<n)(nu:¬q∣u)(np:¬q∣M L.length c)(eh:M' L.length=M L.length)
  (e:∀i k,i<n->i≠L.length->Cg q (u*M' i k) (M L.length c*M i k-M i c*M L.length k)):dI q n A M' (L++[c]) (c+1):=by
 have g1:∀j,j<L.length->(L++[c]).getD j 0=L.getD j 0:=λj hj=>by rw [cb,gL hj,<-cb]
 have g2:(L++[c]).getD L.length 0=c:=by rw [cb,iA (aP _),qu];rfl
 have EE:∀i,i<n->i≠L.length->Cg q (M' i c) 0:=λi hi ne=>fZ hq nu ((e i c hi ne).trans (Cg.of_eq (by grind)))
 have YQ:(L++[c]).length=L.length+1:=by simp
 refine ⟨⋯,λc' fV=>?_,?_,λj hj=>?_,λi j hi hj ne=>?_,λi k hi hl hk=>?_,λj k hj hk=>?_,λi hi=>?_,λt ht=>?_⟩
 ·rcases lJ.mp fV with z | z
  ·exact AD (h.lt c' z)
  ·rw [iC.mp z];lia
 ·rw [List.pairwise_append]
  exact ⟨h.up,List.pairwise_singleton ..,λa ha b hb=>by rw [iC.mp hb];exact h.lt a ha⟩
 ·by_cases z:j=L.length
  ·rw [z,g2,eh];exact np
  ·rw [g1 j ⋯]
   intro d;have w:=e j (L.getD j 0) ⋯ z
   have o:=(h.off L.length j rn ⋯ (Ne.symm z)).mulL (M j c)
   have w2:=w.trans ((Cg.refl (M L.length c*M j (L.getD j 0))).sub o);rw [cI,Int.sub_zero] at w2;exact w2.nz (i5 hq np (h.lead j ⋯)) (jW d (qs ..))
 ·by_cases z:j=L.length
  ·rw [z,g2]
   exact EE i hi ⋯
  ·rw [g1 j ⋯]
   by_cases y:i=L.length
   ·rw [y,eh]
    exact h.off L.length j rn ⋯ (Ne.symm z)
   ·have w:=e i (L.getD j 0) hi y
    have i7:=(h.off i j hi ⋯ ne).mulL (M L.length c)
    have o2:=(h.off L.length j rn ⋯ (Ne.symm z)).mulL (M i c)
    exact fZ hq nu (w.trans ((i7.sub o2).trans (Cg.of_eq (by simp))))
 ·rw [YQ] at hl
  by_cases z:k=c;·rw [z];exact EE i hi ⋯
  ·have w:=e i k hi ⋯
   have i7:=(h.low i k hi ⋯ ⋯).mulL (M L.length c)
   have o2:=(h.low L.length k rn (aP _) ⋯).mulL (M i c)
   exact fZ hq nu (w.trans ((i7.sub o2).trans (Cg.of_eq (by simp))))
 ·by_cases z:j=L.length
  ·rw [z,g2] at hk
   rw [z,eh];exact h.low L.length k rn (aP _) hk
  ·rw [g1 j ⋯] at hk
   have eG:j<L.length:=by lia
   have hc:L.getD j 0<c:=h.lt _ (by rw [getD_at eG];exact aG _)
   have w:=e j k ⋯ z
   have i7:=(h.tu j k eG hk).mulL (M L.length c);have o2:=(h.low L.length k rn (aP _) ⋯).mulL (M j c)
   exact fZ hq nu (w.trans ((i7.sub o2).trans (Cg.of_eq (by simp))))
 ·by_cases z:i=L.length
  ·rw [z,eh];exact h.qN _ rn
  ·exact ED hq nu (h.qN i hi) (h.qN _ rn) λk=>e i k hi z
 ·refine PB hq (λi hi=>?_) (h.ofM t ht)
  by_cases z:i=L.length;·rw [z,<-eh];exact xu hq rn M'
  ·refine ED hq (u:=M L.length c) (a:=u) (b:=-(M i c)) np (xu hq hi M') (xu hq rn M') λk=>?_
   have w:=e i k hi z;have w2:=(Cg.refl (M i c*M L.length k)).add w.symm;rw [eh];exact (Cg.of_eq (by grind)).trans (w2.trans (Cg.of_eq (by grind)))
theorem JB{q:Int}{f:Nat->Int}{m:Nat}:∀{n:Nat},m<=n->(∀i,m<=i->i<n->Cg q (f i) 0)->Cg q (ah n f) (ah m f)
 | n,h,z=>by
  by_cases e:n=m;·rw [e];exact Cg.refl _
  ·obtain ⟨n',rfl⟩:∃n',n=n'+1:=⟨n-1,⋯⟩
   rw [oi];have a:=(JB (n:=n') ⋯ λi h1 h2=>z i h1 ⋯).add (z n' ⋯ ⋯)
   rw [AE] at a;exact a
theorem dI.done{W:Nat}(h:dI q n A M L W)(ht:t<n) :
  ∃(e:Int) (y:Nat->Int),¬q∣e/\(∀k,k<W->Cg q (e*A t k) (ah L.length λj=>y j*M j k))/\∀j,j<L.length->Cg q (e*A t (L.getD j 0)) (y j*M j (L.getD j 0)):=by
 obtain ⟨e,y,ne,hy⟩:=h.ofM t ht;have sm:∀k,k<W->Cg q (e*A t k) (ah L.length λj=>y j*M j k):=λk hk=>(hy k).trans (JB h.len λi h1 h2=>by have:=(h.low i k h2 h1 hk).mulL (y i);rw [cI] at this;exact this)
 refine (ce e y ne sm (λj hj=>?_));have hc:L.getD j 0<W:=h.lt _ (by rw [getD_at hj];exact aG _)
 refine (sm _ hc).trans ?_;have z:Cg q (ah L.length λi=>y i*M i (L.getD j 0)) (ah L.length λi=>if i=j then y i*M i (L.getD j 0) else 0):=dq λi hi=>by
  by_cases e:i=j;·rw [ao e];exact Cg.refl _
  ·rw [aq e]
   have:=(h.off i j (dQ hi h.len) hj e).mulL (y i);rw [cI] at this;exact this
 rw [kY L.length j (λi=>y i*M i (L.getD j 0)) hj] at z;exact z
structure iq (P n:Nat) (M:aE) (C:List Nat) (R:aE) (g G:Nat->Nat):Prop where
 sp:qM C R
 d0:aS C R≠0
 pV:∀j,j<C.length->M j=kZ C R (C.reverse.getD j 0)
 bg:∀i,C.length<=i->i<n->∃f,(∀k,(f k).natAbs<=G i)/\M i=jo C R f
 len:C.length<=n
 bR:∀i k,(R i k).natAbs<=g i
 pos:∀i,1<=G i
 Bu:bS C.length g*k6 C.length n G<=P
variable {P:Nat} {G:Nat->Nat}
theorem iq.start(A:aE)(hb:∀i k,(A i k).natAbs<=G i)(pos:∀i,1<=G i)(hP:bS n G<=P):iq P n A [] (λ_ _=>0) (λ_=>1) G:=
 ⟨YF _,by show (1:Int)≠0;decide,λj hj=>by simp at hj,λi _ _=>⟨A i,hb i,funext λk=>(YH _ (A i) k).symm⟩,f_ _,λ_ _=>by simp,pos,by show 1*k6 0 n G<=P;unfold k6;rw [Nat.one_mul];refine au (jz (om λi _=>?_)) hP;rw [Nat.zero_add]⟩
theorem iq.swap(h:iq P n M C R g G)(hs:C.length<=s)(sn:s<n)(e1:M' C.length=M s)(e2:M' s=M C.length)(e3:∀i,i≠C.length->i≠s->M' i=M i):iq P n M' C R g (km G C.length s):=by
 refine ⟨h.sp,h.d0,λj hj=>?_,λi hi hn=>?_,h.len,h.bR,λi=>?_,?_⟩;·rw [e3 j ⋯ ⋯];exact h.pV j hj
 ·unfold km
  by_cases z1:i=s;·rw [ao z1,z1,e2];exact h.bg _ (aP _) ⋯
  ·rw [aq z1]
   by_cases z2:i=C.length;·rw [ao z2,z2,e1];exact h.bg s hs sn
   ·rw [aq z2,e3 i z2 z1];exact h.bg i hi hn
 ·unfold km
  split
  ·exact h.pos _
  ·split
   ·exact h.pos _
   ·exact h.pos _
 ·rw [YN ⋯ hs sn]
  exact h.Bu
variable {i:Nat}
theorem iq.YR(h:iq P n M C R g G)(rn:C.length<n)(nc:c∉C)(hi:i<n)(ne:i≠C.length) :
  ∃g:Nat->Int,∀k,M C.length c*M i k-M i c*M C.length k=aS C R*g k:=by
 obtain ⟨f,_,ef⟩:=h.bg _ (aP _) rn;by_cases z:i<C.length
 ·have e:=h.pV i z
  have ne':c≠C.reverse.getD i 0:=λe=>nc (by
   rw [e];have hl:i<C.reverse.length:=by simpa using z
   rw [getD_at hl];exact Dt.mp (aG hl))
  refine ⟨kZ (c::C) (bq f R) (C.reverse.getD i 0),λk=>?_⟩;rw [e,ef];exact Pw h.sp f ne' k
 ·obtain ⟨f',_,Bv⟩:=h.bg i ⋯ hi
  refine ⟨jo (c::C) (bq f R) f',λk=>?_⟩;rw [Bv,ef];exact Pu h.sp f' f c k
theorem iq.step(h:iq P n M C R g G)(rn:C.length<n)(nc:c∉C)(np:M C.length c≠0)(eh:M' C.length=M C.length)
  (e:∀i k,i<n->i≠C.length->aS C R*M' i k=M C.length c*M i k-M i c*M C.length k):∃R' g',iq P n M' (c::C) R' g' G/\aS (c::C) R'=M C.length c:=by
 obtain ⟨f,bf,ef⟩:=h.bg _ (aP _) rn;have ep:aS (c::C) (bq f R)=M C.length c:=by rw [ef];rfl
 have hp:aS (c::C) (bq f R)≠0:=by rw [ep];exact np
 refine ⟨bq f R,Bs (G C.length) g,⟨YG h.sp h.d0 hp,hp,λj hj=>?_,λi hi hn=>?_,rn,λi k=>?_,h.pos,?_⟩,ep⟩
 ·rw [List.reverse_cons]
  by_cases z:j=C.length
  ·have g:(C.reverse++[c]).getD j 0=c:=by
    rw [z,cb,iA (by simp)]
    simp
   rw [g,z,eh,ef];exact funext λk=>(YK h.sp h.d0 f nc k).symm
  ·have eG:j<C.length:=by simp at hj;lia
   have hl:j<C.reverse.length:=by simpa using eG
   have g:(C.reverse++[c]).getD j 0=C.reverse.getD j 0:=by rw [cb,gL hl,<-cb]
   rw [g];have ne':c≠C.reverse.getD j 0:=λe=>nc (by rw [e,getD_at hl];exact Dt.mp (aG hl))
   funext k
   have w:=e j k ⋯ z
   rw [h.pV j eG,ef,Pw h.sp f ne' k] at w;exact nN h.d0 w
 ·have ne:i≠C.length:=by simp at hi;lia
  obtain ⟨f',YS,Bv⟩:=h.bg i (by simp at hi;lia) hn
  refine ⟨f',YS,funext λk=>?_⟩;have w:=e i k hn ne;rw [Bv,ef,Pu h.sp f' f c k] at w;exact nN h.d0 w
 ·cases i with
  | zero=>exact bf k
  | succ i=>exact h.bR i k
 ·rw [df,Bt,lU,so,<-YM rn]
  exact h.Bu
theorem PD(h:∀i,1<=g i):1<=k6 r n g:=JA λi=>h (r+i)
theorem PF(h:∀i,1<=g i)(hi:r<=i)(hn:i<n):g i<=k6 r n g:=by
 unfold k6;rw [<-xr (n-r) (i-r) (λj=>g (r+j)) ⋯]
 rw [show r+(i-r)=i by lia]
 exact g9 _ (JA λj=>by
  unfold setG
  split
  ·exact aP _
  ·exact h _)
theorem iq.bd(h:iq P n M C R g G)(hi:i<n)(k:Nat):(M i k).natAbs<=n*(br n*P):=by
 by_cases z:i<C.length
 ·rw [h.pV i z]
  refine au (YL h.bR _ k) (cA h.len (cA (EC h.len) ?_));exact au (nO _ (PD h.pos)) h.Bu
 ·obtain ⟨f,bf,ef⟩:=h.bg i ⋯ hi
  rw [ef];have d:=EA (k::C) (bq f R) (Bs (G i) g) λj c=>by
   cases j with
   | zero=>exact bf c
   | succ j=>exact h.bR j c
  rw [df,Bt] at d;refine au d (au (cA (EC (show C.length+1<=n by lia)) ?_) (g9 _ ⋯))
  rw [oQ];exact au (fq _ (PF h.pos ⋯ hi)) h.Bu
theorem iq.JD(h:iq P n M C R g G)(n0:1<=n):(aS C R).natAbs<=n*(br n*P):=by refine au (EA C R g h.bR) (au (cA (EC h.len) ?_) (g9 _ n0));exact au (nO _ (PD h.pos)) h.Bu
theorem iq.lead(h:iq P n M C R g G)(hj:j<C.length):M j (C.reverse.getD j 0)=aS C R:=by
 have hl:j<C.reverse.length:=by simpa using hj
 rw [h.pV j hj,YI _ _ (by rw [getD_at hl];exact Dt.mp (aG hl)),ao rfl]
end My
namespace L2
open PySem PySem.Spec PyProof.Rows
def YT(K:aQ):R2:=λx y H Q=>∃(a b:Addr) (xs ys:List Int),x=.ref a/\y=.ref b/\cG K H a (xs.map V.int)/\cG K H b (ys.map V.int)/\Q (.bl (!decide (xs=ys))) H
theorem YU{xs ys:List Int}(h:xs.length=ys.length):((List.range xs.length).all λj=>iG (.int (xs.getD j 0)) (.int (ys.getD j 0)))=decide (xs=ys):=by
 by_cases e:xs=ys
 ·subst e
  rw [cF rfl,nK];intro j _;exact Ee rfl
 ·rw [fD e]
  cases z:((List.range xs.length).all λj=>iG (.int (xs.getD j 0)) (.int (ys.getD j 0))) with
  | false=>rfl
  | true=>refine absurd (wo h λj h1 h2=>?_) e;have:=nK.mp z j (gs.mpr h1);have this:(xs.getD j 0 == ys.getD j 0)=true:=this;rw [nJ,cb,cb] at this;simpa [h1,h2] using this
theorem PH{X:Cx}(hu:X.A.units+64<cLine):cT X (compareOp .NotEq) (YT X.K):=by
 intro pins s σ H x y v u Q I rx ry h;intros am24 h a b xs ys rfl rfl h1 amA h2 q;cases rx;cases ry;obtain ⟨us,r1,t1,_⟩:=I.list h1;obtain ⟨vs,r2,t2,_⟩:=I.list h2;have l1:=r1.length;have l2:=r2.length;rw [aV] at l1 l2;by_cases hl:xs.length=ys.length
 ·refine SeqAt.RcNeAt.lists (e:=λj=>iG (.int (xs.getD j 0)) (.int (ys.getD j 0))) t1.isList t2.isList (by simp;lia) ⋯ (λj z1 z2=>?_) _ _ _ _ ?_
  ·have Eh:j<us.length:=by simpa using z1
   have Ei:j<vs.length:=by simpa using z2
   have ex:(xs.map V.int)[j]?=some (.int (xs.getD j 0)):=by rw [bu,cb];simp [show j<xs.length by lia]
   have ey:(ys.map V.int)[j]?=some (.int (ys.getD j 0)):=by rw [bu,cb];simp [show j<ys.length by lia]
   obtain ⟨x',nR,rx⟩:=r1.get ex;obtain ⟨y',pN,ry⟩:=r2.get ey;have e1:us.toArray[j]=x':=by simpa using (aL.mp nR).2
   have e2:vs.toArray[j]=y':=by simpa using (aL.mp pN).2
   rw [e1,e2];exact AZ rx ry rfl rfl
  ·rw [show us.toArray.size=xs.length by simp;lia,YU hl]
   exact (ce (.bl (!decide (xs=ys))) H I rfl q)
 ·rw [fD (λe=>hl (by rw [e]))] at q
  refine SeqAt.RcNeAt.lists_lengths t1.isList t2.isList ?_ ⋯ _ _ _ _ ⟨.bl true,H,I,rfl,q⟩
  simp;lia
end L2
namespace My
open PySem L2
def PJ(H:Hp)(a:Addr)(n W:Nat)(M:aE):Prop:=∃vs:List V,H a=some (.lst vs)/\vs.length=n/\∀(i:Nat) (v:V),vs[i]?=some v->∃x:Addr,v=.ref x/\H x=some (.lst (((List.range W).map (M i)).map V.int))
def k7(H:Hp)(a l:Addr)(n W:Nat)(M:aE):Prop:=∃vs:List V,H a=some (.lst vs)/\vs.length=n/\a≠l/\∀(i:Nat) (v:V),vs[i]?=some v->∃x:Addr,v=.ref x/\x≠a/\x≠l/\H x=some (.lst (((List.range W).map (M i)).map V.int))
variable {H H':Hp} {a l:Addr} {n W:Nat} {M:aE}
theorem k7.mono(h:k7 H a l n W M)(s:ag H H'):k7 H' a l n W M:=by intros am9 h vs e l ne k;exact (ii vs (s _ _ e) l ne (λi v hv=>by obtain ⟨x,e1,n1,n2,e2⟩:=k i v hv;exact (ii x e1 n1 n2 (s _ _ e2))))
theorem k7.rows(h:k7 H a l n W M):PJ H a n W M:=by intros am9 h vs e l ne k;exact (am vs e l (λi v hv=>by obtain ⟨x,e1,n1,n2,e2⟩:=k i v hv;exact (ad x e1 e2)))
theorem k7.off(h:k7 H a l n W M)(o:HO):k7 (upd H l o) a l n W M:=by intros am9 h vs e l ne k;exact (ii vs (by rw [cj ne];exact e) l ne (λi v hv=>by obtain ⟨x,e1,n1,n2,e2⟩:=k i v hv;exact (ii x e1 n1 n2 (by rw [cj n2];exact e2))))
variable {c:Nat}
theorem qO(hc:c<W)(f:Nat->Int):dF (((List.range W).map f).map V.int) (c:Int)=some (.int (f c)):=cK (by simp [hc])
def cz(M:aE)(r s:Nat):Nat->Nat->Int:=λi=>if i=s then M r else if i=r then M s else M i
def YV:Sp:=λvs H Q _=>∃(a:Addr) (n W r c:Nat) (M:aE),vs=[.ref a,.int (r:Int),.int (c:Int)]/\PJ H a n W M/\r<=n/\n<=100/\c<W/\(∀s,r<=s->s<n->M s c≠0->Q (.int (s:Int)) H)/\((∀s,r<=s->s<n->M s c=0)->Q .bg H)
def YW:Sp:=λvs H Q _=>∃(a l:Addr) (n W r s:Nat) (M:aE),vs=[.ref a,.int (r:Int),.int (s:Int)]/\k7 H a l n W M/\(∃o,H l=some o)/\r<n/\s<n/\∀(b:Addr) (H':Hp),ag H H'->H b=none->k7 H' b l n W (cz M r s)->Q (.ref b) H'
def YX(C:Addr):Sp:=λvs H Q _=>∃(z a b:Addr) (q last:Int) (W c:Nat) (f g e:Nat->Int),vs=[.ref z,.ref a,.ref b,.int (c:Int),.int last]/\da C H z q/\aD q/\H a=some (.lst (((List.range W).map f).map V.int))/\H b=some (.lst (((List.range W).map g).map V.int))/\c<W/\W<=100/\(∀k,k<W->b_ (f k)/\b_ (g k))/\b_ last/\last≠0 /\
 (q=0->∀k,k<W->g c*f k-f c*g k=last*e k)/\(q≠0->∀k,k<W->e k=(g c*f k-f c*g k) % q)/\∀(r:Addr) (H':Hp),ag H H'->H r=none->H' r=some (.lst (((List.range W).map e).map V.int))->Q (.ref r) H'
theorem JE(W:Nat)(f g:Nat->Int)(h:Int->Int->Int):((((List.range W).map f).zip ((List.range W).map g)).map λab=>h ab.1 ab.2)=(List.range W).map λk=>h (f k) (g k):=by rw [List.zip_map',AG];rfl
theorem JF{K:aQ}{wi:TI}{ρ:St->St}{te:TE}{σ:St}{Q:VK}{xs ys:List Int}(g:Int->Int->Int)(hn:xs.length<=500)
  (il:∀R:It->Hp->Prop,(∀J H1,ag H H1->Em J ((xs.map V.int).zip (ys.map V.int)) H1->R J H1)->wi σ H R)
  (step:∀x y,(x,y)∈xs.zip ys->∀(Hc:Hp) (R:VK),ag H Hc->(∀H3,ag Hc H3->R (.int (g x y)) H3)->te (some (.int x)::some (.int y)::ρ σ) Hc R)
  (fin:∀D Hc,H D=none->ag H Hc->Hc D=some (.lst (((xs.zip ys).map λab=>g ab.1 ab.2).map V.int))->Q (.ref D) Hc):xg K wi ρ (λ_ H Q=>Q true H) te σ H Q:=by
 have lz:((xs.map V.int).zip (ys.map V.int)).length=(xs.zip ys).length:=by simp [jX]
 have at':∀(i:Nat) (v u:V),((xs.map V.int).zip (ys.map V.int))[i]?=some (v,u)->∃x y,(xs.zip ys)[i]?=some (x,y)/\v=.int x/\u=.int y:=λi v u e=>by
  obtain ⟨h1,h2⟩:=lR.mp e;rw [bu] at h1 h2;cases e1:xs[i]? with
  | none=>rw [e1] at h1;cases h1
  | some x=>
   cases e2:ys[i]? with
   | none=>rw [e2] at h2;cases h2
   | some y=>rw [e1] at h1;rw [e2] at h2;cases h1;cases h2;exact (ce x y (lR.mpr ⟨e1,e2⟩) rfl rfl)
 refine xo (Z:=λzs _=>zs=(xs.map V.int).zip (ys.map V.int)) (λR h=>il R λJ H1 s1 js=>h J H1 _ s1 js (by rw [lz,jX];exact cR ⋯) rfl) (λ_ i v _=>∃x y,(xs.zip ys)[i]?=some (x,y)/\v=.int (g x y)) (λ_ _ _ _ _ _ h _ _=>h) ?_ ?_
 ·rintro zs H1 rfl s1 D i v u hi Hc R sc _ kc
  obtain ⟨x,y,e,rfl,rfl⟩:=at' i v u hi;exact step x y (jA e) Hc R (s1.trans sc) λH3 s3=>kc _ H3 s3 ⟨x,y,e,rfl⟩
 ·rintro zs H1 rfl s1 D vs Hc nD sc YY hP eD
  have ey:vs=((xs.zip ys).map λab=>g ab.1 ab.2).map V.int:=pP (by rw [YY,lz,aV]) λi v e=>by obtain ⟨x,y,e1,e2⟩:=hP i v e;exact ⟨g x y,by rw [bu,e1];rfl,e2⟩
  rw [ey] at eD;exact fin D Hc nD (s1.trans sc) eD
def YZ(C:Addr):Sp:=λvs H Q _=>∃(z a:Addr) (q:Int) (W c:Nat) (f:Nat->Int) (B:Nat),vs=[.ref z,.ref a,.int (c:Int)]/\da C H z q/\aD q/\H a=some (.lst (((List.range W).map f).map V.int))/\c<W/\W<=100/\¬q∣f c/\b_ (f c)/\(∀k,k<W->(f k).natAbs<=B) /\
 ∀(r:Addr) (ps:aI) (H':Hp),ag H H'->H r=none->aM B H' q r ps->ps.length=W->(∀i,i<W->a8 q (ps.getD i o1) (f i,f c))->Q (.ref r) H'
def aU(B:Nat)(H:Hp)(q:Int)(a:Addr)(aa:aH):Prop:=∃vs:List V,H a=some (.lst vs)/\vs.length=aa.length/\∀(i:Nat) (v:V) (ps:aI),vs[i]?=some v->aa[i]?=some ps->∃r:Addr,v=.ref r/\aM B H q r ps
variable {q:Int} {aa:aH}
theorem Es.b(h:Es H q a aa):aU (10 ^ 60) H q a aa:=h
variable {B:Nat}
theorem aU.mono(h:aU B H q a aa)(s:ag H H'):aU B H' q a aa:=by intros am7 h vs e l k;exact (am vs (s _ _ e) l (λi v ps h1 h2=>by obtain ⟨r,e1,e2⟩:=k i v ps h1 h2;exact ⟨r,e1,e2.mono s⟩))
variable {B':Nat}
theorem aU.weak(h:aU B H q a aa)(hb:B<=B'):aU B' H q a aa:=by intros am7 h vs e l k;exact (am vs e l (λi v ps h1 h2=>by obtain ⟨r,e1,e2⟩:=k i v ps h1 h2;exact ⟨r,e1,e2.weak hb⟩))
def Y2(N:Addr):Sp:=λvs H Q E=>∃(a:Addr) (q:Int) (B:Nat) (aa:aH) (m:Nat),vs=[.ref a]/\aU B H q a aa/\1<=aa.length/\aa.length<=40/\(∀ps∈aa,ps.length=m)/\∀H',ag H H'->Q (.int (m:Int)) H'
def Y3(N:Addr):Sp:=λvs H Q E=>∃(a:Addr) (q:Int) (B:Nat) (aa:aH) (m:Nat),vs=[.ref a]/\aU B H q a aa/\1<=aa.length/\aa.length<=40/\(∀ps∈aa,ps.length=m)/\(m≠aa.length->∀H',ag H H'->E (.ref N) none H')/\(m=aa.length->∀H',ag H H'->Q (.int (m:Int)) H')
def Y4:Sp:=λvs H Q _=>∃(a b:Addr) (q:Int) (B:Nat) (aa ai:aH) (m u:Nat),vs=[.ref a,.ref b]/\aU B H q a aa/\aU B H q b ai/\aa.length=ai.length/\aa.length<=40/\(∀ps∈aa,ps.length=m)/\(∀ps∈ai,ps.length=u)/\m<=40/\u<=40/\∀(r:Addr) (H':Hp),ag H H'->H r=none->aU B H' q r (List.zipWith (·++·) aa ai)->Q (.ref r) H'
def bj(q:Int)(E:Nat)(ps:aI):Prop:=∃(D:Int) (x:Nat->Int),aC q D/\D.natAbs<=E/\(∀p∈ps,p.2∣D)/\∀i,i<ps.length->(ps.getD i o1).1*D=x i*(ps.getD i o1).2/\(x i).natAbs<=E
variable {D x:Int} {E:Nat}
theorem Y5{t u m b:Int}(e1:t*m=u*b)(e2:u*D=x*m)(hb:b∣D)(m0:m≠0)(b0:b≠0)(D0:D≠0)(hx:x.natAbs<=E):t.natAbs<=E:=by
 obtain ⟨e,rfl⟩:=hb;have e0:e≠0:=λz=>D0 (by rw [z,cI])
 have h:m*(b*(t*e))=m*(b*x):=by
  have:t*m*(b*e)=u*b*(b*e):=by rw [e1]
  have:b*(u*(b*e))=b*(x*m):=by rw [e2]
  grind
 have h:=nN b0 (nN m0 h);refine au ?_ hx;rw [<-h,bU];exact nO _ (kC.mpr e0)
structure iM (q:Int) (P n W:Nat) (A M:aE) (L:List Nat) (last:Int) (cur:Nat):Prop where
 rd:dI q n A M L cur
 bar:q=0->∃R g G,iq P n M L.reverse R g G/\last=aS L.reverse R
 rem:q≠0->∀i k,i<n->k<W->0<=M i k/\M i k<q
 lq:q≠0->0<last/\last<q
 i8:1000<=n*(br n*P)
 mid:n*(br n*P)<2 ^ 2048
 n1:1<=n
variable {P cur:Nat} {A:aE} {L:List Nat}
theorem iM.bd{last:Int}(h:iM q P n W A M L last cur)(hq:aD q){i k:Nat}(hi:i<n)(hk:k<W):(M i k).natAbs<=n*(br n*P):=by
 by_cases z:q=0
 ·obtain ⟨R,g,G,b,_⟩:=h.bar z
  exact b.bd hi k
 ·have:=h.rem z i k hi hk
  have:=h.i8;have:q<=997:=by rcases hq with h | h <;> lia
  lia
theorem iM.last{last:Int}(h:iM q P n W A M L last cur)(hq:aD q):b_ last/\last≠0:=by
 by_cases z:q=0
 ·obtain ⟨R,g,G,b,e⟩:=h.bar z
  exact ⟨by rw [e];exact bT (b.JD h.n1) h.mid,by rw [e];exact b.d0⟩
 ·have:=h.lq z
  have:q<=997:=by rcases hq with h | h <;> lia
  exact ⟨b_.of_lt ⋯ ⋯,⋯⟩
theorem iM.start(hq:aD q){G:Nat->Nat}(hb:∀i k,(A i k).natAbs<=G i)(pos:∀i,1000<=G i)(hP:bS n G<=P)(hm:n*(br n*P)<2 ^ 2048)(n1:1<=n)(hr:q≠0->∀i k,i<n->k<W->0<=A i k/\A i k<q):iM q P n W A A [] 1 0:=
 ⟨dI.start hq n A,λ_=>⟨_,_,_,iq.start A hb (λi=>au ∅ (pos i)) hP,rfl⟩,hr,λz=>by
  rcases hq with h | h;·exact absurd h z
  ·lia,by
  have p1:1000<=bS n G:=by
   have:=PF (r:=0) (n:=n) (i:=0) (g:=G) (λi=>au ∅ (pos i)) (aP _) ⋯
   unfold k6 at this;rw [Nat.sub_zero,show (λi=>G (0+i))=G from funext λi=>by rw [Nat.zero_add]] at this
   exact au (pos 0) this
  exact au (au p1 hP) (au (g9 _ (EB n)) (g9 _ n1)),hm,n1⟩
theorem iM.skip{last:Int}(h:iM q P n W A M L last cur)(z:∀s,L.length<=s->s<n->M s cur=0):iM q P n W A M L last (cur+1):=
 ⟨h.rd.skip λi hi hl=>Cg.of_eq (z i hl hi),h.bar,h.rem,h.lq,h.i8,h.mid,h.n1⟩
theorem PK(hq:aD q)(h:q≠0->0<=x/\x<q)(n:x≠0):¬q∣x:=λd=>by
 rcases hq with rfl | ⟨h2,_⟩;·exact n (kD.mp d)
 ·have:=h ⋯
  have:=Ay ⋯ d
  lia
theorem iM.next(hq:aD q){last:Int}{s:Nat}(h:iM q P n W A M L last c)(cW:c<W)(hs:L.length<=s)(sn:s<n)(ns:M s c≠0) :
  ∃Ef:Nat->Nat->Int,(∀i,i<n->(q=0->∀k,cz M L.length s L.length c*cz M L.length s i k-cz M L.length s i c*cz M L.length s L.length k=last*Ef i k)/\(q≠0->∀k,Ef i k=(cz M L.length s L.length c*cz M L.length s i k-cz M L.length s i c*cz M L.length s L.length k) % q)) /\
   iM q P n W A (λi=>if i=L.length then cz M L.length s L.length else Ef i) (L++[c]) (cz M L.length s L.length c) (c+1):=by
 have e1:cz M L.length s L.length=M s:=by
  unfold cz;by_cases z:L.length=s;·rw [ao z,z]
  ·rw [aq z,ao rfl]
 have e2:cz M L.length s s=M L.length:=ao rfl;have e3:∀i,i≠L.length->i≠s->cz M L.length s i=M i:=λi z1 z2=>by unfold cz;rw [aq z2,aq z1]
 have rd:=h.rd.swap hq hs sn e1 e2 e3;have EG:q≠0->∀i k,i<n->k<W->0<=cz M L.length s i k/\cz M L.length s i k<q:=λz i k hi hk=>by
  unfold cz
  split
  ·exact h.rem z _ k ⋯ hk
  ·split
   ·exact h.rem z _ k sn hk
   ·exact h.rem z _ k hi hk
 have rn:L.length<n:=by lia
 have lr:L.reverse.length=L.length:=by simp
 have nc:c∉L.reverse:=λz=>by have:=h.rd.lt c (Dt.mp z);lia
 have JG:q=0->∃R g G,iq P n (cz M L.length s) L.reverse R g G/\last=aS L.reverse R:=λz=>by obtain ⟨R,g,G,b,e⟩:=h.bar z;exact ⟨R,g,_,b.swap (s:=s) (by rw [lr];exact hs) sn (by rw [lr];exact e1) (by rw [lr];exact e2) (by rw [lr];exact e3),e⟩
 rw [<-e1] at ns;generalize cz M L.length s=M1 at e1 rd EG JG ns ⊢;have ex:∀i,∃g:Nat->Int,i<n->(q=0->∀k,M1 L.length c*M1 i k-M1 i c*M1 L.length k=last*g k)/\(q≠0->∀k,g k=(M1 L.length c*M1 i k-M1 i c*M1 L.length k) % q):=λi=>by
  by_cases z:q=0
  ·by_cases hi:i<n
   ·by_cases ne:i=L.length
    ·exact ⟨λ_=>0,λ_=>⟨λ_ k=>by rw [ne,cI];lia,λy=>absurd z y⟩⟩
    ·obtain ⟨R,g,G,b,e⟩:=JG z
     obtain ⟨f,hf⟩:=b.YR (by rw [lr];exact rn) nc hi (by rw [lr];exact ne)
     rw [lr] at hf;exact ⟨f,λ_=>⟨λ_ k=>by rw [e];exact hf k,λy=>absurd z y⟩⟩
   ·exact ⟨λ_=>0,λy=>absurd y hi⟩
  ·exact ⟨λk=>(M1 L.length c*M1 i k-M1 i c*M1 L.length k) % q,λ_=>⟨λy=>absurd y z,λ_ _=>rfl⟩⟩
 obtain ⟨Ef,sp⟩:∃Ef:Nat->Nat->Int,∀i,i<n->(q=0->∀k,M1 L.length c*M1 i k-M1 i c*M1 L.length k=last*Ef i k)/\(q≠0->∀k,Ef i k=(M1 L.length c*M1 i k-M1 i c*M1 L.length k) % q):=⟨λi=>Classical.choose (ex i),λi hi=>HX (ex i) hi⟩;refine (ad Ef sp ?_);have np:¬q∣M1 L.length c:=PK hq (λz=>EG z _ c rn cW) ns;have eh:(λi=>if i=L.length then M1 L.length else Ef i) L.length=M1 L.length:=ao rfl
 have en:∀i,i≠L.length->(λi=>if i=L.length then M1 L.length else Ef i) i=Ef i:=λi z=>aq z
 generalize (λi=>if i=L.length then M1 L.length else Ef i)=M2 at eh en ⊢
 have ll:=h.last hq;refine ⟨?_,λz=>?_,λz i k hi hk=>?_,λz=>?_,h.i8,h.mid,h.n1⟩
 ·by_cases z:q=0
  ·refine rd.step hq (u:=last) rn (by rw [z];exact λd=>ll.2 (kD.mp d)) np eh λi k hi ne=>?_
   rw [en i ne];exact Cg.of_eq ((sp i hi).1 z k).symm
  ·refine rd.step hq (u:=1) rn (xt hq) np eh λi k hi ne=>?_
   rw [en i ne,mJ,(sp i hi).2 z k];exact Bq q _
 ·obtain ⟨R,g,G,b,e⟩:=JG z
  obtain ⟨R',g',b',e'⟩:=b.step (M':=M2) (c:=c) (by rw [lr];exact rn) nc (by rw [lr];exact ns) (by rw [lr];exact eh) (λi k hi ne=>by rw [lr] at ne ⊢;rw [en i ne,<-e];exact ((sp i hi).1 z k).symm)
  rw [lr] at e';refine ⟨R',g',G,?_,?_⟩
  ·rw [List.reverse_append]
   exact b'
  ·rw [List.reverse_append]
   exact e'.symm
 ·by_cases ne:i=L.length
  ·rw [ne,eh]
   exact EG z _ k rn hk
  ·rw [en i ne,(sp i hi).2 z k]
   have q2:0<q:=by rcases hq with h | h <;> lia
   exact ⟨fi _ z,fH _ q2⟩
 ·have:=EG z _ c rn cW
  lia
theorem iM.PL{last:Int}(h:iM q P n W A M L last cur)(z:q=0){j:Nat}(hj:j<L.length):M j (L.getD j 0)=last:=by
 obtain ⟨R,g,G,b,e⟩:=h.bar z;have:=b.lead (j:=j) (by simpa using hj)
 rw [List.reverse_reverse] at this;rw [this,e]
structure cJ (q:Int) (P W:Nat) (aa:aH) (A M:aE) (c:Nat->Int) (L:List Nat) (last:Int) (ai:aH):Prop where
 red:iM q P aa.length W A M L last W
 bot:∀i,i<aa.length->aC q (c i)
 row:∀i k,i<aa.length->k<W->A i k*(atT aa i k).2=(atT aa i k).1*c i
 len:ai.length=L.length
 bY:∀ps∈ai,ps.length=W
 val:∀j k,j<L.length->k<W->a8 q (atT ai j k) (M j k,M j (L.getD j 0))
def a7(L:List Nat):List V:=(L.map λj:Nat=>(j:Int)).map V.int
theorem PM(ts:List Int)(h:ts.length=W):(List.range W).map (λk=>ts.getD k 0)=ts:=by
 subst h;refine wo (by simp) λj h1 h2=>?_
 simp [cb,h2]
theorem m8{α:Type}[Inhabited α]{R:Nat->α->Prop}(h:∀i,i<n->∃x,R i x):∃f:Nat->α,∀i,i<n->R i (f i):=by
 refine ⟨λi=>if hi:i<n then Classical.choose (h i hi) else default,λi hi=>?_⟩
 dsimp only;rw [dif_pos hi];exact HX (h i hi)
theorem JH{b:Int}(h:aC q b):b≠0:=by
 by_cases z:q=0;·have:=h.1 z;lia
 ·have:=h.2 z;lia
structure Bw (q:Int) (E W:Nat) (ps:aI) (ts:List Int) (b:Int):Prop where
 len:ts.length=W
 ok:aC q b
 eq:∀k,k<W->ts.getD k 0*(ps.getD k o1).2=(ps.getD k o1).1*b
 bd:∀k,(ts.getD k 0).natAbs<=E
 rem:q≠0->∀k,k<W->0<=ts.getD k 0/\ts.getD k 0<q
theorem PN{b:Int}{ps:aI}{ts:List Int}{x:Nat->Int}{r:Addr}(hq:aD q)(wd:Ey q ps ts b D B')(hW:ps.length=W)(hr:aM B H q r ps)(gJ:aC q D)(hx:∀i,i<ps.length->(ps.getD i o1).1*D=x i*(ps.getD i o1).2/\(x i).natAbs<=E):Bw q E W ps ts b:=by
 have tx:∀k,k<W->Canon q (ps.getD k o1)/\aC q (ps.getD k o1).2:=λk hk=>by
  intros am7 hr vs e l f;have k1:k<vs.length:=by lia
  have k2:k<ps.length:=by lia
  have z:=f k vs[k] ps[k] (by simp [k1]) (by simp [k2])
  rw [getD_at k2];exact ⟨z.canon,z.bot hq⟩
 refine ⟨by rw [wd.len,hW],wd.ok,λk hk=>(wd.each k ⋯).1,λk=>?_,λz k hk=>?_⟩
 ·by_cases hk:k<W
  ·obtain ⟨h1,h2⟩:=hx k ⋯
   exact Y5 (wd.each k ⋯).1 h1 wd.dvd (JH (tx k hk).2) (JH wd.ok) (JH gJ) h2
  ·rw [Pn (by rw [wd.len];lia)]
   exact f_ _
 ·obtain ⟨c1,c2⟩:=tx k hk
  obtain ⟨m1,m2,m3⟩:=c1.2 z;have e:=(wd.each k ⋯).1
  rw [m1,wd.ok.2 z,jV,jV] at e;rw [e];exact ⟨m2,m3⟩
end My
namespace L2
open PySem PySem.Spec PyProof.Rows
theorem PQ{X:Cx}{K:aQ}(hK:X.K=K:=by rfl):ID X (Of K):=by subst hK;exact IG
end L2
namespace My
open PySem L2
variable {q u x:Int}
theorem qP{y:Int}(hq:aD q)(nu:¬q∣u)(h:Cg q (u*x) (u*y)):Cg q x y:=by
 have z:Cg q (u*(x-y)) 0:=by have:=h.sub (Cg.refl (u*y));rw [Int.sub_self] at this;exact (Cg.of_eq (by rw [Int.mul_sub])).trans this
 have z:=fZ hq nu z;have:=z.add (Cg.refl y);exact (Cg.of_eq ⋯).trans (this.trans (Cg.of_eq ⋯))
theorem PR(n:Nat)(f g:Nat->Int):ah n (λi=>f i-g i)=ah n f-ah n g:=by
 rw [show (λi=>f i-g i)=λi=>f i + -1*g i from funext λi=>by lia,og,<-cD]
 lia
theorem Y6:∀{L:List Nat},L.Pairwise (· < ·)->∀j,j<L.length->j<=L.getD j 0:=fun{L} h j=>by
 induction j with
 | zero=>intro _;exact f_ _
 | succ j ih=>
  intro hj;have h1:=ih ⋯
  have h2:=HZ.mp h j (j+1) ⋯ hj ⋯
  rw [getD_at ⋯] at h1
  rw [getD_at hj];lia
variable {L:List Nat} {i j:Nat}
theorem xv(h:L.Pairwise (· < ·))(Io:i<j)(hj:j<L.length):L.getD i 0<L.getD j 0:=by
 rw [getD_at ⋯,getD_at hj]
 exact HZ.mp h i j ⋯ hj Io
variable {n:Nat}
theorem Y7(h:L.Pairwise (· < ·))(hl:L.length<=n)(all:∀c,c<n->c∈L):L=List.range n:=by
 have at':∀j,j<n->j<L.length/\L.getD j 0=j:=λj=>by
  induction j using Nat.strongRecOn with
  | _ j ih=>
   intro hj;obtain ⟨t,ht,e⟩:=eJ.mp (all j hj);have tj:j<=t:=by
    refine oS λz=>?_;have:=(ih t ⋯ ⋯).2
    rw [getD_at ht] at this;lia
   have jl:j<L.length:=by lia
   refine ⟨jl,?_⟩;have h1:=Y6 h j jl;by_cases z:t=j;·subst z;rw [getD_at ht];exact e
   ·have:=xv h (show j<t by lia) ht
    rw [getD_at (show t<L.length from ht)] at this;lia
 have ln:L.length=n:=by
  refine oS λz=>?_;have:=(at' L.length ⋯).1
  lia
 refine wo (by simp [ln]) λj h1 h2=>?_
 have:=(at' j ⋯).2
 rw [getD_at h1] at this;rw [List.getElem_range];exact this
theorem PU(n m:Nat)(hm:m<n)(f x:Nat->Int)(p v:Int)(x0:x m=0):(ah n λk=>f k*(if k=m then v else p*x k))=p*(ah n λk=>f k*x k)+f m*v:=by
 have e:(λk=>f k*(if k=m then v else p*x k))=λk=>p*(f k*x k)+(if k=m then f k*v else 0):=funext λk=>by
  by_cases z:k=m;·rw [ao z,ao z,z,x0];grind
  ·rw [aq z,aq z];grind
 rw [e,og,<-cD,kY n m (λk=>f k*v) hm]
variable {W:Nat} {A M:aE}
theorem dI.JI(hq:aD q)(h:dI q n A M L W)(nW:n<=W)(ne:L≠List.range n):∃(x:Nat->Int) (c:Nat),c<n/\¬q∣x c/\∀t,t<n->Cg q (ah n λk=>A t k*x k) 0:=by
 obtain ⟨c,cn,cL⟩:∃c,c<n/\c∉L:=oS λz=>ne (Y7 h.up h.len λc hc=>oS λy=>z (ad c hc y));have mem:∀j,j<L.length->L.getD j 0∈L:=λj hj=>by rw [getD_at hj];exact aG _
 have main:∀m,m<=L.length->∃x:Nat->Int,¬q∣x c/\(∀k,k≠c->(∀j,j<m->k≠L.getD j 0)->x k=0)/\∀j,j<m->Cg q (ah n λk=>M j k*x k) 0:=λm=>by
  induction m with
  | zero=>exact λ_=>⟨λk=>if k=c then 1 else 0,by dsimp only;rw [ao rfl];exact xt hq,λk hk _=>aq hk,λj hj=>by lia⟩
  | succ m ih=>
   intro hm;obtain ⟨x,h1,h2,h3⟩:=ih ⋯
   by_cases lm:L.getD m 0<n
   ·have lc:L.getD m 0≠c:=λe=>cL (e▸mem m ⋯)
    have x0:x (L.getD m 0)=0:=h2 _ lc λj hj e=>by
     have:=xv h.up hj ⋯
     lia
    refine ⟨λk=>if k=L.getD m 0 then -(ah n λk=>M m k*x k) else M m (L.getD m 0)*x k,?_,λk hk hj=>?_,λj hj=>?_⟩
    ·dsimp only
     rw [aq (Ne.symm lc)];exact i5 hq (h.lead m ⋯) h1
    ·dsimp only
     rw [aq (hj m ⋯),h2 k hk λj eG=>hj j ⋯,cI]
    ·rw [PU n _ lm (M j) x _ _ x0]
     by_cases e:j=m
     ·subst e
      exact Cg.of_eq (by grind)
     ·have a:=(h3 j ⋯).mulL (M m (L.getD m 0))
      have b:=(h.off j m (by have:=h.len;lia) ⋯ e).mulR (-(ah n λk=>M m k*x k))
      exact (a.add b).trans (Cg.of_eq (by simp))
   ·refine ⟨x,h1,λk hk hj=>h2 k hk λj eG=>hj j ⋯,λj hj=>?_⟩
    by_cases e:j=m
    ·subst e
     have:=dq (q:=q) (n:=n) (f:=λk=>M j k*x k) (g:=λ_=>0) λk hk=>by
      have:=(h.tu j k ⋯ ⋯).mulR (x k)
      rw [iT] at this;exact this
     rw [gz] at this;exact this
    ·exact h3 j ⋯
 obtain ⟨x,h1,_,h3⟩:=main L.length (aP _);have all:∀i,i<n->Cg q (ah n λk=>M i k*x k) 0:=λi hi=>by
  by_cases z:i<L.length;·exact h3 i z
  ·have:=dq (q:=q) (n:=n) (f:=λk=>M i k*x k) (g:=λ_=>0) λk hk=>by
    have:=(h.low i k hi ⋯ ⋯).mulR (x k)
    rw [iT] at this;exact this
   rw [gz] at this;exact this
 refine (ce x c cn h1 (λt ht=>?_));obtain ⟨e,y,ne',hy⟩:=h.ofM t ht;refine fZ hq ne' ?_;have s1:Cg q (e*ah n λk=>A t k*x k) (ah n λk=>(ah n λi=>y i*M i k)*x k):=by rw [cD];exact dq λk _=>(Cg.of_eq (by grind)).trans ((hy k).mulR (x k))
 refine s1.trans ?_;rw [Ex n n (λi=>y i) (λi k=>M i k) x];have:=dq (q:=q) (n:=n) (f:=λl=>y l*ah n λj=>M l j*x j) (g:=λ_=>0) λl hl=>by have:=(all l hl).mulL (y l);rw [cI] at this;exact this
 rw [gz] at this;exact this
variable {a D:Int} {p:Int×Int}
theorem Bz{c t:Int}(hq:aD q)(e:a*p.2=p.1*c)(w:a8 q p (t,D))(ok:aC q p.2):Cg q (t*c) (a*D):=by
 refine qP hq (ok.nz hq) ?_;obtain ⟨k,ek⟩:=w;dsimp only at ek;refine ⟨-(c*k),?_⟩;have:p.2*(a*D)=p.1*c*D:=by rw [<-e];grind
 grind
variable {m E:Int}
theorem EH{f:Int}(hq:aD q)(v:a8 q p (m,u))(w:a8 q p (f,E))(ok:aC q p.2):Cg q (f*u) (m*E):=by refine qP hq (ok.nz hq) ?_;obtain ⟨k,ek⟩:=w;obtain ⟨k2,Ju⟩:=v;dsimp only at ek Ju;exact ⟨E*k2-u*k,by grind⟩
def PV(q:Int)(n:Nat)(A:aE)(D:Int)(F:aE)(E:Int):Prop:=∀j k,j<n->k<n->Cg q (ah n λi=>F j i*A i k) (if j=k then D*E else 0)/\Cg q (ah n λi=>A j i*F i k) (if j=k then D*E else 0)
variable {T:aE} {c:Nat->Int}
theorem dI.inv(hq:aD q){F:aE}(h:dI q n A M (List.range n) W)(hW:n+n<=W)(hc:∀i,i<n->¬q∣c i)
  (hT:∀i k,i<n->k<n->Cg q (T i k*c i) (A i k*D)) (hU:∀i k,i<n->k<n->A i (n+k)=if k=i then c i else 0) (hF:∀j k,j<n->k<n->Cg q (F j k*M j j) (M j (n+k)*E)):PV q n T D F E:=by
 have gr:∀j,j<n->(List.range n).getD j 0=j:=λj hj=>by
  rw [getD_at (by simpa using hj)]
  simp
 have ld:∀j,j<n->¬q∣M j j:=λj hj=>by
  have:=h.lead j (by simpa using hj)
  rw [gr j hj] at this;exact this
 have Y8:∀i j,i<n->j<n->i≠j->Cg q (M i j) 0:=λi j hi hj ne=>by
  have:=h.off i j hi (by simpa using hj) ne
  rw [gr j hj] at this;exact this
 intro j k hj hk;constructor
 ·obtain ⟨e,x,ne,hx⟩:=h.qN j hj
  have Y9:∀i,i<n->Cg q (e*M j (n+i)) (x i*c i):=λi hi=>(hx (n+i)).trans (Cg.of_eq (by
   rw [dc (g:=λt=>if t=i then x t*c t else 0) λt ht=>by
    rw [hU t i ht hi];by_cases z:t=i;·rw [ao z,ao z.symm]
    ·rw [aq z,aq (Ne.symm z),cI]]
   rw [kY n i (λt=>x t*c t) hi]))
  refine qP hq (i5 hq ne (ld j hj)) ?_;have s1:Cg q (e*M j j*ah n λi=>F j i*T i k) (ah n λi=>x i*A i k*(D*E)):=by rw [cD];refine dq λi hi=>?_;have a:=(hF j i hj hi).mulR (e*T i k);have b:=(Y9 i hi).mulR (E*T i k);have d:=(hT i k hi hk).mulR (E*x i);refine (Cg.of_eq (by grind)).trans (a.trans ((Cg.of_eq (by grind)).trans (b.trans ((Cg.of_eq (by grind)).trans (d.trans (Cg.of_eq (by grind)))))))
  refine s1.trans ?_;have s2:(ah n λi=>x i*A i k*(D*E))=D*E*ah n λi=>x i*A i k:=by rw [cD];exact dc λi _=>by grind
  rw [s2];refine ((hx k).symm.mulL (D*E)).trans ?_;by_cases z:j=k
  ·subst z
   rw [ao rfl];exact Cg.of_eq (by grind)
  ·rw [aq z,cI]
   have:=((Y8 j k hj hk z).mulL (D*E*e));rw [cI] at this;exact (Cg.of_eq (by grind)).trans this
 ·obtain ⟨e,y,ne,h1,h2⟩:=h.done hj
  rw [gc] at h1 h2;refine qP hq (i5 hq ne (hc j hj)) ?_;have s1:Cg q (e*c j*ah n λi=>T j i*F i k) (ah n λi=>D*E*(y i*M i (n+k))):=by rw [cD];refine dq λi hi=>?_;have a:=(hT j i hj hi).mulR (e*F i k);have b:=(h2 i hi).mulR (D*F i k);rw [gr i hi] at b;have d:=(hF i k hi hk).mulR (D*y i);refine (Cg.of_eq (by grind)).trans (a.trans ((Cg.of_eq (by grind)).trans (b.trans ((Cg.of_eq (by grind)).trans (d.trans (Cg.of_eq (by grind)))))))
  refine s1.trans ?_;rw [<-cD];refine ((h1 (n+k) ⋯).symm.mulL (D*E)).trans ?_
  rw [hU j k hj hk];by_cases z:k=j
  ·rw [ao z,ao z.symm]
   exact Cg.of_eq (by grind)
  ·rw [aq z,aq (Ne.symm z)]
   exact Cg.of_eq (by grind)
def tD(B:Nat)(H0 H:Hp)(q:Int)(r:Addr)(ai:aH):Prop:=∃vs:List V,H r=some (.lst vs)/\vs.length=ai.length/\H0 r=none/\∀(i:Nat) (v:V) (ps:aI),vs[i]?=some v->ai[i]?=some ps->∃x:Addr,v=.ref x/\x≠r/\H0 x=none/\aM B H q x ps
variable {B:Nat} {H:Hp} {r:Addr} {ai:aH}
theorem tD.b{H0:Hp}(h:tD B H0 H q r ai):aU B H q r ai:=by intros am9 h vs e l _ f;exact (am vs e l (λi v ps h1 h2=>by obtain ⟨x,e1,_,_,e2⟩:=f i v ps h1 h2;exact (ad x e1 e2)))
theorem aU.each(h:aU B H q r ai):∀ps∈ai,∃x,aM B H q x ps:=λps hp=>by
 intros am7 h vs e l f;obtain ⟨i,hi,e2⟩:=eJ.mp hp;have h1:i<vs.length:=by lia
 obtain ⟨x,_,e3⟩:=f i vs[i] ps (by simp [h1]) (by simp [hi,e2])
 exact ⟨x,e3⟩
variable {ps:aI}
theorem aM.nums{a:Addr}(h:aM B H q a ps)(hq:aD q):∀p∈ps,Canon q p/\aC q p.2/\∃v,cH B H q v p.1 p.2:=λp hp=>by
 intros am7 h vs e l f;obtain ⟨i,hi,e2⟩:=eJ.mp hp;have h1:i<vs.length:=by lia
 have z:=f i vs[i] p (by simp [h1]) (by simp [hi,e2])
 exact ⟨z.canon,z.bot hq,_,z⟩
theorem aU.nums(h:aU B H q r ai)(hq:aD q):∀ps∈ai,∀p∈ps,Canon q p/\aC q p.2/\∃v,cH B H q v p.1 p.2:=λps hp=>by obtain ⟨x,hx⟩:=h.each ps hp;exact hx.nums hq
theorem Y_{E:Nat}(h:bj q E ps):bj q E (ps++iK n i):=by
 intros am15 h D x ok bD dv hx;refine (gl D (λk=>if k<ps.length then x k else if k-ps.length=i then D else 0) ok bD (λp hp=>?_) (λk hk=>?_))
 ·rcases lJ.mp hp with z | z
  ·exact dv p z
  ·have e:p.2=1:=by
    obtain ⟨j,hj,e⟩:=eJ.mp z;have:=Ew (n:=n) (i:=i) (j:=j) (by rw [<-xn (n:=n) (i:=i)];exact hj)
    rw [getD_at hj,e] at this;rw [this]
   rw [e];exact Int.one_dvd _
 ·dsimp only
  by_cases z:k<ps.length
  ·rw [ao z]
   have:(ps++iK n i).getD k o1=ps.getD k o1:=by rw [cb,gL z,<-cb]
   rw [this];exact hx k z
  ·rw [aq z]
   have dC:k-ps.length<n:=by rw [kA,xn] at hk;lia
   have:(ps++iK n i).getD k o1=(iK n i).getD (k-ps.length) o1:=by rw [cb,iA ⋯,<-cb]
   rw [this,Ew dC];by_cases y:k-ps.length=i
   ·rw [ao y,ao y]
    exact ⟨by dsimp only;lia,bD⟩
   ·rw [aq y,aq y]
    exact ⟨by dsimp only;lia,f_ _⟩
def BA(n:Nat):List (List (Int×Int)):=(List.range n).map (iK n)
def k8(n:Nat)(aa:aH):List (List (Int×Int)):=List.zipWith (·++·) aa (BA n)
variable {aa:aH}
theorem pW(h:aa.length=n):(k8 n aa).length=n:=by unfold k8 BA;rw [wq,aV,gc];lia
theorem EI(h:aa.length=n)(hi:i<n):(k8 n aa).getD i []=aa.getD i []++iK n i:=by
 unfold k8 BA;rw [cb,AH];have h1:i<aa.length:=by lia
 rw [getD_at h1];simp [h1,hi]
variable {k:Nat}
theorem Za(h:aa.length=n)(hm:∀ps∈aa,ps.length=n)(hi:i<n)(hk:k<n):atT (k8 n aa) i k=atT aa i k:=by
 unfold atT;rw [EI h hi];have l:(aa.getD i []).length=n:=by
  rw [getD_at ⋯]
  exact hm _ (aG _)
 rw [cb,gL ⋯,<-cb]
theorem Zb(h:aa.length=n)(hm:∀ps∈aa,ps.length=n)(hi:i<n)(hk:k<n):atT (k8 n aa) i (n+k)=((if k=i then 1 else 0:Int),(1:Int)):=by
 unfold atT;rw [EI h hi];have l:(aa.getD i []).length=n:=by
  rw [getD_at ⋯]
  exact hm _ (aG _)
 rw [cb,iA ⋯,<-cb,l,Nat.add_sub_cancel_left,Ew hk]
theorem Zc(h:aa.length=n)(hm:∀ps∈aa,ps.length=n):∀ps∈k8 n aa,ps.length=n+n:=λps hp=>by
 obtain ⟨i,hi,e⟩:=eJ.mp hp;have a_:i<n:=by rw [<-pW h];exact hi
 have z:=EI h a_;rw [getD_at hi,e] at z;rw [z,kA,xn,getD_at ⋯,hm _ (aG _)]
def JJ(q:Int)(n:Nat)(aa:aH):Prop:=∃(x:Nat->Int) (c:Nat),c<n/\¬q∣x c/\∀T D,cS q n n (atT aa) T D->∀i,i<n->Cg q (ah n λk=>T i k*x k) 0
def BB(q:Int)(n:Nat)(aa cU:aH):Prop:=∀T D F E,cS q n n (atT aa) T D->cS q n n (atT cU) F E->PV q n T D F E
theorem k9{m:Nat}(h:aa.length=n)(hm:∀ps∈aa,ps.length=m)(hi:i<n)(hk:k<m):∃ps∈aa,atT aa i k∈ps:=by
 have h1:i<aa.length:=by lia
 have l:=hm _ (aG h1);refine ⟨aa[i],aG h1,?_⟩;unfold atT;rw [getD_at h1,getD_at ⋯]
 exact aG _
variable {P:Nat}
theorem cJ.PX(hq:aD q){last:Int}(h:cJ q P (n+n) (k8 n aa) A M c L last ai)(hn:aa.length=n)(hm:∀ps∈aa,ps.length=n)(hb:∀ps∈aa,∀p∈ps,aC q p.2)(r:cS q n n (atT aa) T D)(hi:i<n)(hk:k<n):Cg q (T i k*c i) (A i k*D):=by
 have e:=h.row i k (by rw [pW hn];exact hi) ⋯
 rw [Za hn hm hi hk] at e;obtain ⟨ps,h1,h2⟩:=k9 hn hm hi hk;exact Bz hq e (r.2 i k hi hk) (hb ps h1 _ h2)
theorem cJ.none(hq:aD q){last:Int}(h:cJ q P (n+n) (k8 n aa) A M c L last ai)(hn:aa.length=n)(hm:∀ps∈aa,ps.length=n)(hb:∀ps∈aa,∀p∈ps,aC q p.2)(ne:L≠List.range n):JJ q n aa:=by
 have rd:=h.red.rd;rw [pW hn] at rd;obtain ⟨x,k,hk,nx,hx⟩:=rd.JI hq ⋯ ne
 refine (ce x k hk nx (λT D r i hi=>?_));have ci:=h.bot i (by rw [pW hn];exact hi)
 refine fZ hq (ci.nz hq) ?_;have s1:Cg q (c i*ah n λk=>T i k*x k) (ah n λk=>D*(A i k*x k)):=by rw [cD];refine dq λk hk=>?_;have:=(h.PX hq hn hm hb r hi hk).mulR (x k);exact (Cg.of_eq (by grind)).trans (this.trans (Cg.of_eq (by grind)))
 refine s1.trans ?_;rw [<-cD];have:=(hx i hi).mulL D;rw [cI] at this;exact this
theorem Zd(hj:j<ai.length):atT (ai.map λps=>ps.drop n) j k=atT ai j (n+k):=by
 have e:(ai.map λps=>ps.drop n).getD j []=ai[j].drop n:=by rw [getD_at (by rw [aV];exact hj),iU]
 unfold atT;rw [e,getD_at hj,cb,cb,wt]
theorem cJ.inv(hq:aD q){last:Int}(h:cJ q P (n+n) (k8 n aa) A M c (List.range n) last ai)(hn:aa.length=n)(hm:∀ps∈aa,ps.length=n)(hb:∀ps∈aa,∀p∈ps,aC q p.2)(ki:∀ps∈ai,∀p∈ps,aC q p.2):BB q n aa (ai.map λps=>ps.drop n):=λT D F E r1 r2=>by
 have rd:=h.red.rd;have lr:ai.length=n:=by rw [h.len,gc]
 rw [pW hn] at rd;refine rd.inv hq (c:=c) (aP _) (λi hi=>(h.bot i (by rw [pW hn];exact hi)).nz hq) (λi k hi hk=>h.PX hq hn hm hb r1 hi hk) (λi k hi hk=>?_) (λj k hj hk=>?_)
 ·have e:=h.row i (n+k) (by rw [pW hn];exact hi) ⋯
  rw [Zb hn hm hi hk] at e;dsimp only at e;rw [jV] at e;rw [e];by_cases z:k=i;·rw [ao z,ao z,mJ]
  ·rw [aq z,aq z,iT]
 ·have v:=h.val j (n+k) (by simpa using hj) ⋯
  have w:=r2.2 j k hj hk;rw [Zd ⋯] at w
  have gj:(List.range n).getD j 0=j:=by
   rw [getD_at (by simpa using hj)]
   simp
  rw [gj] at v;obtain ⟨ps,h1,h2⟩:=k9 lr h.bY hj (show n+k<n+n by lia)
  exact EH hq v w (ki ps h1 _ h2)
theorem EJ{b:Int}(l:eQ x m)(e:x*b=a*m):m∣b:=by
 have h:m∣x*b:=⟨a,by rw [e,fU]⟩
 have g:Int.gcd m x=1:=by rw [Int.gcd_comm];exact l.pH
 have h2:m.natAbs∣x.natAbs*b.natAbs:=by rw [<-bU];exact HY.mpr h
 exact HY.mp (Nat.Coprime.dvd_of_dvd_mul_left g h2)
theorem cJ.PY(hq:aD q){cV:aH}{last:Int}(h:cJ q P W cV A M c L last ai)(hc:∀ps∈ai,∀p∈ps,Canon q p)(hj:j<L.length):bj q (cV.length*(br cV.length*P)) ((ai.map λps=>ps.drop n).getD j []):=by
 have jr:j<ai.length:=by rw [h.len];exact hj
 have jn:j<cV.length:=dQ hj h.red.rd.len;rw [getD_at (by rw [aV];exact jr),iU]
 have lj:=h.bY _ (aG jr);have cn:∀p∈ai[j],Canon q p:=hc _ (aG jr);have vl:∀k,k<W->a8 q (ai[j].getD k o1) (M j k,M j (L.getD j 0)):=λk hk=>by have:=h.val j k hj hk;unfold atT at this;rw [getD_at jr] at this;exact this
 have bM:∀k,k<W->(M j k).natAbs<=cV.length*(br cV.length*P):=λk hk=>h.red.bd hq jn hk;generalize ai[j]=ps at lj cn vl;by_cases z:q=0
 ·subst z
  have e0:=h.red.PL rfl hj;rw [e0] at vl;have l0:=(h.red.last hq).2;obtain ⟨R,g,G,b,el⟩:=h.red.bar rfl;have bl:last.natAbs<=cV.length*(br cV.length*P):=by rw [el];exact b.JD h.red.n1
  have dv:∀k,k<W->(ps.getD k o1).1*last=M j k*(ps.getD k o1).2/\(ps.getD k o1).2∣last:=λk hk=>by
   have e:=kD.mp (vl k hk);dsimp only at e;have e:(ps.getD k o1).1*last=M j k*(ps.getD k o1).2:=by lia
   have dC:k<ps.length:=by lia
   exact ⟨e,EJ ((cn _ (by rw [getD_at dC];exact aG _)).1 rfl) e⟩
  refine ⟨(last.natAbs:Int),λk=>if 0<last then M j (n+k) else -(M j (n+k)),⟨λ_=>by lia,λy=>absurd rfl y⟩,by rw [wc];exact bl,λp hp=>?_,λk hk=>?_⟩
  ·have hp:=List.drop_subset _ _ hp
   obtain ⟨k,hk,e⟩:=eJ.mp hp;have:=(dv k ⋯).2
   rw [getD_at hk,e] at this;exact Int.dvd_natAbs.mpr this
  ·rw [r_] at hk
   have ek:(ps.drop n).getD k o1=ps.getD (n+k) o1:=by rw [cb,cb,wt]
   rw [ek];have e:=(dv (n+k) ⋯).1
   have bm:=bM (n+k) ⋯
   dsimp only;by_cases y:0<last
   ·rw [ao y,show (last.natAbs:Int)=last by lia]
    exact ⟨e,bm⟩
   ·rw [aq y,show (last.natAbs:Int)=-last by lia,je,e,wg,qt]
    exact ⟨rfl,bm⟩
 ·have q9:q<=997:=by rcases hq with h | h <;> lia
  have bb:=h.red.i8;refine ⟨1,λk=>(ps.getD (n+k) o1).1,⟨λy=>absurd y z,λ_=>rfl⟩,⋯,λp hp=>?_,λk hk=>?_⟩
  ·have:=((cn p (List.drop_subset _ _ hp)).2 z).1
   rw [this];exact mI 1
  ·rw [r_] at hk
   have ek:(ps.drop n).getD k o1=ps.getD (n+k) o1:=by rw [cb,cb,wt]
   rw [ek];have dC:n+k<ps.length:=by lia
   obtain ⟨c1,c2,c3⟩:=(cn _ (by rw [getD_at dC];exact aG _:ps.getD (n+k) o1∈ps)).2 z
   rw [c1];exact ⟨rfl,by dsimp only;lia⟩
theorem PZ(xs:List V)(k:Nat)(h:k<=xs.length):kR xs (some (k:Int)) none=xs.drop k:=by
 have e1:HT.ic xs.length 0 (some (k:Int))=k:=by rw [HT.Oa];lia
 have e2:HT.ic xs.length xs.length none=xs.length:=rfl;unfold kR;rw [e1,e2,List.take_of_length_le (by rw [r_];lia)]
theorem aM.drop{vs:List V}(e:H r=some (.lst (vs.drop k)))(l:vs.length=ps.length)(f:∀(i:Nat) (v:V) (p:Int×Int),vs[i]?=some v->ps[i]?=some p->cH B H q v p.1 p.2):aM B H q r (ps.drop k):=by
 refine (am _ e (by rw [r_,r_,l]) (λi v p h1 h2=>?_))
 rw [wt] at h1 h2;exact f _ v p h1 h2
theorem P1(n:Nat):jM n=((List.range n).map λj:Nat=>(j:Int)).map V.int:=by unfold jM;rw [AG];rfl
theorem Ze{L':List Nat}(h:(L.map λj:Nat=>(j:Int))=L'.map λj:Nat=>(j:Int)):L=L':=by
 refine wo (by simpa using eW List.length h) λj h1 h2=>?_
 have:=eW (λl=>l[j]?) h;have:((L[j]:Nat):Int)=((L'[j]:Nat):Int):=by simpa [h1,h2] using this
 lia
end My
namespace L2
open PySem PySem.Spec PyProof.Rows
def Wide(i:Int):Prop:=i.natAbs<2 ^ 8192
variable {i:Int}
theorem Wide.log(h:Wide i):i.natAbs.log2<8192:=by
 by_cases z:i.natAbs=0;·rw [z];decide
 ·exact (Nat.log2_lt z).mpr h
theorem b_.wide(h:b_ i):Wide i:=dQ h (dR ∅ ∅)
def EK(i j:Int):Prop:=j≠0/\Wide j
def JK(i j:Int):Prop:=Wide i/\Wide j
theorem JK.ok{j:Int}(h:JK i j):IntMulOk i j:=by
 have b:∀{k:Int},Wide k->Builtin.Int.intBits k<=8192:=fun{k} hk=>by
  have z:=hk.log;unfold Builtin.Int.intBits
  split <;> lia
 unfold IntMulOk;have e:Builtin.Int.intTooBig ((Builtin.Int.intBits i:Int)+(Builtin.Int.intBits j:Int))=false:=by
  unfold Builtin.Int.intTooBig;have h1:=b h.1;have h2:=b h.2;have h3:(16384:Int)<=bitsLine:=by decide +kernel
  exact fD ⋯
 intro z;rw [v_] at z;have z2:=z.2;rw [show Builtin.Int.intTooBig ((Builtin.Int.intBits i:Int)+(Builtin.Int.intBits j:Int))=false from e] at z2;cases z2
section
variable {X:Cx}
theorem JL:cT X (binaryOp .FloorDiv) (rI EK λi j=>.int (i.fdiv j)):=o8 λ_ _ _ _ _ _ _ hc q=>floordiv_int hc.1 q (.inl (HV (dQ hc.2.log ∅)))
theorem oo:cT X (binaryOp .Mult) (rI JK λi j=>.int (i*j)):=o8 λ_ _ _ _ _ _ _ hc q=>mul_int q hc.ok
end
end L2
namespace My
open PySem L2
theorem Zf{a b:Int}(h:b≠0)(m:Wide b):EK 0 (lowG a b):=by
 have h1:=pG (a:=a) h;have h2:Int.gcd a b<2 ^ 8192:=bT (Nat.gcd_le_right _ (kC.mpr h)) m;unfold lowG;refine ⟨by split <;> lia,?_⟩
 unfold Wide
 split
 ·rw [show (0-(Int.gcd a b:Int)).natAbs=Int.gcd a b by lia];exact h2
 ·rw [wc];exact h2
def P4:Sp:=λvs H Q _=>∃a b:Int,vs=[.int a,.int b]/\b≠0/\Wide b/\∀(q:Addr) (H':Hp),ag H H'->H' q=some (.tup [.int (a.fdiv (lowG a b)),.int (b.fdiv (lowG a b))])->Q (.ref q) H'
def Zg:Sp:=λvs H Q _=>∃q c:Int,vs=[.int q,.int c]/\aD q/\0<=c/\∀(v:V) (x m:Int) (H':Hp),ag H H'->cH (10 ^ 6) H' q v x m->m.natAbs<=1000->Q v H'
def Zh:Sp:=λvs H Q _=>∃(q:Int) (a b:Addr) (ps rs:aI),vs=[.int q,.ref a,.ref b]/\aD q/\aM (10 ^ 150) H q a ps/\aM (10 ^ 150) H q b rs/\pU q ps.length/\pU q rs.length/\∀(v:V) (H':Hp),ag H H'->cN H' q v (aW ps rs (0,1)).1 (aW ps rs (0,1)).2->Q v H'
variable {H:Hp}
theorem Zi{c:TT}{t u:TE}{σ:St}{Q:VK}(P:V->Hp->Prop)(h:∀Q':VK,(∀v H',P v H'->Q' v H')->AO c t u σ H Q')(k:∀v H',P v H'->Q v H'):AO c t u σ H Q:=h Q k
theorem P5(i j:Nat):(if decide (V.int (i:Int)=V.int (j:Int))=true then (1:Int) else 0)=if i=j then 1 else 0:=by
 by_cases e:i=j;·rw [ao e,e,cF rfl,ao rfl]
 ·rw [aq e,fD (λz=>e (by have:=V.int.inj z;lia)),aq d3]
theorem P6{q:Int}(hq:aD q)(hn:q≠0){d:Int}(hd:d=0\/d=1):cN H q (.int d) d 1:=by
 have q2:2<=q:=by rcases hq with h | h <;> lia
 exact .rem q2 ⋯ ⋯ (nM ..) ⟨0,⋯⟩
end My
namespace L2
open PySem PySem.Spec PyProof.Rows
theorem P7{X:Cx}{K:aQ}{a:Expr}{ta:TE}(ha:PE X a ta)(he:∀whole,isTrue a X.env whole=(do let v <-whole;standAt a.pos;holding [v] (truthy v)))(hK:X.K=K:=by rfl) :
  PT X a (λσ H Q=>ta σ H λx H'=>∃k,Iy K x H' k/\Q k H'):=by
 subst hK
 exact kK ha he
end L2
namespace My
open PySem L2
variable {H:Hp}
theorem Zj{wi:TI}{ρ:St->St}{tt:TT}{te:TE}{σ:St}{Q:VK}{xs:List V}(f:Nat->Bool)(il:∀R:It->Hp->Prop,(∀J H1,ag H H1->n_ J xs H1->R J H1)->wi σ H R)(hn:xs.length<sizeLine)
  (test:∀(i:Nat) (x:V),xs[i]?=some x->∀(Hc:Hp) (R:Bool->Hp->Prop),ag H Hc->R (f i) Hc->tt (some x::ρ σ) Hc R)
  (step:∀(i:Nat) (x:V),xs[i]?=some x->∀(Hc:Hp) (R:VK),R x Hc->te (some x::ρ σ) Hc R)
  (fin:∀D ys Hc,H D=none->ag H Hc->(∀v∈ys,∃i:Nat,f i=true/\xs[i]?=some v)->(∀i,i<xs.length->f i=true->ys≠[])->Hc D=some (.lst ys)->Q (.ref D) Hc):jL wi ρ tt te σ H Q:=by
 refine il _ λJ H1 s1 js=>?_;intro D nD;have hD:H D=none:=by
  cases e:H D with
  | none=>rfl
  | some o=>rw [s1 _ _ e] at nD;cases nD
 refine (ad (λi m ys Hc=>m=xs.length-i/\i<=xs.length/\Hc D=some (.lst ys)/\ag H1 Hc/\ys.length<=i/\(∀v∈ys,∃i:Nat,f i=true/\xs[i]?=some v)/\(∀i',i'<i->f i'=true->ys≠[])) ⟨_,rfl,f_ _,aK,e_ (ag.refl H1) nD,aP _,(λv hv=>by simp at hv),λi' h=>by lia⟩ ?_)
 rintro i m ys Hc ⟨rfl,hi,eD,sH,el,h1,h2⟩;refine ⟨eD,?_⟩;by_cases dS:i<xs.length
 ·refine .inr ⟨js.go i Hc sH dS,λx H' hy=>?_⟩
  obtain ⟨rfl,hx⟩:=js.gv i Hc x H' sH hy;refine test i x (hx dS) _ _ (s1.trans sH) ?_;cases ef:f i with
  | true=>
   rw [ao rfl];refine step i x (hx dS) _ _ ⟨eD,⋯,xs.length-(i+1),⋯,rfl,dS,aK,e_ sH nD,by simp;exact el,λv hv=>?_,λi' h3 h4=>by simp⟩
   rcases lJ.mp hv with z | z;·exact h1 v z
   ·rw [iC.mp z]
    exact ⟨i,ef,hx dS⟩
  | false=>
   rw [aq d3];refine (ww (xs.length-(i+1)) ⋯ rfl dS eD sH ⟨⋯,h1,λi' h3 h4=>?_⟩)
   by_cases z:i'=i;·rw [z,ef] at h4;cases h4
   ·exact h2 i' ⋯ h4
 ·have e:i=xs.length:=by lia
  subst e;exact .inl ⟨js.stop _ Hc sH (aP _),fin D ys Hc hD (s1.trans sH) h1 h2 eD⟩
def pX(H:Hp)(a:Addr)(n W:Nat)(M:aE):Prop:=∃vs:List V,H a=some (.lst vs)/\vs.length=n/\∀(i:Nat) (v:V),vs[i]?=some v->∃x:Addr,v=.ref x/\x≠a/\H x=some (.lst (((List.range W).map (M i)).map V.int))
variable {H':Hp} {a:Addr} {n W:Nat} {M:aE}
theorem pX.mono(h:pX H a n W M)(s:ag H H'):pX H' a n W M:=by intros am7 h vs e l k;exact (am vs (s _ _ e) l (λi v hv=>by obtain ⟨x,e1,n1,e2⟩:=k i v hv;exact (am x e1 n1 (s _ _ e2))))
variable {i:Nat}
theorem pX.put{y:Addr}{f:Nat->Int}{vs:List V}(h:pX H a n W M)(ea:H a=some (.lst vs))(ne:y≠a)(hy:H y=some (.lst (((List.range W).map f).map V.int)))(hi:i<n):pX (upd H a (.lst (vs.set i (.ref y)))) a n W (λj=>if j=i then f else M j):=by
 intros am7 h Zk e l k;rw [ea] at e;cases e;refine (am _ aK (by rw [iB];exact l) (λj v hv=>?_))
 by_cases z:j=i
 ·subst z
  rw [kx ⋯] at hv
  cases hv;refine (am y rfl ne ?_);dsimp only;rw [ao rfl,cj ne];exact hy
 ·rw [ky (λe=>z e.symm)] at hv
  obtain ⟨x,e1,n1,e2⟩:=k j v hv;refine (am x e1 n1 ?_);dsimp only;rw [aq z,cj n1];exact e2
def i9(q:Int)(M:aE)(c j m:Nat):Nat->Nat->Int:=λi=>if c<i/\i<c+1+m then λk=>if q=0 then M i k*M c j-M c k*M i j else (M i k*M c j-M c k*M i j) % q else M i
def de(Dl V:Nat)(ps:aI):Prop:=∃(D:Int) (x:Nat->Int),1<=D/\D.natAbs<=Dl/\∀j,j<ps.length->(ps.getD j o1).1*D=x j*(ps.getD j o1).2/\(x j).natAbs<=V*D.natAbs
variable {Dl:Nat} {ps:aI}
theorem de.weak{P8 V V':Nat}(h:de Dl V ps)(h1:Dl<=P8)(h2:V<=V'):de P8 V' ps:=by intros am13 h D x d1 d2 hx;exact (ce D x d1 (au d2 h1) (λj hj=>⟨(hx j hj).1,au (hx j hj).2 (g8 _ h2)⟩))
variable {E:Nat}
theorem de.e{V:Nat}(h:de Dl V ps)(hc:∀p∈ps,Canon 0 p)(h1:V*Dl<=E)(h2:1<=V):bj 0 E ps:=by intros am13 h D x d1 d2 hx;have dl:D.natAbs<=E:=au (au d2 (g9 _ h2)) h1;refine (gl D x ⟨λ_=>d1,λz=>absurd rfl z⟩ dl (λp hp=>?_) (λj hj=>⟨(hx j hj).1,au (hx j hj).2 (au (fq _ d2) h1)⟩));obtain ⟨j,hj,e⟩:=eJ.mp hp;have z:=(hx j hj).1;rw [getD_at hj,e] at z;exact EJ ((hc p hp).1 rfl) z
theorem JM:∀(ps:aI),(∀p∈ps,p.1.natAbs<=10 ^ 6/\1<=p.2/\p.2.natAbs<=1000)->de (1000 ^ ps.length) (10 ^ 6) ps
 | [],_=>⟨1,λ_=>0,∅,∅,λj hj=>by simp at hj⟩
 | p::ps,h=>by
  obtain ⟨D,x,d1,d2,hx⟩:=JM ps λp hp=>h p (iQ _ hp);obtain ⟨b1,b2,b3⟩:=h p jx;have m1:(p.2*D).natAbs=p.2.natAbs*D.natAbs:=bU ..;have pd:=fk (show 0<p.2 by lia) (show 0<D by lia)
  refine ⟨p.2*D,λj=>if j=0 then p.1*D else p.2*x (j-1),⋯,?_,λj hj=>?_⟩
  ·rw [m1,df,nP,oQ]
   exact cA d2 b3
  ·cases j with
   | zero=>
    dsimp only;rw [ao rfl,List.getD_cons_zero];refine ⟨by grind,?_⟩
    rw [m1,bU];refine cA b1 (g9 _ ⋯)
   | succ j=>
    dsimp only;rw [aq ⋯,List.getD_cons_succ,Nat.add_sub_cancel]
    obtain ⟨e1,e2⟩:=hx j (by simpa using hj)
    refine ⟨by grind,?_⟩
    rw [m1,bU,so];exact fq _ e2
variable {n0 d0 n1 d1:Int}
theorem Zl:∀i,i<2->a8 0 ([(n0,d0),(n1,d1)].getD i o1) ((if i=0 then n0*d1 else n1*d0),d0*d1):=λi hi=>by
 match i,hi with
 | 0,_=>exact ⟨0,by show n0*(d0*d1)-n0*d1*d0=_;grind⟩
 | 1,_=>exact ⟨0,by show n1*(d0*d1)-n1*d0*d1=_;grind⟩
variable {xa Da xb Db:Int} {pa pb:Int×Int}
theorem EL(ha:pa.1*Da=xa*pa.2)(hb:pb.1*Db=xb*pb.2):a8 0 (aW [(n0,d0),(n1,d1)] [pa,pb] (0,1)) (n0*d1*(xa*Db)+n1*d0*(xb*Da),d0*d1*(Da*Db)):=by
 have z:=Pk (q:=0) (n:=2) (ps:=[(n0,d0),(n1,d1)]) (rs:=[pa,pb]) (D1:=d0*d1) (D2:=Da*Db) (f:=λi=>if i=0 then n0*d1 else n1*d0) (g:=λi=>if i=0 then xa*Db else xb*Da) rfl rfl Zl (λi hi=>by
  match i,hi with
  | 0,_=>exact ⟨0,by show pa.1*(Da*Db)-xa*Db*pa.2=_;grind⟩
  | 1,_=>exact ⟨0,by show pb.1*(Da*Db)-xb*Da*pb.2=_;grind⟩)
 have e:(ah 2 λi=>(if i=0 then n0*d1 else n1*d0)*(if i=0 then xa*Db else xb*Da))=n0*d1*(xa*Db)+n1*d0*(xb*Da):=by show n0*d1*(xa*Db)+(n1*d0*(xb*Da)+0)=_;lia
 rw [e] at z;exact z
theorem EM{V:Nat}(b0:n0.natAbs<=10 ^ 6)(b1:n1.natAbs<=10 ^ 6)(p0:1<=d0)(p1:1<=d1)(ha:xa.natAbs<=V*Da.natAbs)(hb:xb.natAbs<=V*Db.natAbs):(n0*d1*(xa*Db)+n1*d0*(xb*Da)).natAbs<=2*10 ^ 6*V*(d0*d1*(Da*Db)).natAbs:=by
 refine au (Int.natAbs_add_le ..) ?_;simp only [bU];have q0:1<=d0.natAbs:=by lia
 have q1:1<=d1.natAbs:=by lia
 generalize n0.natAbs=N0 at *;generalize n1.natAbs=N1 at *;generalize d0.natAbs=E0 at *;generalize d1.natAbs=E1 at *;generalize xa.natAbs=X0 at *;generalize xb.natAbs=X1 at *;generalize Da.natAbs=A at *;generalize Db.natAbs=B at *;have t1:N0*E1*(X0*B)<=10 ^ 6*(E0*E1)*(V*A*B):=cA (cA b0 (g9 _ q0)) (g8 _ ha);have t2:N1*E0*(X1*A)<=10 ^ 6*(E0*E1)*(V*B*A):=cA (cA b1 (nO _ q1)) (g8 _ hb);have e1:10 ^ 6*(E0*E1)*(V*A*B)=10 ^ 6*V*(E0*E1*(A*B)):=by grind
 have e2:10 ^ 6*(E0*E1)*(V*B*A)=10 ^ 6*V*(E0*E1*(A*B)):=by grind
 rw [e1] at t1;rw [e2] at t2;have e3:2*10 ^ 6*V*(E0*E1*(A*B))=10 ^ 6*V*(E0*E1*(A*B))+10 ^ 6*V*(E0*E1*(A*B)):=by grind
 rw [e3];exact Nat.add_le_add t1 t2
variable {q:Int} {v:V}
theorem JN{rs:aI}(hq:aD q)(h:cN H q v (aW ps rs (0,1)).1 (aW ps rs (0,1)).2)(hf:q=0->∃X D:Int,a8 0 (aW ps rs (0,1)) (X,D)/\1<=D/\X.natAbs<=10 ^ 60/\D.natAbs<=10 ^ 60) :
  ∃p:Int×Int,cH (10 ^ 60) H q v p.1 p.2/\(q=0->∀X D:Int,a8 0 (aW ps rs (0,1)) (X,D)->1<=D->p.1*D=X*p.2):=by
 by_cases z:q=0
 ·subst z
  obtain ⟨X,D,w,d1,bX,bD⟩:=hf rfl;obtain ⟨p,hp,wp⟩:=Eu (h.i6 w ⟨λ_=>d1,λy=>absurd rfl y⟩) hq bX bD;obtain ⟨x,m⟩:=p;refine (ad (x,m) hp (λ_ X' D' w' JO=>?_));have h':=h.i6 w' ⟨λ_=>JO,λy=>absurd rfl y⟩;cases hp with
  | rem h0 h1 h2=>lia
  | cq e l bx bm=>
   cases h' with
   | cq e' l' ki h'=>rw [e] at e';cases e';exact h'
 ·cases h with
  | cq e l hb h=>exact absurd rfl z
  | rem q2 h0 h1 g h=>
   rename_i r
   have q3:q<=997:=by rcases hq with y | ⟨_,y,_⟩ <;> lia
   exact ⟨(r,1),.rem h0 h1 q3,λy=>absurd y z⟩
variable {k:Nat}
theorem Zm(g:Nat->V)(v:V)(hk:k<n):((List.range n).map g).set k v=(List.range n).map λi=>if i=k then v else g i:=by
 refine wo (by simp) λj h1 h2=>?_
 rw [List.getElem_set];by_cases z:k=j;·subst z;simp
 ·rw [aq z]
  simp [Ne.symm z]
structure jO (H0 H:Hp) (q:Int) (r:Addr) (n m:Nat) (A:Nat->Addr) (f:Nat->List (Int×Int)):Prop where
 at':H r=some (.lst ((List.range n).map λi=>V.ref (A i)))
 new:H0 r=none
 inj:∀i j,i<n->j<n->A i=A j->i=j
 rows:∀i,i<n->A i≠r/\H0 (A i)=none/\aM (10 ^ 60) H q (A i) (f i)/\(f i).length=m
variable {H0:Hp} {r:Addr} {m:Nat} {A:Nat->Addr}
theorem jO.mono{f:Nat->List (Int×Int)}(h:jO H0 H q r n m A f)(s:ag H H'):jO H0 H' q r n m A f:=
 ⟨s _ _ h.at',h.new,h.inj,λi hi=>by obtain ⟨a,b,c,d⟩:=h.rows i hi;exact ⟨a,b,c.mono s,d⟩⟩
theorem jO.EN{f:Nat->List (Int×Int)}(h:jO H0 H q r n m A f):tD (10 ^ 60) H0 H q r ((List.range n).map f):=by
 refine (ii _ h.at' (by simp) h.new (λi v ps h1 h2=>?_))
 have hi:i<n:=by have:=(aL.mp h1).1;simpa using this
 rw [bu] at h1 h2;simp [hi] at h1 h2;obtain ⟨a,b,c,d⟩:=h.rows i hi;subst h1 h2;exact (ii (A i) rfl a b c)
variable {B:Nat} {D:Addr}
theorem mq{ys:List V}(h:aM B H q a ps)(n:a≠D)(eD:H D=some (.lst ys))(k:∀b o,b≠D->H b=some o->H' b=some o):aM B H' q a ps:=by intros am7 h vs e l f;exact (am vs (k _ _ n e) l (λi v p h1 h2=>(f i v p h1 h2).cC eD k))
theorem kn{o:HO}:∀b o',b≠D->H b=some o'->upd H D o b=some o':=λb o' nb e=>by rw [cj nb];exact e
theorem jO.put{f:Nat->List (Int×Int)}(h:jO H0 H q r n m A f)(hk:k<n)(hD:aM (10 ^ 60) H q D ps)(lp:ps.length=m)(nD:H0 D=none)(Dr:D≠r)(nA:∀i,i<n->A i≠D):jO H0 (upd H r (.lst (((List.range n).map λi=>V.ref (A i)).set k (.ref D)))) q r n m (λi=>if i=k then D else A i) (λi=>if i=k then ps else f i):=by
 refine ⟨?_,h.new,λi j hi hj e=>?_,λi hi=>?_⟩
 ·rw [aK,Zm _ _ hk]
  congr 2
  refine wk λi _=>?_;by_cases z:i=k;·rw [ao z,ao z]
  ·rw [aq z,aq z]
 ·by_cases z1:i=k
  ·by_cases z2:j=k
   ·lia
   ·rw [ao z1,aq z2] at e
    exact absurd e.symm (nA j hj)
  ·by_cases z2:j=k
   ·rw [aq z1,ao z2] at e
    exact absurd e (nA i hi)
   ·rw [aq z1,aq z2] at e
    exact h.inj i j hi hj e
 ·by_cases z:i=k
  ·rw [ao z,ao z]
   exact ⟨Dr,nD,mq hD Dr h.at' kn,lp⟩
  ·rw [aq z,aq z]
   obtain ⟨a,b,c,d⟩:=h.rows i hi;exact ⟨a,b,mq c a h.at' kn,d⟩
variable {c:Nat} {p:Int×Int}
theorem jO.cell{f:Nat->List (Int×Int)}{vs:List V}(h:jO H0 H q r n m A f)(hk:k<n)(ev:H (A k)=some (.lst vs))(hv:cH (10 ^ 60) H q v p.1 p.2)(hc:c<m):jO H0 (upd H (A k) (.lst (vs.set c v))) q r n m A (λi=>if i=k then (f i).set c p else f i):=by
 refine ⟨?_,h.new,h.inj,λi hi=>?_⟩
 ·rw [cj (Ne.symm (h.rows k hk).1)]
  exact h.at'
 ·obtain ⟨a,b,c',d⟩:=h.rows i hi
  refine ⟨a,b,?_⟩;by_cases z:i=k
  ·rw [ao z]
   subst z;intros am7 c' Zk e' l' f';rw [ev] at e';cases e';refine ⟨(am _ aK (by rw [iB,iB];exact l') (λj w p' h1 h2=>?_)),by rw [iB];exact d⟩
   by_cases y:j=c
   ·subst y
    rw [kx ⋯] at h1 h2
    cases h1;cases h2;exact hv.cC ev kn
   ·rw [ky (λe=>y e.symm)] at h1 h2
    exact (f' j w p' h1 h2).cC ev kn
  ·rw [aq z]
   exact ⟨mq c' (λe=>z (h.inj i k hi hk e)) ev kn,d⟩
structure tE (n0 d0 n1 d1:Int):Prop where
 b0:n0.natAbs<=10 ^ 6
 b1:n1.natAbs<=10 ^ 6
 p0:1<=d0
 p1:1<=d1
 l0:d0.natAbs<=1000
 l1:d1.natAbs<=1000
theorem tE.bot(h:tE n0 d0 n1 d1):1<=d0*d1/\(d0*d1).natAbs<=10 ^ 6:=by
 have:=fk (show 0<d0 by have:=h.p0;lia) (show 0<d1 by have:=h.p1;lia)
 refine ⟨⋯,?_⟩
 rw [bU];exact au (cA h.l0 h.l1) ∅
variable {as:aI}
theorem Zn(hb:tE n0 d0 n1 d1){V:Nat}{bs:aI}(ha:de Dl V as)(JP:de Dl V bs)(la:as.length=m)(lb:bs.length=m)(lp:ps.length=m)
  (h:∀j,j<m->∀X D:Int,a8 0 (aW [(n0,d0),(n1,d1)] [as.getD j o1,bs.getD j o1] (0,1)) (X,D)->1<=D->(ps.getD j o1).1*D=X*(ps.getD j o1).2):de (10 ^ 6*(Dl*Dl)) (2*10 ^ 6*V) ps:=by
 intros am13 ha Da xa a1 a2 tF;intros am13 JP Db xb c1 c2 qQ;obtain ⟨q1,q2⟩:=hb.bot;have pd:=fk (show 0<Da by lia) (show 0<Db by lia)
 have pq:=fk (show 0<d0*d1 by lia) pd
 refine ⟨d0*d1*(Da*Db),λj=>n0*d1*(xa j*Db)+n1*d0*(xb j*Da),⋯,?_,λj hj=>?_⟩
 ·rw [bU,bU Da]
  exact cA q2 (cA a2 c2)
 ·obtain ⟨e1,e2⟩:=tF j ⋯
  obtain ⟨e3,e4⟩:=qQ j ⋯
  exact ⟨h j ⋯ _ _ (EL e1 e3) ⋯,EM hb.b0 hb.b1 hb.p0 hb.p1 e2 e4⟩
variable {j:Nat}
theorem Zo(hb:tE n0 d0 n1 d1){V:Nat}{bs:aI}(ha:de Dl V as)(JP:de Dl V bs)(hj:j<as.length)(hi:i<bs.length)(fit:2*10 ^ 6*V*(10 ^ 6*(Dl*Dl))<=10 ^ 60)(v1:1<=V):∃X D:Int,a8 0 (aW [(n0,d0),(n1,d1)] [as.getD j o1,bs.getD i o1] (0,1)) (X,D)/\1<=D/\X.natAbs<=10 ^ 60/\D.natAbs<=10 ^ 60:=by
 intros am13 ha Da xa a1 a2 tF;intros am13 JP Db xb c1 c2 qQ;obtain ⟨q1,q2⟩:=hb.bot;have pd:=fk (show 0<Da by lia) (show 0<Db by lia)
 have pq:=fk (show 0<d0*d1 by lia) pd
 obtain ⟨e1,e2⟩:=tF j hj;obtain ⟨e3,e4⟩:=qQ i hi;have bD:(d0*d1*(Da*Db)).natAbs<=10 ^ 6*(Dl*Dl):=by rw [bU,bU Da];exact cA q2 (cA a2 c2)
 refine (gl _ _ (EL e1 e3) ⋯ ?_ ?_)
 ·exact au (EM hb.b0 hb.b1 hb.p0 hb.p1 e2 e4) (au (fq _ bD) fit)
 ·exact au bD (au (g9 _ (wu ∅ v1)) fit)
variable {d:Nat}
theorem Zp(hb:tE n0 d0 n1 d1){V e:Nat}(h:de Dl V ps)(hd:d<ps.length)(he:e<ps.length)
  (hp:∀X D:Int,a8 0 (aW [(n0,d0),(n1,d1)] [ps.getD d o1,ps.getD e o1] (0,1)) (X,D)->1<=D->p.1*D=X*p.2):de (10 ^ 6*Dl) (2*10 ^ 6*V) (ps.set c p):=by
 intros am13 h D x a1 a2 hx;obtain ⟨q1,q2⟩:=hb.bot;have pq:=fk (show 0<d0*d1 by lia) (show 0<D by lia)
 obtain ⟨e1,e2⟩:=hx d hd;obtain ⟨e3,e4⟩:=hx e he;have pd:=fk pq (show 0<D by lia)
 refine ⟨d0*d1*D,λj=>if j=c then n0*d1*x d+n1*d0*x e else d0*d1*x j,⋯,?_,λj hj=>?_⟩
 ·rw [bU]
  exact cA q2 a2
 ·rw [iB] at hj
  dsimp only;by_cases z:j=c
  ·rw [ao z,show (ps.set c p).getD j o1=p by rw [z,cb,kx ⋯];rfl]
   have w:=hp _ _ (EL e1 e3) (by rw [show d0*d1*(D*D)=d0*d1*D*D by grind];lia)
   have b:=EM (Da:=D) (Db:=D) (V:=V) hb.b0 hb.b1 hb.p0 hb.p1 e2 e4;have D0:D≠0:=by lia
   constructor
   ·refine nN D0 ?_
    grind
   ·have f1:(n0*d1*(x d*D)+n1*d0*(x e*D))=D*(n0*d1*x d+n1*d0*x e):=by grind
    have f2:d0*d1*(D*D)=D*(d0*d1*D):=by grind
    rw [f1,f2,bU,bU D,so] at b;exact Nat.le_of_mul_le_mul_left b (kC.mpr D0)
  ·rw [aq z,show (ps.set c p).getD j o1=ps.getD j o1 by rw [cb,ky (λe=>z e.symm),<-cb]]
   obtain ⟨f1,f2⟩:=hx j hj;refine ⟨by grind,?_⟩
   rw [bU,bU (d0*d1),so];exact fq _ (au f2 (g8 _ (g9 _ ∅)))
theorem P9(ha:pa.1*Da=xa*pa.2)(hb:pb.1*Db=xb*pb.2):a8 0 (aW [pa] [pb] (0,1)) (xa*xb,Da*Db):=by
 have z:=Pk (q:=0) (n:=1) (ps:=[pa]) (rs:=[pb]) (D1:=Da) (D2:=Db) (f:=λ_=>xa) (g:=λ_=>xb) rfl rfl (λi hi=>by
  match i,hi with
  | 0,_=>exact ⟨0,by show pa.1*Da-xa*pa.2=_;lia⟩) (λi hi=>by
  match i,hi with
  | 0,_=>exact ⟨0,by show pb.1*Db-xb*pb.2=_;lia⟩)
 have e:(ah 1 λ_=>xa*xb)=xa*xb:=by show xa*xb+0=_;lia
 rw [e] at z;exact z
theorem Zq{V:Nat}{bs:aI}(ha:de Dl V as)(hb:de Dl V bs)(hi:i<as.length)(lb:bs.length=m)(lp:ps.length=m)
  (h:∀j,j<m->∀X D:Int,a8 0 (aW [as.getD i o1] [bs.getD j o1] (0,1)) (X,D)->1<=D->(ps.getD j o1).1*D=X*(ps.getD j o1).2):de (Dl*Dl) (V*V) ps:=by
 intros am13 ha Da xa a1 a2 tF;intros am13 hb Db xb c1 c2 qQ;have pd:=fk (show 0<Da by lia) (show 0<Db by lia)
 obtain ⟨e1,e2⟩:=tF i hi;refine ⟨Da*Db,λj=>xa i*xb j,⋯,?_,λj hj=>?_⟩
 ·rw [bU]
  exact cA a2 c2
 ·obtain ⟨e3,e4⟩:=qQ j ⋯
  refine ⟨h j ⋯ _ _ (P9 e1 e3) ⋯,?_⟩
  rw [bU,bU Da];refine au (cA e2 e4) (jz ?_);grind
theorem Zr{V:Nat}{bs:aI}(ha:de Dl V as)(hb:de Dl V bs)(hi:i<as.length)(hj:j<bs.length)(fit:V*V*(Dl*Dl)<=10 ^ 60)(v1:1<=V):∃X D:Int,a8 0 (aW [as.getD i o1] [bs.getD j o1] (0,1)) (X,D)/\1<=D/\X.natAbs<=10 ^ 60/\D.natAbs<=10 ^ 60:=by
 intros am13 ha Da xa a1 a2 tF;intros am13 hb Db xb c1 c2 qQ;have pd:=fk (show 0<Da by lia) (show 0<Db by lia)
 obtain ⟨e1,e2⟩:=tF i hi;obtain ⟨e3,e4⟩:=qQ j hj;have bD:(Da*Db).natAbs<=Dl*Dl:=by rw [bU];exact cA a2 c2
 refine (gl _ _ (P9 e1 e3) ⋯ ?_ ?_)
 ·rw [bU]
  refine au (cA e2 e4) (au (jz (show V*Da.natAbs*(V*Db.natAbs)=V*V*(Da.natAbs*Db.natAbs) by grind)) (au (fq _ (cA a2 c2)) fit))
 ·exact au bD (au (g9 _ (wu v1 v1)) fit)
theorem Zs(hb:tE n0 d0 n1 d1){V e:Nat}(h:de Dl V ps)(hd:d<ps.length)(he:e<ps.length)(fit:2*10 ^ 6*V*(10 ^ 6*Dl)<=10 ^ 60)(v1:1<=V):∃X D:Int,a8 0 (aW [(n0,d0),(n1,d1)] [ps.getD d o1,ps.getD e o1] (0,1)) (X,D)/\1<=D/\X.natAbs<=10 ^ 60/\D.natAbs<=10 ^ 60:=by
 intros am13 h D x a1 a2 hx;obtain ⟨q1,q2⟩:=hb.bot;have pq:=fk (show 0<d0*d1 by lia) (show 0<D by lia)
 obtain ⟨e1,e2⟩:=hx d hd;obtain ⟨e3,e4⟩:=hx e he;have w:=EL (n0:=n0) (d0:=d0) (n1:=n1) (d1:=d1) e1 e3;have b:=EM (Da:=D) (Db:=D) (V:=V) hb.b0 hb.b1 hb.p0 hb.p1 e2 e4;have D0:D≠0:=by lia
 have f1:(n0*d1*(x d*D)+n1*d0*(x e*D))=D*(n0*d1*x d+n1*d0*x e):=by grind
 have f2:d0*d1*(D*D)=D*(d0*d1*D):=by grind
 rw [f1,f2] at w b;rw [bU,bU D,so] at b;have b:=Nat.le_of_mul_le_mul_left b (kC.mpr D0);have bD:(d0*d1*D).natAbs<=10 ^ 6*Dl:=by rw [bU];exact cA q2 a2
 refine ⟨n0*d1*x d+n1*d0*x e,d0*d1*D,?_,⋯,au b (au (fq _ bD) fit),au bD (au (g9 _ (wu ∅ v1)) fit)⟩
 have w:=kD.mp w;dsimp only at w;refine ⟨0,?_⟩;dsimp only;rw [cI];refine nN D0 ?_;rw [cI];grind
theorem m9(b:Nat):∀n,bS n (λ_=>b)=b ^ n
 | 0=>rfl
 | n+1=>by show bS n (λ_=>b)*b=b ^ (n+1);rw [m9 b n,nP]
theorem JQ{a b:Nat}(Zt:b<=a)(k:Nat):∀n,bS (n+1) (λi=>if i=k then a else b)<=a*b ^ n
 | 0=>by
  show 1*(if 0=k then a else b)<=a*1
  split <;> lia
 | n+1=>by
  show bS (n+1) (λi=>if i=k then a else b)*(if n+1=k then a else b)<=a*b ^ (n+1)
  by_cases z:n+1=k
  ·rw [ao z,om (g:=λ_=>b) λi hi=>aq ⋯,m9,oQ]
   exact aP _
  ·rw [aq z,nP,<-lU]
   exact g8 _ (JQ Zt k n)
theorem P_(n1:1<=n)(n4:n<=4):bS n (λi=>if i=k then 4*10 ^ 54 else 2*10 ^ 30)<=10 ^ 146:=by
 obtain ⟨n',rfl⟩:∃n',n=n'+1:=⟨n-1,⋯⟩
 refine au (JQ ∅ k n') (au (fq _ (dR ∅ (show n'<=3 by lia))) (by decide +kernel))
theorem Zu(n4:n<=4):bS n (λ_=>10 ^ 36)<=10 ^ 146:=by rw [m9];exact au (dR ∅ n4) (by decide +kernel)
variable {aa:aH}
theorem Zv{K:aQ}{B':Nat}(hq:aD q){b:Addr}{R:VK}{r:Bool}(h1:aU B H q a aa)(h2:aU B' H q b aa)(k:R (.bl r) H):Ej K 2 r (.ref a) (.ref b) H R:=by
 intros am7 h1 vs e1 l1 f1;intros am7 h2 us e2 l2 f2;refine ⟨a,b,vs,us,rfl,rfl,.of e1,.of e2,⋯,λj x y hx hy=>?_,k⟩
 have hj:j<aa.length:=by rw [<-l1];exact (aL.mp hx).1
 obtain ⟨r1,rfl,g1⟩:=f1 j x aa[j] hx (by simp [hj])
 obtain ⟨r2,rfl,g2⟩:=f2 j y aa[j] hy (by simp [hj])
 exact Yu hq g1 g2 0
theorem aM.f(hq:aD q)(h:aM B H q r ps):kX H q r ps.length (λj=>ps.getD j o1):=by
 intros am7 h ws e l k;refine (am ws e l (λj w hw=>?_));have hj:j<ps.length:=by rw [<-l];exact (aL.mp hw).1
 show cN H q w (ps.getD j o1).1 (ps.getD j o1).2;rw [getD_at hj];exact (k j w ps[j] hw (by simp [hj])).jk hq
theorem JR{x:Int}(h:Cg q x 0):q∣x:=by unfold Cg at h;rw [Int.sub_zero] at h;exact h
theorem pY{E':Nat}(h:bj q E ps)(h1:E<=E'):bj q E' ps:=by intros am15 h D x a b c d;exact (gl D x a (au b h1) c (λi hi=>⟨(d i hi).1,au (d i hi).2 h1⟩))
theorem aU.rep(hq:aD q)(h:aU B H q r aa)(hN:aa.length=n)(hM:∀ps∈aa,ps.length=m):∃T D,cS q n m (atT aa) T D:=Pm (λps h1 p h2=>(h.nums hq ps h1 p h2).2.1) hN hM
end My
namespace L2
open PySem PySem.Spec PyProof.Rows
theorem Zw{X:Cx}{K:aQ}(hK:X.K=K:=by rfl):cT X (compareOp .NotIn) (IH K true):=by subst hK;exact Oh
end L2
namespace My
open PySem L2
section
variable {q:Int} {P n W:Nat} {aa cV ai:aH} {A M:aE} {c:Nat->Int} {L:List Nat} {last:Int}
theorem cJ.common(h:cJ 0 P W cV A M c L last ai):∃D:Int,1<=D/\D.natAbs<=cV.length*(br cV.length*P)/\∀j k,j<L.length->k<W->∃x:Int,(atT ai j k).1*D=x*(atT ai j k).2/\x.natAbs<=cV.length*(br cV.length*P):=by
 have l0:=(h.red.last (.inl rfl)).2;obtain ⟨R,g,G,b,el⟩:=h.red.bar rfl;have bl:last.natAbs<=cV.length*(br cV.length*P):=by rw [el];exact b.JD h.red.n1
 refine ⟨(last.natAbs:Int),⋯,by rw [wc];exact bl,λj k hj hk=>?_⟩
 have jn:j<cV.length:=dQ hj h.red.rd.len;have v:=h.val j k hj hk;rw [h.red.PL rfl hj] at v;have e:=kD.mp v;dsimp only at e;have bm:=h.red.bd (.inl rfl) jn hk;by_cases y:0<last;·exact ⟨M j k,by rw [show (last.natAbs:Int)=last by lia];lia,bm⟩
 ·refine ⟨-(M j k),?_,by rw [qt];exact bm⟩
  rw [show (last.natAbs:Int)=-last by lia,je,wg]
  lia
end
def JS(ps:aI):Prop:=∀p∈ps,p.1.natAbs<=10 ^ 6/\p.2.natAbs<=1000
def Zx:Sp:=λvs H Q _=>∃(a:Addr) (q:Int) (B j:Nat) (aa:aH) (m:Nat),vs=[.ref a,.int (j:Int)]/\aU B H q a aa/\aa.length<=40/\(∀ps∈aa,ps.length=m)/\j<m/\∀(b:Addr) (H':Hp),ag H H'->H b=none->aM B H' q b (aa.map λps=>ps.getD j (0,1))->Q (.ref b) H'
def bL(m:Nat)(aa:aH):List (List (Int×Int)):=(List.range m).map λj=>aa.map λps=>ps.getD j (0,1)
def Zy(N:Addr):Sp:=λvs H Q E=>∃(a:Addr) (q:Int) (B:Nat) (aa:aH) (m:Nat),vs=[.ref a]/\aU B H q a aa/\1<=aa.length/\aa.length<=40/\(∀ps∈aa,ps.length=m)/\m<=40/\∀(b:Addr) (H':Hp),ag H H'->H b=none->aU B H' q b (bL m aa)->Q (.ref b) H'
variable {q:Int} {ps:aI}
theorem tG(hq:aD q)(z:q≠0)(hc:∀p∈ps,Canon q p):bj q 1000 ps:=by
 have q9:q<=997:=by rcases hq with h | h <;> lia
 refine ⟨1,λj=>(ps.getD j o1).1,⟨λy=>absurd y z,λ_=>rfl⟩,∅,λp hp=>?_,λj hj=>?_⟩
 ·rw [((hc p hp).2 z).1];exact mI 1
 ·obtain ⟨c1,c2,c3⟩:=(hc _ (by rw [getD_at hj];exact aG _:ps.getD j o1∈ps)).2 z
  rw [c1];exact ⟨rfl,by dsimp only;lia⟩
variable {aa gA:aH}
theorem JT(h:gA.length=aa.length):(List.zipWith (·++·) aa gA).length=aa.length:=by rw [wq,h,Nat.min_self]
variable {i:Nat}
theorem EO(h:gA.length=aa.length)(hi:i<aa.length):(List.zipWith (·++·) aa gA).getD i []=aa.getD i []++gA.getD i []:=by
 have h2:i<gA.length:=by lia
 rw [cb,AH,getD_at hi,getD_at h2];simp [hi,h2]
variable {k m:Nat}
theorem Zz(h:gA.length=aa.length)(hm:∀ps∈aa,ps.length=m)(hi:i<aa.length)(hk:k<m):atT (List.zipWith (·++·) aa gA) i k=atT aa i k:=by
 unfold atT;rw [EO h hi];have l:(aa.getD i []).length=m:=by rw [getD_at hi];exact hm _ (aG _)
 rw [cb,gL ⋯,<-cb]
theorem gi(m:Nat)(aa:aH):(bL m aa).length=m:=by unfold bL;simp
variable {n W c t:Nat} {A M:aE} {L:List Nat}
theorem dI.sol(hq:aD q){X:Nat->Int}{E:Int}(h:dI q n A M L W)(mW:m<=W)(cW:c<W)(hL:∀l∈L,l<m)(hX:∀j,j<L.length->Cg q (X (L.getD j 0)*M j (L.getD j 0)) (M j c*E))(h0:∀k,k<m->k∉L->Cg q (X k) 0)(ht:t<n):Cg q (ah m λk=>A t k*X k) (A t c*E):=by
 obtain ⟨e,y,ne,h1,_⟩:=h.done ht;refine qP hq ne ?_;have row:∀j,j<L.length->Cg q (ah m λk=>M j k*X k) (M j c*E):=λj hj=>by
  have lm:L.getD j 0<m:=hL _ (by rw [getD_at hj];exact aG _)
  have s:Cg q (ah m λk=>M j k*X k) (ah m λk=>if k=L.getD j 0 then M j k*X k else 0):=dq λk hk=>by
   by_cases z:k=L.getD j 0;·rw [ao z];exact Cg.refl _
   ·rw [aq z]
    by_cases w:k∈L
    ·obtain ⟨i,hi,ei⟩:=eJ.mp w
     have ij:j≠i:=λe=>z (by subst e;rw [getD_at hi];exact ei.symm)
     have o:=h.off j i (dQ hj h.len) hi ij;rw [getD_at hi,ei] at o;have:=o.mulR (X k);rw [iT] at this;exact this
    ·have:=(h0 k hk w).mulL (M j k)
     rw [cI] at this;exact this
  rw [kY m _ (λk=>M j k*X k) lm] at s;exact s.trans ((Cg.of_eq (fU ..)).trans (hX j hj))
 have s1:Cg q (e*ah m λk=>A t k*X k) (ah m λk=>(ah L.length λj=>y j*M j k)*X k):=by rw [cD];exact dq λk hk=>(Cg.of_eq (by grind)).trans ((h1 k ⋯).mulR (X k))
 refine s1.trans ?_;rw [Ex m L.length (λj=>y j) (λj k=>M j k) X];have s2:Cg q (ah L.length λl=>y l*ah m λj=>M l j*X j) (ah L.length λl=>y l*M l c*E):=dq λl hl=>((row l hl).mulL (y l)).trans (Cg.of_eq (by grind))
 refine s2.trans ?_;have s3:(ah L.length λl=>y l*M l c*E)=E*ah L.length λl=>y l*M l c:=by rw [cD];exact dc λi _=>by grind
 rw [s3];exact ((h1 c cW).symm.mulL E).trans (Cg.of_eq (by grind))
theorem dI.out(hq:aD q)(h:dI q n A M L W)(hc:c∈L):∃y:Nat->Int,(∀k,k<c->Cg q (ah n λt=>y t*A t k) 0)/\¬q∣ah n λt=>y t*A t c:=by
 obtain ⟨j,hj,e⟩:=eJ.mp hc;have gj:L.getD j 0=c:=by rw [getD_at hj];exact e
 obtain ⟨u,x,nu,hx⟩:=h.qN j (dQ hj h.len);refine ⟨x,λk hk=>?_,?_⟩
 ·have b:=(h.tu j k hj ⋯).mulL u
  rw [cI] at b;exact (hx k).symm.trans b
 ·have l:=h.lead j hj
  rw [gj] at l;exact (hx c).symm.nz (i5 hq nu l)
variable {x:Nat->Int}
theorem dI.xx(hq:aD q)(h:dI q n A M L W)(hx:∀t,t<n->Cg q (ah m λk=>A t k*x k) 0)(hi:i<n):Cg q (ah m λk=>M i k*x k) 0:=by
 obtain ⟨e,y,ne,hy⟩:=h.qN i hi;refine fZ hq ne ?_;have s1:Cg q (e*ah m λk=>M i k*x k) (ah m λk=>(ah n λt=>y t*A t k)*x k):=by rw [cD];exact dq λk _=>(Cg.of_eq (by grind)).trans ((hy k).mulR (x k))
 refine s1.trans ?_;rw [Ex m n (λi=>y i) (λi k=>A i k) x];have:=dq (q:=q) (n:=n) (f:=λl=>y l*ah m λj=>A l j*x j) (g:=λ_=>0) λl hl=>by have:=(hx l hl).mulL (y l);rw [cI] at this;exact this
 rw [gz] at this;exact this
theorem dI.ER(hq:aD q)(h:dI q n A M L W)(hc:c<W):c∈L↔∀x:Nat->Int,(∀k,c<k->x k=0)->(∀t,t<n->Cg q (ah W λk=>A t k*x k) 0)->Cg q (x c) 0:=by
 constructor
 ·intro hL x x0 hx
  obtain ⟨j,hj,e⟩:=eJ.mp hL;have gj:L.getD j 0=c:=by rw [getD_at hj];exact e
  have l:=h.lead j hj;rw [gj] at l;refine fZ hq l ?_;have k0:=h.xx hq hx (dQ hj h.len);have s:Cg q (ah W λk=>M j k*x k) (ah W λk=>if k=c then M j k*x k else 0):=dq λk hk=>by
   by_cases z:k=c;·rw [ao z];exact Cg.refl _
   ·rw [aq z]
    by_cases y:k<c
    ·have:=(h.tu j k hj ⋯).mulR (x k)
     rw [iT] at this;exact this
    ·rw [x0 k ⋯,cI]
     exact Cg.refl _
  rw [kY W c (λk=>M j k*x k) hc] at s;exact s.symm.trans k0
 ·intro hx
  refine oS λnL=>?_;have main:∀m,m<=L.length->∃x:Nat->Int,¬q∣x c/\(∀k,c<k->x k=0)/\(∀k,k≠c->(∀j,j<m->k≠L.getD j 0)->x k=0)/\∀j,j<m->Cg q (ah W λk=>M j k*x k) 0:=λm=>by
   induction m with
   | zero=>exact λ_=>⟨λk=>if k=c then 1 else 0,by dsimp only;rw [ao rfl];exact xt hq,λk hk=>aq ⋯,λk hk _=>aq hk,λj hj=>by lia⟩
   | succ m ih=>
    intro hm;obtain ⟨x,h1,h2,h3,h4⟩:=ih ⋯
    have ZA:L.getD m 0∈L:=by rw [getD_at ⋯];exact aG _
    by_cases lm:L.getD m 0<c
    ·have x0:x (L.getD m 0)=0:=h3 _ ⋯ λj hj e=>by
      have:=xv h.up hj ⋯
      lia
     refine ⟨λk=>if k=L.getD m 0 then -(ah W λk=>M m k*x k) else M m (L.getD m 0)*x k,?_,λk hk=>?_,λk hk hj=>?_,λj hj=>?_⟩
     ·dsimp only
      rw [aq ⋯]
      exact i5 hq (h.lead m ⋯) h1
     ·dsimp only
      rw [aq ⋯,h2 k hk,cI]
     ·dsimp only
      rw [aq (hj m ⋯),h3 k hk λj eG=>hj j ⋯,cI]
     ·rw [PU W _ ⋯ (M j) x _ _ x0]
      by_cases e:j=m
      ·subst e
       exact Cg.of_eq (by grind)
      ·have a:=(h4 j ⋯).mulL (M m (L.getD m 0))
       have b:=(h.off j m (by have:=h.len;lia) ⋯ e).mulR (-(ah W λk=>M m k*x k))
       exact (a.add b).trans (Cg.of_eq (by simp))
    ·have ne:L.getD m 0≠c:=λe=>nL (e▸ZA)
     refine (ii x h1 h2 (λk hk hj=>h3 k hk λj eG=>hj j ⋯) (λj hj=>?_))
     by_cases e:j=m
     ·subst e
      have:=dq (q:=q) (n:=W) (f:=λk=>M j k*x k) (g:=λ_=>0) λk hk=>by
       by_cases y:k<L.getD j 0
       ·have:=(h.tu j k ⋯ y).mulR (x k)
        rw [iT] at this;exact this
       ·rw [h2 k ⋯,cI]
        exact Cg.refl _
      rw [gz] at this;exact this
     ·exact h4 j ⋯
  obtain ⟨x,h1,h2,_,h4⟩:=main L.length (aP _);have all:∀i,i<n->Cg q (ah W λk=>M i k*x k) 0:=λi hi=>by
   by_cases z:i<L.length;·exact h4 i z
   ·have:=dq (q:=q) (n:=W) (f:=λk=>M i k*x k) (g:=λ_=>0) λk hk=>by
     have:=(h.low i k hi ⋯ hk).mulR (x k)
     rw [iT] at this;exact this
    rw [gz] at this;exact this
  refine h1 (JR (hx x h2 λt ht=>?_));obtain ⟨e,y,ne',hy⟩:=h.ofM t ht;refine fZ hq ne' ?_;have s1:Cg q (e*ah W λk=>A t k*x k) (ah W λk=>(ah n λi=>y i*M i k)*x k):=by rw [cD];exact dq λk _=>(Cg.of_eq (by grind)).trans ((hy k).mulR (x k))
  refine s1.trans ?_;rw [Ex W n (λi=>y i) (λi k=>M i k) x];have:=dq (q:=q) (n:=n) (f:=λl=>y l*ah W λj=>M l j*x j) (g:=λ_=>0) λl hl=>by have:=(all l hl).mulL (y l);rw [cI] at this;exact this
  rw [gz] at this;exact this
theorem JU:∀{L L':List Nat},L.Pairwise (· < ·)->L'.Pairwise (· < ·)->(∀c,c∈L↔c∈L')->L=L'
 | [],[],_,_,_=>rfl
 | [],b::L',_,_,h=>by have:=(h b).mpr jx;simp at this
 | a::L,[],_,_,h=>by have:=(h a).mp jx;simp at this
 | a::L,b::L',h1,h2,h=>by
  obtain ⟨p1,q1⟩:=List.pairwise_cons.mp h1;obtain ⟨p2,q2⟩:=List.pairwise_cons.mp h2;have ab:a=b:=by
   rcases fM.mp ((h a).mp jx) with e | e;·exact e
   ·rcases fM.mp ((h b).mpr jx) with e' | e'
    ·exact e'.symm
    ·have:=p2 a e
     have:=p1 b e';lia
  subst ab;rw [JU q1 q2 λc=>?_];constructor
  ·intro hc
   rcases fM.mp ((h c).mp (iQ _ hc)) with e | e
   ·subst e
    have:=p1 c hc;lia
   ·exact e
  ·intro hc
   rcases fM.mp ((h c).mpr (iQ _ hc)) with e | e
   ·subst e
    have:=p2 c hc;lia
   ·exact e
variable {wi:TI} {ρ:St->St} {te:TE} {σ:St} {H:Hp} {Q:VK} {xs:List V}
theorem ZC{tt:TT}(hl:xs.length=n)(f:Nat->Bool)(il:∀R:It->Hp->Prop,(∀J H1,ag H H1->n_ J xs H1->R J H1)->wi σ H R)(hn:n<sizeLine)
  (P:Addr->Nat->V->Hp->Prop) (mono:∀D i y H H' ys,P D i y H->H D=some (.lst ys)->(∀b o,b≠D->H b=some o->H' b=some o)->P D i y H')
  (test:∀(i:Nat) (x:V),xs[i]?=some x->∀(Hc:Hp) (R:Bool->Hp->Prop),ag H Hc->R (f i) Hc->tt (some x::ρ σ) Hc R)
  (step:∀D (i:Nat) (x:V),xs[i]?=some x->f i=true->∀(Hc:Hp) (R:VK),ag H Hc->(∃ys,Hc D=some (.lst ys))->(∀y H3,ag Hc H3->P D i y H3->R y H3)->te (some x::ρ σ) Hc R)
  (fin:∀D ys Hc,H D=none->ag H Hc->ys.length=((List.range n).filter f).length->(∀(a:Nat) (y:V) (i:Nat),ys[a]?=some y->((List.range n).filter f)[a]?=some i->P D i y Hc)->Hc D=some (.lst ys)->Q (.ref D) Hc):jL wi ρ tt te σ H Q:=by
 refine il _ λJ H1 s1 js=>?_;intro D nD;have hD:H D=none:=by
  cases e:H D with
  | none=>rfl
  | some o=>rw [s1 _ _ e] at nD;cases nD
 refine (ad (λi m ys Hc=>m=n-i/\i<=n/\Hc D=some (.lst ys)/\ag H1 Hc/\ys.length=((List.range i).filter f).length/\(∀(a:Nat) (y:V) (j:Nat),ys[a]?=some y->((List.range i).filter f)[a]?=some j->P D j y Hc)) (ww _ rfl (f_ _) aK (e_ (ag.refl H1) nD) rfl (λa y j e=>by simp at e)) ?_)
 rintro i m ys Hc ⟨rfl,hi,eD,sH,el,hP⟩;refine ⟨eD,?_⟩;by_cases dS:i<n
 ·refine .inr ⟨js.go i Hc sH ⋯,λx H' hy=>?_⟩
  obtain ⟨rfl,hx⟩:=js.gv i Hc x H' sH hy;refine test i x (hx ⋯) _ _ (s1.trans sH) ?_
  have le:ys.length<=i:=by rw [el];refine au (List.length_filter_le ..) ?_;simp
  cases ef:f i with
  | true=>
   rw [ao rfl];have er:(List.range (i+1)).filter f=(List.range i).filter f++[i]:=by rw [Aw,Dh];simp [ef]
   refine step D i x (hx ⋯) ef _ _ (s1.trans sH) ⟨_,eD⟩ λy H3 s3 hp=>?_
   have e3:=s3 _ _ eD;have cC:∀b o,b≠D->H3 b=some o->upd H3 D (.lst (ys++[y])) b=some o:=λb o nb e=>by rw [cj nb];exact e
   refine ⟨e3,⋯,n-(i+1),⋯,rfl,dS,aK,e_ (sH.trans s3) nD,by rw [er,kA,kA,el];rfl,λa y' j h1 h2=>?_⟩
   rw [er] at h2;by_cases z:a<ys.length
   ·rw [gL z] at h1
    rw [gL ⋯] at h2
    exact mono D j y' H' _ ys (hP a y' j h1 h2) eD λb o nb e=>cC b o nb (s3 _ _ e)
   ·rw [iA ⋯] at h1 h2
    have ea:a-ys.length=0:=by have:=(aL.mp h1).1;simp at this;lia
    rw [ea] at h1;rw [show a-((List.range i).filter f).length=0 by lia] at h2
    cases h1;cases h2;exact mono D i _ H3 _ ys hp e3 cC
  | false=>
   rw [aq d3];have er:(List.range (i+1)).filter f=(List.range i).filter f:=by rw [Aw,Dh];simp [ef]
   exact (ww (n-(i+1)) ⋯ rfl dS eD sH ⟨by rw [er];exact el,λa y j h1 h2=>hP a y j h1 (by rw [er] at h2;exact h2)⟩)
 ·have e:i=n:=by lia
  subst e;exact .inl ⟨js.stop _ Hc sH ⋯,fin D ys Hc hD (s1.trans sH) el hP eD⟩
def ZD(C:Addr):Sp:=λvs H Q _=>∃(z ra la:Addr) (q:Int) (B W wide:Nat) (ai:aH) (L:List Nat),vs=[.ref z,.ref ra,.ref la,.int (wide:Int)]/\da C H z q/\aD q/\aU B H q ra ai/\1000<=B/\(∀ps∈ai,ps.length=W)/\H la=some (.lst (a7 L))/\ai.length=L.length/\L.length<=40/\L.Pairwise (· < ·)/\(∀l∈L,l<wide)/\wide<=40/\wide<W /\
 ∀(r:Addr) (ps:aI) (H':Hp),ag H H'->H r=none->aM B H' q r ps->ps.length=wide->(∀j,j<L.length->ps.getD (L.getD j 0) o1=atT ai j wide)->(∀k,k<wide->k∉L->ps.getD k o1=(0,1))->Q (.ref r) H'
def ZE(C:Addr):Sp:=λvs H Q _=>∃(z ra la:Addr) (q:Int) (B W wide free:Nat) (ai:aH) (L:List Nat),vs=[.ref z,.ref ra,.ref la,.int (wide:Int),.int (free:Int)]/\da C H z q/\aD q/\aU B H q ra ai/\1000<=B/\B<=10 ^ 290/\(∀ps∈ai,ps.length=W)/\H la=some (.lst (a7 L))/\ai.length=L.length/\L.length<=40/\L.Pairwise (· < ·)/\(∀l∈L,l<wide)/\wide<=40/\wide<=W/\free<wide/\free∉L /\
 ∀(r:Addr) (ps:aI) (H':Hp),ag H H'->H r=none->aM B H' q r ps->ps.length=wide->ps.getD free o1=(1,1)->(∀j,j<L.length->a8 q (ps.getD (L.getD j 0) o1) (-(atT ai j free).1,(atT ai j free).2))->(∀k,k<wide->k∉L->k≠free->ps.getD k o1=(0,1))->Q (.ref r) H'
variable {p:Int×Int}
theorem JV(h:k<ps.length):(ps.set k p).getD k o1=p:=by rw [cb,kx h];rfl
variable {j:Nat}
theorem xy(h:j≠k):(ps.set k p).getD j o1=ps.getD j o1:=by rw [cb,ky (λe=>h e.symm),<-cb]
theorem ES(h:L.Pairwise (· < ·))(hi:i<L.length)(hj:j<L.length)(e:L.getD i 0=L.getD j 0):i=j:=by
 rcases Nat.lt_trichotomy i j with z | z | z
 ·have:=xv h z hj
  lia
 ·exact z
 ·have:=xv h z hi
  lia
variable {P:Nat} {cV ai:aH}
theorem cJ.Qa(hq:aD q){c:Nat->Int}{last:Int}(h:cJ q P W cV A M c L last ai)(hc:∀ps∈ai,∀p∈ps,Canon q p)(hk:k<W):bj q (cV.length*(br cV.length*P)) (ai.map λps=>ps.getD k (0,1)):=by
 have mem:∀p∈ai.map (λps=>ps.getD k (0,1)),Canon q p:=λp hp=>by
  obtain ⟨ps,h1,e⟩:=fI.mp hp;have kl:k<ps.length:=by rw [h.bY ps h1];exact hk
  rw [<-e];refine hc ps h1 _ ?_;rw [getD_at kl];exact aG _
 by_cases z:q=0
 ·subst z
  obtain ⟨D,d1,dX,hD⟩:=h.common;obtain ⟨y,hy⟩:=m8 (n:=L.length) (α:=Int) (R:=λj x=>(atT ai j k).1*D=x*(atT ai j k).2/\x.natAbs<=cV.length*(br cV.length*P)) λj hj=>hD j k hj hk;have at':∀j,j<ai.length->(ai.map λps=>ps.getD k ((0:Int),(1:Int))).getD j o1=atT ai j k:=λj hj=>by
   unfold atT;rw [getD_at (by simpa using hj),iU,getD_at hj]
   rfl
  refine (gl D y ⟨λ_=>d1,λz=>absurd rfl z⟩ dX (λp hp=>?_) (λj hj=>?_))
  ·obtain ⟨j,hj,e⟩:=eJ.mp hp
   have eG:j<ai.length:=by simpa using hj
   have w:=(hy j (by rw [<-h.len];exact eG)).1
   rw [<-at' j eG,getD_at hj,e] at w;exact EJ ((mem p hp).1 rfl) w
  ·have eG:j<ai.length:=by simpa using hj
   rw [at' j eG];exact hy j (by rw [<-h.len];exact eG)
 ·exact pY (tG hq z mem) h.red.i8
def ZF:Sp:=λvs H Q _=>∃(a:Addr) (ps:aI) (B:Nat) (D:Int),vs=[.ref a]/\aM B H 0 a ps/\ps.length<=100/\aC 0 D/\(∀p∈ps,p.2∣D)/\B<2 ^ 2048/\D.natAbs<2 ^ 2048/\∀(v:V) (H':Hp) (ts:List Int) (b:Int),ag H H'->xi H H' v ts b->Ey 0 ps ts b D B->Q v H'
def ZG(C:Addr):Sp:=λvs H Q _=>∃(z a:Addr) (q:Int) (ps:aI) (B:Nat) (D:Int),vs=[.ref z,.ref a]/\da C H z q/\aD q/\aM B H q a ps/\ps.length<=100/\aC q D/\(∀p∈ps,p.2∣D)/\B<2 ^ 2048/\1000<=B/\D.natAbs<2 ^ 2048/\∀(v:V) (H':Hp) (ts:List Int) (b:Int),ag H H'->xi H H' v ts b->Ey q ps ts b D B->Q v H'
def ZH(C N:Addr):Sp:=λvs H Q E=>∃(z a:Addr) (q:Int) (B P W:Nat) (aa:aH) (G:Nat->Nat),vs=[.ref z,.ref a]/\da C H z q/\aD q/\aU B H q a aa/\1000<=B/\B<2 ^ 2048/\1<=aa.length/\aa.length<=40/\(∀ps∈aa,ps.length=W)/\W<=100/\(∀i,i<aa.length->bj q (G i) (aa.getD i []))/\(∀i,1000<=G i/\G i<2 ^ 2048)/\bS aa.length G<=P/\aa.length*(br aa.length*P)<2 ^ 2048 /\
 ∀(p r l:Addr) (H':Hp) (A M:aE) (c:Nat->Int) (L:List Nat) (last:Int) (ai:aH),ag H H'->H' p=some (.tup [.ref r,.ref l])->H' l=some (.lst (a7 L))->aU (aa.length*(br aa.length*P)) H' q r ai->cJ q P W aa A M c L last ai->Q (.ref p) H'
def ZI(C N:Addr):Sp:=λvs H Q E=>∃(z a b:Addr) (q:Int) (B P u:Nat) (aa gA:aH) (G:Nat->Nat),vs=[.ref z,.ref a,.ref b]/\da C H z q/\aD q/\aU B H q a aa/\aU B H q b gA/\1000<=B/\B<2 ^ 2048/\1<=aa.length/\aa.length<=40/\gA.length=aa.length/\(∀ps∈aa,ps.length=aa.length)/\(∀ps∈gA,ps.length=u)/\u<=40/\(∀ps∈List.zipWith (·++·) aa gA,ps.length=aa.length+u)/\(∀i,i<aa.length->bj q (G i) ((List.zipWith (·++·) aa gA).getD i []))/\(∀i,1000<=G i/\G i<2 ^ 2048)/\bS aa.length G<=P/\aa.length*(br aa.length*P)<2 ^ 2048 /\
 (∀(H':Hp) (A M:aE) (c:Nat->Int) (L:List Nat) (last:Int) (ai:aH),ag H H'->cJ q P (aa.length+u) (List.zipWith (·++·) aa gA) A M c L last ai->L≠List.range aa.length->Q .bg H') /\
 (∀(H':Hp) (A M:aE) (c:Nat->Int) (last:Int) (ai:aH) (r:Addr),ag H H'->cJ q P (aa.length+u) (List.zipWith (·++·) aa gA) A M c (List.range aa.length) last ai->(∃H1 x,aU (aa.length*(br aa.length*P)) H1 q x ai)->tD (aa.length*(br aa.length*P)) H H' q r (ai.map λps=>ps.drop aa.length)->Q (.ref r) H')
def ZJ(C N:Addr):Sp:=λvs H Q E=>∃(z a:Addr) (q:Int) (B m:Nat) (aa:aH),vs=[.ref z,.ref a]/\da C H z q/\aD q/\aU B H q a aa/\10 ^ 60<=B/\B<2 ^ 2048/\1<=aa.length/\aa.length<=40/\(∀ps∈aa,ps.length=m) /\
 (m≠aa.length->∀H',ag H H'->E (.ref N) none H')/\(m=aa.length->∃(P:Nat) (G:Nat->Nat),(∀i,i<aa.length->bj q (G i) (aa.getD i []))/\(∀i,1000<=G i/\G i<2 ^ 2048)/\bS aa.length G<=P/\aa.length*(br aa.length*P)<2 ^ 2048 /\
 (JJ q m aa->∀H',ag H H'->Q .bg H') /\
 (∀(r:Addr) (H':Hp) (cU:aH),ag H H'->tD (m*(br m*P)) H H' q r cU->cU.length=m->(∀ps∈cU,ps.length=m)->BB q m aa cU->(∀j,j<m->bj q (m*(br m*P)) (cU.getD j []))->(∀j,j<m->bj q (m*(br m*P)) (cU.map λps=>ps.getD j (0,1)))->Q (.ref r) H'))
def pZ(q:Int)(n m:Nat)(aa:aH)(as xs:aI):Prop:=∀T D a F X E,cS q n m (atT aa) T D->oj q n (λj=>as.getD j o1) a F->oj q m (λj=>xs.getD j o1) X E->∀t,t<n->Cg q (F*ah m λk=>T t k*X k) (a t*D*E)
def ET(q:Int)(n m:Nat)(aa:aH)(vs:aI):Prop:=∀T D V E,cS q n m (atT aa) T D->oj q m (λj=>vs.getD j o1) V E->∀t,t<n->Cg q (ah m λk=>T t k*V k) 0
def tH(q:Int)(n m:Nat)(aa:aH)(as ys:aI):Prop:=∀T D a F Y E,cS q n m (atT aa) T D->oj q n (λj=>as.getD j o1) a F->oj q n (λj=>ys.getD j o1) Y E->(∀k,k<m->Cg q (ah n λt=>Y t*T t k) 0)/\Cg q (ah n λt=>Y t*a t) (E*F)
def i_(q:Int)(n m:Nat)(aa:aH)(L:List Nat):Prop:=L.Pairwise (· < ·)/\(∀l∈L,l<m)/\∀T D,cS q n m (atT aa) T D->∀c,c<m->(c∈L↔∀x:Nat->Int,(∀k,c<k->x k=0)->(∀t,t<n->Cg q (ah m λk=>T t k*x k) 0)->Cg q (x c) 0)
variable {L':List Nat}
theorem i_.uniq(h:i_ q n m aa L)(h':i_ q n m aa L')(r:∃T D,cS q n m (atT aa) T D):L=L':=by
 obtain ⟨T,D,r⟩:=r;refine JU h.1 h'.1 λc=>?_;by_cases hc:c<m;·exact (h.2.2 T D r c hc).trans (h'.2.2 T D r c hc).symm
 ·exact ⟨λy=>absurd (h.2.1 c y) hc,λy=>absurd (h'.2.1 c y) hc⟩
def ja(as:aI):List (List (Int×Int)):=as.map λp=>[p]
def fQ(aa:aH)(as:aI):List (List (Int×Int)):=List.zipWith (·++·) aa (ja as)
theorem oq(as:aI):(ja as).length=as.length:=by unfold ja;simp
theorem Qb(as:aI):∀ps∈ja as,ps.length=1:=λps hp=>by unfold ja at hp;obtain ⟨p,_,e⟩:=fI.mp hp;rw [<-e];rfl
section
variable {q:Int} {n m:Nat} {aa:aH} {as:aI}
theorem EU(hn:aa.length=n)(la:as.length=n)(hm:∀ps∈aa,ps.length=m)(hi:i<n)(hk:k<m):atT (fQ aa as) i k=atT aa i k:=Zz (by rw [oq];lia) hm ⋯ hk
theorem Qc(hn:aa.length=n)(la:as.length=n)(hm:∀ps∈aa,ps.length=m)(hi:i<n):atT (fQ aa as) i m=as.getD i o1:=by
 unfold atT fQ;rw [EO (by rw [oq];lia) ⋯]
 have l:(aa.getD i []).length=m:=by
  rw [getD_at ⋯]
  exact hm _ (aG _)
 have g:(ja as).getD i []=[as.getD i o1]:=by unfold ja;rw [getD_at (by simpa using (by lia:i<as.length)),iU,getD_at ⋯]
 rw [g,cb,iA ⋯,l,qu]
 rfl
variable {P W:Nat} {ai cV:aH} {A M:aE} {c:Nat->Int} {L:List Nat} {last:Int}
variable {T:aE} {D:Int}
theorem cJ.tI(hq:aD q)(h:cJ q P W cV A M c L last ai)(hn:aa.length=n)(qv:cV.length=n)(hm:∀ps∈aa,ps.length=m)(hl:∀i k,i<n->k<m->atT cV i k=atT aa i k)(mW:m<=W)(hb:∀ps∈aa,∀p∈ps,aC q p.2)(r:cS q n m (atT aa) T D)(hi:i<n)(hk:k<m):Cg q (T i k*c i) (A i k*D):=by
 have e:=h.row i k ⋯ ⋯
 rw [hl i k hi hk] at e;obtain ⟨ps,h1,h2⟩:=k9 hn hm hi hk;exact Bz hq e (r.2 i k hi hk) (hb ps h1 _ h2)
theorem JW(hq:aD q)(h:∀k,k<m->Cg q (T t k*c t) (A t k*D)):Cg q (c t*ah m λk=>T t k*x k) (D*ah m λk=>A t k*x k):=by rw [cD,cD];exact dq λk hk=>(Cg.of_eq (by grind)).trans (((h k hk).mulR (x k)).trans (Cg.of_eq (by grind)))
theorem cJ.sol(hq:aD q)(h:cJ q P (m+1) (fQ aa as) A M c L last ai)(hn:aa.length=n)(la:as.length=n)(hm:∀ps∈aa,ps.length=m)(hb:∀ps∈aa,∀p∈ps,aC q p.2)(ko:∀p∈as,aC q p.2)(kr:∀ps∈ai,∀p∈ps,aC q p.2)(hL:∀l∈L,l<m){xs:aI}(h1:∀j,j<L.length->xs.getD (L.getD j 0) o1=atT ai j m)(h0:∀k,k<m->k∉L->xs.getD k o1=(0,1)):pZ q n m aa as xs:=λT D a F X E rT ra rX t ht=>by
 have lq:(fQ aa as).length=n:=by unfold fQ;rw [JT (by rw [oq];lia)];exact hn
 have rd:=h.red.rd;rw [lq] at rd;have ct:=h.bot t ⋯
 have cg:=λk hk=>h.tI hq hn lq hm (λi k hi hk=>EU hn la hm hi hk) (lK m) hb rT (i:=t) (k:=k) ht hk;have ca:Cg q (a t*c t) (A t m*F):=by
  have e:=h.row t m ⋯ ⋯
  rw [Qc hn la hm ht] at e;exact Bz hq e (ra.2 t ht) (ko _ (by rw [getD_at ⋯];exact aG _))
 have s:=rd.sol hq (m:=m) (c:=m) (X:=X) (E:=E) (lK m) (vY m) hL (λj hj=>by
  have lm:L.getD j 0<m:=hL _ (by rw [getD_at hj];exact aG _)
  have w:a8 q (xs.getD (L.getD j 0) o1) (X (L.getD j 0),E):=rX.2 _ lm;rw [h1 j hj] at w;have v:=h.val j m hj (vY m);obtain ⟨ps,p1,p2⟩:=k9 h.len h.bY hj (vY m);exact EH hq v w (kr ps p1 _ p2)) (λk hk nk=>by
  have w:a8 q (xs.getD k o1) (X k,E):=rX.2 k hk;rw [h0 k hk nk] at w;obtain ⟨k',e⟩:=w;dsimp only at e;exact ⟨-k',by rw [je];lia⟩) ht
 refine qP hq (ct.nz hq) ?_;have t1:=(JW hq (x:=X) cg).mulL F;have t2:=s.mulL (F*D);have t3:=ca.symm.mulL (D*E);exact (Cg.of_eq (by grind)).trans (t1.trans ((Cg.of_eq (by grind)).trans (t2.trans ((Cg.of_eq (by grind)).trans (t3.trans (Cg.of_eq (by grind)))))))
theorem cJ.xA(hq:aD q)(h:cJ q P W cV A M c L last ai)(hn:aa.length=n)(qv:cV.length=n)(hm:∀ps∈aa,ps.length=m)(hl:∀i k,i<n->k<m->atT cV i k=atT aa i k)(mW:m<=W)(hb:∀ps∈aa,∀p∈ps,aC q p.2)(kr:∀ps∈ai,∀p∈ps,aC q p.2)(hL:∀l∈L,l<m){f:Nat}(fm:f<m)(nf:f∉L){vs:aI}(bv:∀k,k<m->aC q (vs.getD k o1).2)(hf:vs.getD f o1=(1,1))(h1:∀j,j<L.length->a8 q (vs.getD (L.getD j 0) o1) (-(atT ai j f).1,(atT ai j f).2))(h0:∀k,k<m->k∉L->k≠f->vs.getD k o1=(0,1)):ET q n m aa vs:=λT D V E rT rV t ht=>by
 have rd:=h.red.rd;rw [qv] at rd;have ct:=h.bot t ⋯
 have cg:=λk hk=>h.tI hq hn qv hm hl mW hb rT (i:=t) (k:=k) ht hk;have vf:Cg q (V f) E:=by have w:a8 q (vs.getD f o1) (V f,E):=rV.2 f fm;rw [hf] at w;obtain ⟨k',e⟩:=w;dsimp only at e;exact ⟨-k',by rw [je];lia⟩
 have s:=rd.sol hq (m:=m) (c:=f) (X:=λk=>if k=f then 0 else -(V k)) (E:=E) mW ⋯ hL (λj hj=>by
  have lm:L.getD j 0<m:=hL _ (by rw [getD_at hj];exact aG _)
  have ne:L.getD j 0≠f:=λe=>nf (by rw [<-e,getD_at hj];exact aG _)
  rw [aq ne];obtain ⟨ps,p1,p2⟩:=k9 h.len h.bY hj (show f<W by lia)
  have bp:=kr ps p1 _ p2;have v:=h.val j f hj ⋯
  have w:=(h1 j hj).symm.trans (rV.2 _ lm) (bv _ lm);have w2:a8 q (atT ai j f) (-(V (L.getD j 0)),E):=by obtain ⟨k',e⟩:=w;dsimp only at e;exact ⟨-k',by dsimp only;rw [je];grind⟩
  exact EH hq v w2 bp) (λk hk nk=>by
  by_cases y:k=f;·rw [ao y];exact Cg.refl _
  ·rw [aq y]
   have w:a8 q (vs.getD k o1) (V k,E):=rV.2 k hk;rw [h0 k hk nk y] at w;obtain ⟨k',e⟩:=w;dsimp only at e;exact ⟨k',⋯⟩) ht
 refine fZ hq (ct.nz hq) ?_;refine (JW hq (x:=V) cg).trans ?_;have e1:(ah m λk=>A t k*V k)=(ah m λk=>if k=f then A t k*V k else 0)-ah m λk=>A t k*(if k=f then 0 else -(V k)):=by
  rw [<-PR];exact dc λk _=>by
   by_cases y:k=f;·rw [ao y,ao y];lia
   ·rw [aq y,aq y];grind
 rw [e1,kY m f (λk=>A t k*V k) fm];have z:=(vf.mulL (A t f)).sub s;rw [Int.sub_self] at z;have:=z.mulL D;rw [cI] at this;exact this
theorem cJ.Qd(hq:aD q)(h:cJ q P (m+1) (fQ aa as) A M c L last ai)(hn:aa.length=n)(la:as.length=n)(hm:∀ps∈aa,ps.length=m)(hb:∀ps∈aa,∀p∈ps,aC q p.2)(ko:∀p∈as,aC q p.2)(hc:m∈L){a:Nat->Int}{F:Int}(rT:cS q n m (atT aa) T D)(ra:oj q n (λj=>as.getD j o1) a F):∃y:Nat->Int,(∀k,k<m->Cg q (ah n λt=>y t*T t k) 0)/\¬q∣ah n λt=>y t*a t:=by
 have lq:(fQ aa as).length=n:=by unfold fQ;rw [JT (by rw [oq];lia)];exact hn
 have rd:=h.red.rd;rw [lq] at rd;obtain ⟨y,h1,h2⟩:=rd.out hq hc;refine ⟨λt=>y t*c t,λk hk=>?_,λdv=>?_⟩
 ·have s:Cg q (ah n λt=>y t*c t*T t k) (D*ah n λt=>y t*A t k):=by rw [cD];exact dq λt ht=>(Cg.of_eq (by grind)).trans (((h.tI hq hn lq hm (λi k hi hk=>EU hn la hm hi hk) (lK m) hb rT ht hk).mulL (y t)).trans (Cg.of_eq (by grind)))
  refine s.trans ?_;have:=(h1 k hk).mulL D;rw [cI] at this;exact this
 ·have s:Cg q (ah n λt=>y t*c t*a t) (F*ah n λt=>y t*A t m):=by
   rw [cD];refine dq λt ht=>?_;have e:=h.row t m ⋯ ⋯
   rw [Qc hn la hm ht] at e;have ca:=Bz hq e (ra.2 t ht) (ko _ (by rw [getD_at ⋯];exact aG _))
   exact (Cg.of_eq (by grind)).trans ((ca.mulL (y t)).trans (Cg.of_eq (by grind)))
  exact s.nz (i5 hq (ra.1.nz hq) h2) dv
theorem cJ.EV(hq:aD q)(h:cJ q P W cV A M c L last ai)(hn:aa.length=n)(qv:cV.length=n)(hm:∀ps∈aa,ps.length=m)(hl:∀i k,i<n->k<m->atT cV i k=atT aa i k)(mW:m<=W)(hb:∀ps∈aa,∀p∈ps,aC q p.2)(hL:∀l∈L,l<m):i_ q n m aa L:=by
 have rd:=h.red.rd
 rw [qv] at rd
 refine ⟨rd.up,hL,λT D rT c0 hc=>(rd.ER hq (show c0<W by lia)).trans ?_⟩
 have conv:∀x:Nat->Int,(∀k,c0<k->x k=0)->∀t,t<n->(Cg q (ah W λk=>A t k*x k) 0↔Cg q (ah m λk=>T t k*x k) 0):=λx x0 t ht=>by
  have cut:Cg q (ah W λk=>A t k*x k) (ah m λk=>A t k*x k):=JB mW λi h1 _=>by
   rw [x0 i ⋯,cI]
   exact Cg.refl _
  have ct:=h.bot t ⋯
  have s:=JW (m:=m) hq (x:=x) (T:=T) (A:=A) (c:=c) (D:=D) (t:=t) λk hk=>h.tI hq hn qv hm hl mW hb rT ht hk
  constructor
  ·intro z
   refine fZ hq (ct.nz hq) (s.trans ?_)
   have:=(cut.symm.trans z).mulL D
   rw [cI] at this
   exact this
  ·intro z
   refine cut.trans (fZ hq (rT.1.nz hq) (s.symm.trans ?_))
   have:=z.mulL (c t)
   rw [cI] at this
   exact this
 exact ⟨λg x x0 hx=>g x x0 λt ht=>(conv x x0 t ht).mpr (hx t ht),λg x x0 hx=>g x x0 λt ht=>(conv x x0 t ht).mp (hx t ht)⟩
end
def gB(m:Nat)(aa:aH)(as:aI):List (List (Int×Int)):=bL m aa++[as]
def jb(m:Nat):List (Int×Int):=List.replicate m ((0:Int),(1:Int))++[((1:Int),(1:Int))]
section
variable {q:Int} {n m:Nat} {aa:aH} {as:aI}
theorem p3:(gB m aa as).length=m+1:=by unfold gB;simp [gi]
theorem xB:(jb m).length=m+1:=by unfold jb;simp
theorem k_(ht:t<m):(bL m aa).getD t []=aa.map λps=>ps.getD t (0,1):=by
 rw [getD_at (by rw [gi];exact ht)]
 unfold bL;simp
theorem JX(ht:t<m):(gB m aa as).getD t []=aa.map λps=>ps.getD t (0,1):=by unfold gB;rw [cb,gL (by rw [gi];exact ht),<-cb,k_ ht]
theorem JY:(gB m aa as).getD m []=as:=by
 unfold gB;rw [cb,iA (by rw [gi];exact aP _),gi,qu]
 rfl
theorem Qe(hn:aa.length=n)(la:as.length=n):∀ps∈gB m aa as,ps.length=n:=λps hp=>by
 unfold gB bL at hp;rcases lJ.mp hp with h | h
 ·obtain ⟨j,_,e⟩:=fI.mp h
  rw [<-e,aV];exact hn
 ·rw [iC.mp h]
  exact la
theorem ZK(hn:aa.length=n)(ht:t<m)(hk:k<n):atT (gB m aa as) t k=atT aa k t:=by
 unfold atT;rw [JX ht,getD_at (by simpa using (by lia:k<aa.length)),iU,getD_at (show k<aa.length by lia)]
 rfl
theorem ZL:atT (gB m aa as) m k=as.getD k o1:=by unfold atT;rw [JY]
theorem Qf(ht:t<m):(jb m).getD t o1=(0,1):=by
 unfold jb;rw [cb,gL (by simpa using ht)]
 simp [ht]
theorem Qg:(jb m).getD m o1=(1,1):=by
 unfold jb;rw [cb,iA (by simp)]
 simp
theorem Qh:∀p∈jb m,aC q p.2:=λp hp=>by
 unfold jb at hp;rcases lJ.mp hp with h | h
 ·rw [(AI.mp h).2]
  exact aC.one
 ·rw [iC.mp h]
  exact aC.one
theorem EW(hm:∀ps∈aa,ps.length=m)(h:ps∈bL m aa)(hp:p∈ps):∃rs∈aa,p∈rs:=by
 unfold bL at h;obtain ⟨j,hj,e⟩:=fI.mp h;rw [<-e] at hp;obtain ⟨rs,h1,h2⟩:=fI.mp hp;have jm:j<rs.length:=by rw [hm rs h1];exact gs.mp hj
 exact ⟨rs,h1,by rw [<-h2,getD_at jm];exact aG _⟩
theorem Qi(hm:∀ps∈aa,ps.length=m)(hb:∀ps∈aa,∀p∈ps,aC q p.2)(ko:∀p∈as,aC q p.2):∀ps∈gB m aa as,∀p∈ps,aC q p.2:=λps h p hp=>by
 unfold gB at h;rcases lJ.mp h with h | h
 ·obtain ⟨rs,h1,h2⟩:=EW hm h hp
  exact hb rs h1 p h2
 ·rw [iC.mp h] at hp
  exact ko p hp
variable {T:aE} {a:Nat->Int} {D F:Int}
def tJ(m:Nat)(T:aE)(a:Nat->Int)(D F:Int):Nat->Nat->Int:=λt k=>if t<m then T k t*F else a k*D
def tK(m:Nat):Nat->Int:=λt=>if t<m then 0 else 1
theorem Qj(hn:aa.length=n)(rT:cS q n m (atT aa) T D)(ra:oj q n (λj=>as.getD j o1) a F):cS q (m+1) n (atT (gB m aa as)) (tJ m T a D F) (D*F):=by
 refine ⟨rT.1.mul ra.1,λt k ht hk=>?_⟩;unfold tJ;by_cases y:t<m
 ·rw [ZK hn y hk,ao y]
  obtain ⟨c,e⟩:=rT.2 k t hk y;dsimp only at e;exact ⟨c*F,by dsimp only;grind⟩
 ·have e:t=m:=by lia
  subst e;rw [ZL,aq y];obtain ⟨c,e⟩:=ra.2 k hk;dsimp only at e;exact ⟨c*D,by dsimp only;grind⟩
theorem Qk:oj q (m+1) (λj=>(jb m).getD j o1) (tK m) 1:=by
 refine ⟨aC.one,λt ht=>?_⟩;unfold tK;dsimp only;by_cases y:t<m
 ·rw [Qf y,ao y]
  exact a8.refl _
 ·have e:t=m:=by lia
  subst e;rw [Qg,aq y];exact a8.refl _
theorem ZM(hq:aD q)(hn:aa.length=n){xs:aI}(h:pZ q (m+1) n (gB m aa as) (jb m) xs):tH q n m aa as xs:=λT D a F Y E rT ra rY=>by
 have s:=h _ _ _ _ Y E (Qj hn rT ra) Qk rY;refine ⟨λk hk=>?_,?_⟩
 ·have e:=s k ⋯
  unfold tJ tK at e;rw [ao hk,iT,iT,mJ] at e;refine fZ hq (ra.1.nz hq) ?_;rw [cD];refine (Cg.of_eq (dc λt _=>?_)).trans e;rw [ao hk];grind
 ·have e:=s m ⋯
  unfold tJ tK at e;rw [aq ⋯,mJ,mJ] at e
  refine qP hq (rT.1.nz hq) ?_;rw [cD];refine (Cg.of_eq (dc λt _=>?_)).trans (e.trans (Cg.of_eq (by grind)))
  rw [aq ⋯]
  grind
theorem ZN(hq:aD q){y y':Nat->Int}(h1:∀k,k<m->Cg q (ah n λt=>y t*T t k) 0)(h2:¬q∣ah n λt=>y t*a t)(nD:¬q∣D)(h3:∀k,k<n->Cg q (ah (m+1) λt=>y' t*tJ m T a D F t k) 0)(h4:¬q∣ah (m+1) λt=>y' t*tK m t):False:=by
 have e4:(ah (m+1) λt=>y' t*tK m t)=y' m:=by
  rw [oi];unfold tK;rw [aq ⋯,jV,dc (g:=λ_=>0) λt ht=>by rw [ao ht,cI],gz]
  lia
 rw [e4] at h4;have e3:∀k,(ah (m+1) λt=>y' t*tJ m T a D F t k)=(F*ah m λt=>y' t*T k t)+y' m*(a k*D):=λk=>by rw [oi,cD];unfold tJ;rw [aq ⋯,dc (g:=λt=>F*(y' t*T k t)) λt ht=>by rw [ao ht];grind]
 have s:Cg q (ah n λk=>y k*((F*ah m λt=>y' t*T k t)+y' m*(a k*D))) 0:=by
  have:=dq (q:=q) (n:=n) (f:=λk=>y k*((F*ah m λt=>y' t*T k t)+y' m*(a k*D))) (g:=λ_=>0) λk hk=>by have z:=(h3 k hk).mulL (y k);rw [e3 k,cI] at z;exact z
  rw [gz] at this;exact this
 have sp:(ah n λk=>y k*((F*ah m λt=>y' t*T k t)+y' m*(a k*D)))=(F*ah m λt=>y' t*ah n λk=>y k*T k t)+y' m*D*ah n λk=>y k*a k:=by
  have e1:(ah m λt=>y' t*ah n λk=>y k*T k t)=ah n λk=>y k*ah m λt=>y' t*T k t:=by rw [dc (g:=λt=>ah n λk=>y' t*(y k*T k t)) λt _=>cD _ _ _,tq];refine dc λk _=>?_;rw [cD];exact dc λt _=>by grind
  rw [e1,cD,cD,<-og];exact dc λk _=>by grind
 rw [sp] at s;have z:Cg q (F*ah m λt=>y' t*ah n λk=>y k*T k t) 0:=by
  have:=dq (q:=q) (n:=m) (f:=λt=>y' t*ah n λk=>y k*T k t) (g:=λ_=>0) λt ht=>by have z:=(h1 t ht).mulL (y' t);rw [cI] at z;exact z
  rw [gz] at this;have:=this.mulL F;rw [cI] at this;exact this
 have w:=s.sub z;rw [Int.sub_self] at w;have w2:Cg q (y' m*D*ah n λk=>y k*a k) 0:=(Cg.of_eq ⋯).trans w
 obtain ⟨c,e⟩:=w2;exact i5 hq (i5 hq h4 nD) h2 ⟨c,⋯⟩
theorem cJ.ZO(hq:aD q){P':Nat}{A' M':aE}{c c':Nat->Int}{last Ql:Int}{Qm:aH}(h:cJ q P (m+1) (fQ aa as) A M c L last ai)(h':cJ q P' (n+1) (fQ (gB m aa as) (jb m)) A' M' c' L' Ql Qm)(hn:aa.length=n)(la:as.length=n)(hm:∀ps∈aa,ps.length=m)(hb:∀ps∈aa,∀p∈ps,aC q p.2)(ko:∀p∈as,aC q p.2)(rT:cS q n m (atT aa) T D)(ra:oj q n (λj=>as.getD j o1) a F)(hc:m∈L):∀l∈L',l<n:=λl hl=>by
 have ln:l<n+1:=h'.red.rd.lt l hl;by_cases y:l=n
 ·subst y
  obtain ⟨y,h1,h2⟩:=h.Qd hq hn la hm hb ko hc rT ra;obtain ⟨y',h3,h4⟩:=h'.Qd hq p3 xB (Qe hn la) (Qi hm hb ko) Qh hl (Qj hn rT ra) Qk;exact (ZN hq h1 h2 (rT.1.nz hq) h3 h4).elim
 ·lia
theorem cJ.JZ(hq:aD q){c:Nat->Int}{last:Int}(h:cJ q P W cV A M c L last ai){wide f:Nat}{xs:aI}(lx:xs.length=wide)(hc:∀p∈xs,Canon q p)(fW:f<W)(h1:∀k,k<wide->(∃j,j<L.length/\(a8 q (xs.getD k o1) (atT ai j f)\/a8 q (xs.getD k o1) (-(atT ai j f).1,(atT ai j f).2))/\(atT ai j f).2≠0)\/xs.getD k o1=(0,1)\/xs.getD k o1=(1,1))(hB:1000<=cV.length*(br cV.length*P)):bj q (cV.length*(br cV.length*P)) xs:=by
 by_cases z:q=0
 ·subst z
  obtain ⟨D,d1,dX,hD⟩:=h.common;obtain ⟨y,hy⟩:=m8 (n:=wide) (α:=Int) (R:=λk x=>(xs.getD k o1).1*D=x*(xs.getD k o1).2/\x.natAbs<=cV.length*(br cV.length*P)) λk hk=>by
   rcases h1 k hk with ⟨j,hj,w,nz⟩ | e | e
   ·obtain ⟨x,e1,e2⟩:=hD j f hj fW
    rcases w with w | w
    ·have e:=kD.mp w
     refine (ad x (nN nz ?_) e2);generalize atT ai j f=p at *;generalize xs.getD k o1=r at *;grind
    ·have e:=kD.mp w
     dsimp only at e;refine ⟨-x,nN nz ?_,by rw [qt];exact e2⟩
     generalize atT ai j f=p at *;generalize xs.getD k o1=r at *;grind
   ·exact ⟨0,by rw [e];simp,by simp⟩
   ·exact (ad D (by rw [e];simp) dX)
  refine (gl D y ⟨λ_=>d1,λz=>absurd rfl z⟩ dX (λp hp=>?_) (λk hk=>hy k ⋯))
  obtain ⟨k,hk,e⟩:=eJ.mp hp;have w:=(hy k ⋯).1
  rw [getD_at hk,e] at w;exact EJ ((hc p hp).1 rfl) w
 ·exact pY (tG hq z hc) hB
end
variable {B:Nat} {a:Addr}
theorem aU.cat{ys:List V}(e:H a=some (.lst (xs++ys)))(l1:xs.length=aa.length)(l2:ys.length=ai.length)(h1:∀(i:Nat) (v:V) (ps:aI),xs[i]?=some v->aa[i]?=some ps->∃r:Addr,v=.ref r/\aM B H q r ps)(h2:∀(i:Nat) (v:V) (ps:aI),ys[i]?=some v->ai[i]?=some ps->∃r:Addr,v=.ref r/\aM B H q r ps):aU B H q a (aa++ai):=by
 refine (am _ e (by rw [kA,kA];lia) (λi v ps hv hp=>?_))
 by_cases y:i<xs.length
 ·rw [gL y] at hv
  rw [gL ⋯] at hp
  exact h1 i v ps hv hp
 ·rw [iA ⋯] at hv hp
  rw [l1] at hv;exact h2 _ v ps hv hp
variable {v:V}
theorem J0(e:H a=some (.lst [v]))(h:cH B H q v p.1 p.2):aM B H q a [p]:=by
 refine (am _ e rfl (λi v' p' h1 h2=>?_));cases i with
 | zero=>cases h1;cases h2;exact h
 | succ i=>simp at h1
variable {E:Nat}
theorem ZP(h:bj q E ps)(hp:p=(0,1)\/p=(1,1)):bj q E (ps++[p]):=by
 intros am15 h D x ok bD dv hx;refine (gl D (λk=>if k<ps.length then x k else p.1*D) ok bD (λr hr=>?_) (λk hk=>?_))
 ·rcases lJ.mp hr with z | z
  ·exact dv r z
  ·rw [iC.mp z]
   rcases hp with e | e <;> rw [e] <;> exact Int.one_dvd _
 ·dsimp only
  by_cases z:k<ps.length
  ·rw [ao z,show (ps++[p]).getD k o1=ps.getD k o1 by rw [cb,gL z,<-cb]]
   exact hx k z
  ·have e:k=ps.length:=by simp at hk;lia
   rw [aq z,e,show (ps++[p]).getD ps.length o1=p by rw [cb,iA (aP _)];simp]
   rcases hp with e | e;·rw [e];exact ⟨by simp,by simp⟩
   ·rw [e];exact ⟨by simp,by simpa using bD⟩
variable {as:aI}
theorem Qn(la:as.length=aa.length)(hi:i<aa.length):(fQ aa as).getD i []=aa.getD i []++[as.getD i o1]:=by
 unfold fQ;rw [EO (by rw [oq];exact la) hi]
 have g:(ja as).getD i []=[as.getD i o1]:=by unfold ja;rw [getD_at (by simpa using (by lia:i<as.length)),iU,getD_at ⋯]
 rw [g]
theorem J1(la:as.length=aa.length):(fQ aa as).length=aa.length:=by unfold fQ;rw [JT (by rw [oq];exact la)]
theorem Qo(la:as.length=aa.length)(hm:∀ps∈aa,ps.length=m):∀ps∈fQ aa as,ps.length=m+1:=λps hp=>by
 obtain ⟨i,hi,e⟩:=eJ.mp hp;have a_:i<aa.length:=by rw [J1 la] at hi;exact hi
 have g:=Qn la a_;rw [getD_at hi,getD_at a_,e] at g;rw [g,kA,hm _ (aG a_)];rfl
def ZQ(C:Addr):Sp:=λvs H Q _=>∃(z a b:Addr) (q:Int) (B P m:Nat) (aa:aH) (as:aI) (G:Nat->Nat),vs=[.ref z,.ref a,.ref b]/\da C H z q/\aD q/\aU B H q a aa/\aM B H q b as/\1000<=B/\B<2 ^ 2048/\1<=aa.length/\aa.length<=30/\(∀ps∈aa,ps.length=m)/\m<=30/\as.length=aa.length/\(∀i,i<m+1->bj q (G i) ((gB m aa as).getD i []))/\(∀i,1000<=G i/\G i<2 ^ 2048)/\bS (m+1) G<=P/\(m+1)*(br (m+1)*P)<2 ^ 2048 /\
 (∃(P0:Nat) (A M:aE) (c:Nat->Int) (L:List Nat) (last:Int) (ai:aH),cJ q P0 (m+1) (fQ aa as) A M c L last ai/\m∈L) /\
 ∀(r:Addr) (ys:aI) (H':Hp),ag H H'->H r=none->aM ((m+1)*(br (m+1)*P)) H' q r ys->ys.length=aa.length->tH q aa.length m aa as ys->bj q ((m+1)*(br (m+1)*P)) ys->Q (.ref r) H'
theorem J2:A7 (.int (i:Int)) (a7 L)=decide (i∈L):=by
 unfold a7
 induction L with
 | nil=>rfl
 | cons a L ih=>
  show (iG (.int (a:Int)) (.int (i:Int)) || A7 (.int (i:Int)) ((L.map λj:Nat=>(j:Int)).map V.int))=_;rw [ih];by_cases e:i=a
  ·subst e
   rw [Ee rfl,Bool.true_or,cF jx]
  ·have h:iG (.int (a:Int)) (.int (i:Int))=false:=by show ((a:Int) == (i:Int))=false;simp;lia
   rw [h,Bool.false_or];simp [e]
theorem Qp:(a7 L).all iY=true:=by unfold a7;rw [nK];intro v hv;obtain ⟨i,_,e⟩:=fI.mp hv;rw [<-e];rfl
theorem gk:(a7 L).length=L.length:=by simp [a7]
def dO(m:Nat)(L:List Nat):List Nat:=(List.range m).filter λi=>!decide (i∈L)
theorem BC:i∈dO m L↔i<m/\i∉L:=by unfold dO;rw [vV,gs];simp
theorem Qq{α:Type}(p:α->Bool):∀l:List α,(l.filter λi=>!p i).length+(l.filter p).length=l.length
 | []=>rfl
 | a::l=>by have ih:=Qq p l;rw [Dj,Dj,df];cases p a <;> simp <;> lia
theorem xC(up:L.Pairwise (· < ·))(lt:∀l∈L,l<m):(dO m L).length+L.length=m:=by
 have e:(List.range m).filter (λi=>decide (i∈L))=L:=by refine JU (List.Pairwise.filter _ List.pairwise_lt_range) up λc=>?_;rw [vV,gs];simp;exact λh=>lt c h
 have h:=Qq (λi=>decide (i∈L)) (List.range m);rw [e,gc] at h;unfold dO;lia
structure tL (q:Int) (n m X:Nat) (aa:aH) (L:List Nat) (bz:aH):Prop where
 len:bz.length=(dO m L).length
 bY:∀ps∈bz,ps.length=m
 xA:∀ps∈bz,ET q n m aa ps
 ok:∀i,i<bz.length->bj q X (bz.getD i [])
 own:∀i,i<bz.length->atT bz i ((dO m L).getD i 0)=(1,1)
 Qr:∀i j,i<bz.length->j<bz.length->i≠j->atT bz i ((dO m L).getD j 0)=(0,1)
def Qs(C N:Addr):Sp:=λvs H Q E=>∃(z a b:Addr) (q:Int) (B P P2 m:Nat) (aa:aH) (as:aI) (G G2:Nat->Nat),vs=[.ref z,.ref a,.ref b]/\da C H z q/\aD q/\aU B H q a aa/\aM B H q b as/\1000<=B/\B<2 ^ 2048/\1<=aa.length/\aa.length<=30/\(∀ps∈aa,ps.length=m)/\m<=30/\as.length=aa.length/\(∀i,i<aa.length->bj q (G i) ((fQ aa as).getD i []))/\(∀i,1000<=G i/\G i<2 ^ 2048)/\bS aa.length G<=P/\aa.length*(br aa.length*P)<=10 ^ 290 /\
 (∀i,i<m+1->bj q (G2 i) ((gB m aa as).getD i []))/\(∀i,1000<=G2 i/\G2 i<2 ^ 2048)/\bS (m+1) G2<=P2/\(m+1)*(br (m+1)*P2)<2 ^ 2048 /\
 (∀(p r:Addr) (ys:aI) (H':Hp),ag H H'->H' p=some (.tup [.str (Str.ofString "barred"),.ref r])->aM ((m+1)*(br (m+1)*P2)) H' q r ys->ys.length=aa.length->tH q aa.length m aa as ys->bj q ((m+1)*(br (m+1)*P2)) ys->Q (.ref p) H') /\
 (∀(p r:Addr) (xs:aI) (L:List Nat) (H':Hp),ag H H'->H' p=some (.tup [.str (Str.ofString "one"),.ref r])->aM (aa.length*(br aa.length*P)) H' q r xs->xs.length=m->pZ q aa.length m aa as xs->bj q (aa.length*(br aa.length*P)) xs->i_ q aa.length m aa L->L.length=m->Q (.ref p) H') /\
 (∀(p r t:Addr) (xs:aI) (L:List Nat) (bz:aH) (H':Hp),ag H H'->H' p=some (.tup [.str (Str.ofString "many"),.ref r,.ref t])->aM (aa.length*(br aa.length*P)) H' q r xs->xs.length=m->pZ q aa.length m aa as xs->bj q (aa.length*(br aa.length*P)) xs->i_ q aa.length m aa L->L.length≠m->aU (aa.length*(br aa.length*P)) H' q t bz->tL q aa.length m (aa.length*(br aa.length*P)) aa L bz->Q (.ref p) H')
structure EX (q:Int) (E:Nat) (ps:aI) (ts:List Int) (b:Int):Prop where
 len:ts.length=ps.length
 ok:aC q b
 bb:b.natAbs<=E
 eq:∀(i:Nat) (p:Int×Int) (t:Int),ps[i]?=some p->ts[i]?=some t->t*p.2=p.1*b
 bd:∀t∈ts,t.natAbs<=E
theorem aC.ne{b:Int}(h:aC q b):b≠0:=by
 by_cases z:q=0
 ·have:=h.1 z
  lia
 ·have:=h.2 z
  lia
variable {D:Int}
theorem EY{b:Int}{ts:List Int}{B':Nat}{r:Addr}(hq:aD q)(wd:Ey q ps ts b D B')(hr:aM B H q r ps)(gJ:aC q D)(bD:D.natAbs<=E)(hx:∀i,i<ps.length->(ps.getD i o1).1*D=x i*(ps.getD i o1).2/\(x i).natAbs<=E):EX q E ps ts b:=by
 have wr:=PN hq wd rfl hr gJ hx;refine ⟨wd.len,wd.ok,au (Jv wd.dvd gJ.ne) bD,λi p t h1 h2=>?_,λt ht=>?_⟩
 ·have i1:i<ps.length:=(aL.mp h1).1
  have i2:i<ts.length:=(aL.mp h2).1;have e:=(wd.each i i1).1;rw [getD_at i1] at e;rw [d5 i1] at h1;rw [d5 i2] at h2;cases h1;cases h2;rw [<-e];simp [i2]
 ·obtain ⟨i,hi,e⟩:=eJ.mp ht
  have:=wr.bd i;rw [<-e];simpa [hi] using this
def ZR(C:Addr):Sp:=λvs H Q _=>∃(z a:Addr) (q:Int) (B E:Nat) (aa:aH),vs=[.ref z,.ref a]/\da C H z q/\aD q/\aU B H q a aa/\1000<=B/\B<2 ^ 2048/\E<2 ^ 2048/\aa.length<=40/\(∀ps∈aa,ps.length<=40/\bj q E ps) /\
 ∀(b:Addr) (H':Hp) (ws:List (List Int×Int)),ag H H'->H b=none->Bm H' b ws->ws.length=aa.length->(∀(i:Nat) (ps:aI) (w:List Int×Int),aa[i]?=some ps->ws[i]?=some w->EX q E ps w.1 w.2)->Q (.ref b) H'
def ZS(C:Addr):Sp:=λvs H Q _=>∃(z a:Addr) (q:Int) (u:V) (ws:List (List Int×Int)) (us:List Int) (c:Int) (E F:Nat),vs=[.ref z,.ref a,u]/\da C H z q/\aD q/\Bm H a ws/\ws.length<=40/\(∀w∈ws,w.1.length<=40/\(∀t∈w.1,t.natAbs<=E)/\aC q w.2/\w.2.natAbs<=E)/\pO H u us c/\us.length<=40/\(∀t∈us,t.natAbs<=F)/\aC q c/\c.natAbs<=F/\E<2 ^ 2048/\F<2 ^ 2048/\E*F<2 ^ 2048 /\
 ∀(b:Addr) (H':Hp),ag H H'->H b=none->iJ H' q b (ws.map λw=>(kj w.1 us,w.2*c))->Q (.ref b) H'
def Qt(C:Addr):Sp:=λvs H Q _=>∃(z a o:Addr) (q:Int) (Ba Bo E F:Nat) (aa ai:aH),vs=[.ref z,.ref a,.ref o]/\da C H z q/\aD q/\aU Ba H q a aa/\aU Bo H q o ai/\1000<=Ba/\Ba<2 ^ 2048/\1000<=Bo/\Bo<2 ^ 2048/\E<2 ^ 2048/\F<2 ^ 2048/\F*E<2 ^ 2048/\aa.length<=40/\ai.length<=40/\(∀ps∈aa,ps.length<=40/\bj q E ps)/\(∀ps∈ai,ps.length<=40/\bj q F ps) /\
 ∀(b:Addr) (H':Hp) (vs:List V),ag H H'->H b=none->H' b=some (.lst vs)->vs.length=aa.length->(∀(i:Nat) (v:V) (ps:aI),vs[i]?=some v->aa[i]?=some ps->∃r:Addr,v=.ref r/\H r=none/\iJ H' q r (ai.map λrs=>aW rs ps (0,1)))->Q (.ref b) H'
def ZT(C:Addr):Sp:=λvs H Q _=>∃(z a o:Addr) (q:Int) (Ba Bo E F:Nat) (ps rs:aI),vs=[.ref z,.ref a,.ref o]/\da C H z q/\aD q/\aM Ba H q a ps/\aM Bo H q o rs/\1000<=Ba/\Ba<2 ^ 2048/\1000<=Bo/\Bo<2 ^ 2048/\E<2 ^ 2048/\F<2 ^ 2048/\E*F<2 ^ 2048/\ps.length<=40/\rs.length<=40/\bj q E ps/\bj q F rs /\
 ∀(v:V) (H':Hp),ag H H'->cN H' q v (aW ps rs (0,1)).1 (aW ps rs (0,1)).2->Q v H'
def ZU(C N:Addr):Sp:=λvs H Q E'=>∃(z a r:Addr) (q:Int) (Ba Bo E F:Nat) (aa:aH) (ps:aI) (m:Nat),vs=[.ref z,.ref a,.ref r]/\da C H z q/\aD q/\aU Bo H q a aa/\aM Ba H q r ps/\1000<=Ba/\Ba<2 ^ 2048/\1000<=Bo/\Bo<2 ^ 2048/\E<2 ^ 2048/\F<2 ^ 2048/\F*E<2 ^ 2048/\1<=aa.length/\aa.length<=40/\(∀ps∈aa,ps.length=m)/\m<=40 /\
 (ps.length≠m->∀H',ag H H'->E' (.ref N) none H')/\(ps.length=m->bj q E ps/\(∀ps∈aa,bj q F ps)/\∀(b:Addr) (H':Hp),ag H H'->H b=none->iJ H' q b (aa.map λrs=>aW rs ps (0,1))->Q (.ref b) H')
def ZV(C N:Addr):Sp:=λvs H Q E'=>∃(z a r:Addr) (q:Int) (Ba Bo E F:Nat) (aa:aH) (ps:aI) (m:Nat),vs=[.ref z,.ref r,.ref a]/\da C H z q/\aD q/\aU Bo H q a aa/\aM Ba H q r ps/\1000<=Ba/\Ba<2 ^ 2048/\1000<=Bo/\Bo<2 ^ 2048/\E<2 ^ 2048/\F<2 ^ 2048/\F*E<2 ^ 2048/\1<=aa.length/\aa.length<=40/\(∀ps∈aa,ps.length=m)/\m<=40 /\
 (ps.length≠aa.length->∀H',ag H H'->E' (.ref N) none H')/\(ps.length=aa.length->bj q E ps/\(∀cs∈bL m aa,bj q F cs)/\∀(b:Addr) (H':Hp),ag H H'->H b=none->iJ H' q b ((bL m aa).map λrs=>aW rs ps (0,1))->Q (.ref b) H')
variable {w:World} {K:aQ} {mg:eK} {base:Heap} {CX:jJ} {fd:FuncData} {sp BD:Sp}
theorem aO.or{P:Program}{f:Addr}{ps:List Str}(F:aO P w K mg base CX k f fd ps sp)(G:aO P w K mg base CX k f fd ps BD):aO P w K mg base CX k f fd ps (λvs H Q E=>sp vs H Q E\/BD vs H Q E):=
 ⟨λvs H Q E q=>q.elim (F.len vs H Q E) (G.len vs H Q E),λA outer s H args us vs Q E hr he hb hv hs=>hs.elim (F.run A outer s H args us vs Q E hr he hb hv) (G.run A outer s H args us vs Q E hr he hb hv)⟩
section
variable {q:Int} {n m:Nat} {aa:aH} {as xs:aI}
theorem tM{rs:aI}{f g:Nat->Int}{D1 D2:Int}(lp:ps.length=n)(lr:rs.length=n)(h1:∀i,i<n->a8 q (ps.getD i o1) (f i,D1))(h2:∀i,i<n->a8 q (rs.getD i o1) (g i,D2)):a8 q (aW ps rs (0,1)) (ah n λi=>f i*g i,D1*D2):=by
 have:=Js n ps rs f g (0,1) 0 lp lr h1 h2 ⟨0,by simp⟩
 rw [wj] at this;exact this
theorem Qu(hq:aD q)(hn:aa.length=n)(hm:∀ps∈aa,ps.length=m)(la:as.length=n)(lx:xs.length=m)(rT:∃T D,cS q n m (atT aa) T D)(ba:∀p∈as,aC q p.2)(bx:∀p∈xs,aC q p.2)(h:pZ q n m aa as xs)(ht:t<n):a8 q (aW (aa.getD t []) xs (0,1)) (as.getD t o1):=by
 intros am1 rT T D rT;obtain ⟨a,F,ra⟩:=xp ba la;obtain ⟨X,E,rX⟩:=xp bx lx;have lt:(aa.getD t []).length=m:=by rw [getD_at ⋯];exact hm _ (aG _)
 have w:=tM lt lx (λk hk=>rT.2 t k ht hk) rX.2;refine w.trans (a8.trans ?_ (ra.2 t ht).symm ra.1) (rT.1.mul rX.1);obtain ⟨c,e⟩:=h T D a F X E rT ra rX t ht;refine ⟨c,?_⟩;dsimp only;rw [<-mH,<-e];grind
theorem Qv(hq:aD q)(hn:aa.length=n)(hm:∀ps∈aa,ps.length=m)(lx:xs.length=m)(rT:∃T D,cS q n m (atT aa) T D)(bx:∀p∈xs,aC q p.2)(h:ET q n m aa xs)(ht:t<n):a8 q (aW (aa.getD t []) xs (0,1)) (0,1):=by
 intros am1 rT T D rT;obtain ⟨X,E,rX⟩:=xp bx lx;have lt:(aa.getD t []).length=m:=by rw [getD_at ⋯];exact hm _ (aG _)
 have w:=tM lt lx (λk hk=>rT.2 t k ht hk) rX.2;refine w.trans ?_ (rT.1.mul rX.1);obtain ⟨c,e⟩:=h T D X E rT rX t ht;exact ⟨c,by dsimp only;lia⟩
theorem Qw(hq:aD q)(hn:aa.length=n)(hm:∀ps∈aa,ps.length=m)(la:as.length=n)(lx:xs.length=n)(rT:∃T D,cS q n m (atT aa) T D)(ba:∀p∈as,aC q p.2)(bx:∀p∈xs,aC q p.2)(h:tH q n m aa as xs):(∀k,k<m->a8 q (aW ((bL m aa).getD k []) xs (0,1)) (0,1))/\a8 q (aW xs as (0,1)) (1,1):=by
 intros am1 rT T D rT;obtain ⟨a,F,ra⟩:=xp ba la;obtain ⟨X,E,rX⟩:=xp bx lx;obtain ⟨h1,h2⟩:=h T D a F X E rT ra rX;refine ⟨λk hk=>?_,?_⟩
 ·have w:=tM (q:=q) (n:=n) (ps:=(bL m aa).getD k []) (rs:=xs) (f:=λt=>T t k) (g:=X) (D1:=D) (D2:=E) (by rw [k_ hk,aV,hn]) lx (λt ht=>by
   have z:=rT.2 t k ht hk;have e:((bL m aa).getD k []).getD t o1=atT aa t k:=by
    unfold atT;rw [k_ hk,getD_at (by simpa using (by lia:t<aa.length)),iU,getD_at (show t<aa.length by lia)]
    rfl
   rw [e];exact z) rX.2
  refine w.trans ?_ (rT.1.mul rX.1);obtain ⟨c,e⟩:=h1 k hk;refine ⟨c,?_⟩;rw [dc (g:=λt=>T t k*X t) λt _=>fU _ _] at e;dsimp only;lia
 ·have w:=tM lx la rX.2 ra.2
  refine w.trans ?_ (rX.1.mul ra.1);obtain ⟨c,e⟩:=h2;exact ⟨c,by dsimp only;lia⟩
end
def ZW(C:Addr):Sp:=λvs H Q _=>∃(z r:Addr) (q:Int) (ws:List V),vs=[.ref z,.ref r]/\da C H z q/\aD q/\H r=some (.lst ws)/\ws.length<=40/\(∀w∈ws,cN H q w 0 1)/\∀H',ag H H'->Q (.bl true) H'
structure ou (q:Int) (Ba Bo E F m:Nat) (aa:aH):Prop where
 a1:1000<=Ba
 a2:Ba<2 ^ 2048
 o1:1000<=Bo
 o2:Bo<2 ^ 2048
 e2:E<2 ^ 2048
 f2:F<2 ^ 2048
 ef:F*E<2 ^ 2048
 n1:1<=aa.length
 cO:aa.length<=40
 bY:∀ps∈aa,ps.length=m
 fL:m<=40
def ZX(C N:Addr):Sp:=λvs H Q _=>∃(z a b r:Addr) (q:Int) (Ba Bo E F m:Nat) (aa:aH) (as xs:aI),vs=[.ref z,.ref a,.ref b,.ref r]/\da C H z q/\aD q/\aU Bo H q a aa/\aM Bo H q b as/\aM Ba H q r xs/\ou q Ba Bo E F m aa/\as.length=aa.length/\xs.length=m/\bj q E xs/\(∀ps∈aa,bj q F ps)/\pZ q aa.length m aa as xs/\∀H',ag H H'->Q (.bl true) H'
def Qx(C N:Addr):Sp:=λvs H Q _=>∃(z a r:Addr) (q:Int) (Ba Bo E F m:Nat) (aa:aH) (xs:aI),vs=[.ref z,.ref a,.ref r]/\da C H z q/\aD q/\aU Bo H q a aa/\aM Ba H q r xs/\ou q Ba Bo E F m aa/\xs.length=m/\bj q E xs/\(∀ps∈aa,bj q F ps)/\ET q aa.length m aa xs/\∀H',ag H H'->Q (.bl true) H'
def ZY(C N:Addr):Sp:=λvs H Q _=>∃(z a b r:Addr) (q:Int) (Ba Bo E F m:Nat) (aa:aH) (as xs:aI),vs=[.ref z,.ref a,.ref b,.ref r]/\da C H z q/\aD q/\aU Bo H q a aa/\aM Bo H q b as/\aM Ba H q r xs/\ou q Ba Bo E F m aa/\as.length=aa.length/\xs.length=aa.length/\bj q E xs/\(∀ps∈bL m aa,bj q F ps)/\bj q F as/\tH q aa.length m aa as xs/\∀H',ag H H'->Q (.bl true) H'
theorem EZ{q:Int}(hq:aD q)(n:Nat)(A:aE):∀cur,∃(M:aE) (L:List Nat),dI q n A M L cur
 | 0=>⟨A,[],dI.start hq n A⟩
 | cur+1=>by
  obtain ⟨M,L,h⟩:=EZ hq n A cur;by_cases z:∀i,i<n->L.length<=i->Cg q (M i cur) 0;·exact ⟨M,L,h.skip z⟩
  ·obtain ⟨s,hs⟩:=Classical.not_forall.mp z
   obtain ⟨sn,hs⟩:=Du.mp hs;obtain ⟨ls,hs⟩:=Du.mp hs;have ns:¬q∣M s cur:=λd=>hs (by obtain ⟨k,e⟩:=d;exact ⟨k,⋯⟩)
   have e1:cz M L.length s L.length=M s:=by
    unfold cz;by_cases y:L.length=s;·rw [ao y,y]
    ·rw [aq y,ao rfl]
   have h':=h.swap hq ls sn (M':=cz M L.length s) e1 (by unfold cz;rw [ao rfl]) (λi h1 h2=>by unfold cz;rw [aq h2,aq h1])
   generalize cz M L.length s=M1 at e1 h';have np:¬q∣M1 L.length cur:=by rw [e1];exact ns
   refine ⟨λi k=>if i=L.length then M1 i k else M1 L.length cur*M1 i k-M1 i cur*M1 L.length k,L++[cur],h'.step hq (u:=1) ⋯ (λd=>?_) np (by funext k;rw [ao rfl]) λi k _ ne=>?_⟩
   ·exact (aC.one (q:=q)).nz hq d
   ·rw [aq ne,mJ]
    exact Cg.refl _
theorem Qy(hq:aD q){r:Nat}(rk:r<k)(N:aE):∃(x:Nat->Int) (c:Nat),c<k/\¬q∣x c/\∀j,j<r->Cg q (ah k λs=>N j s*x s) 0:=by
 obtain ⟨M,L,h⟩:=EZ hq r N k;have fl:=xC h.up h.lt;have ll:=h.len;have f0:0<(dO k L).length:=by lia
 obtain ⟨ck,cL⟩:=BC.mp (aG f0);generalize (dO k L)[0]=c at ck cL;have no:=λy=>cL ((h.ER hq ck).mpr y);obtain ⟨x,hx⟩:=Classical.not_forall.mp no;obtain ⟨x0,hx⟩:=Du.mp hx;obtain ⟨xk,nx⟩:=Du.mp hx;exact (ce x c ck (λd=>nx (by obtain ⟨k',e⟩:=d;exact ⟨k',⋯⟩)) xk)
theorem dI.Qz(hq:aD q)(h:dI q n A M L W)(f:Nat->Nat)(w:Nat->Int)(hf:∀s,s<n->f s<W)(hw:∀t,t<n->¬q∣w t)(hA:∀t s,t<n->s<n->Cg q (A t (f s)) (if s=t then w t else 0)):L.length=n:=by
 refine oS λne=>?_;have ll:=h.len;obtain ⟨x,c,cn,nx,hx⟩:=Qy hq (show L.length<n by lia) λj s=>M j (f s)
 obtain ⟨e,y,ne',h1,_⟩:=h.done cn;have s1:Cg q (ah n λs=>e*A c (f s)*x s) (e*w c*x c):=by
  rw [<-kY n c (λs=>e*w c*x s) cn];exact dq λs hs=>by
   have z:=((hA c s cn hs).mulL e).mulR (x s);by_cases y:s=c
   ·rw [ao y] at z ⊢
    exact z
   ·rw [aq y] at z ⊢
    rw [cI,iT] at z;exact z
 have s2:Cg q (ah n λs=>e*A c (f s)*x s) 0:=by
  refine (dq λs hs=>(h1 (f s) (hf s hs)).mulR (x s)).trans ?_;have e1:(ah n λs=>(ah L.length λj=>y j*M j (f s))*x s)=ah L.length λj=>y j*ah n λs=>M j (f s)*x s:=by
   rw [dc (g:=λs=>ah L.length λj=>x s*(y j*M j (f s))) λs _=>by rw [fU,cD],tq]
   refine dc λj _=>?_;rw [cD];exact dc λs _=>by grind
  rw [e1];have:=dq (q:=q) (n:=L.length) (f:=λj=>y j*ah n λs=>M j (f s)*x s) (g:=λ_=>0) λj hj=>by have z:=(hx j hj).mulL (y j);rw [cI] at z;exact z
  rw [gz] at this;exact this
 obtain ⟨k,ek⟩:=s1.symm.trans s2;exact i5 hq (i5 hq ne' (hw c cn)) nx ⟨k,⋯⟩
variable {X:Nat} {bz:aH}
theorem cJ.moves(hq:aD q){c:Nat->Int}{last:Int}(h:cJ q P m bz A M c L' last ai)(mv:tL q n m X aa L bz):L'.length=bz.length:=by
 refine h.red.rd.Qz hq (λs=>(dO m L).getD s 0) c (λs hs=>?_) (λt ht=>(h.bot t ht).nz hq) λt s ht hs=>?_
 ·have dG:s<(dO m L).length:=by rw [<-mv.len];exact hs
  rw [getD_at dG];exact (BC.mp (aG dG)).1
 ·have fm:(dO m L).getD s 0<m:=by
   have dG:s<(dO m L).length:=by rw [<-mv.len];exact hs
   rw [getD_at dG];exact (BC.mp (aG dG)).1
  have e:=h.row t _ ht fm;by_cases y:s=t
  ·subst y
   rw [mv.own s ht] at e;rw [ao rfl];exact Cg.of_eq (by dsimp only at e;lia)
  ·rw [mv.Qr t s ht hs (λe=>y e.symm)] at e
   rw [aq y];exact Cg.of_eq (by dsimp only at e;lia)
def ZZ:Sp:=λvs H Q _=>∃(a:Addr) (n m:Nat) (xs:List V),vs=[.ref a,.int (n:Int),.int (m:Int)]/\H a=some (.lst xs)/\xs.length=n/\n<=40/\(∀v∈xs,∃(r:Addr) (us:List V),v=.ref r/\H r=some (.lst us)/\us.length=m)/\∀H',ag H H'->Q (.bl true) H'
def Z0:Sp:=λvs H Q _=>∃a:Addr,vs=[.ref a]/\H a=some (.lst [])/\Q (.int 0) H
def Z1:Sp:=λvs H Q _=>∃z a:Addr,vs=[.ref z,.ref a]/\H a=some (.lst [])/\∀(p r l:Addr) (H':Hp),ag H H'->H' p=some (.tup [.ref r,.ref l])->H' r=some (.lst [])->H' l=some (.lst [])->Q (.ref p) H'
structure qR (q:Int) (B P W:Nat) (aa:aH) (G:Nat->Nat):Prop where
 b1:1000<=B
 b2:B<2 ^ 2048
 n1:1<=aa.length
 cO:aa.length<=40
 bY:∀ps∈aa,ps.length=W
 m_:W<=40
 row:∀i,i<aa.length->bj q (G i) (aa.getD i [])
 g:∀i,1000<=G i/\G i<2 ^ 2048
 pr:bS aa.length G<=P
 mid:aa.length*(br aa.length*P)<2 ^ 2048
def Z2(C N:Addr):Sp:=λvs H Q E=>∃(z a:Addr) (q:Int) (B P W:Nat) (aa:aH) (G:Nat->Nat),vs=[.ref z,.ref a]/\da C H z q/\aD q/\aU B H q a aa/\qR q B P W aa G /\
 ∀(L:List Nat) (H':Hp),ag H H'->i_ q aa.length W aa L->L.length<=aa.length->Q (.int (L.length:Int)) H'
def Z3(C N:Addr):Sp:=λvs H Q _=>∃(z a t:Addr) (q:Int) (Ba Bo E F P m:Nat) (aa bz:aH) (G:Nat->Nat) (L:List Nat),vs=[.ref z,.ref a,.ref t]/\da C H z q/\aD q/\aU Bo H q a aa/\aU Ba H q t bz/\ou q Ba Bo E F m aa/\qR q Bo P m aa G/\(∀ps∈aa,bj q F ps)/\i_ q aa.length m aa L /\
 ((bz=[]/\L.length=m)\/(tL q aa.length m E aa L bz/\L.length≠m/\∃(P2:Nat) (G2:Nat->Nat),qR q Ba P2 m bz G2))/\∀H',ag H H'->Q (.bl true) H'
def qS(L:List Nat)(x:Nat->Int)(k:Nat):Int:=ah L.length λj=>if L.getD j 0=k then x j else 0
theorem J3(hL:∀l∈L,l<W)(B:Nat->Int)(x:Nat->Int):(ah W λk=>B k*qS L x k)=ah L.length λj=>B (L.getD j 0)*x j:=by
 unfold qS;rw [dc (g:=λk=>ah L.length λj=>B k*(if L.getD j 0=k then x j else 0)) λk _=>cD _ _ _,tq]
 refine dc λj hj=>?_;have lw:L.getD j 0<W:=hL _ (by rw [getD_at hj];exact aG _)
 rw [<-kY W (L.getD j 0) (λk=>B k*x j) lw];exact dc λk _=>by
  by_cases y:k=L.getD j 0;·rw [ao y,ao y.symm]
  ·rw [aq y,aq (λe=>y e.symm),cI]
theorem Z4(up:L.Pairwise (· < ·))(x:Nat->Int)(hj:j<L.length):qS L x (L.getD j 0)=x j:=by
 unfold qS;rw [<-kY L.length j x hj];exact dc λi hi=>by
  by_cases y:i=j;·rw [ao y,ao (by rw [y])]
  ·rw [aq y,aq λe=>y (ES up hi hj e)]
theorem Z5(x:Nat->Int)(hk:k∉L):qS L x k=0:=by unfold qS;rw [dc (g:=λ_=>0) λj hj=>aq λe=>hk (by rw [<-e,getD_at hj];exact aG _),gz]
theorem dI.Z6(hq:aD q)(h:dI q n A M L W)(hx:∀t,t<n->Cg q (ah L.length λj=>A t (L.getD j 0)*x j) 0)(hi:i<L.length):Cg q (x i) 0:=by
 have k0:=h.xx hq (m:=W) (x:=qS L x) (λt ht=>(Cg.of_eq (J3 h.lt _ _)).trans (hx t ht)) (dQ hi h.len);rw [J3 h.lt] at k0;have s:Cg q (ah L.length λj=>M i (L.getD j 0)*x j) (ah L.length λj=>if j=i then M i (L.getD j 0)*x j else 0):=dq λj hj=>by
  by_cases y:j=i;·rw [ao y];exact Cg.refl _
  ·rw [aq y]
   have:=(h.off i j (dQ hi h.len) hj (λe=>y e.symm)).mulR (x j);rw [iT] at this;exact this
 rw [kY _ _ (λj=>M i (L.getD j 0)*x j) hi] at s;exact fZ hq (h.lead i hi) (s.symm.trans k0)
theorem cJ.col(hq:aD q){R:aE}{c:Nat->Int}{last E:Int}(h:cJ q P W cV A M c L last ai)(kr:∀ps∈ai,∀p∈ps,aC q p.2)(rR:cS q L.length W (atT ai) R E)(ht:t<cV.length)(hk:k<W):Cg q (ah L.length λj=>A t (L.getD j 0)*R j k) (A t k*E):=by
 have s:=h.red.rd.sol hq (m:=W) (c:=k) (X:=qS L λj=>R j k) (E:=E) (aP _) hk h.red.rd.lt (λj hj=>by rw [Z4 h.red.rd.up _ hj];obtain ⟨ps,p1,p2⟩:=k9 h.len h.bY hj hk;exact EH hq (h.val j k hj hk) (rR.2 j k hj hk) (kr ps p1 _ p2)) (λk' _ nk=>by rw [Z5 _ nk];exact Cg.refl _) ht
 rw [J3 h.red.rd.lt] at s;exact s
theorem dI.QA(hq:aD q)(h:dI q n A M L W)(ind:∀y:Nat->Int,(∀k,k<W->Cg q (ah n λt=>y t*A t k) 0)->∀t,t<n->Cg q (y t) 0):L.length=n:=by
 refine oS λne=>?_;have ll:=h.len;obtain ⟨f,hf⟩:=m8 (n:=n) (α:=Int×(Nat->Int)) (R:=λt p=>¬q∣p.1/\∀k,k<W->Cg q (p.1*A t k) (ah L.length λj=>p.2 j*M j k)) λt ht=>by obtain ⟨e,y,n1,h1,_⟩:=h.done ht;exact (ad (e,y) n1 h1)
 obtain ⟨x,c,cn,nx,hx⟩:=Qy hq (show L.length<n by lia) λj t=>(f t).2 j
 have z:=ind (λt=>x t*(f t).1) (λk hk=>by
  have e1:Cg q (ah n λt=>x t*(f t).1*A t k) (ah n λt=>x t*ah L.length λj=>(f t).2 j*M j k):=dq λt ht=>(Cg.of_eq (by grind)).trans (((hf t ht).2 k hk).mulL (x t))
  refine e1.trans ?_;have e2:(ah n λt=>x t*ah L.length λj=>(f t).2 j*M j k)=ah L.length λj=>M j k*ah n λt=>(f t).2 j*x t:=by rw [dc (g:=λt=>ah L.length λj=>x t*((f t).2 j*M j k)) λt _=>cD _ _ _,tq];refine dc λj _=>?_;rw [cD];exact dc λt _=>by grind
  rw [e2];have:=dq (q:=q) (n:=L.length) (f:=λj=>M j k*ah n λt=>(f t).2 j*x t) (g:=λ_=>0) λj hj=>by have z:=(hx j hj).mulL (M j k);rw [cI] at z;exact z
  rw [gz] at this;exact this) c cn
 exact i5 hq nx (hf c cn).1 (JR z)
def bW(L:List Nat)(aa:aH):List (List (Int×Int)):=aa.map λps=>L.map λc=>ps.getD c o1
def d9(D:List Nat)(aa:aH):List (List (Int×Int)):=D.map λi=>aa.getD i []
section
variable {q:Int} {n m:Nat} {aa:aH} {L D:List Nat}
theorem ng:(bW L aa).length=aa.length:=by unfold bW;simp
theorem qT:∀ps∈bW L aa,ps.length=L.length:=λps hp=>by unfold bW at hp;obtain ⟨p,_,e⟩:=fI.mp hp;rw [<-e,aV]
theorem BE(ht:t<aa.length):(bW L aa).getD t []=L.map λc=>(aa.getD t []).getD c o1:=by
 rw [getD_at (by rw [ng];exact ht),getD_at ht]
 unfold bW;simp
theorem Z7(ht:t<aa.length)(hj:j<L.length):atT (bW L aa) t j=atT aa t (L.getD j 0):=by unfold atT;rw [BE ht,getD_at (by simpa using hj),iU,getD_at hj]
theorem xD:(d9 D aa).length=D.length:=by unfold d9;simp
theorem E3(hi:i<D.length):(d9 D aa).getD i []=aa.getD (D.getD i 0) []:=by
 rw [getD_at (by rw [xD];exact hi),getD_at hi]
 unfold d9;simp
theorem Z8(hi:i<D.length):atT (d9 D aa) i j=atT aa (D.getD i 0) j:=by unfold atT;rw [E3 hi]
theorem J4(hm:∀ps∈aa,ps.length=m)(hD:∀d∈D,d<aa.length):∀ps∈d9 D aa,ps.length=m:=λps hp=>by unfold d9 at hp;obtain ⟨d,hd,e⟩:=fI.mp hp;rw [<-e,getD_at (hD d hd)];exact hm _ (aG _)
theorem Z9(ht:t<m)(hk:k<aa.length):atT (bL m aa) t k=atT aa k t:=by
 unfold atT;rw [k_ ht,getD_at (by simpa using hk),iU,getD_at hk]
 rfl
theorem BF:∀ps∈bL m aa,ps.length=aa.length:=λps hp=>by unfold bL at hp;obtain ⟨j,_,e⟩:=fI.mp hp;rw [<-e,aV]
variable {T:aE} {F:Int}
theorem E4(hn:aa.length=n)(hL:∀l∈L,l<m)(r:cS q n m (atT aa) T F):cS q n L.length (atT (bW L aa)) (λt j=>T t (L.getD j 0)) F:=by
 refine ⟨r.1,λt j ht hj=>?_⟩;rw [Z7 ⋯ hj]
 exact r.2 t _ ht (hL _ (by rw [getD_at hj];exact aG _))
theorem E5(hn:aa.length=n)(r:cS q n m (atT aa) T F):cS q m n (atT (bL m aa)) (λj t=>T t j) F:=by
 refine ⟨r.1,λt j ht hj=>?_⟩;rw [Z9 ht ⋯]
 exact r.2 j t hj ht
theorem QB(hD:∀d∈D,d<n)(r:cS q n m (atT aa) T F):cS q D.length m (atT (d9 D aa)) (λi j=>T (D.getD i 0) j) F:=by refine ⟨r.1,λt j ht hj=>?_⟩;rw [Z8 ht];exact r.2 _ j (hD _ (by rw [getD_at ht];exact aG _)) hj
variable {P P2:Nat} {ai xF:aH} {A M A2 M2:aE} {c c2:Nat->Int} {last J5:Int}
theorem cJ.QC(hq:aD q)(h:cJ q P m aa A M c L last ai)(hn:aa.length=n)(hm:∀ps∈aa,ps.length=m)(hb:∀ps∈aa,∀p∈ps,aC q p.2)(r:cS q n m (atT aa) T F)(hx:∀t,t<n->Cg q (ah L.length λj=>T t (L.getD j 0)*x j) 0)(hi:i<L.length):Cg q (x i) 0:=by
 refine h.red.rd.Z6 hq (λt ht=>?_) hi;have QD:t<n:=by lia
 refine fZ hq (r.1.nz hq) ?_;have s:Cg q (F*ah L.length λj=>A t (L.getD j 0)*x j) (c t*ah L.length λj=>T t (L.getD j 0)*x j):=by
  rw [cD,cD];exact dq λj hj=>by
   have lj:L.getD j 0<m:=h.red.rd.lt _ (by rw [getD_at hj];exact aG _)
   have e:=h.tI hq hn hn hm (λ_ _ _ _=>rfl) (aP _) hb r QD lj;exact (Cg.of_eq (by grind)).trans ((e.symm.mulR (x j)).trans (Cg.of_eq (by grind)))
 have z:=(hx t QD).mulL (c t);rw [cI] at z;exact s.trans z
theorem cJ.QE(hq:aD q)(h:cJ q P m aa A M c L last ai)(hn:aa.length=n)(hm:∀ps∈aa,ps.length=m)(hb:∀ps∈aa,∀p∈ps,aC q p.2)(kr:∀ps∈ai,∀p∈ps,aC q p.2){R:aE}{E:Int}(r:cS q n m (atT aa) T F)(rR:cS q L.length m (atT ai) R E)(ht:t<n)(hk:k<m):Cg q (ah L.length λj=>T t (L.getD j 0)*R j k) (T t k*E):=by
 have ct:=h.bot t ⋯
 refine qP hq (ct.nz hq) ?_;have e:=λk hk=>h.tI hq hn hn hm (λ_ _ _ _=>rfl) (aP _) hb r (i:=t) (k:=k) ht hk;have s:Cg q (c t*ah L.length λj=>T t (L.getD j 0)*R j k) (F*ah L.length λj=>A t (L.getD j 0)*R j k):=by
  rw [cD,cD];exact dq λj hj=>by
   have lj:L.getD j 0<m:=h.red.rd.lt _ (by rw [getD_at hj];exact aG _)
   exact (Cg.of_eq (by grind)).trans (((e _ lj).mulR (R j k)).trans (Cg.of_eq (by grind)))
 have s2:=(h.col hq kr rR (show t<aa.length by lia) hk).mulL F
 exact s.trans (s2.trans ((Cg.of_eq (by grind)).trans (((e k hk).symm.mulR E).trans (Cg.of_eq (by grind)))))
theorem cJ.QF(hq:aD q)(h:cJ q P m aa A M c L last ai)(h2:cJ q P2 n (bL L.length (bW L aa)) A2 M2 c2 D J5 xF)(hn:aa.length=n)(hm:∀ps∈aa,ps.length=m)(hb:∀ps∈aa,∀p∈ps,aC q p.2)(p4:∀ps∈bL L.length (bW L aa),∀p∈ps,aC q p.2)(r:∃T F,cS q n m (atT aa) T F):D.length=L.length:=by
 obtain ⟨T,F,r⟩:=r;have lc:(bL L.length (bW L aa)).length=L.length:=gi _ _;have rd:=h2.red.rd;rw [lc] at rd;have rL:=E5 (aa:=bW L aa) (by rw [ng];exact hn) (E4 hn h.red.rd.lt r)
 refine rd.QA hq λy hy j hj=>?_;have z:=h.QC hq hn hm hb r (x:=λj=>y j*c2 j) (λt ht=>by
  have s:Cg q (ah L.length λj=>T t (L.getD j 0)*(y j*c2 j)) (F*ah L.length λj=>y j*A2 j t):=by
   rw [cD];exact dq λj hj=>by
    have e:=h2.tI hq lc lc (m:=n) (λps hp=>by rw [BF ps hp,ng];exact hn) (λ_ _ _ _=>rfl) (aP _) p4 rL hj ht
    exact (Cg.of_eq (by grind)).trans ((e.mulL (y j)).trans (Cg.of_eq (by grind)))
  have z:=(hy t ht).mulL F;rw [cI] at z;exact s.trans z) hj
 have Z_:=(h2.bot j (by rw [lc];exact hj)).nz hq
 refine fZ hq Z_ ((Cg.of_eq (fU ..)).trans z)
theorem cJ.aaa(hq:aD q)(h:cJ q P m aa A M c L last ai)(h2:cJ q P2 n (bL L.length (bW L aa)) A2 M2 c2 D J5 xF)(hn:aa.length=n)(hm:∀ps∈aa,ps.length=m)(hb:∀ps∈aa,∀p∈ps,aC q p.2)(p4:∀ps∈bL L.length (bW L aa),∀p∈ps,aC q p.2)(J6:∀ps∈xF,∀p∈ps,aC q p.2)(r:∃T F,cS q n m (atT aa) T F)(r2:∃R E,cS q D.length n (atT xF) R E)(k:JJ q L.length (d9 D (bW L aa))):False:=by
 have dl:=h.QF hq h2 hn hm hb p4 r;obtain ⟨T,F,r⟩:=r;obtain ⟨R,E,r2⟩:=r2;intros am13 k x c0 cl nx hx;have lc:(bL L.length (bW L aa)).length=L.length:=gi _ _;have rP:=E4 hn h.red.rd.lt r;have rL:=E5 (aa:=bW L aa) (by rw [ng];exact hn) rP
 have hD:∀d∈D,d<n:=h2.red.rd.lt;have jG:=hx _ F (by have:=QB hD rP;rw [dl] at this;exact this)
 refine nx (JR (h.QC hq hn hm hb r (x:=x) (λt ht=>?_) cl));refine fZ hq (r2.1.nz hq) ?_;have s:Cg q (E*ah L.length λj=>T t (L.getD j 0)*x j) (ah L.length λj=>x j*ah D.length λi=>T (D.getD i 0) (L.getD j 0)*R i t):=by
  rw [cD];exact dq λj hj=>by
   have e:=h2.QE hq lc (λps hp=>by rw [BF ps hp,ng];exact hn) p4 J6 rL r2 hj ht
   exact (Cg.of_eq (by grind)).trans ((e.symm.mulL (x j)).trans (Cg.refl _))
 refine s.trans ?_;have e2:(ah L.length λj=>x j*ah D.length λi=>T (D.getD i 0) (L.getD j 0)*R i t)=ah D.length λi=>R i t*ah L.length λj=>T (D.getD i 0) (L.getD j 0)*x j:=by rw [dc (g:=λj=>ah D.length λi=>x j*(T (D.getD i 0) (L.getD j 0)*R i t)) λj _=>cD _ _ _,tq];refine dc λi _=>?_;rw [cD];exact dc λj _=>by grind
 rw [e2];have:=dq (q:=q) (n:=D.length) (f:=λi=>R i t*ah L.length λj=>T (D.getD i 0) (L.getD j 0)*x j) (g:=λ_=>0) λi hi=>by
  have z:=(jG i ⋯).mulL (R i t)
  rw [cI] at z;exact z
 rw [gz] at this;exact this
end
def aab:Sp:=λvs H Q _=>∃(a l:Addr) (xs:List V) (L:List Nat),vs=[.ref a,.ref l]/\H a=some (.lst xs)/\H l=some (.lst (a7 L))/\(∀i∈L,i<xs.length)/\L.length<=40 /\
 ∀(b:Addr) (H':Hp),ag H H'->H b=none->H' b=some (.lst (L.map λi=>xs.getD i .bg))->Q (.ref b) H'
def aac:Sp:=λvs H Q _=>∃a:Addr,vs=[.ref a]/\H a=some (.lst [])/\Q (.int 0) H
def aad:Sp:=λvs H Q _=>∃z a b:Addr,vs=[.ref z,.ref a,.ref b]/\H a=some (.lst [])/\H b=some (.lst [])/\∀(r:Addr) (H':Hp),ag H H'->H r=none->H' r=some (.lst [])->Q (.ref r) H'
def aae(C:Addr):Sp:=λvs H Q _=>∃(z a:Addr) (q:Int),vs=[.ref z,.ref a]/\da C H z q/\aD q/\H a=some (.lst [])/\∀(r:Addr) (H':Hp),ag H H'->H r=none->H' r=some (.lst [])->Q (.ref r) H'
theorem QG(e:H a=some (.lst (L.map λi=>xs.getD i .bg)))(lx:xs.length=ps.length)(f:∀(i:Nat) (v:V) (p:Int×Int),xs[i]?=some v->ps[i]?=some p->cH B H q v p.1 p.2)(hL:∀i∈L,i<ps.length):aM B H q a (L.map λc=>ps.getD c o1):=by
 refine (am _ e (by rw [aV,aV]) (λi v p h1 h2=>?_))
 have hi:i<L.length:=by have:=(aL.mp h1).1;simpa using this
 have li:=hL _ (aG hi);have BG:L[i]<xs.length:=by lia
 rw [bu,d5 hi] at h1 h2;simp [li,BG] at h1 h2;subst h1 h2;exact f L[i] xs[L[i]] ps[L[i]] (by simp [BG]) (by simp [li])
theorem aaf(e:H a=some (.lst (L.map λi=>xs.getD i .bg)))(lx:xs.length=aa.length)(f:∀(i:Nat) (v:V) (ps:aI),xs[i]?=some v->aa[i]?=some ps->∃r:Addr,v=.ref r/\aM B H q r ps)(hL:∀i∈L,i<aa.length):aU B H q a (d9 L aa):=by
 refine (am _ e (by rw [aV,xD]) (λi v p h1 h2=>?_))
 have hi:i<L.length:=by have:=(aL.mp h1).1;simpa using this
 have li:=hL _ (aG hi);have BG:L[i]<xs.length:=by lia
 unfold d9 at h2;rw [bu,d5 hi] at h1 h2;simp [li,BG] at h1 h2;subst h1 h2;exact f L[i] xs[L[i]] aa[L[i]] (by simp [BG]) (by simp [li])
theorem QH(h:bj q E ps)(hL:∀i∈L,i<ps.length):bj q E (L.map λc=>ps.getD c o1):=by
 intros am15 h D x ok bD dv hx;refine (gl D (λj=>x (L.getD j 0)) ok bD (λp hp=>?_) (λj hj=>?_))
 ·obtain ⟨c,hc,e⟩:=fI.mp hp
  rw [<-e];refine dv _ ?_;rw [getD_at (hL c hc)];exact aG _
 ·have eG:j<L.length:=by simpa using hj
  have e:(L.map λc=>ps.getD c o1).getD j o1=ps.getD (L.getD j 0) o1:=by rw [getD_at hj,iU,getD_at eG]
  rw [e];exact hx _ (hL _ (by rw [getD_at eG];exact aG _))
def UB(k E:Nat):Prop:=∀r,r<=k->r*(br r*E ^ r)<2 ^ 2048
theorem E6(E:Nat):∀r,bS r (λ_=>E)=E ^ r
 | 0=>rfl
 | r+1=>by show bS r (λ_=>E)*E=E ^ (r+1);rw [E6 E r,nP]
def aag(C N:Addr):Sp:=λvs H Q _=>∃(z a:Addr) (q:Int) (B E F m:Nat) (aa:aH),vs=[.ref z,.ref a]/\da C H z q/\aD q/\aU B H q a aa/\10 ^ 60<=B/\B<2 ^ 2048/\1<=aa.length/\aa.length<=30/\(∀ps∈aa,ps.length=m)/\m<=30/\(∀ps∈aa,bj q E ps)/\(∀ps∈bL m aa,bj q F ps)/\1000<=E/\E<2 ^ 2048/\1000<=F/\F<2 ^ 2048/\UB aa.length E/\UB m F/\UB m E /\
 ∀(p lf rt dn ac bk:Addr) (L D:List Nat) (ai cU:aH) (H':Hp),ag H H'->H' p=some (.tup [.ref lf,.ref rt,.ref dn,.ref ac,.ref bk])->H' ac=some (.lst (a7 L))->H' dn=some (.lst (a7 D))->aU B H' q lf (bW L aa)->aU (aa.length*(br aa.length*E ^ aa.length)) H' q rt ai->aU (L.length*(br L.length*E ^ L.length)) H' q bk cU->
  i_ q aa.length m aa L->L.length<=aa.length->D.length=L.length->D.Pairwise (· < ·)->(∀d∈D,d<aa.length)->ai.length=L.length->(∀ps∈ai,ps.length=m)->cU.length=L.length->(∀ps∈cU,ps.length=L.length)->
  (∀T F R E',cS q aa.length m (atT aa) T F->cS q L.length m (atT ai) R E'->∀t k,t<aa.length->k<m->Cg q (ah L.length λj=>T t (L.getD j 0)*R j k) (T t k*E'))->
  (L.length≠0->BB q L.length (d9 D (bW L aa)) cU)->(∀ps∈ai,bj q (aa.length*(br aa.length*E ^ aa.length)) ps)->(∀ps∈cU,bj q (L.length*(br L.length*E ^ L.length)) ps)->(∀ps∈bL m ai,bj q (aa.length*(br aa.length*E ^ aa.length)) ps)->(∀ps∈bL L.length cU,bj q (L.length*(br L.length*E ^ L.length)) ps)->Q (.ref p) H'
def aah:Sp:=λvs H Q _=>∃(l:Addr) (L:List Nat),vs=[.ref l]/\H l=some (.lst (a7 L))/\L.length<=40/\L.Pairwise (· < ·)/\∀H',ag H H'->Q (.bl true) H'
def aai:Sp:=λvs H Q _=>∃(l:Addr) (L:List Nat) (k b:Nat),vs=[.ref l,.int (k:Int),.int (b:Int)]/\H l=some (.lst (a7 L))/\L.length=k/\k<=40/\L.Pairwise (· < ·)/\(∀i∈L,i<b)/\∀H',ag H H'->Q (.bl true) H'
def aaj(C:Addr):Sp:=λvs H Q _=>∃(z a o:Addr) (q:Int) (Ba Bo E F r m:Nat) (aa ai:aH),vs=[.ref z,.ref a,.ref o,.int (m:Int)]/\da C H z q/\aD q/\aU Ba H q a aa/\aU Bo H q o ai/\1000<=Ba/\Ba<2 ^ 2048/\1000<=Bo/\Bo<2 ^ 2048/\E<2 ^ 2048/\F<2 ^ 2048/\F*E<2 ^ 2048/\aa.length<=40/\ai.length<=40/\m<=40/\ai.length=r/\(∀ps∈ai,ps.length=m)/\(∀ps∈aa,ps.length=r/\bj q E ps)/\(∀ps∈bL m ai,bj q F ps) /\
 ∀(b:Addr) (H':Hp) (vs:List V),ag H H'->H b=none->H' b=some (.lst vs)->vs.length=aa.length->(∀(i:Nat) (v:V) (ps:aI),vs[i]?=some v->aa[i]?=some ps->∃r:Addr,v=.ref r/\H r=none/\iJ H' q r ((bL m ai).map λrs=>aW rs ps (0,1)))->Q (.ref b) H'
def aak:Sp:=λvs H Q _=>∃a:Addr,vs=[.ref a]/\H a=some (.lst [])/\∀(b:Addr) (H':Hp),ag H H'->H b=none->H' b=some (.lst [])->Q (.ref b) H'
def aal(C:Addr):Sp:=λvs H Q _=>∃(z a o:Addr) (q:Int) (Ba Bo E F r:Nat) (aa ai:aH),vs=[.ref z,.ref a,.ref o]/\da C H z q/\aD q/\aU Ba H q a aa/\aU Bo H q o ai/\1000<=Ba/\Ba<2 ^ 2048/\1000<=Bo/\Bo<2 ^ 2048/\E<2 ^ 2048/\F<2 ^ 2048/\F*E<2 ^ 2048/\r<=40/\aa.length=r/\ai.length=r/\(∀ps∈aa,ps.length=r/\bj q E ps)/\(∀ps∈ai,ps.length=r)/\(∀ps∈bL r ai,bj q F ps) /\
 ∀(b:Addr) (H':Hp) (vs:List V),ag H H'->H b=none->H' b=some (.lst vs)->vs.length=aa.length->(∀(i:Nat) (v:V) (ps:aI),vs[i]?=some v->aa[i]?=some ps->∃r':Addr,v=.ref r'/\H r'=none/\iJ H' q r' ((bL r ai).map λrs=>aW rs ps (0,1)))->Q (.ref b) H'
theorem aU.has(h:aU B H q a aa)(hm:∀ps∈aa,ps.length=m):∃xs:List V,H a=some (.lst xs)/\xs.length=aa.length/\∀v∈xs,∃(r:Addr) (us:List V),v=.ref r/\H r=some (.lst us)/\us.length=m:=by
 intros am7 h vs e l f;refine (am vs e l (λv hv=>?_));obtain ⟨i,hi,ei⟩:=eJ.mp hv;have i2:i<aa.length:=by lia
 obtain ⟨r,e1,us,e2,e3,_⟩:=f i v aa[i] (by rw [d5 hi,ei]) (by simp [i2])
 exact (ce r us e1 e2 (by rw [e3];exact hm _ (aG i2)))
def aam(C N:Addr):Sp:=λvs H Q _=>∃(z a p lf rt dn ac bk:Addr) (q:Int) (B Bx By E Fx Fy m:Nat) (aa ai cU:aH) (L D:List Nat),vs=[.ref z,.ref a,.ref p]/\da C H z q/\aD q/\aU B H q a aa/\H p=some (.tup [.ref lf,.ref rt,.ref dn,.ref ac,.ref bk])/\H ac=some (.lst (a7 L))/\H dn=some (.lst (a7 D))/\aU B H q lf (bW L aa)/\aU Bx H q rt ai/\aU By H q bk cU /\
 1000<=B/\B<2 ^ 2048/\1000<=Bx/\Bx<2 ^ 2048/\1000<=By/\By<2 ^ 2048/\E<2 ^ 2048/\Fx<2 ^ 2048/\Fy<2 ^ 2048/\Fx*E<2 ^ 2048/\Fy*E<2 ^ 2048/\1<=aa.length/\aa.length<=30/\(∀ps∈aa,ps.length=m)/\m<=30/\(∀ps∈aa,bj q E ps) /\
 i_ q aa.length m aa L/\L.length<=aa.length/\D.length=L.length/\D.Pairwise (· < ·)/\(∀d∈D,d<aa.length)/\ai.length=L.length/\(∀ps∈ai,ps.length=m)/\cU.length=L.length/\(∀ps∈cU,ps.length=L.length) /\
 (∀T F R E',cS q aa.length m (atT aa) T F->cS q L.length m (atT ai) R E'->∀t k,t<aa.length->k<m->Cg q (ah L.length λj=>T t (L.getD j 0)*R j k) (T t k*E')) /\
 (L.length≠0->BB q L.length (d9 D (bW L aa)) cU)/\(∀ps∈bL m ai,bj q Fx ps)/\(∀ps∈bL L.length cU,bj q Fy ps)/\∀H',ag H H'->Q (.bl true) H'
section
variable {q:Int} {m:Nat} {aa ai cU:aH} {L D:List Nat}
theorem QI(hq:aD q)(hm:∀ps∈aa,ps.length=m)(hL:∀l∈L,l<m)(lr:ai.length=L.length)(wr:∀ps∈ai,ps.length=m)(rT:∃T F,cS q aa.length m (atT aa) T F)(rR:∃R E',cS q L.length m (atT ai) R E')(h:∀T F R E',cS q aa.length m (atT aa) T F->cS q L.length m (atT ai) R E'->∀t k,t<aa.length->k<m->Cg q (ah L.length λj=>T t (L.getD j 0)*R j k) (T t k*E'))(ht:t<aa.length)(hk:k<m):a8 q (aW ((bL m ai).getD k []) ((bW L aa).getD t []) (0,1)) (atT aa t k):=by
 intros am1 rT T F rT;intros am1 rR R E' rR;have rP:=E4 rfl hL rT;have w:=tM (q:=q) (n:=L.length) (ps:=(bL m ai).getD k []) (rs:=(bW L aa).getD t []) (f:=λj=>R j k) (g:=λj=>T t (L.getD j 0)) (D1:=E') (D2:=F) (by rw [k_ hk,aV,lr]) (by rw [BE ht,aV]) (λj hj=>by have z:=(E5 (aa:=ai) lr rR).2 k j hk hj;exact z) (λj hj=>rP.2 t j ht hj)
 refine w.trans (a8.trans ?_ (rT.2 t k ht hk).symm rT.1) (rR.1.mul rT.1);obtain ⟨c,e⟩:=h T F R E' rT rR t k ht hk;rw [dc (g:=λj=>R j k*T t (L.getD j 0)) λj _=>fU _ _] at e;refine ⟨c*F,?_⟩;dsimp only;grind
theorem QJ(hq:aD q){S:aH}{r:Nat}(lS:S.length=r)(wS:∀ps∈S,ps.length=r)(lf:cU.length=r)(rS:∃T F,cS q r r (atT S) T F)(rF:∃R E',cS q r r (atT cU) R E')(h:BB q r S cU)(ht:t<r)(hk:k<r):a8 q (aW ((bL r cU).getD k []) (S.getD t []) (0,1)) (if t=k then (1,1) else (0,1)):=by
 intros am1 rS T F rS;intros am1 rF R E' rF;have w:=tM (q:=q) (n:=r) (ps:=(bL r cU).getD k []) (rs:=S.getD t []) (f:=λj=>R j k) (g:=λj=>T t j) (D1:=E') (D2:=F) (by rw [k_ hk,aV,lf]) (by rw [getD_at ⋯];exact wS _ (aG _)) (λj hj=>(E5 (aa:=cU) lf rF).2 k j hk hj) (λj hj=>rS.2 t j ht hj)
 refine w.trans ?_ (rF.1.mul rS.1);obtain ⟨c,e⟩:=(h T F R E' rS rF t k ht hk).2;rw [dc (g:=λj=>R j k*T t j) λj _=>fU _ _] at e;by_cases y:t=k
 ·rw [ao y] at e ⊢
  exact ⟨c,by dsimp only;grind⟩
 ·rw [aq y] at e ⊢
  exact ⟨c,by dsimp only;grind⟩
end
def aan(q:Int)(n W:Nat)(M:aE):Prop:=∀y:Nat->Int,(∀k,k<W->Cg q (ah n λt=>y t*M t k) 0)->∀t,t<n->Cg q (y t) 0
structure jq (q:Int) (n W B:Nat) (A M:aE) (c j:Nat) (f:Nat->Nat):Prop where
 cn:c<=n
 J7:∀x:Nat->Int,(∀i,i<n->Cg q (ah W λk=>A i k*x k) 0)->∀i,i<n->Cg q (ah W λk=>M i k*x k) 0
 xx:∀x:Nat->Int,(∀i,i<n->Cg q (ah W λk=>M i k*x k) 0)->∀i,i<n->Cg q (ah W λk=>A i k*x k) 0
 fj:∀i,i<c->f i<j
 pV:∀i,i<c->¬q∣M i (f i)
 J8:∀i t,i<c->i<t->t<n->Cg q (M t (f i)) 0
 low:∀i k,c<=i->i<n->k<j->Cg q (M i k) 0
 rem:q≠0->∀i k,i<n->k<W->0<=M i k/\M i k<q
 bd:q=0->∀i k,i<n->k<W->2*(M i k).natAbs<=B ^ (2 ^ c)
theorem jq.start(hr:q≠0->∀i k,i<n->k<W->0<=A i k/\A i k<q)(hb:q=0->∀i k,i<n->k<W->2*(A i k).natAbs<=B):jq q n W B A A 0 0 (λ_=>0):=
 ⟨f_ _,λ_ h=>h,λ_ h=>h,λi h=>absurd h (mG _),λi h=>absurd h (mG _),λi _ h=>absurd h (mG _),λ_ k _ _ h=>absurd h (mG _),hr,λz i k hi hk=>by rw [show (2:Nat) ^ 0=1 from rfl,Nat.pow_one];exact hb z i k hi hk⟩
theorem jq.skip{f:Nat->Nat}(h:jq q n W B A M c j f)(z:∀i,c<=i->i<n->M i j=0):jq q n W B A M c (j+1) f:=
 ⟨h.cn,h.J7,h.xx,λi hi=>AD (h.fj i hi),h.pV,h.J8,λi k h1 h2 h3=>by
  by_cases y:k=j;·rw [y,z i h1 h2];exact Cg.refl _
  ·exact h.low i k h1 h2 ⋯,h.rem,h.bd⟩
theorem jq.next(hq:aD q)(b1:1<=B){s:Nat}{f:Nat->Nat}(h:jq q n W B A M c j f)(jn:j<W)(hs:c<=s)(sn:s<n)(ns:M s j≠0) :
  jq q n W B A (i9 q (cz M c s) c j (n-(c+1))) (c+1) (j+1) (λi=>if i=c then j else f i)/\(∀i k,i<n->k<W->(q≠0->0<=cz M c s i k/\cz M c s i k<q)/\(q=0->2*(cz M c s i k).natAbs<=B ^ (2 ^ c))):=by
 have e1:cz M c s c=M s:=by
  unfold cz;by_cases z:c=s;·rw [ao z,z]
  ·rw [aq z,ao rfl]
 have up:∀i,i<n->∃i',i'<n/\cz M c s i=M i'/\(i<c->i'=i)/\(c<=i->c<=i'):=λi hi=>by
  unfold cz;by_cases z1:i=s;·rw [ao z1];exact ⟨c,⋯,rfl,λ_=>by lia,λ_=>aP _⟩
  ·rw [aq z1]
   by_cases z2:i=c;·rw [ao z2];exact ⟨s,sn,rfl,λ_=>by lia,λ_=>hs⟩
   ·rw [aq z2];exact ⟨i,hi,rfl,λ_=>rfl,λz=>z⟩
 have dn:∀i,i<n->∃i',i'<n/\cz M c s i'=M i:=λi hi=>by
  by_cases z1:i=s;·exact ⟨c,⋯,by rw [e1,z1]⟩
  ·by_cases z2:i=c
   ·exact ⟨s,sn,by unfold cz;rw [ao rfl,z2]⟩
   ·exact ⟨i,hi,by unfold cz;rw [aq z1,aq z2]⟩
 have E7:∀x:Nat->Int,(∀i,i<n->Cg q (ah W λk=>A i k*x k) 0)->∀i,i<n->Cg q (ah W λk=>cz M c s i k*x k) 0:=λx hx i hi=>by obtain ⟨i',h1,h2,_⟩:=up i hi;rw [h2];exact h.J7 x hx i' h1
 have QK:∀x:Nat->Int,(∀i,i<n->Cg q (ah W λk=>cz M c s i k*x k) 0)->∀i,i<n->Cg q (ah W λk=>A i k*x k) 0:=λx hx=>h.xx x λi hi=>by obtain ⟨i',h1,h2⟩:=dn i hi;have:=hx i' h1;rw [h2] at this;exact this
 have J9:q≠0->∀i k,i<n->k<W->0<=cz M c s i k/\cz M c s i k<q:=λz i k hi hk=>by obtain ⟨i',h1,h2,_⟩:=up i hi;rw [h2];exact h.rem z i' k h1 hk
 have tN:q=0->∀i k,i<n->k<W->2*(cz M c s i k).natAbs<=B ^ (2 ^ c):=λz i k hi hk=>by obtain ⟨i',h1,h2,_⟩:=up i hi;rw [h2];exact h.bd z i' k h1 hk
 have J_:∀i k,c<=i->i<n->k<j->Cg q (cz M c s i k) 0:=λi k hc hi hk=>by obtain ⟨i',h1,h2,_,h4⟩:=up i hi;rw [h2];exact h.low i' k (h4 hc) h1 hk
 have E8:∀i t,i<c->i<t->t<n->Cg q (cz M c s t (f i)) 0:=λi t h1 h2 h3=>by
  obtain ⟨t',k1,k2,k3,k4⟩:=up t h3;rw [k2];refine h.J8 i t' h1 ?_ k1;by_cases z:t<c;·rw [k3 z];exact h2
  ·have:=k4 ⋯;lia
 have QL:∀i,i<c->i<n->cz M c s i=M i:=λi hi hn=>by obtain ⟨i',h1,h2,h3,_⟩:=up i hn;rw [h2,h3 hi]
 have np:¬q∣cz M c s c j:=by rw [e1];exact PK hq (λz=>h.rem z s j sn jn) ns
 refine ⟨?_,λi k hi hk=>⟨λz=>J9 z i k hi hk,λz=>tN z i k hi hk⟩⟩;generalize cz M c s=M1 at E7 QK J9 tN J_ E8 QL np;have p5:c<n:=by lia
 have new:∀i,c<i->i<n->i9 q M1 c j (n-(c+1)) i=λk=>if q=0 then M1 i k*M1 c j-M1 c k*M1 i j else (M1 i k*M1 c j-M1 c k*M1 i j) % q:=λi h1 h2=>by unfold i9;rw [ao ⟨h1,⋯⟩]
 have same:∀i,i<=c->i9 q M1 c j (n-(c+1)) i=M1 i:=λi h1=>by unfold i9;rw [aq (λz=>by lia)]
 have E9:∀i k,c<i->i<n->Cg q (i9 q M1 c j (n-(c+1)) i k) (M1 i k*M1 c j-M1 c k*M1 i j):=λi k h1 h2=>by
  rw [new i h1 h2];dsimp only;by_cases z:q=0;·rw [ao z];exact Cg.refl _
  ·rw [aq z];exact Bq q _
 have QM:∀x:Nat->Int,∀i,c<i->i<n->Cg q (ah W λk=>i9 q M1 c j (n-(c+1)) i k*x k) (M1 c j*(ah W λk=>M1 i k*x k)-M1 i j*ah W λk=>M1 c k*x k):=λx i h1 h2=>by
  have s1:Cg q (ah W λk=>i9 q M1 c j (n-(c+1)) i k*x k) (ah W λk=>M1 c j*(M1 i k*x k)-M1 i j*(M1 c k*x k)):=dq λk _=>((E9 i k h1 h2).mulR (x k)).trans (Cg.of_eq (by grind))
  refine s1.trans ?_;rw [PR,<-cD,<-cD];exact Cg.refl _
 refine ⟨⋯,λx hx i hi=>?_,λx hx=>QK x λi hi=>?_,λi hi=>?_,λi hi=>?_,λi t hi it tn=>?_,λi k h1 h2 h3=>?_,λz i k hi hk=>?_,λz i k hi hk=>?_⟩
 ·by_cases y:i<=c
  ·rw [same i y]
   exact E7 x hx i hi
  ·refine (QM x i ⋯ hi).trans ?_
   have a:=(E7 x hx i hi).mulL (M1 c j);have b:=(E7 x hx c p5).mulL (M1 i j);exact (a.sub b).trans (Cg.of_eq (by simp))
 ·have c0:Cg q (ah W λk=>M1 c k*x k) 0:=by have:=hx c p5;rw [same c (aP _)] at this;exact this
  by_cases y:i<=c
  ·have:=hx i hi
   rw [same i y] at this;exact this
  ·refine fZ hq np ?_
   have a:=(QM x i ⋯ hi).symm.trans (hx i hi)
   have b:=c0.mulL (M1 i j);have d:=a.add b;exact (Cg.of_eq ⋯).trans (d.trans (Cg.of_eq (by simp)))
 ·skip
  by_cases y:i=c;·rw [ao y];lia
  ·rw [aq y];exact AD (h.fj i ⋯)
 ·skip
  rw [same i ⋯]
  by_cases y:i=c;·rw [ao y,y];exact np
  ·rw [aq y,QL i ⋯ ⋯]
   exact h.pV i ⋯
 ·skip
  by_cases y:i=c
  ·rw [ao y]
   exact (E9 t j ⋯ tn).trans (Cg.of_eq (by grind))
  ·rw [aq y]
   by_cases w:t<=c
   ·rw [same t w]
    exact E8 i t ⋯ it tn
   ·refine (E9 t (f i) ⋯ tn).trans ?_
    have a:=(E8 i t ⋯ it tn).mulR (M1 c j)
    have b:=(E8 i c ⋯ ⋯ p5).mulR (M1 t j)
    exact (a.sub b).trans (Cg.of_eq (by simp))
 ·refine (E9 i k ⋯ h2).trans ?_
  by_cases w:k=j
  ·rw [w]
   exact Cg.of_eq (by grind)
  ·have a:=(J_ i k ⋯ h2 ⋯).mulR (M1 c j)
   have b:=(J_ c k (aP _) p5 ⋯).mulR (M1 i j)
   exact (a.sub b).trans (Cg.of_eq (by simp))
 ·by_cases y:i<=c
  ·rw [same i y]
   exact J9 z i k hi hk
  ·rw [new i ⋯ hi]
   dsimp only;rw [aq z];have q2:0<q:=by rcases hq with h | h <;> lia
   exact ⟨fi _ z,fH _ q2⟩
 ·have pw:B ^ (2 ^ (c+1))=B ^ (2 ^ c)*B ^ (2 ^ c):=by rw [nP,Nat.mul_two,Nat.pow_add]
  have p1:1<=B ^ (2 ^ c):=sq b1;by_cases y:i<=c
  ·rw [same i y,pw]
   exact au (tN z i k hi hk) (nO _ p1)
  ·rw [new i ⋯ hi,pw]
   dsimp only;rw [ao z];have a1:=tN z i k hi hk;have a2:=tN z c j p5 jn;have a3:=tN z c k p5 hk;have a4:=tN z i j hi jn;generalize B ^ (2 ^ c)=X at a1 a2 a3 a4 p1 ⊢;have t:(M1 i k*M1 c j-M1 c k*M1 i j).natAbs<=(M1 i k).natAbs*(M1 c j).natAbs+(M1 c k).natAbs*(M1 i j).natAbs:=by refine au (Int.natAbs_sub_le ..) ?_;rw [bU,bU];exact aP _
   have m1:=cA a1 a2;have m2:=cA a3 a4;have e1:2*(M1 i k).natAbs*(2*(M1 c j).natAbs)=4*((M1 i k).natAbs*(M1 c j).natAbs):=by grind
   have e2:2*(M1 c k).natAbs*(2*(M1 i j).natAbs)=4*((M1 c k).natAbs*(M1 i j).natAbs):=by grind
   lia
theorem jq.ind(hq:aD q){f:Nat->Nat}(h:jq q n W B A M c W f):aan q c W M:=λy hy=>by
 have cn:=h.cn;have main:∀m t,t<c->t<m->Cg q (y t) 0:=λm=>by
  induction m with
  | zero=>intro t _ ht;lia
  | succ m ih=>
   intro t tc tm;refine fZ hq (h.pV t tc) ?_;have z:=hy (f t) (h.fj t tc);have s:Cg q (ah c λs=>y s*M s (f t)) (ah c λs=>if s=t then y s*M s (f t) else 0):=dq λs hs=>by
    by_cases w:s=t;·rw [ao w];exact Cg.refl _
    ·rw [aq w]
     by_cases v:s<t
     ·have:=(ih s hs ⋯).mulR (M s (f t))
      rw [iT] at this;exact this
     ·have:=(h.J8 t s tc ⋯ ⋯).mulL (y s)
      rw [cI] at this;exact this
   rw [kY c t (λs=>y s*M s (f t)) tc] at s;exact (Cg.of_eq (fU ..)).trans (s.symm.trans z)
 exact λt ht=>main (t+1) t ht ⋯
variable {T:aE}
theorem QN(hq:aD q){b:Nat->Int}(hn:aa.length=n)(hm:∀ps∈aa,ps.length=m)(hb:∀ps∈aa,∀p∈ps,aC q p.2)(hc:∀i,i<n->aC q (b i))(row:∀i k,i<n->k<m->A i k*(atT aa i k).2=(atT aa i k).1*b i)(r:cS q n m (atT aa) T D)(x:Nat->Int)(hi:i<n):Cg q (ah m λk=>A i k*x k) 0↔Cg q (ah m λk=>T i k*x k) 0:=by
 have s1:Cg q (D*ah m λk=>A i k*x k) (b i*ah m λk=>T i k*x k):=by rw [cD,cD];refine dq λk hk=>?_;obtain ⟨ps,h1,h2⟩:=k9 hn hm hi hk;have:=(Bz hq (row i k hi hk) (r.2 i k hi hk) (hb ps h1 _ h2)).symm.mulR (x k);exact (Cg.of_eq (by grind)).trans (this.trans (Cg.of_eq (by grind)))
 constructor
 ·intro h
  have:=h.mulL D;rw [cI] at this;exact fZ hq ((hc i hi).nz hq) (s1.symm.trans this)
 ·intro h
  have:=h.mulL (b i);rw [cI] at this;exact fZ hq (r.1.nz hq) (s1.trans this)
theorem jq.lead(hq:aD q){f:Nat->Nat}(h:jq q n W B A M c W f){b:Nat->Int}(hn:aa.length=n)(hm:∀ps∈aa,ps.length=W)(hb:∀ps∈aa,∀p∈ps,aC q p.2)(hc:∀i,i<n->aC q (b i))(row:∀i k,i<n->k<W->A i k*(atT aa i k).2=(atT aa i k).1*b i):∃L,i_ q n W aa L/\L.length=c:=by
 obtain ⟨M2,L,h2⟩:=EZ hq c M W
 have cn:=h.cn
 refine ⟨L,⟨h2.up,h2.lt,λT D r c0 Ka=>(h2.ER hq Ka).trans ?_⟩,h2.QA hq (h.ind hq)⟩
 have conv:∀x:Nat->Int,(∀t,t<c->Cg q (ah W λk=>M t k*x k) 0)↔(∀t,t<n->Cg q (ah W λk=>T t k*x k) 0):=λx=>by
  constructor
  ·intro g t ht
   refine (QN hq hn hm hb hc row r x ht).mp (h.xx x (λi hi=>?_) t ht)
   by_cases y:i<c
   ·exact g i y
   ·have:=dq (q:=q) (n:=W) (f:=λk=>M i k*x k) (g:=λ_=>0) λk hk=>by
     have:=(h.low i k ⋯ hi hk).mulR (x k)
     rw [iT] at this
     exact this
    rw [gz] at this
    exact this
  ·intro g t ht
   exact h.J7 x (λi hi=>(QN hq hn hm hb hc row r x hi).mpr (g i hi)) t ⋯
 exact ⟨λg x x0 hx=>g x x0 ((conv x).mpr hx),λg x x0 hx=>g x x0 ((conv x).mp hx)⟩
theorem aao(hq:aD q)(hn:aa.length=n)(hm:∀ps∈aa,ps.length=m)(hb:∀ps∈aa,∀p∈ps,aC q p.2)(r:cS q n m (atT aa) T D):∃L M,i_ q n m aa L/\dI q n T M L m:=by
 obtain ⟨M,L,h⟩:=EZ hq n T m
 refine ⟨L,M,⟨h.up,h.lt,λT' D' r' c0 Ka=>(h.ER hq Ka).trans ?_⟩,h⟩
 have conv:∀(x:Nat->Int) (t:Nat),t<n->(Cg q (ah m λk=>T t k*x k) 0↔Cg q (ah m λk=>T' t k*x k) 0):=λx t ht=>by
  have s1:Cg q (D'*ah m λk=>T t k*x k) (D*ah m λk=>T' t k*x k):=by
   rw [cD,cD]
   refine dq λk hk=>?_
   obtain ⟨ps,h1,h2⟩:=k9 hn hm ht hk
   have w:a8 q (T t k,D) (T' t k,D'):=(r.2 t k ht hk).symm.trans (r'.2 t k ht hk) (hb ps h1 _ h2)
   have w:Cg q (T t k*D') (T' t k*D):=w
   exact (Cg.of_eq (by grind)).trans ((w.mulR (x k)).trans (Cg.of_eq (by grind)))
  constructor
  ·intro g
   have:=g.mulL D'
   rw [cI] at this
   exact fZ hq (r.1.nz hq) (s1.symm.trans this)
  ·intro g
   have:=g.mulL D
   rw [cI] at this
   exact fZ hq (r'.1.nz hq) (s1.trans this)
 exact ⟨λg x x0 hx=>g x x0 λt ht=>(conv x t ht).mpr (hx t ht),λg x x0 hx=>g x x0 λt ht=>(conv x t ht).mp (hx t ht)⟩
def aap:Sp:=λvs H Q _=>∃(q:Int) (a:Addr) (B m:Nat) (aa:aH),vs=[.int q,.ref a,.int (m:Int)]/\aD q/\aU B H q a aa/\aa.length<=40/\(∀ps∈aa,ps.length=m)/\m<=40/\1000<=B/\(q=0->(2*B ^ (m+1)) ^ (2 ^ (aa.length-2))<2 ^ 8192)/\∀(L:List Nat) (H':Hp),ag H H'->i_ q aa.length m aa L->Q (.int (L.length:Int)) H'
def QO:Sp:=λvs H Q _=>∃(q:Int) (a b:Addr) (B C:Nat) (ps rs:aI),vs=[.int q,.ref a,.ref b]/\aD q/\aM B H q a ps/\aM C H q b rs/\1<=B/\1<=C/\ps.length<=40/\rs.length<=40/\(q=0->40*(B*C) ^ ps.length<2 ^ 8192)/\∀(v:V) (H':Hp),ag H H'->cN H' q v (aW ps rs (0,1)).1 (aW ps rs (0,1)).2->Q v H'
theorem aO.imp{P:Program}{f:Addr}{ps:List Str}(F:aO P w K mg base CX k f fd ps sp)(h:∀vs H Q E,BD vs H Q E->sp vs H Q E):aO P w K mg base CX k f fd ps BD:=
 ⟨λvs H Q E q=>F.len vs H Q E (h vs H Q E q),λA outer s H args us vs Q E hr he hb hv hs=>F.run A outer s H args us vs Q E hr he hb hv (h vs H Q E hs)⟩
def aaq:Sp:=λvs H Q _=>∃(l:Addr) (L:List Nat) (b:Nat),vs=[.ref l,.int (b:Int)]/\H l=some (.lst (a7 L))/\L.length<=40/\L.Pairwise (· < ·)/\(∀i∈L,i<b)/\∀H',ag H H'->Q (.bl true) H'
theorem aU.f(hq:aD q)(h:aU B H q a aa)(hm:∀ps∈aa,ps.length=m):Bp (λ_=>none) H q a aa.length m (atT aa):=by
 intros am7 h vs e l k;refine (am vs e l (λi v hv=>?_));have i1:i<vs.length:=(aL.mp hv).1;have i2:i<aa.length:=by lia
 obtain ⟨r,rfl,hr⟩:=k i v aa[i] hv (by simp [i2])
 refine (ii r rfl (λz=>?_) rfl ?_)
 ·subst z
  intros am7 hr ws ew lw fw;rw [e] at ew;cases ew;have i3:i<aa[i].length:=by lia
  have:=fw i _ aa[i][i] hv (by simp [i3])
  generalize aa[i][i]=p at this;obtain ⟨x,m'⟩:=p;cases this with
  | cq er _ _ _=>rw [e] at er;cases er
 ·have z:=aM.f hq hr
  rw [hm _ (aG i2)] at z;unfold atT;rw [getD_at i2];exact z
theorem aU.mid(hq:aD q)(h:aU B H q a aa)(hn:aa.length=n)(hm:∀ps∈aa,ps.length=m)(b1:1000<=B)(b2:B<2 ^ 2048):∀i j,i<n->j<m->b_ (atT aa i j).2:=λi j hi hj=>by obtain ⟨ps,h1,h2⟩:=k9 hn hm hi hj;obtain ⟨_,_,v,hv⟩:=h.nums hq ps h1 _ h2;exact bT (hv.both b1).2 b2
variable {K1:aQ}
theorem Kb{K2:aQ}{b:Addr}(e:σ[i]?=some (some (.ref b)))(ej:ρ σ=[some (.int (j:Int))])(h:aU B H q b ai)(hm:∀ps∈ai,ps.length=m)(hj:j<m)(cO:ai.length<=40)(k:∀D H',H D=none->ag H H'->aM B H' q D (ai.map λps=>ps.getD j (0,1))->Q (.ref D) H'):jL (wJ K1 (jD i)) ρ (λ_ H Q=>Q true H) (l6 (IF K2) (jD 0) (jD 1)) σ H Q:=by
 obtain ⟨us,eb,lu,fu⟩:=id h;refine fc (xs:=us) (λR h=>⟨_,e,b,rfl,⟨_,.of eb⟩,h _ _ (ag.refl _) (eR (.of eb))⟩) (by rw [lu];exact cR ⋯) (λD l y Hx=>cH B Hx q y (atT ai l j).1 (atT ai l j).2) (λD l y Ha Hb ys h e f=>h.cC e f) ?_ ?_
 ·intro D l v hl Hf R sf _ kf
  have l1:l<us.length:=(aL.mp hl).1;have l2:l<ai.length:=by lia
  obtain ⟨ry,rfl,ws,ew,lw,fw⟩:=fu l v ai[l] hl (by simp [l2])
  have lj:j<ai[l].length:=by rw [hm _ (aG l2)];exact hj
  have QP:j<ws.length:=by lia
  have z:=fw j ws[j] ai[l][j] (by simp [QP]) (by simp [lj])
  rw [ej];refine ⟨_,rfl,_,rfl,ry,ws,_,ws[j],rfl,rfl,.of (sf _ _ ew),cK (by simp [QP]),kf _ Hf (ag.refl _) ?_⟩
  unfold atT;rw [getD_at l2,getD_at lj];exact z.mono sf
 ·intro D ys Hf nD sf dN hP eD
  refine k D Hf nD sf (am ys eD (by rw [dN,lu,aV]) (λl v p h1 h2=>?_))
  have l2:l<ai.length:=by have:=(aL.mp h2).1;rw [aV] at this;exact this
  have z:=hP l v h1;rw [bu] at h2;simp [l2] at h2;unfold atT at z;rw [getD_at l2] at z;rw [<-h2];exact z
def aar:Sp:=λvs H Q _=>∃(q:Int) (a p lf rt dn ac bk:Addr) (B Bx By m:Nat) (aa ai cU:aH) (L D:List Nat),vs=[.int q,.ref a,.ref p]/\aD q/\aU B H q a aa/\H p=some (.tup [.ref lf,.ref rt,.ref dn,.ref ac,.ref bk])/\H ac=some (.lst (a7 L))/\H dn=some (.lst (a7 D))/\aU B H q lf (bW L aa)/\aU Bx H q rt ai/\aU By H q bk cU /\
 1000<=B/\B<2 ^ 2048/\1000<=Bx/\Bx<2 ^ 2048/\1000<=By/\By<2 ^ 2048/\1<=aa.length/\aa.length<=30/\(∀ps∈aa,ps.length=m)/\m<=30/\L.Pairwise (· < ·)/\(∀l∈L,l<m)/\L.length<=aa.length/\D.length=L.length/\D.Pairwise (· < ·)/\(∀d∈D,d<aa.length)/\ai.length=L.length/\(∀ps∈ai,ps.length=m)/\cU.length=L.length/\(∀ps∈cU,ps.length=L.length) /\
 (q=0->40*(B*Bx) ^ L.length<2 ^ 8192)/\(q=0->40*(B*By) ^ L.length<2 ^ 8192) /\
 (∀t k,t<aa.length->k<m->a8 q (aW ((bW L aa).getD t []) (ai.map λps=>ps.getD k (0,1)) (0,1)) (atT aa t k)) /\
 (∀t k,t<L.length->k<L.length->a8 q (aW ((d9 D (bW L aa)).getD t []) (cU.map λps=>ps.getD k (0,1)) (0,1)) (if t=k then (1,1) else (0,1)))/\∀H',ag H H'->Q (.bl true) H'
def aas(C N:Addr):Sp:=λvs H Q _=>∃(z a b p r:Addr) (q:Int) (Ba Bo E F m:Nat) (aa:aH) (as xs:aI),vs=[.int q,.ref z,.ref a,.ref b,.ref p]/\H p=some (.tup [.str (Str.ofString "barred"),.ref r])/\da C H z q/\aD q/\aU Bo H q a aa/\aM Bo H q b as/\aM Ba H q r xs/\ou q Ba Bo E F m aa/\as.length=aa.length/\xs.length=aa.length/\bj q E xs/\(∀ps∈bL m aa,bj q F ps)/\bj q F as/\tH q aa.length m aa as xs/\(q=0->40*(Ba*Bo) ^ aa.length<2 ^ 8192)/\∀H',ag H H'->Q (.bl true) H'
theorem E_(hq:aD q){d:Int}(hd:d=0\/d=1){c:TT}{ta tb:TE}{Hd:Hp}(hc:∀Q':Bool->Hp->Prop,Q' (q != 0) Hd->c σ Hd Q')(ha:∀Q':VK,Q' (.int d) Hd->ta σ Hd Q')(hb:∀Q':VK,(∀r,Hd r=none->Q' (.ref r) (upd Hd r (.tup [.int d,.int 1])))->tb σ Hd Q')(k:∀u He,ag Hd He->cN He q u d 1->Q u He):AO c ta tb σ Hd Q:=by
 refine hc _ ?_;by_cases hp:q=0
 ·subst hp
  exact bQ (hb _ λr nr=>k _ _ (a9 nr) (.cq aK ⟨∅,nM ..⟩ ∅ rfl))
 ·rw [show (q != 0)=true by simpa using hp]
  exact dW (ha _ (k _ _ (ag.refl _) (P6 hq hp hd)))
theorem Kc{C:Nat}{x:Addr}{xs:aI}{E:XK}(e:σ[i]?=some (some (.ref a)))(hq:aD q)(h:aU B H q a aa)(hx:aM C H q x xs)(hm:∀ps∈aa,ps.length=m)(cO:aa.length<=40)(fL:m<=40)(x40:xs.length<=40)(b1:1<=B)(c1:1<=C)(fit:q=0->40*(B*C) ^ m<2 ^ 8192)
  (hte:∀(r:Addr) (Hc:Hp) (R:VK),ag H Hc->QO [.int q,.ref r,.ref x] Hc R E->te (some (.ref r)::ρ σ) Hc R) (k:∀D H',H D=none->ag H H'->iJ H' q D (aa.map λps=>aW ps xs (0,1))->Q (.ref D) H'):jL (wJ K1 (jD i)) ρ (λ_ H Q=>Q true H) te σ H Q:=by
 obtain ⟨us,eb,lu,fu⟩:=id h;refine fc (xs:=us) (λR h=>⟨_,e,a,rfl,⟨_,.of eb⟩,h _ _ (ag.refl _) (eR (.of eb))⟩) (by rw [lu];exact cR ⋯) (λD l y Hx=>cN Hx q y (aW (aa.getD l []) xs (0,1)).1 (aW (aa.getD l []) xs (0,1)).2) (λD l y Ha Hb ys h e f=>h.cC e f) ?_ ?_
 ·intro D l v hl Hf R sf _ kf
  have l1:l<us.length:=(aL.mp hl).1;have l2:l<aa.length:=by lia
  obtain ⟨ry,rfl,hr⟩:=fu l v aa[l] hl (by simp [l2])
  have lp:=hm _ (aG l2);refine hte ry Hf R sf (Re q ry x B C (aa[l]) (SL xs rfl hq (hr.mono sf) (hx.mono sf) b1 c1 ⋯ x40 (λz=>by rw [lp];exact fit z) (λv H' s' hN=>kf v H' s' ?_)))
  rw [getD_at l2];exact hN
 ·intro D ys Hf nD sf dN hP eD
  refine k D Hf nD sf (am ys eD (by rw [dN,lu,aV]) (λl v p h1 h2=>?_))
  have l2:l<aa.length:=by have:=(aL.mp h2).1;rw [aV] at this;exact this
  have z:=hP l v h1;rw [bu] at h2;simp [l2] at h2;rw [getD_at l2] at z;rw [<-h2];exact z
theorem tL.rank(hq:aD q){L2:List Nat}(mv:tL q n m X aa L bz)(hb:∀ps∈bz,∀p∈ps,aC q p.2)(h:i_ q bz.length m bz L2):L2.length=bz.length:=by
 obtain ⟨T,D,r⟩:=Pm hb rfl mv.bY;obtain ⟨L3,M,h3,rd⟩:=aao hq rfl mv.bY hb r;rw [h.uniq h3 (xL T D r)];have fl:∀s,s<bz.length->(dO m L).getD s 0<m:=λs hs=>by rw [mv.len] at hs;rw [getD_at hs];exact (BC.mp (aG hs)).1
 refine rd.Qz hq (λs=>(dO m L).getD s 0) (λ_=>D) fl (λ_ _=>r.1.nz hq) λt s ht hs=>?_;have w:=r.2 t _ ht (fl s hs);by_cases e:s=t
 ·subst e
  rw [mv.own s hs] at w;rw [ao rfl];obtain ⟨c,e⟩:=w;dsimp only at e;exact ⟨-c,by rw [je];lia⟩
 ·rw [mv.Qr t s ht hs (λz=>e z.symm)] at w
  rw [aq e];obtain ⟨c,e⟩:=w;dsimp only at e;exact ⟨-c,by rw [je];lia⟩
def Kd(q:Int)(Bo F m:Nat)(aa:aH)(as:aI)(L:List Nat)(H:Hp)(p:Addr):Prop:=
(∃(r:Addr) (Ba E F':Nat) (xs:aI),H p=some (.tup [.str (Str.ofString "barred"),.ref r])/\aM Ba H q r xs/\ou q Ba Bo E F' m aa/\xs.length=aa.length/\bj q E xs/\(∀ps∈bL m aa,bj q F' ps)/\bj q F' as/\tH q aa.length m aa as xs/\(q=0->40*(Ba*Bo) ^ aa.length<2 ^ 8192)) \/
 (∃(r:Addr) (X:Nat) (xs:aI),H p=some (.tup [.str (Str.ofString "one"),.ref r])/\aM X H q r xs/\ou q X Bo X F m aa/\xs.length=m/\pZ q aa.length m aa as xs/\bj q X xs/\(q=0->40*(Bo*X) ^ m<2 ^ 8192)/\L.length=m) \/
 (∃(r t:Addr) (X P2:Nat) (xs:aI) (bz:aH) (G2:Nat->Nat),H p=some (.tup [.str (Str.ofString "many"),.ref r,.ref t])/\aM X H q r xs/\ou q X Bo X F m aa/\xs.length=m/\pZ q aa.length m aa as xs/\bj q X xs/\(q=0->40*(Bo*X) ^ m<2 ^ 8192)/\L.length≠m/\aU X H q t bz/\tL q aa.length m X aa L bz/\qR q X P2 m bz G2/\(q=0->(2*X ^ (m+1)) ^ (2 ^ (bz.length-2))<2 ^ 8192))
def aav(C N:Addr):Sp:=λvs H Q _=>∃(z a b p:Addr) (q:Int) (Bo F P m:Nat) (aa:aH) (as:aI) (L:List Nat) (G:Nat->Nat) (f:Int),vs=[.int q,.ref z,.ref a,.ref b,.ref p,.int f]/\da C H z q/\aD q/\aU Bo H q a aa/\aM Bo H q b as/\qR q Bo P m aa G/\as.length=aa.length/\(∀ps∈aa,bj q F ps)/\i_ q aa.length m aa L/\f=(m:Int)-(L.length:Int)/\Kd q Bo F m aa as L H p/\∀H',ag H H'->Q (.bl true) H'
theorem QQ{t:TE}{Q:Bool->Hp->Prop}(h:t σ H λx H'=>∃k,x=.bl k/\Q k H'):wN t σ H Q:=h
theorem iJ.mono{H':Hp}{tb:aI}(h:iJ H q a tb)(s:ag H H'):iJ H' q a tb:=by intros am7 h vs e l f;exact (am vs (s _ _ e) l (λi v p h1 h2=>(f i v p h1 h2).mono s))
theorem Ke:∀(n:Nat) (f g:Nat->Nat),bS n (λi=>f i*g i)=bS n f*bS n g
 | 0,_,_=>rfl
 | n+1,f,g=>by show bS n (λi=>f i*g i)*(f n*g n)=bS n f*f n*(bS n g*g n);rw [Ke n f g];grind
theorem Kf:∀(n:Nat) (g:Nat->Nat),(∀i,i<n->1<=g i)->1<=bS n g/\∀i,i<n->g i<=bS n g
 | 0,_,_=>⟨aP 1,λi h=>absurd h (mG _)⟩
 | n+1,g,h=>by
  obtain ⟨h1,h2⟩:=Kf n g λi hi=>h i ⋯
  have h3:=h n ⋯
  refine ⟨wu h1 h3,λi hi=>?_⟩;show g i<=bS n g*g n;by_cases e:i=n;·rw [e];exact g9 _ h1
  ·exact au (h2 i ⋯) (nO _ h3)
theorem Kg{V:Nat}{Dl:Nat->Nat}{p:Nat->Int×Int}:∀n,(∀i,i<n->∃D x:Int,1<=D/\D.natAbs<=Dl i/\(p i).1*D=x*(p i).2/\x.natAbs<=V*D.natAbs)->∃D:Int,1<=D/\D.natAbs<=bS n Dl/\∀i,i<n->∃x:Int,(p i).1*D=x*(p i).2/\x.natAbs<=V*D.natAbs
 | 0,_=>⟨1,∅,aP 1,λi h=>absurd h (mG _)⟩
 | n+1,h=>by
  obtain ⟨D,d1,d2,hx⟩:=Kg n λi hi=>h i ⋯
  obtain ⟨D',x',e1,e2,e3,e4⟩:=h n ⋯
  have pd:=fk (show 0<D by lia) (show 0<D' by lia)
  refine ⟨D*D',⋯,?_,λi hi=>?_⟩
  ·rw [bU]
   exact cA d2 e2
  ·by_cases e:i=n
   ·subst e
    refine ⟨x'*D,by grind,?_⟩
    rw [bU,bU];exact au (g8 _ e4) (jz (by grind))
   ·obtain ⟨x,x1,x2⟩:=hx i ⋯
    refine ⟨x*D',by grind,?_⟩
    rw [bU,bU];exact au (g8 _ x2) (jz (by grind))
structure Fb (n m V:Nat) (aa:aH) (Dl:Nat->Nat) (D:Nat->Int) (x:aE):Prop where
 one:∀i,i<n->1<=D i
 le:∀i,i<n->(D i).natAbs<=Dl i
 eq:∀i j,i<n->j<m->(atT aa i j).1*D i=x i j*(atT aa i j).2
 bd:∀i j,i<n->j<m->(x i j).natAbs<=V*(D i).natAbs
variable {Dl:Nat->Nat}
theorem Fc{V:Nat}(hn:aa.length=n)(hm:∀ps∈aa,ps.length=m)(h:∀i,i<n->de (Dl i) V (aa.getD i [])):∃D x,Fb n m V aa Dl D x:=by
 obtain ⟨f,hf⟩:=m8 (n:=n) (α:=Int×(Nat->Int)) (R:=λi y=>1<=y.1/\y.1.natAbs<=Dl i/\∀j,j<(aa.getD i []).length->((aa.getD i []).getD j o1).1*y.1=y.2 j*((aa.getD i []).getD j o1).2/\(y.2 j).natAbs<=V*y.1.natAbs) λi hi=>by obtain ⟨D,x,h1,h2,h3⟩:=h i hi;exact (am (D,x) h1 h2 h3)
 have wl:∀i,i<n->(aa.getD i []).length=m:=λi hi=>by
  rw [getD_at ⋯]
  exact hm _ (aG _)
 exact ⟨λi=>(f i).1,λi j=>(f i).2 j,λi hi=>(hf i hi).1,λi hi=>(hf i hi).2.1,λi j hi hj=>((hf i hi).2.2 j (by rw [wl i hi];exact hj)).1,λi j hi hj=>((hf i hi).2.2 j (by rw [wl i hi];exact hj)).2⟩
theorem Fb.col{V Z:Nat}{D:Nat->Int}{x:aE}(h:Fb n m V aa Dl D x)(hn:aa.length=n)(hm:∀ps∈aa,ps.length=m)(hc:∀ps∈aa,∀p∈ps,Canon 0 p)(hz:bS n Dl<=Z)(v1:1<=V):∀ps∈bL m aa,bj 0 (V*Z) ps:=λps hp=>by
 have tO:=hp;unfold bL at hp;obtain ⟨k,hk,rfl⟩:=fI.mp hp;have hk:=gs.mp hk;obtain ⟨E,e1,e2,e3⟩:=Kg (V:=V) (Dl:=Dl) (p:=λi=>atT aa i k) n λi hi=>⟨D i,x i k,h.one i hi,h.le i hi,h.eq i k hi hk,h.bd i k hi hk⟩;obtain ⟨f,hf⟩:=m8 (n:=n) (α:=Int) (R:=λi y=>(atT aa i k).1*E=y*(atT aa i k).2/\y.natAbs<=V*E.natAbs) e3;have at':∀i,i<n->(aa.map λps=>ps.getD k (0,1)).getD i o1=atT aa i k:=λi hi=>by
  unfold atT;rw [getD_at (by simpa using (by lia:i<aa.length)),iU,getD_at (show i<aa.length by lia)]
  rfl
 refine de.e (Dl:=bS n Dl) (V:=V) (ce E f e1 e2 (λj hj=>?_)) (λp hp=>?_) (fq _ hz) v1
 ·rw [aV,hn] at hj
  rw [at' j hj];exact hf j hj
 ·obtain ⟨rs,h1,h2⟩:=EW hm tO hp
  exact hc rs h1 p h2
structure tP (q:Int) (n m:Nat) (aa:aH) (as:aI):Prop where
 len:as.length=n
 own:bj q (10 ^ 125) as
 row:∃GA:Nat->Nat,(∀i,i<n->bj q (GA i) ((fQ aa as).getD i []))/\(∀i,1000<=GA i/\GA i<2 ^ 2048)/\bS n GA<=10 ^ 177
theorem QR(hn:aa.length=n)(la:as.length=n)(hi:i<n):(fQ aa as).getD i []=aa.getD i []++[as.getD i o1]:=by
 unfold fQ;rw [EO (by rw [oq];lia) ⋯]
 have g:(ja as).getD i []=[as.getD i o1]:=by unfold ja;rw [getD_at (by simpa using (by lia:i<as.length)),iU,getD_at ⋯]
 rw [g]
theorem Kh(hq:aD q)(z:q≠0)(hn:aa.length=n)(n5:n<=5)(la:as.length=n)(hc:∀ps∈aa,∀p∈ps,Canon q p)(ha:∀p∈as,Canon q p):tP q n m aa as:=by
 refine ⟨la,pY (tG hq z ha) (by decide +kernel),λ_=>1000,λi hi=>?_,λ_=>⟨aP _,show 1000<2 ^ 2048 by decide +kernel⟩,?_⟩
 ·rw [QR hn la hi]
  refine tG hq z λp hp=>?_;rcases lJ.mp hp with h | h
  ·rw [getD_at ⋯] at h
   exact hc _ (aG _) p h
  ·rw [iC.mp h,getD_at ⋯]
   exact ha _ (aG _)
 ·rw [m9]
  exact au (dR ∅ n5) (by decide +kernel)
theorem Ki{D:Nat->Int}{x:aE}(h:Fb n m (4*10 ^ 18) aa Dl D x)(hn:aa.length=n)(hm:∀ps∈aa,ps.length=m)(n3:n<=3)(hz:bS n Dl<=10 ^ 72)(la:as.length=n)(hc:∀ps∈aa,∀p∈ps,Canon 0 p)(ha:∀p∈as,Canon 0 p)
  (hA:∀i,i<n->∃R y:Int,1<=R/\R.natAbs<=10 ^ 9/\(as.getD i o1).1*(D i*R)=y*(as.getD i o1).2/\y.natAbs<=10 ^ 26*(D i*R).natAbs):tP 0 n m aa as:=by
 have Fd:∀i,i<n->1<=Dl i:=λi hi=>by have:=h.one i hi;have:=h.le i hi;lia
 obtain ⟨_,Kj⟩:=Kf n Dl Fd;refine ⟨la,?_,λi=>if i<n then Dl i*10 ^ 35 else 1000,λi hi=>?_,λi=>?_,?_⟩
 ·obtain ⟨E,e1,e2,e3⟩:=Kg (V:=10 ^ 26) (Dl:=λi=>Dl i*10 ^ 9) (p:=λi=>as.getD i o1) n λi hi=>by
   obtain ⟨R,y,r1,r2,r3,r4⟩:=hA i hi;have:=fk (show 0<D i by have:=h.one i hi;lia) (show 0<R by lia)
   exact ⟨D i*R,y,⋯,by rw [bU];exact cA (h.le i hi) r2,r3,r4⟩
  obtain ⟨f,hf⟩:=m8 (n:=n) (α:=Int) (R:=λi y=>(as.getD i o1).1*E=y*(as.getD i o1).2/\y.natAbs<=10 ^ 26*E.natAbs) e3;refine de.e (Dl:=10 ^ 99) (V:=10 ^ 26) (ce E f e1 (au e2 ?_) (λj hj=>hf j ⋯)) ha (by decide +kernel) ∅
  rw [Ke,m9];exact au (cA hz (dR ∅ n3)) (by decide +kernel)
 ·rw [QR hn la hi]
  dsimp only;rw [ao hi];obtain ⟨R,y,r1,r2,r3,r4⟩:=hA i hi;have d1:=h.one i hi;have pd:=fk (show 0<D i by lia) (show 0<R by lia)
  have lr:(aa.getD i []).length=m:=by rw [getD_at ⋯];exact hm _ (aG _)
  refine de.e (Dl:=Dl i*10 ^ 9) (V:=10 ^ 26) ⟨D i*R,λj=>if j<m then x i j*R else y,⋯,by rw [bU];exact cA (h.le i hi) r2,λj hj=>?_⟩ (λp hp=>?_) (jz (by grind)) ∅
  ·rw [kA,lr] at hj
   dsimp only;by_cases z:j<m
   ·rw [ao z]
    have e:(aa.getD i []++[as.getD i o1]).getD j o1=atT aa i j:=by unfold atT;rw [cb,gL ⋯,<-cb]
    rw [e];have e1:=h.eq i j hi z;have e2:=h.bd i j hi z;refine ⟨by grind,?_⟩
    rw [bU,bU,<-lU];exact g8 _ (au e2 (g8 _ ∅))
   ·rw [aq z]
    have e:(aa.getD i []++[as.getD i o1]).getD j o1=as.getD i o1:=by
     have:j=m:=by simp at hj;lia
     rw [cb,iA ⋯,lr,this,qu]
     rfl
    rw [e];exact ⟨r3,r4⟩
  ·rcases lJ.mp hp with h | h
   ·rw [getD_at ⋯] at h
    exact hc _ (aG _) p h
   ·rw [iC.mp h,getD_at ⋯]
    exact ha _ (aG _)
 ·dsimp only
  by_cases z:i<n
  ·rw [ao z]
   have h1:=Fd i z;have h2:=au (Kj i z) hz;refine ⟨au (show 1000<=1*10 ^ 35 by decide +kernel) (g8 _ h1),bT (g8 _ h2) (by decide +kernel)⟩
  ·rw [aq z]
   exact ⟨aP _,by decide +kernel⟩
 ·rw [om (g:=λi=>Dl i*10 ^ 35) λi hi=>ao hi,Ke,m9]
  exact au (cA hz (dR ∅ n3)) (by decide +kernel)
theorem xG(h:n<=5):n*(br n*P)<=600*P:=by
 have:n*br n<=600:=by
  match n,h with
  | 0,_=>decide
  | 1,_=>decide
  | 2,_=>decide
  | 3,_=>decide
  | 4,_=>decide
  | 5,_=>decide
 rw [<-lU];exact g8 _ this
theorem aaw(h:n<=6):n*(br n*P)<=4320*P:=by
 have:n*br n<=4320:=by
  match n,h with
  | 0,_=>decide
  | 1,_=>decide
  | 2,_=>decide
  | 3,_=>decide
  | 4,_=>decide
  | 5,_=>decide
  | 6,_=>decide
 rw [<-lU];exact g8 _ this
theorem QS(h:n<=5)(e1:1<=E)(he:600*E ^ 5<2 ^ 2048):UB n E:=λr hr=>by refine bT (xG ⋯) (bT (fq _ (dR e1 (show r<=5 by lia))) he)
theorem Kk{F:Nat}(n1:1<=aa.length)(n5:aa.length<=5)(wd:∀ps∈aa,ps.length=m)(m5:m<=5)(x1:1000<=X)(x2:X<=10 ^ 402)(hF:F<=10 ^ 125):ou q X (10 ^ 125) X F m aa:=
 ⟨x1,bT x2 (by decide +kernel),by decide +kernel,by decide +kernel,bT x2 (by decide +kernel),bT hF (by decide +kernel),bT (cA hF x2) (by decide +kernel),n1,⋯,wd,⋯⟩
theorem aax{C N:Addr}{z b:Addr}{E:XK}(hz:da C H z q)(hq:aD q)(hT:aU (10 ^ 125) H q a aa)(hb:aM (10 ^ 125) H q b as)(ln:aa.length=n)(wd:∀ps∈aa,ps.length=m)(n1:1<=n)(n5:n<=5)(m5:m<=5)(n3:q=0->n<=3)(m3:q=0->m<=3)(ok:tP q n m aa as)(hC:∀ps∈bL m aa,bj q (10 ^ 91) ps)(hL:i_ q n m aa L)(k:∀p H',ag H H'->Kd q (10 ^ 125) (10 ^ 60) m aa as L H' p->Q (.ref p) H'):Qs C N [.ref z,.ref a,.ref b] H Q E:=by
 subst ln;obtain ⟨GA,gA1,gA2,gA3⟩:=ok.row;have rT:=hT.rep hq rfl wd;have aaB:∀p∈as,Canon q p:=λp hp=>(hb.nums hq p hp).1;have aaC:∀ps∈bL m aa,∀p∈ps,Canon q p:=λps h1 p h2=>by obtain ⟨rs,h3,h4⟩:=EW wd h1 h2;exact (hT.nums hq rs h3 p h4).1
 have X0:1000<=aa.length*(br aa.length*10 ^ 177):=au (show 1000<=1*(1*10 ^ 177) by decide +kernel) (cA n1 (cA (EB _) (aP _)))
 have X1:aa.length*(br aa.length*10 ^ 177)<=10 ^ 180:=au (xG n5) (by decide +kernel)
 have Y0:1000<=(m+1)*(br (m+1)*10 ^ 398):=au (show 1000<=1*(1*10 ^ 398) by decide +kernel) (cA ⋯ (cA (EB _) (aP _)))
 have Y1:(m+1)*(br (m+1)*10 ^ 398)<=10 ^ 402:=au (aaw ⋯) (by decide +kernel)
 have X2:aa.length*(br aa.length*10 ^ 177)<=10 ^ 402:=au X1 (by decide +kernel)
 refine (SC z a b q (10 ^ 125) (Re (10 ^ 177) (10 ^ 398) m aa as GA (SL (λi=>if q=0 then (if i<m then 10 ^ 91 else 10 ^ 125) else 1000) rfl hz hq hT hb (by decide +kernel) (by decide +kernel) n1 ⋯ ⟨wd,⋯,ok.len,gA1,gA2,gA3,au X1 (by decide +kernel),λi hi=>?_,λi=>?_,?_,bT Y1 (by decide +kernel),?_,?_,?_⟩)))
 ·dsimp only
  by_cases y:q=0
  ·rw [ao y]
   by_cases w:i<m
   ·rw [ao w,JX w,<-k_ w]
    exact hC _ (by rw [getD_at (by rw [gi];exact w)];exact aG _)
   ·have:i=m:=by lia
    subst this;rw [aq w,JY];exact ok.own
  ·rw [aq y]
   refine tG hq y λp hp=>?_;by_cases w:i<m
   ·rw [JX w,<-k_ w] at hp
    exact aaC _ (by rw [getD_at (by rw [gi];exact w)];exact aG _) p hp
   ·have:i=m:=by lia
    subst this;rw [JY] at hp;exact aaB p hp
 ·dsimp only
  split
  ·split
   ·exact ⟨by decide +kernel,by decide +kernel⟩
   ·exact ⟨by decide +kernel,by decide +kernel⟩
  ·exact ⟨by decide +kernel,by decide +kernel⟩
 ·by_cases y:q=0
  ·have:=m3 y
   rw [om (g:=λi=>if i<m then 10 ^ 91 else 10 ^ 125) λi _=>ao y]
   show bS m _*(if m<m then 10 ^ 91 else 10 ^ 125)<=10 ^ 398
   rw [aq ⋯,om (g:=λ_=>10 ^ 91) λi hi=>ao hi,m9]
   exact au (g8 _ (dR ∅ this)) (by decide +kernel)
  ·rw [om (g:=λ_=>1000) λi _=>aq y,m9]
   exact au (dR ∅ (show m+1<=6 by lia)) (by decide +kernel)
 ·intro p r ys H' s' ep hr ly bar ey
  refine k p H' s' (.inl (xL r _ (wP _ (10 ^ 125) ys ep hr (Kk n1 n5 wd m5 Y0 Y1 (aP _)) ly ey (λps h=>pY (hC ps h) (by decide +kernel)) ⟨ok.own,bar,λy=>?_⟩)))
  exact bT (fq 40 (au (wz (g8 _ Y1) _) (dR ∅ (n3 y)))) (by decide +kernel)
 ·intro p r xs L' H' s' ep hr lx sol ex tQ lL
  have eL:=tQ.uniq hL rT;subst eL;refine k p H' s' (.inr (.inl (wP r _ xs ep hr (Kk n1 n5 wd m5 X0 X2 (by decide +kernel)) lx sol ex ⟨λy=>?_,lL⟩)))
  exact bT (fq 40 (au (wz (fq _ X1) _) (dR ∅ (m3 y)))) (by decide +kernel)
 ·intro p r t xs L' bz H' s' ep hr lx sol ex tQ lL ht mv
  have eL:=tQ.uniq hL rT;subst eL;have fl:=xC hL.1 hL.2.1;have vl:=mv.len;have v1:1<=bz.length:=by
   have:L'.length<=m:=by lia
   lia
  generalize aa.length*(br aa.length*10 ^ 177)=X at X0 X1 X2 hr ex ht mv;refine k p H' s' (.inr (.inr (Re r t X (if q=0 then X ^ 3 else 10 ^ 15) xs bz (SL (λ_=>if q=0 then X else 1000) ep hr (Kk n1 n5 wd m5 X0 X2 (by decide +kernel)) lx sol ex (λy=>?_) lL ht ⟨mv,⟨X0,bT X2 (by decide +kernel),v1,⋯,mv.bY,⋯,λi hi=>?_,λi=>?_,?_,?_⟩,λy=>?_⟩))))
  ·exact bT (fq 40 (au (wz (fq _ X1) _) (dR ∅ (m3 y)))) (by decide +kernel)
  ·by_cases y:q=0
   ·rw [ao y]
    exact mv.ok i hi
   ·rw [aq y]
    refine tG hq y λp hp=>?_;rw [getD_at hi] at hp;exact (ht.nums hq _ (aG hi) p hp).1
  ·split
   ·exact ⟨X0,bT X2 (by decide +kernel)⟩
   ·exact ⟨aP _,by decide +kernel⟩
  ·rw [m9]
   by_cases y:q=0
   ·rw [ao y,ao y]
    have:=m3 y;exact dR ⋯ ⋯
   ·rw [aq y,aq y]
    exact au (dR ∅ (show bz.length<=5 by lia)) (by decide +kernel)
  ·refine bT (xG (show bz.length<=5 by lia)) ?_
   by_cases y:q=0
   ·rw [ao y]
    exact bT (fq _ (wz X1 3)) (by decide +kernel)
   ·rw [aq y]
    decide +kernel
  ·have h3:=m3 y
   have e1:2*X ^ (m+1)<=2*(10 ^ 180) ^ 4:=fq 2 (au (wz X1 _) (dR (by decide +kernel) ⋯))
   have e2:2 ^ (bz.length-2)<=2:=au (dR ∅ (show bz.length-2<=1 by lia)) (aP _)
   exact bT (au (wz e1 _) (dR (by decide +kernel) e2)) (by decide +kernel)
variable {rs:aI}
theorem QT(hq:aD q)(h:cN H q v (aW ps rs (0,1)).1 (aW ps rs (0,1)).2)(hf:q=0->∃X D:Int,a8 0 (aW ps rs (0,1)) (X,D)/\1<=D/\X.natAbs<=B/\D.natAbs<=B) :
  ∃p:Int×Int,cH B H q v p.1 p.2/\(q=0->∀X D:Int,a8 0 (aW ps rs (0,1)) (X,D)->1<=D->p.1*D=X*p.2):=by
 by_cases z:q=0
 ·subst z
  obtain ⟨X,D,w,d1,bX,bD⟩:=hf rfl;obtain ⟨p,hp,wp⟩:=Eu (h.i6 w ⟨λ_=>d1,λy=>absurd rfl y⟩) hq bX bD;obtain ⟨x,m⟩:=p;refine (ad (x,m) hp (λ_ X' D' w' JO=>?_));have h':=h.i6 w' ⟨λ_=>JO,λy=>absurd rfl y⟩;cases hp with
  | rem h0 h1 h2=>lia
  | cq e l bx bm=>
   cases h' with
   | cq e' l' ki h'=>rw [e] at e';cases e';exact h'
 ·cases h with
  | cq e l hb h=>exact absurd rfl z
  | rem q2 h0 h1 g h=>
   rename_i r
   have q3:q<=997:=by rcases hq with y | ⟨_,y,_⟩ <;> lia
   exact ⟨(r,1),.rem h0 h1 q3,λy=>absurd y z⟩
theorem QU{N:Nat}(cO:N<=40)(il:∀R:It->Hp->Prop,(∀J H1,ag H H1->n_ J ((List.range N).map λi:Nat=>V.int (0+(i:Int))) H1->R J H1)->wi σ H R)
  (step:∀i,i<N->∀(Hc:Hp) (R:VK),ag H Hc->(∀(v:V) (x m:Int) (H':Hp),ag Hc H'->cH (10 ^ 6) H' q v x m->m.natAbs<=1000->R v H')->te (some (.int (i:Int))::ρ σ) Hc R)
  (fin:∀(D:Addr) (H':Hp) (ps:aI),H D=none->ag H H'->aM (10 ^ 6) H' q D ps->ps.length=N->JS ps->Q (.ref D) H'):jL wi ρ (λ_ H Q=>Q true H) te σ H Q:=by
 refine fc il (by rw [aV,gc];exact cR ⋯) (λD j y Hx=>∃p:Int×Int,cH (10 ^ 6) Hx q y p.1 p.2/\p.2.natAbs<=1000) (λD j y Ha Hb ys ⟨p,h1,h2⟩ e f=>(ad p (h1.cC e f) h2)) ?_ ?_
 ·intro D j v hj Hd R sd _ kd
  obtain ⟨eG,rfl⟩:=pR hj;exact step j eG Hd R sd λv x m H' s' h1 h2=>kd v H' s' (ad (x,m) h1 h2)
 ·intro D ys Hd nD sd dN hP eD
  obtain ⟨ps,Kl,qU⟩:=pick (R:=fun(_:Nat) (y:V) (p:Int×Int)=>cH (10 ^ 6) Hd q y p.1 p.2/\p.2.natAbs<=1000) hP;have l:ps.length=N:=by rw [Kl,dN,aV,gc]
  refine fin D Hd ps nD sd (am ys eD ⋯ (λi v p h1 h2=>(qU i v p h1 h2).1)) l λp hp=>?_
  obtain ⟨i,hi,e⟩:=eJ.mp hp;have a_:i<ys.length:=by lia
  obtain ⟨h1,h2⟩:=qU i ys[i] p (by simp [a_]) (by rw [<-e];simp [hi])
  exact ⟨(h1.both ∅).1,h2⟩
theorem aaD{m:Nat}{aa:aH}{D:Nat->Int}(ha:∀p∈as,Canon 0 p/\aC 0 p.2)(hb:JS as)(la:as.length=n)(one:∀i,i<n->1<=D i):∀i,i<n->∃R y:Int,1<=R/\R.natAbs<=10 ^ 9/\(as.getD i o1).1*(D i*R)=y*(as.getD i o1).2/\y.natAbs<=10 ^ 26*(D i*R).natAbs:=λi hi=>by
 have mem:as.getD i o1∈as:=by rw [getD_at ⋯];exact aG _
 have h1:=(ha _ mem).2.1 rfl;obtain ⟨h2,h3⟩:=hb _ mem;refine ⟨(as.getD i o1).2,(as.getD i o1).1*D i,h1,au h3 ∅,by grind,?_⟩
 rw [bU,bU];have:1<=(as.getD i o1).2.natAbs:=by lia
 refine cA (au h2 ∅) (nO _ this)
theorem aaE(hq:aD q)(hN:iJ H q a (aa.map λps=>aW ps rs (0,1)))(ln:aa.length=n)(wd:∀ps∈aa,ps.length=m)(n5:n<=5)(n3:q=0->n<=3)(m3:q=0->m<=3)(hc:∀ps∈aa,∀p∈ps,Canon q p)(dP:q=0->bS n Dl<=10 ^ 72)(dV:q=0->∀i,i<n->de (Dl i) (4*10 ^ 18) (aa.getD i []))
  (hr:∀p∈rs,aC q p.2) (hb:JS rs) (lr:rs.length=m):∃as,aM (10 ^ 125) H q a as/\tP q n m aa as:=by
 intros am7 hN vs e l f;rw [aV,ln] at l;by_cases z:q=0
 ·subst z
  obtain ⟨D,x,tv⟩:=Fc ln wd (dV rfl);obtain ⟨R,y,r1,r2,hy⟩:=JM rs λp hp=>⟨(hb p hp).1,(hr p hp).1 rfl,(hb p hp).2⟩;have r9:R.natAbs<=10 ^ 9:=au r2 (by rw [lr];exact au (dR ∅ (m3 rfl)) ∅)
  have Fd:∀i,i<n->1<=Dl i:=λi hi=>by have:=tv.one i hi;have:=tv.le i hi;lia
  obtain ⟨_,Kj⟩:=Kf n Dl Fd;have key:∀i,i<n->a8 0 (aW (aa.getD i []) rs (0,1)) (ah m λj=>x i j*y j,D i*R)/\1<=D i*R/\(ah m λj=>x i j*y j).natAbs<=10 ^ 26*(D i*R).natAbs/\(D i*R).natAbs<=10 ^ 81:=λi hi=>by
   have lp:(aa.getD i []).length=m:=by rw [getD_at ⋯];exact wd _ (aG _)
   have pd:=fk (show 0<D i by have:=tv.one i hi;lia) (show 0<R by lia)
   refine ⟨tM lp lr (λj hj=>?_) (λj hj=>?_),⋯,?_,?_⟩
   ·have:=tv.eq i j hi hj
    unfold atT at this;exact ⟨0,by dsimp only;lia⟩
   ·have:=(hy j ⋯).1
    exact ⟨0,by dsimp only;lia⟩
   ·refine au (Ez (M:=4*10 ^ 24*(D i*R).natAbs) _ _ λj hj=>?_) ?_
    ·rw [bU,bU]
     exact au (cA (tv.bd i j hi hj) (hy j ⋯).2) (jz (by grind))
    ·rw [<-lU]
     refine g8 _ (au (g8 _ (m3 rfl)) ∅)
   ·rw [bU]
    exact au (cA (au (tv.le i hi) (au (Kj i hi) (dP rfl))) r9) (by decide +kernel)
  obtain ⟨as,las,has⟩:=pick (xs:=vs) (R:=fun(i:Nat) (v:V) (p:Int×Int)=>cH (10 ^ 125) H 0 v p.1 p.2/\p.1*(D i*R)=(ah m λj=>x i j*y j)*p.2) λi v hv=>by
   have hi:i<n:=by have:=(aL.mp hv).1;lia
   obtain ⟨k1,k2,k3,k4⟩:=key i hi;have z:=f i v _ hv (by rw [bu,d5 (show i<aa.length by lia)];rfl)
   rw [<-getD_at (d:=[]) (show i<aa.length by lia)] at z
   obtain ⟨p,hp,ep⟩:=QT (B:=10 ^ 125) hq z λ_=>(gl _ _ k1 k2 (au k3 (au (fq _ k4) (by decide +kernel))) (au k4 (by decide +kernel)))
   exact (ad p hp (ep rfl _ _ k1 k2))
  have la:as.length=n:=by lia
  have hG:aM (10 ^ 125) H 0 a as:=(am vs e ⋯ (λi v p h1 h2=>(has i v p h1 h2).1))
  refine ⟨as,hG,Ki tv ln wd (n3 rfl) (dP rfl) la hc (λp hp=>(hG.nums hq p hp).1) λi hi=>?_⟩;obtain ⟨k1,k2,k3,k4⟩:=key i hi;have i1:i<vs.length:=by lia
  have i2:i<as.length:=by lia
  have h:=(has i vs[i] as[i] (by simp [i1]) (by simp [i2])).2
  refine (gl R _ r1 r9 ?_ k3);rw [getD_at i2];exact h
 ·obtain ⟨as,las,has⟩:=pick (xs:=vs) (R:=fun(i:Nat) (v:V) (p:Int×Int)=>cH (10 ^ 125) H q v p.1 p.2) λi v hv=>by
   have hi:i<n:=by have:=(aL.mp hv).1;lia
   have z':=f i v _ hv (by rw [bu,d5 (show i<aa.length by lia)];rfl)
   obtain ⟨p,hp,_⟩:=QT (B:=10 ^ 125) hq z' λy=>absurd y z;exact ⟨p,hp⟩
  have hG:aM (10 ^ 125) H q a as:=(am vs e ⋯ (λi v p h1 h2=>has i v p h1 h2))
  exact ⟨as,hG,Kh hq z ln n5 ⋯ hc λp hp=>(hG.nums hq p hp).1⟩
end My
namespace L2
open PySem PySem.Spec PyProof.Rows
section
variable {X:Cx} {N:List Str} {scope:Scope} {cl:List (Str×Addr)} {x y:Str} {px py pos tp:Pos} {m4:Nat} {iter elt:Expr} {ifs:List Expr} {wi:TI} {ρ:St->St} {tt:TT} {te:TE}
theorem aaG{y9:Str}{xH Bj:Pos}{i0:Nat}(B:Jl X N scope cl x y ρ)(hc:X.calm=true)(hN:X.N.Nodup)(w_:X.N[i0]?=some y9)(hy:Loc X.env.scope y9)(hi:PI X (.Tuple [.Name x px,.Name y py] m4 tp) iter wi)(ht:∀s₃ H₃ fp,mf (X.bZ N scope cl s₃ H₃ fp) ifs tt)(he:∀s₃ H₃ fp,PE (X.bZ N scope cl s₃ H₃ fp) elt te)
  (Jk:swapsWith (.ListComp elt [⟨.Tuple [.Name x px,.Name y py] m4 tp,iter,ifs,0⟩] scope pos) (some (.Name y9 xH)) Bj.line X.env=pure true:=by rfl) (hf:X.fn y9=true\/X.env.scope.names.lookup y9=some .local:=by first | exact .inl rfl | exact .inr rfl | assumption)
  (hs:∀x,foldedSetIterable iter X.env x=pure x:=by intro _;rfl):PS X (.Assign [.Name y9 xH] (.ListComp elt [⟨.Tuple [.Name x px,.Name y py] m4 tp,iter,ifs,0⟩] scope pos) Bj) (o7 (xg X.K wi ρ tt te) (aN i0)):=by
 intro pins s σ H D0 I h
 have h:xg X.K wi ρ tt te σ H (λv H1=>D0.nx (σ.set i0 (some v)) H1):=h
 rw [exec_Assign_Name_used _ _ _ _ Jk]
 refine c_ (Ak (c_ ?_))
 show wpAny _ X.A (do let _ <-comprehension (.ListComp elt [⟨.Tuple [.Name x px,.Name y py] m4 tp,iter,ifs,0⟩] scope pos) scope X.env _ (newList []) false (eval iter X.env) (some (assign (.Name y9 xH) X.env))) _ _ s
 refine c_ (cQ (Q:=λ_ s'=>SP X pins D0 .next s') ?_ (λ_ s' hq=>fN (fN hq)) λ_ _ e=>e)
 refine Ap (use:=some (assign (.Name y9 xH) X.env)) rfl hs B.sR B.kind B.names (bh (hi pins s σ H _ I h) λv s1 h1=>bh h1 λsI s2 h2=>?_)
 intros am33 h2 it fp tn J H2 rfl I2 T gH f2 q2
 have nD:H2 s2.heap.objs.size=none:=I2.aT.fresh (aP _)
 obtain ⟨W,⟨m0,w0⟩,turn⟩:=q2 _ nD
 refine vW (Dg B.Be (by intro y hy;simp at hy) (λh₁ gI ig=>?_) B.kind)
 dsimp only at gI ig ⊢
 generalize hD:s2.heap.objs.size=D at nD w0 turn gI ig ⊢
 generalize gh:({s2 with heap:=s2.heap.push {cls:=.type "list",dict:=none,data:=.seq ([]:List Value).toArray}}:Shared)=s3
 have I3:Inv X pins σ (upd H2 D (.lst [])) s3:=by
  subst hD gh
  exact I2.laid (t':=s2.toks) (λb u e=>dZ _ e) (aP _) ⟨f_ _,[],_,.nil,iz _ rfl⟩
 have e3:s3.heap=s2.heap.push {cls:=.type "list",dict:=none,data:=.seq ([]:List Value).toArray}:=by rw [<-gh]
 have fP:∀b o,s2.heap.get? b=some o->s3.heap.get? b=some o:=λb o e=>by rw [e3];exact dZ _ e
 rw [<-e3] at gI ig ⊢
 have below:∀b o,s3.heap.get? b=some o->b≠s3.heap.objs.size:=λb o e=>f9 (cB e)
 have dY:∀b o,s3.heap.get? b=some o->h₁.get? b=some o:=λb o e=>ig.extBut b o (below b o e) (dZ _ e)
 have gT:∀b∈fp,∃o,s2.heap.get? b=some o/\∀v,o.data≠.cell v:=T.obj _ _ gH
 have pj:∀b∈fp,b≠D:=λb hb z=>by
  obtain ⟨o,e,_⟩:=gT b hb
  rw [z,<-hD] at e
  exact absurd (cB e) (iy _)
 have dj:∀y c,cl.lookup y=some c->X.env.cells.lookup y=some c:=λy c e=>B.sub (y,c) (lM e)
 have pk:=I3.sD
 have d8:(X.bZ N scope cl s3 (upd H2 D (.lst [])) fp).Ok:=by
  refine ⟨I.ok.mod,B.kind,I.ok.glob,I.ok.blt,aP _,λa b c e1 e2=>I.ok.inj a b c (dj a c e1) (dj b c e2),λy hy=>B.has y hy,(λ_ _ z _=>absurd z d3),(λ_=>I.ok.hd hc),I.ok.frames,.inl rfl,λb hb=>⟨?_,λy c e z=>?_⟩,λb o e=>?_,au I.ok.iX I3.sz,λb o e hb=>?_,λb hb z=>?_,I3.stack,pk⟩
  ·obtain ⟨o,e,_⟩:=gT b hb
   exact below b o (fP b o e)
  ·exact (f2 b hb).2.2.2.2.1 y c (dj y c e) z
  ·exact I3.bs b o e
  ·rcases (f2 b hb).2.2.2.1 with z | z
   ·exact I.ok.oX b o e z
   ·exact absurd (dQ (cB e) (au I.ok.iX z)) (iy _)
  ·rcases fM.mp (I3.sC b z) with z | z
   ·exact (f2 b hb).2.1 z
   ·exact (f2 b hb).2.2.1 z
 have IB:∀tk:Nat,Inv (X.bZ N scope cl s3 (upd H2 D (.lst [])) fp) [] (none::none::ρ σ) (upd H2 D (.lst [])) {s3 with heap:=h₁,toks:=tk}:=λtk=>by
  refine ⟨d8,rfl,I3.bare,Un.kept dY,(ad _ gI (λj y v e1 e2 e3=>?_)),λy c e=>?_,?_,λy c e=>I3.jZ y c (dj y c e),(λp hp=>nomatch hp),I3.aT.kept dY,?_⟩
  ·cases j with
   | zero=>cases e2
   | succ j=>
   cases j with
   | zero=>cases e2
   | succ j=>
    obtain ⟨i,y',a1,a2,a3,a4,a5,a6⟩:=B.sS σ j v e2
    have jj:N[j+1+1]?=some y:=e1
    rw [jj] at a1
    cases a1
    obtain ⟨m,hn,hl⟩:=I3.loc
    obtain ⟨u,r,l⟩:=hl i y v a2 a3 a4
    refine (ad u r (.inr ⟨a6,?_⟩))
    obtain ⟨c,ec⟩:=B.has y a6
    rcases l with ⟨k,_⟩ | ⟨_,c',j_,z⟩
    ·rcases a5 with q | q <;> (rw [k] at q;cases q)
    ·have:=dj y c ec
     rw [this] at j_
     cases j_
     intros am0 z o ho hd
     exact (db c ec o (dY _ _ ho) hd)
  ·obtain ⟨v,o,ho,hd⟩:=I3.cell y c (dj y c e)
   exact ⟨v,o,dY _ _ ho,hd⟩
  ·exact I3.aT.fresh (aP _)
  ·show (none::none::ρ σ).length=N.length
   rw [df,df]
   exact B.len σ I.len
 have sY:∀b o,s3.heap.get? b=some o->b≠s3.heap.objs.size:=below
 have fin:∀{σ':St} {H':Hp} {s':Shared},Inv (X.bZ N scope cl s3 (upd H2 D (.lst [])) fp) [] σ' H' s'->D0.nx (σ.set i0 (some (.ref D))) H'->compPost (model X.prog X.w) X.A X.xe (some (assign (.Name y9 xH) X.env)) (λ_ s'=>SP X pins D0 .next s') (.ref D) s3.heap.objs.size (.ok .next) s':=fun{σ' H' s'} J q=>by
  obtain ⟨m,hn,_⟩:=J.loc
  have hn:s'.heap.Ns s3.heap.objs.size m:=hn
  have JC:H' s3.heap.objs.size=none:=J.free
  have u1:Un (dJ X.stack) fp (upd H2 D (.lst [])) H' s3.heap s'.heap:=by
   refine ⟨λb o e n hb hx=>J.base.keep b o e n hb hx,λb o e n hb hx=>J.base.slot b o e n hb hx,J.base.free,λb o e hx=>J.base.there b o e hx,J.base.iV,J.base.iE,J.base.iW⟩
  have IX:Inv X pins σ H' s':=I3.o5 (ch:=fp) (J.os) u1 J.aT J.bare λb hb=>by
   obtain ⟨g0,g1,g2,g3,g4,g5⟩:=f2 b hb
   exact ⟨g3,g1,g4,g5⟩
  have nl:X.env.locals≠s3.heap.objs.size:=by
   obtain ⟨m3,⟨o3,_,_,e3,_⟩,_⟩:=I3.loc
   exact sY _ _ e3
  have nc:∀z c,X.env.cells.lookup z=some c->c≠s3.heap.objs.size:=λz c e=>by
   obtain ⟨v3,o3,e3,_⟩:=I3.cell z c e
   exact sY _ _ e3
  refine wpAny_assign_Name (Ic (v:=.ref D) IX hN w_ hy rfl (λkP sZ s_=>?_) hf)
  intros am0 s_ a s_ ha
  have na:s3.heap.objs.size≠a:=by
   rcases ha with rfl | e
   ·exact λz=>nl z.symm
   ·exact λz=>nc _ _ e z.symm
  refine ⟨m,hn.sameBut s_ na,λh' dG=>⟨σ.set i0 (some (.ref D)),H',?_,q⟩⟩
  have u2:Un (dJ X.stack) [s3.heap.objs.size] H' H' kP.heap h':=by
   refine ⟨λb o e n hb hx=>(dG.2 b (by simpa using hx)).trans e,λb o e n hb hx=>⟨o.slots,(dG.2 b (by simpa using hx)).trans e⟩,λb o e n hx=>n,λb o e hx=>⟨o,(dG.2 b (by simpa using hx)).trans e⟩,λb xs z=>z,λb o u z=>z,λb ps z=>⟨#[],by simpa using z⟩⟩
  have pz:d6 X.prog X.w H' h':=λb u e=>by
   refine (sZ.aT b u e).kG (λc v hc z=>(dG.2 c λy=>?_).trans z) (λ_ z=>z) λ_ _ z=>z
   have y':c=s3.heap.objs.size:=y
   rcases hc with hc | hc
   ·rw [<-hc,y',JC] at e
    cases e
   ·rw [y',JC] at hc
    cases hc
  refine sZ.o5 (s':={kP with heap:=h'}) (ch:=[s3.heap.objs.size]) rfl u2 pz sZ.bare λb hb=>?_
  have eb:b=s3.heap.objs.size:=by simpa using hb
  subst eb
  refine ⟨.inr I3.sz,λz=>nl z.symm,λz c e=>nc z c e,λp hp=>?_⟩
  exact sY _ _ (I3.pin p hp).1
 have gf:∀{H':Hp},(∀b∈fp,H' b=none)->∀b∈fp,mO (X.bZ N scope cl s3 (upd H2 D (.lst [])) fp) [] H' b:=λhn b hb=>by
  refine ⟨hn b hb,?_,?_,.inl hb,λy c e z=>(f2 b hb).2.2.2.2.1 y c (dj y c e) z,λp hp=>nomatch hp⟩
  ·obtain ⟨o,e,_⟩:=gT b hb
   exact below b o (fP b o e)
  ·exact d8.oY b hb
 have loop:∀tk:Nat,codeAny (model X.prog X.w) X.A (.compLoop (.ListComp elt [⟨.Tuple [.Name x px,.Name y py] m4 tp,iter,ifs,0⟩] scope pos) 0 (.ref it) (.ref D) (compEnvC scope cl s3.heap.objs.size X.env))
   (compPost (model X.prog X.w) X.A X.xe (some (assign (.Name y9 xH) X.env)) (λ_ s'=>SP X pins D0 .next s') (.ref D) s3.heap.objs.size) {s3 with heap:=h₁,toks:=tk}:=λtk=>by
  refine O4 (λn s'=>∃i ys o o2 H',Inv (X.bZ N scope cl s3 (upd H2 D (.lst [])) fp) [] (o::o2::ρ σ) H' s'/\tn i s'.heap/\(∀b∈fp,H' b=none)/\W i n ys H') ?_ m0
   ⟨0,[],none,none,_,IB tk,T.keep _ _ _ gH λb hb o e=>dY _ _ (fP _ _ e),λb hb=>by rw [cj (pj b hb)];exact (f2 b hb).1,w0⟩
  intro n s4;intros am27 _ i ys o o2 H4 I4 ka ke w4
  obtain ⟨DX,pA⟩:=turn i n ys H4 w4
  rcases pA with ⟨stop,qn⟩ | ⟨go,step⟩
  ·refine cQ (T.done (X.bZ N scope cl s3 (upd H2 D (.lst [])) fp) rfl rfl rfl hc i [] s4 _ H4 (λ_ _=>False) I4 (gf ke) ka stop) (λr s5 ⟨hr,I5⟩=>?_) λ_ _ z=>z.elim
   subst hr
   exact fin I5 qn
  ·refine cQ (T.item (X.bZ N scope cl s3 (upd H2 D (.lst [])) fp) rfl rfl rfl hc i [] s4 _ H4 (λ_ _=>False) I4 (gf ke) ka go) (λr s5 ⟨u,hr,h5⟩=>?_) λ_ _ z=>z.elim
   subst hr
   refine cQ h5 (λ_ s5 ⟨y0,H5,I5,r5,y5,gg,mP⟩=>?_) λ_ _ z=>z.elim
   have q'65:=step y0 _ y5;intros am18 q'65 Tt x1 x2 e0 Jm pB
   subst e0
   have mQ:=I5.pinned (gf mP) (T.obj _ _ gg)
   have pg:PG (X.bZ N scope cl s3 (upd H2 D (.lst [])) fp) (.Tuple [.Name x px,.Name y py] m4 tp) (Ik X.K 2 (AR (aN 0) (AR (aN 1) Ij))):=
    wH (X:=X.bZ N scope cl s3 (upd H2 D (.lst [])) fp) hc (jF (dE (i:=0) B.nd B.n0 (.inl (lO B.hx)) (.inr (lO B.hx))) (jF (dE (i:=1) B.nd B.n1 (.inl (lO B.hy)) (.inr (lO B.hy))) wG))
   have again:∀{σ7:St} {H7:Hp} {s7:Shared},Inv (X.bZ N scope cl s3 (upd H2 D (.lst [])) fp) ([]++j7 fp s5.heap) σ7 H7 s7->Inv (X.bZ N scope cl s3 (upd H2 D (.lst [])) fp) [] σ7 H7 s7/\tn (i+1) s7.heap/\∀b∈fp,H7 b=none:=fun{σ7 H7 s7} I7=>by
    refine ⟨I7.qy,T.keep _ _ _ gg λb hb o e=>(I7.pin (b,o) (fG _ (fG _ (lY hb e)))).1,λb hb=>?_⟩
    obtain ⟨o,e,d⟩:=T.obj _ _ gg b hb
    exact (I7.pin (b,o) (fG _ (fG _ (lY hb e)))).2.1
   refine cQ (pg _ s5 _ H5 (.ref Tt) u (λσ2 H6=>σ2=some x1::some x2::ρ σ/\H6=H5) mQ r5 (ce Tt _ rfl Jm (re rfl _ (on _ rfl _ _ rfl rfl rfl rfl)))) (λ_ s6 ⟨σ6,H6,I6,q6⟩=>?_) λ_ _ z=>z.elim
   obtain ⟨rfl,rfl⟩:=q6
   have tests:∀{ik:TT},mf (X.bZ N scope cl s3 (upd H2 D (.lst [])) fp) ifs ik->∀{R:Bool->Hp->Prop},ik (some x1::some x2::ρ σ) H6 R->wpAny (model X.prog X.w) X.A
     (forIn ifs true λc r=>if r=true then do let ok <-isTrue c (compEnvC scope cl s3.heap.objs.size X.env) (eval c (compEnvC scope cl s3.heap.objs.size X.env));pure (ForInStep.yield ok) else pure (ForInStep.yield r))
     (λok s7=>∃H7,Inv (X.bZ N scope cl s3 (upd H2 D (.lst [])) fp) ([]++j7 fp s5.heap) (some x1::some x2::ρ σ) H7 s7/\R ok H7) (λ_ _=>False) s6:=fun{ik} p {R} hR=>by
    cases p with
    | nil=>exact Aq (ad _ I6 hR)
    | one p=>exact Ar (p _ s6 _ _ _ I6 hR)
   refine cQ (tests (ht s3 _ fp) pB) (λok s7 ⟨H7,I7,q7⟩=>?_) λ_ _ z=>z.elim
   cases ok with
   | false=>
    intros am0 q7 m' gU w7
    obtain ⟨a1,a2,a3⟩:=again I7
    exact ⟨m',gU,i+1,ys,_,_,H7,a1,a2,a3,w7⟩
   | true=>
    refine cQ (he s3 _ fp _ s7 _ H7 _ I7 q7) (λev s8 ⟨z,H8,I8,r8,mX,hz,m',gU,w8⟩=>?_) λ_ _ z=>z.elim
    refine cQ (nY (X:=X.bZ N scope cl s3 (upd H2 D (.lst [])) fp) _ s8 _ H8 (.ref D) [z] (.ref D) [ev] (λ_ H9=>H9=upd H8 D (.lst (ys++[z]))) I8 rfl (.cons r8 .nil) (o0 D ys z rfl rfl mX hz rfl)) (λ_ s9 ⟨_,H9,I9,_,q9⟩=>?_) λ_ _ z=>z.elim
    subst q9
    obtain ⟨a1,a2,a3⟩:=again I9
    exact ⟨m',gU,i+1,ys++[z],_,_,_,a1,a2,a3,w8⟩
 have start:=loop (s3.toks+([]:List (Str×Value)).length)
 have es:({s3 with heap:=h₁,toks:=s3.toks+([]:List (Str×Value)).length}:Shared)={s2 with heap:=h₁,toks:=s2.toks+([]:List (Str×Value)).length}:=by rw [<-gh]
 rw [es] at start
 exact As start (T.self _ 0 _ _ _ (T.keep _ _ _ gH λb hb o e=>dY _ _ (fP _ _ e)) start)
end
end L2
set_option maxRecDepth 100000
set_option maxHeartbeats 4000000
namespace My
open PySem L2
def top(i:Nat):Stmt:=PySem.Challenge.pw_bandwright_k14_whole_undone_plainly.main.body.getD i (.Pass ⟨0,0,0,0⟩)
abbrev Fe:Stmt:=top 45
abbrev Ff:Stmt:=top 47
abbrev Fg:Stmt:=top 48
abbrev Fh:Stmt:=top 58
abbrev Fi:Stmt:=top 59
abbrev Fj:Stmt:=top 60
abbrev Fl:Stmt:=top 63
abbrev Fm:Stmt:=top 65
abbrev Fn:Stmt:=top 66
abbrev Fo:Stmt:=top 69
abbrev Fp:Stmt:=top 70
abbrev Fq:Stmt:=top 7
abbrev Fs:Stmt:=top 8
abbrev Ft:Stmt:=top 10
abbrev Fu:Stmt:=top 9
abbrev Fv:Stmt:=top 11
abbrev Fw:Stmt:=top 12
abbrev Fz:Stmt:=top 13
abbrev FA:Stmt:=top 14
abbrev FC:Stmt:=top 15
abbrev FD:Stmt:=top 16
abbrev FE:Stmt:=top 17
abbrev FF:Stmt:=top 18
abbrev FG:Stmt:=top 19
abbrev FH:Stmt:=top 20
abbrev FI:Stmt:=top 21
abbrev FJ:Stmt:=top 22
abbrev FK:Stmt:=top 24
abbrev FL:Stmt:=top 25
abbrev FN:Stmt:=top 26
abbrev FO:Stmt:=top 27
abbrev FP:Stmt:=top 28
abbrev FQ:Stmt:=top 30
abbrev FR:Stmt:=top 31
abbrev FT:Stmt:=top 32
abbrev FU:Stmt:=top 33
abbrev FV:Stmt:=top 34
abbrev FW:Stmt:=top 40
abbrev FX:Stmt:=top 41
abbrev FY:Stmt:=top 35
abbrev FZ:Stmt:=top 36
abbrev F3:Stmt:=top 37
abbrev F4:Stmt:=top 38
abbrev F5:Stmt:=top 39
abbrev F6:Stmt:=top 49
abbrev F7:Stmt:=top 51
abbrev F8:Stmt:=top 52
abbrev F9:Stmt:=top 53
abbrev F_:Stmt:=top 54
abbrev Ga:Stmt:=top 55
abbrev Gb:Stmt:=top 56
abbrev Gd:Stmt:=top 73
abbrev Ge:Stmt:=top 74
abbrev Gf:Stmt:=top 75
abbrev Gg:Stmt:=top 76
abbrev Gh:Stmt:=top 77
abbrev Gi:Stmt:=top 78
abbrev Gj:Stmt:=top 79
abbrev Gk:Stmt:=top 80
abbrev Gm:Stmt:=top 81
abbrev Gn:Stmt:=top 82
abbrev Gp:Stmt:=top 83
abbrev Gq:Stmt:=top 84
abbrev Gr:Stmt:=top 85
abbrev Gs:Stmt:=top 86
abbrev Gu:Stmt:=top 87
abbrev Gv:Stmt:=top 88
abbrev Gw:Stmt:=top 89
abbrev Gx:Stmt:=top 90
abbrev Gy:Stmt:=inClass (top 71) 0
abbrev mr:Stmt:=inClass (top 71) 3
abbrev Gz:Stmt:=inClass (top 71) 5
abbrev GB:Stmt:=inClass (top 71) 8
set_option genInjectivity false in
set_option genSizeOf false in
structure Km where
 tR:Addr
 xI:FuncData
 tS:Addr
 xJ:FuncData
 tT:Addr
 xK:FuncData
 tU:Addr
 xM:FuncData
 tV:Addr
 xN:FuncData
 tW:Addr
 xO:FuncData
 tX:Addr
 xP:FuncData
 tY:Addr
 xQ:FuncData
 tZ:Addr
 xR:FuncData
 t4:Addr
 xS:FuncData
 t5:Addr
 xT:FuncData
 qV:Addr
 t6:FuncData
 qW:Addr
 t7:FuncData
 t8:Addr
 xU:FuncData
 t9:Addr
 xV:FuncData
 t_:Addr
 xW:FuncData
 qX:Addr
 ua:FuncData
 ub:Addr
 xX:FuncData
 uc:Addr
 xY:FuncData
 ud:Addr
 xZ:FuncData
 ue:Addr
 x4:FuncData
 uf:Addr
 x5:FuncData
 ug:Addr
 x6:FuncData
 uh:Addr
 x8:FuncData
 ui:Addr
 x9:FuncData
 uj:Addr
 x_:FuncData
 uk:Addr
 ya:FuncData
 um:Addr
 yc:FuncData
 uo:Addr
 yd:FuncData
 uq:Addr
 ye:FuncData
 ur:Addr
 yf:FuncData
 qY:Addr
 uu:FuncData
 uv:Addr
 yg:FuncData
 uw:Addr
 yh:FuncData
 ux:Addr
 yi:FuncData
 uy:Addr
 yj:FuncData
 uz:Addr
 yk:FuncData
 qZ:Addr
 uA:FuncData
 q5:Addr
 uB:FuncData
 uC:Addr
 ym:FuncData
 uD:Addr
 yn:FuncData
 uE:Addr
 yo:FuncData
 uF:Addr
 yp:FuncData
 uH:Addr
 yq:FuncData
 uI:Addr
 yr:FuncData
 uJ:Addr
 yt:FuncData
 uK:Addr
 yu:FuncData
 uM:Addr
 yv:FuncData
 uN:Addr
 yw:FuncData
 uO:Addr
 yy:FuncData
 uP:Addr
 yz:FuncData
 uQ:Addr
 yA:FuncData
 uR:Addr
 yB:FuncData
 uS:Addr
 yC:FuncData
 uT:Addr
 yF:FuncData
 uU:Addr
 yG:FuncData
 uV:Addr
 yH:FuncData
 uW:Addr
 yI:FuncData
 uX:Addr
 yJ:FuncData
 q8:Addr
 uY:FuncData
 uZ:Addr
 yK:FuncData
 u3:Addr
 yL:FuncData
 u4:Addr
 yM:FuncData
 u6:Addr
 yN:FuncData
 u7:Addr
 yO:FuncData
 u9:Addr
 yP:FuncData
 u_:Addr
 yQ:FuncData
 vc:Addr
 yR:FuncData
 q_:Addr
 vd:FuncData
 ve:Addr
 yS:FuncData
 p6:Addr
 BH:FuncData
 vg:Addr
 yT:FuncData
 vh:Addr
 yU:FuncData
 bP:Addr
 vi:Addr
 ox:Addr
 fz:Addr
 yV:Addr
abbrev bF (mg:eK) (x:Str) (f:Addr):Prop:=mg x=some (.ref f)
abbrev GC (K:aQ) (a:Addr):Prop:=PySem.W.excIn K a [.type "ValueError",.type "Exception",.type "BaseException",.type "object"] "ValueError.__new__"=true
structure Txt (K:aQ) (mg:eK) (t:Km):Prop where
 yW:aB K "is_whole" Fe t.tR t.xI
 QV:Binds K t.xI ["thing"] []
 QW:bF mg "is_whole" t.tR
 p7:aB K "common_divisor" Ff t.tS t.xJ
 BI:Binds K t.xJ ["one","other"] []
 BJ:bF mg "common_divisor" t.tS
 yX:aB K "is_prime" Fg t.tT t.xK
 QX:Binds K t.xK ["number"] []
 QY:bF mg "is_prime" t.tT
 yY:aB K "ratio" Fh t.tU t.xM
 QZ:Binds K t.xM ["top","bottom"] []
 Q0:bF mg "ratio" t.tU
 yZ:aB K "ratio_plus" Fi t.tV t.xN
 Q1:Binds K t.xN ["a","b"] []
 Q2:bF mg "ratio_plus" t.tV
 y3:aB K "ratio_minus" Fj t.tW t.xO
 Q3:Binds K t.xO ["a","b"] []
 Q4:bF mg "ratio_minus" t.tW
 y4:aB K "one_bottom" Fl t.tX t.xP
 Q5:Binds K t.xP ["row"] []
 Q6:bF mg "one_bottom" t.tX
 y6:aB K "remainder_back" Fm t.tY t.xQ
 Q7:Binds K t.xQ ["prime","number"] []
 Q8:bF mg "remainder_back" t.tY
 y7:aB K "remainder_over" Fn t.tZ t.xR
 Q9:Binds K t.xR ["prime","a","b"] []
 Q_:bF mg "remainder_over" t.tZ
 y8:aB K "is_fractions" Fo t.t4 t.xS
 Ra:Binds K t.xS ["told"] []
 Rb:bF mg "is_fractions" t.t4
 y_:aB K "is_wheel" Fp t.t5 t.xT
 Rc:Binds K t.xT ["told"] []
 Rf:bF mg "is_wheel" t.t5
 iN:aB K "width" Fq t.qV t.t6
 lg:Binds K t.t6 ["table"] []
 lh:bF mg "width" t.qV
 oy:aB K "square_size" Fs t.qW t.t7
 BK:Binds K t.t7 ["table"] []
 BL:bF mg "square_size" t.qW
 p8:aB K "has_size" Ft t.t8 t.xU
 BM:Binds K t.xU ["table","n","m"] []
 BN:bF mg "has_size" t.t8
 za:aB K "check_aim" Fu t.t9 t.xV
 Rg:Binds K t.xV ["n","aim"] []
 Rh:bF mg "check_aim" t.t9
 rf:aB K "column" Fv t.t_ t.xW
 GD:Binds K t.xW ["table","place"] []
 GF:bF mg "column" t.t_
 oz:aB K "columns" Fw t.qX t.ua
 BO:Binds K t.ua ["table"] []
 BP:bF mg "columns" t.qX
 vj:aB K "sum_of_wholes" Fz t.ub t.xX
 Kn:Binds K t.xX ["world","one","other"] []
 Ko:bF mg "sum_of_wholes" t.ub
 zb:aB K "sums_of_wholes" FA t.uc t.xY
 Ri:Binds K t.xY ["world","rows","row"] []
 Rj:bF mg "sums_of_wholes" t.uc
 zc:aB K "all_as_wholes" FC t.ud t.xZ
 Rk:Binds K t.xZ ["world","rows"] []
 Rl:bF mg "all_as_wholes" t.ud
 zd:aB K "paired_sum" FD t.ue t.x4
 Rm:Binds K t.x4 ["world","one","other"] []
 Rn:bF mg "paired_sum" t.ue
 p9:aB K "paired_sums" FE t.uf t.x5
 BQ:Binds K t.x5 ["world","rows","others"] []
 BR:bF mg "paired_sums" t.uf
 vk:aB K "carried" FF t.ug t.x6
 Kp:Binds K t.x6 ["world","table","row"] []
 Kq:bF mg "carried" t.ug
 ze:aB K "through" FG t.uh t.x8
 Ro:Binds K t.x8 ["world","row","table"] []
 Rp:bF mg "through" t.uh
 zg:aB K "product" FH t.ui t.x9
 Rq:Binds K t.x9 ["world","one","other"] []
 Rr:bF mg "product" t.ui
 zh:aB K "one_table_row" FI t.uj t.x_
 Rt:Binds K t.x_ ["world","n","place"] []
 Ru:bF mg "one_table_row" t.uj
 rg:aB K "one_table" FJ t.uk t.ya
 GG:Binds K t.ya ["world","n"] []
 GH:bF mg "one_table" t.uk
 vm:aB K "cleared" FK t.um t.yc
 Kr:Binds K t.yc ["world","row","head","lead","last"] []
 Ks:bF mg "cleared" t.um
 vp:aB K "first_filled" FL t.uo t.yd
 Kt:Binds K t.yd ["rows","start","lead"] []
 Ku:bF mg "first_filled" t.uo
 vq:aB K "swapped" FN t.uq t.ye
 Kv:Binds K t.ye ["rows","one","other"] []
 Kw:bF mg "swapped" t.uq
 vv:aB K "row_over" FO t.ur t.yf
 Kx:Binds K t.yf ["world","row","lead"] []
 Ky:bF mg "row_over" t.ur
 jP:aB K "reduced" FP t.qY t.uu
 oA:Binds K t.uu ["world","table"] []
 oB:bF mg "reduced" t.qY
 p_:aB K "beside" FQ t.uv t.yg
 BS:Binds K t.yg ["table","other"] []
 BU:bF mg "beside" t.uv
 vw:aB K "answer_of" FR t.uw t.yh
 Kz:Binds K t.yh ["world","rows","leads","wide"] []
 KA:bF mg "answer_of" t.uw
 zi:aB K "move_of" FT t.ux t.yi
 Rv:Binds K t.yi ["world","rows","leads","wide","free"] []
 Rw:bF mg "move_of" t.ux
 zj:aB K "bar_of" FU t.uy t.yj
 Rx:Binds K t.yj ["world","table","aim"] []
 Ry:bF mg "bar_of" t.uy
 zk:aB K "undone" FV t.uz t.yk
 Rz:Binds K t.yk ["world","table","aim"] []
 RA:bF mg "undone" t.uz
 rh:aB K "back_times" FW t.qZ t.uA
 KC:Binds K t.uA ["world","table","other"] []
 KD:bF mg "back_times" t.qZ
 vy:aB K "back_of" FX t.q5 t.uB
 RB:Binds K t.uB ["world","table"] []
 RC:bF mg "back_of" t.q5
 vz:aB K "is_nought_row" FY t.uC t.ym
 KG:Binds K t.ym ["world","row"] []
 KH:bF mg "is_nought_row" t.uC
 zl:aB K "is_answer" FZ t.uD t.yn
 RD:Binds K t.yn ["world","table","aim","row"] []
 RE:bF mg "is_answer" t.uD
 zm:aB K "is_bar" F3 t.uE t.yo
 RF:Binds K t.yo ["world","table","aim","row"] []
 RG:bF mg "is_bar" t.uE
 zo:aB K "is_move" F4 t.uF t.yp
 RH:Binds K t.yp ["world","table","row"] []
 RI:bF mg "is_move" t.uF
 vA:aB K "are_moves" F5 t.uH t.yq
 KI:Binds K t.yq ["world","table","rows"] []
 KJ:bF mg "are_moves" t.uH
 zp:aB K "is_rising" F6 t.uI t.yr
 RJ:Binds K t.yr ["things"] []
 RK:bF mg "is_rising" t.uI
 zq:aB K "rank" F7 t.uJ t.yt
 RL:Binds K t.yt ["world","table"] []
 RM:bF mg "rank" t.uJ
 rj:aB K "picked" F8 t.uK t.yu
 GI:Binds K t.yu ["row","places"] []
 GJ:bF mg "picked" t.uK
 zr:aB K "rank_paper" F9 t.uM t.yv
 RN:Binds K t.yv ["world","table"] []
 RO:bF mg "rank_paper" t.uM
 zt:aB K "put_back" F_ t.uN t.yw
 RP:Binds K t.yw ["world","left","right","wide"] []
 RQ:bF mg "put_back" t.uN
 vB:aB K "are_picks" Ga t.uO t.yy
 KL:Binds K t.yy ["places","many","bound"] []
 KN:bF mg "are_picks" t.uO
 zu:aB K "is_rank_paper" Gb t.uP t.yz
 RR:Binds K t.yz ["world","table","paper"] []
 RS:bF mg "is_rank_paper" t.uP
 mw:aB K "_law_b_draw" Gd t.uQ t.yA
 rp:Binds K t.yA ["script","k"] []
 rq:bF mg "_law_b_draw" t.uQ
 qa:aB K "_law_b_low" Ge t.uR t.yB
 BV:Binds K t.yB ["top","bottom"] []
 BW:bF mg "_law_b_low" t.uR
 zw:aB K "_law_b_prime" Gf t.uS t.yC
 RT:Binds K t.yC ["cell"] []
 RU:bF mg "_law_b_prime" t.uS
 zx:aB K "_law_b_wheel" Gg t.uT t.yF
 RV:Binds K t.yF ["draw"] []
 RW:bF mg "_law_b_wheel" t.uT
 zy:aB K "_law_b_world" Gh t.uU t.yG
 RX:Binds K t.yG ["p"] []
 RY:bF mg "_law_b_world" t.uU
 oC:aB K "_law_b_whole" Gi t.uV t.yH
 zA:Binds K t.yH ["thing"] []
 zB:bF mg "_law_b_whole" t.uV
 zC:aB K "_law_b_is" Gj t.uW t.yI
 RZ:Binds K t.yI ["p","thing"] []
 R5:bF mg "_law_b_is" t.uW
 oE:aB K "_law_b_number" Gk t.uX t.yJ
 zD:Binds K t.yJ ["p","draw"] []
 zE:bF mg "_law_b_number" t.uX
 jQ:aB K "_law_b_dot" Gm t.q8 t.uY
 nh:Binds K t.uY ["p","one","other"] []
 nj:bF mg "_law_b_dot" t.q8
 rz:aB K "_law_b_is_row" Gn t.uZ t.yK
 GK:Binds K t.yK ["p","thing","many"] []
 GL:bF mg "_law_b_is_row" t.uZ
 qb:aB K "_law_b_is_table" Gp t.u3 t.yL
 BX:Binds K t.yL ["p","thing","many","each"] []
 BY:bF mg "_law_b_is_table" t.u3
 zF:aB K "_law_b_rank" Gq t.u4 t.yM
 R6:Binds K t.yM ["p","rows","many"] []
 R7:bF mg "_law_b_rank" t.u4
 zG:aB K "_law_b_drawn" Gr t.u6 t.yN
 R8:Binds K t.yN ["script","p","n","m","at"] []
 R9:bF mg "_law_b_drawn" t.u6
 vC:aB K "_law_b_rising" Gs t.u7 t.yO
 KO:Binds K t.yO ["places","many"] []
 KP:bF mg "_law_b_rising" t.u7
 zH:aB K "_law_b_shown" Gu t.u9 t.yP
 R_:Binds K t.yP ["p","table","paper"] []
 Sa:bF mg "_law_b_shown" t.u9
 zI:aB K "_law_b_barred" Gv t.u_ t.yQ
 Sb:Binds K t.yQ ["p","world","table","aim","found"] []
 Sd:bF mg "_law_b_barred" t.u_
 zJ:aB K "_law_b_right" Gw t.vc t.yR
 Se:Binds K t.yR ["p","world","table","aim","found","free"] []
 Sf:bF mg "_law_b_right" t.vc
 zK:aB K "law" Gx t.q_ t.vd
 aaH:Binds K t.vd ["script"] []
 Sg:bF mg "law" t.q_
 BZ:gS K "__init__" "World.__init__" Gy t.ve t.yS
 KQ:Binds K t.yS ["self","told"] []
 B0:Mk K t.bP t.ve
 Sh:kU K "of" "World.of" mr 1 t.p6 t.BH
 KR:Binds K t.BH ["self","top","bottom"] []
 vD:∃v,Vals [V.int 1] [v]/\Binds K t.BH ["self","top","bottom"] [v]
 aaI:∀(s:Shared) (us ws:List Value),K.In s.heap->ws.length=1->us.length+1=(["self","top","bottom"]:List Str).length->BindsTo s t.BH ⟨us,[("bottom":Str)].zip ws⟩ ((["self","top","bottom"]:List Str).zip (us++ws))
 lE:Meth K t.bP "of" t.p6
 B3:gS K "minus" "World.minus" Gz t.vg t.yT
 Si:Binds K t.yT ["self","a","b"] []
 GN:Meth K t.bP "minus" t.vg
 B4:gS K "as_wholes" "World.as_wholes" GB t.vh t.yU
 vE:Binds K t.yU ["self","row"] []
 qc:Meth K t.bP "as_wholes" t.vh
 eI:mR K t.bP
 KS:bF mg "World" t.bP
 mB:sL K t.bP "prime"
 Sj:bF mg "NoWorld" t.vi
 KU:bF mg "NoOver" t.ox
 qd:bF mg "NoFit" t.fz
 aaJ:bF mg "WrightError" t.yV
 b5:mg "len"=none
 lF:mg "isinstance"=none
 B5:mg "int"=none
 KW:mg "bool"=none
 zL:mg "tuple"=none
 nB:mg "list"=none
 fg:mg "range"=none
 B6:mg "abs"=none
 oF:mg "all"=none
 KY:mg "any"=none
 KZ:mg "sum"=none
 ku:mg "zip"=none
 Sk:mg "min"=none
 Sl:∃u,mg "GREATEST_PRIME"=some u/\RelV (.int 997) u
 Sm:∃u,mg "LONG"=some u/\RelV (.int 2048) u
 Sn:GC K t.vi
 K0:GC K t.ox
 qe:GC K t.fz
 aaK:GC K t.yV
section
variable {P:Program} {w:World} {K:aQ} {mg:eK} {base:Heap} {t:Km}
theorem aaL:bw ["thing"] ["thing"] (aR Fe):=bH
theorem aaM(T:Txt K mg t):aO P w K mg base bO 1 t.tR t.xI ["thing"] ON:=by
 have S:=aaL;refine T.yW.bV S (λ_ _ _ _ H _ Q _ hr h=>?_);intros am7 h v rfl ha k;refine (ad _ (ar (aJ (iF (aZ (ma (K:=K)) rfl T.lF boot_isinstance (ae (pv 0) (ae (lX (v:=.ty "int") rfl T.B5 boot_int rfl) af))) (jE (Nu (aZ (ma (K:=K)) rfl T.lF boot_isinstance (ae (pv 0) (ae (lX (v:=.ty "bool") rfl T.KW boot_bool rfl) af)))))))) ?_);obtain ⟨Ty,ty,k1,k2,_⟩:=ha.Bb (K:=K);refine (ad _ rfl (wE _ _ _ _ rfl rfl ty k1 _ rfl (cM (λh1=>?_) (λh1=>?_))))
 ·refine (ad _ rfl (wE _ _ _ _ rfl rfl ty k2 _ rfl ?_))
  have e:(!pF v)=kT v:=by
   cases h2:pF v with
   | true=>rw [OL h2];rfl
   | false=>rw [h2,Bool.or_false] at h1;rw [h1];rfl
  show Q (.bl (!pF v)) H;rw [e];exact k
 ·have e:kT v=false:=by
   cases h2:kT v with
   | true=>rw [h2] at h1;exact absurd rfl h1
   | false=>rfl
  rw [e] at k;exact k
theorem aaN:bw ["one","other","left","shorter"] ["one","other"] (aR Ff):=bH
theorem GO(T:Txt K mg t):aO P w K mg base bO 1 t.tS t.xJ ["one","other"] Xi:=by
 have S:=aaN;obtain ⟨uL,hL,rL⟩:=T.Sm;refine T.p7.bV S (λ_ _ _ _ H _ _ _ hr h=>?_);intros am13 h a b rfl mb k
 refine (ad _ (ak (putL 0 S.nd (aZ DI rfl T.B6 boot_abs (ae (pv 0) af)))
  (ak (putL 1 S.nd (aZ DI rfl T.B6 boot_abs (ae (pv 1) af)))
  (ak (AS fJ (bK Iv (pv 1) aj) (ak (putL 2 S.nd (az dy (pv 0) (pv 1)))
  (ak (putL 0 S.nd (pv 1))
  (ak (putL 1 S.nd (pv 2))
  (ar (bC (bK Iv (Wd PySem.F.plainAttrs_int PySem.F.slot_int_bit_length PySem.F.type_int_bit_length W9 (pv 0)) (Nq (v:=.int 2048) rfl hL rL)) U5 bG))))))
  (ar (aJ (pv 0)))))) ?_)
 refine (db _ rfl a rfl (sK _ rfl b rfl (λm σ H'=>H'=H/\∃(x y:Nat) (v u:Option V),σ=[some (.int (x:Int)),some (.int (y:Int)),v,u]/\m=y/\y<=b.natAbs/\Nat.gcd x y=Int.gcd a b) (Rs b.natAbs rfl a.natAbs b.natAbs (gl none none ?_ rfl (aP _) rfl)) ?_))
 ·show [some (V.int (if a<0 then -a else a)),some (V.int (if b<0 then -b else b)),none,none]=_
  rw [DZ,DZ]
 ·intro m σ H';intros am30 _ rfl x y v u rfl em hb hg
  refine (io _ rfl _ _ rfl rfl _ rfl (cM (λhy=>?_) (λhy=>?_)))
  ·have hy:(0:Int)<y:=iS hy
   refine (ad (λσ' H2=>H2=H'/\σ'=[some (.int (y:Int)),some (.int (((x % y:Nat)):Int)),some (.int (((x % y:Nat)):Int)),u]) ?_ ?_)
   ·rintro σ' H2 ⟨rfl,rfl⟩
    exact ⟨x % y,by rw [em];exact Nat.mod_lt _ ⋯,rfl,y,x % y,_,_,rfl,rfl,au (Nat.le_of_lt (Nat.mod_lt _ ⋯)) hb,by rw [OM];exact hg⟩
   ·have hm:b_ (y:Int):=bT (by rw [wc];exact hb) mb
    have jt:=Xa hm;refine (ms _ rfl _ rfl _ _ rfl rfl hy (db _ rfl _ rfl (am _ rfl rfl (am _ rfl rfl (pi _ _ rfl rfl _ rfl (cM (λhz=>?_) (λ_=>⟨rfl,rfl⟩)))))));have hz:=iS hz;exact absurd hz ⋯
  ·have hy:¬(0:Int)<y:=λz=>hy (cF z)
   have y0:y=0:=by lia
   subst y0;rw [Nat.gcd_zero_right] at hg;rw [<-hg] at k;exact (ad _ rfl k)
theorem aaO:bw ["number","divisor"] ["number"] (aR Fg):=bH
theorem aaP(T:Txt K mg t):aO P w K mg base bO 1 t.tT t.xK ["number"] Xj:=by
 have S:=aaO;refine T.yX.bV S (λ_ _ _ _ H _ Q _ hr h=>?_);intros am9 h n rfl hn1 wO k
 refine (ad _ (ak (putL 1 S.nd aj)
  (ak (AS fJ (bK wM (az kJ (pv 1) (pv 1)) (pv 0)) (ak (bC (bK eE (az dy (pv 0) (pv 1)) aj) (ar (aJ dM)) bG)
  (ar (Vb (i:=1) S.nd rfl (Or.inl rfl) aj Ve))))
  (ar (aJ (e8 Vs (pv 0) aj))))) ?_)
 refine (ad (λm σ H'=>H'=H/\∃d:Int,σ=[some (.int n),some (.int d)]/\2<=d/\d<=32/\m=(33-d).toNat/\∀e:Int,2<=e->e<d->n % e≠0) ⟨_,rfl,2,rfl,⋯,⋯,rfl,λe a b=>by lia⟩ ?_)
 intro m σ H';intros amA _ rfl am14 d rfl h1 h2 rfl h3;refine (ms _ rfl _ rfl _ _ rfl rfl (.inl ⟨⋯,⋯⟩) (io _ rfl _ _ rfl rfl _ rfl (cM (λhq=>?_) (λhq=>?_))))
 ·have hq:=iS hq
  have hd:d<32:=by
   by_cases z:d<32;·exact z
   ·have:d=32:=by lia
    subst this;lia
  refine (ad (λσ' H2=>H2=H'/\σ'=[some (.int n),some (.int (d+1))]/\n % d≠0) ?_ ?_)
  ·rintro σ' H2 ⟨rfl,rfl,hm⟩
   refine ⟨(33-(d+1)).toNat,⋯,rfl,d+1,rfl,⋯,⋯,rfl,λe a b=>?_⟩
   by_cases z:e=d;·subst z;exact hm
   ·exact h3 e a ⋯
  ·refine (ms _ rfl _ rfl _ _ rfl rfl (show (0:Int)<d by lia) (sw rfl _ rfl (cM (λhm=>?_) (λhm=>?_))))
   ·have hm:=V.int.inj (iS hm)
    rw [OB wO h1 hq hm] at k;exact k
   ·exact (on _ rfl _ _ rfl rfl rfl ⟨rfl,λz=>hm (cF (eW V.int z))⟩)
 ·have hq:¬d*d<=n:=λz=>hq (cF z)
  refine (dL _ rfl _ _ rfl rfl ?_);rw [WZ (n:=n) (d:=d) ⋯ h1 h3] at k
  have e:decide ((2:Int)<=n)=true:=cF hn1;show Q (.bl (decide ((2:Int)<=n))) H';rw [e];exact k
theorem aaR:bw ["told"] ["told"] (aR Fo):=bH
theorem aaS(T:Txt K mg t):aO P w K mg base bO 1 t.t4 t.xS ["told"] Xk:=by
 have S:=aaR;refine T.y8.bV S (λ_ _ _ _ H _ _ _ hr h=>?_);intros am13 h p d rfl hp k;refine (ad _ (ar (aJ (iF (aZ (ma (K:=K)) rfl T.lF boot_isinstance (ae (pv 0) (ae (lX (v:=.ty "tuple") rfl T.zL boot_tuple rfl) af))) (iF (e8 eE (aZ cm rfl T.b5 b6 (ae (pv 0) af)) aj) (jE (e8 eE (aA bE (pv 0) aj) gd)))))) ?_);refine (ad _ rfl (wE _ _ _ true rfl rfl (.of (.tup hp)) sU true rfl (dW ?_)));cases d with
 | a x=>refine (f8 _ rfl p _ rfl (.inr (.of hp)) rfl true rfl (dW ?_));refine (ad _ rfl (u8 p _ 0 (.str x) rfl rfl (.of hp) rfl rfl ?_));rw [Jc];exact k
 | b x n=>exact (f8 _ rfl p _ rfl (.inr (.of hp)) rfl false rfl (bQ k))
theorem aaT:bw ["told"] ["told"] (aR Fp):=bH
theorem aaU(T:Txt K mg t):aO P w K mg base bO 2 t.t5 t.xT ["told"] Xl:=by
 have S:=aaT;obtain ⟨uG,hG,rG⟩:=T.Sl;refine T.y_.bV S (λ_ _ _ _ H _ _ _ hr h=>?_);intros am13 h p d rfl hp k
 refine (ad _ (ak (bC (PW.pt (pw_or (e7 (d7 (aZ (ma (K:=K)) rfl T.lF boot_isinstance (ae (pv 0) (ae (lX (v:=.ty "tuple") rfl T.zL boot_tuple rfl) af))))) (pw_or (bK fX (aZ cm rfl T.b5 b6 (ae (pv 0) af)) aj) (pw_or1 (bK fX (aA bE (pv 0) aj) gd))))) (ar (aJ dM)) bG)
  (ar (aJ (iF (aw (aaM T) hr T.QW T.yW.kp T.QV aF (ae (aA bE (pv 0) aj) af)) (iF (DH wM wM aj (aA bE (pv 0) aj) (Nq (v:=.int 997) rfl hG rG)) (jE (aw (aaP T) hr T.QY T.yX.kp T.QX aF (ae (aA bE (pv 0) aj) af)))))))) ?_)
 refine (ad _ rfl (wE _ _ _ true rfl rfl (.of (.tup hp)) sU true rfl (bQ ?_)));cases d with
 | a x=>exact (f8 _ rfl p _ rfl (.inr (.of hp)) rfl true rfl (dW (dW k)))
 | b x n=>
  refine (f8 _ rfl p _ rfl (.inr (.of hp)) rfl false rfl (bQ ?_));refine (nw _ rfl p _ 0 (.str x) rfl rfl (.of hp) rfl (sw rfl _ rfl (cM (λhw=>?_) (λhw=>?_))))
  ·have hw:¬x="wheel":=by rw [Jc] at hw;simpa using hw
   have e:(Td.b x n).me=false:=by simp [Td.me,hw]
   rw [e] at k;exact k
  ·have hw:x="wheel":=by rw [Jc] at hw;simpa using hw
   refine (nw _ rfl p _ 1 (.int n) rfl rfl (.of hp) rfl (gt (.int n) rfl (.int n) true rfl (dW ?_)));refine (nw _ rfl p _ 1 (.int n) rfl rfl (.of hp) rfl (pi _ _ rfl rfl _ rfl ?_));refine cM (λh2=>?_) (λh2=>?_)
   ·have h2:=iS h2
    refine (pi _ _ rfl rfl _ rfl (cM (λh3=>?_) (λh3=>?_)))
    ·have h3:=iS h3
     refine (nw _ rfl p _ 1 (.int n) rfl rfl (.of hp) rfl (ii n rfl h2 h3 ?_));have e:(Td.b x n).me=iZ n:=by simp [Td.me,hw,h2,h3]
     rw [e] at k;exact k
    ·have h3:¬n<=997:=λz=>h3 (cF z)
     have e:(Td.b x n).me=false:=by simp [Td.me,h3]
     rw [e] at k;exact k
   ·have h2:¬2<=n:=λz=>h2 (cF z)
    have e:(Td.b x n).me=false:=by simp [Td.me,h2]
    rw [e] at k;exact (ad false rfl (bQ k))
theorem aaV:bw ["self","told"] ["self","told"] (aR Gy):=bH
theorem aaW(T:Txt K mg t):aO P w K mg base (eF P w) 3 t.ve t.yS ["self","told"] (Xm t.bP t.vi):=by
 have S:=aaV;refine T.BZ.d8 S (λ_ _ _ _ H _ _ _ hr h L=>?_);intros am24 h x dx p d rfl hx hp amA k1 k2;refine (ad _ (ar (bC (d7 (aw (aaS T) hr T.Rb T.y8.kp T.Ra aF (ae (pv 1) af))) (ar (NW (pv 0) nU rfl)) (ar (bC (d7 (aw (aaU T) hr T.Rf T.y_.kp T.Rc aF (ae (pv 1) af))) (ar (NW (pv 0) (aA bE (pv 1) aj) rfl)) (ar (mV L rfl mK T.Sn rfl T.Sj (ae gd af))))))) ?_);refine (io _ rfl p d rfl hp _ rfl (cM (λhF=>?_) (λhF=>?_)))
 ·refine (ad _ rfl (u8 x t.bP dx [] rfl hx T.eI T.mB (by show 0<1000;decide) ?_))
  have e:d.prime=.bg:=by
   cases d with
   | a x=>rfl
   | b x n=>cases hF
  have k:=k1 (by unfold Td.good;rw [hF];rfl)
  rw [e] at k;exact k
 ·have hF:d.Bd=false:=by simpa using hF
  refine (io _ rfl p d rfl hp _ rfl (cM (λhW=>?_) (λhW=>?_)))
  ·have k:=k1 (by unfold Td.good;rw [hW,Bool.or_true])
   cases d with
   | a x=>cases hW
   | b y n=>exact (ad _ rfl (wE p _ 1 (.int n) rfl rfl (.of hp) rfl _ rfl (u8 x t.bP dx [] rfl hx T.eI T.mB (by show 0<1000;decide) k)))
  ·have hW:d.me=false:=by simpa using hW
   exact ⟨by show 1<=sizeLine;decide,k2 (by unfold Td.good;rw [hF,hW];rfl)⟩
theorem aaX:bw ["top","bottom","shared"] ["top","bottom"] (aR Fh):=bH
theorem aaY(T:Txt K mg t):aO P w K mg base (eF P w) 2 t.tU t.xM ["top","bottom"] (XO t.ox):=by
 have S:=aaX;refine T.yY.d8 S (λ_ _ _ _ H _ _ _ hr h L=>?_);intros am15 h a b rfl mb kE k
 refine (ad _ (ak (bC (bK eE (pv 1) aj) (ar (mV L rfl mK T.K0 rfl T.KU (ae gd af))) bG)
  (gO.sE (ak (putL 2 S.nd (aw (GO T) hr T.BJ T.p7.kp T.BI aF (ae (pv 0) (ae (pv 1) af))))
  (ak (bC (bK jg (pv 1) aj) (ar (putL 2 S.nd (ND NG (pv 2)))) bG)
  (ar (aJ (gw (ae (az Ja (pv 0) (pv 2)) (ae (az Ja (pv 1) (pv 2)) af))))))))) ?_)
 have n2:2<=sizeLine:=by decide
 refine (gt _ rfl rfl _ rfl (cM (λhz=>?_) (λhz=>?_)))
 ·have hz:b=0:=V.int.inj (iS hz)
  exact ⟨by show 1<=sizeLine;decide,kE hz⟩
 have hz:b≠0:=λz=>hz (cF (by rw [z]))
 have ok:=Xh (a:=a) hz mb;have kk:=k hz;unfold n6 n8 at kk;refine (tz _ rfl _ rfl a b rfl mb (io _ rfl _ _ rfl rfl _ rfl (cM (λhn=>?_) (λhn=>?_))))
 ·have hn:b<0:=iS hn
  have e:lowG a b=-(Int.gcd a b:Int):=by unfold lowG;rw [ao hn,Int.zero_sub]
  rw [e] at ok kk;refine (db _ rfl _ rfl (ms _ rfl _ rfl _ _ rfl rfl ok (ms _ rfl _ rfl _ _ rfl rfl ok ⟨n2,λr hr=>kk r _ (a9 hr) aK⟩)))
 ·have hn:¬b<0:=λz=>hn (cF z)
  have e:lowG a b=(Int.gcd a b:Int):=by unfold lowG;rw [aq hn]
  rw [e] at ok kk;refine (ms _ rfl _ rfl _ _ rfl rfl ok (ms _ rfl _ rfl _ _ rfl rfl ok ⟨n2,λr hr=>kk r _ (a9 hr) aK⟩))
theorem aaZ:bw ["a","b","shared","top","again"] ["a","b"] (aR Fi):=bH
theorem aa0(T:Txt K mg t):aO P w K mg base bO 2 t.tV t.xN ["a","b"] XB:=by
 have S:=aaZ;refine T.yZ.bV S (λ_ _ _ _ H _ _ _ hr h=>?_);intros am21 h p q x m y n am31 rfl hp hq la lb bx bm GP bn k
 refine (ad _ (ak (putL 2 S.nd (aw (GO T) hr T.BJ T.p7.kp T.BI aF (ae (aA bE (pv 0) aj) (ae (aA bE (pv 1) aj) af))))
  (ak (bC (bK eE (pv 2) aj) (ar (aJ (gw (ae (az gQ (az kg (aA bE (pv 0) aj) (aA bE (pv 1) aj)) (az kg (aA bE (pv 1) aj) (aA bE (pv 0) aj))) (ae (az kg (aA bE (pv 0) aj) (aA bE (pv 1) aj)) af))))) bG)
  (ak (putL 3 S.nd (az gQ (az kg (aA bE (pv 0) aj) (az i4 (aA bE (pv 1) aj) (pv 2))) (az kg (aA bE (pv 1) aj) (az i4 (aA bE (pv 0) aj) (pv 2)))))
  (ak (putL 4 S.nd (aw (GO T) hr T.BJ T.p7.kp T.BI aF (ae (pv 3) (ae (pv 2) af))))
  (ar (aJ (gw (ae (az i4 (pv 3) (pv 4)) (ae (az kg (az i4 (aA bE (pv 0) aj) (pv 2)) (az i4 (aA bE (pv 1) aj) (pv 4))) af))))))))) ?_)
 have n2:2<=sizeLine:=by decide
 have m0:=la.pos;have n0:=lb.pos;refine (nw _ rfl p _ _ _ rfl rfl (.of hp) rfl (nw _ rfl q _ _ _ rfl rfl (.of hq) rfl (ce m n rfl bn.mid ?_)));have gp:(0:Int)<(Int.gcd m n:Int):=OR ⋯
 have gb:dH (Int.gcd m n:Int):=bn.gcd ⋯
 refine (gt _ rfl rfl _ rfl (cM (λe=>?_) (λ_=>?_)))
 ·have e:Int.gcd m n=1:=by have z:=iS e;have z:=V.int.inj z;lia
  exact (nw _ rfl p _ _ _ rfl rfl (.of hp) rfl (nw _ rfl q _ _ _ rfl rfl (.of hq) rfl (gl _ _ rfl rfl ⟨bx.mid,bn.mid⟩ (nw _ rfl q _ _ _ rfl rfl (.of hq) rfl (nw _ rfl p _ _ _ rfl rfl (.of hp) rfl (pc _ _ rfl rfl ⟨GP.mid,bm.mid⟩ _ _ rfl rfl (nw _ rfl p _ _ _ rfl rfl (.of hp) rfl (nw _ rfl q _ _ _ rfl rfl (.of hq) rfl (gl _ _ rfl rfl ⟨bm.mid,bn.mid⟩ ⟨n2,λr hr=>k r _ _ _ (a9 hr) aK (Xx la lb e) rfl⟩)))))))))
 refine (nw _ rfl p _ _ _ rfl rfl (.of hp) rfl (nw _ rfl q _ _ _ rfl rfl (.of hq) rfl (on _ rfl _ _ rfl rfl ⟨gp,gb.mid⟩ (gl _ _ rfl rfl ⟨bx.mid,bn.over.mid⟩ (nw _ rfl q _ _ _ rfl rfl (.of hq) rfl (nw _ rfl p _ _ _ rfl rfl (.of hp) rfl (on _ rfl _ _ rfl rfl ⟨gp,gb.mid⟩ (pc _ _ rfl rfl ⟨GP.mid,bm.over.mid⟩ _ _ rfl rfl ?_))))))))
 refine (tz _ rfl _ rfl _ _ rfl gb.mid ?_);have ap:(0:Int)<(Int.gcd (x*(n / (Int.gcd m n:Int))+y*(m / (Int.gcd m n:Int))) (Int.gcd m n:Int):Int):=OR ⋯
 have ab:dH (Int.gcd (x*(n / (Int.gcd m n:Int))+y*(m / (Int.gcd m n:Int))) (Int.gcd m n:Int):Int):=gb.gcd ⋯
 have z:=Xy la lb _ _ rfl _ rfl rfl
 exact (ms _ rfl _ rfl _ _ rfl rfl ⟨ap,ab.mid⟩ (nw _ rfl p _ _ _ rfl rfl (.of hp) rfl (on _ rfl _ _ rfl rfl ⟨gp,gb.mid⟩ (nw _ rfl q _ _ _ rfl rfl (.of hq) rfl (on _ rfl _ _ rfl rfl ⟨ap,ab.mid⟩ (gl _ _ rfl rfl ⟨bm.over.mid,bn.over.mid⟩ ⟨n2,
  λr hr=>k r _ _ _ (a9 hr) aK z.1 z.2⟩))))))
theorem aa1:bw ["a","b"] ["a","b"] (aR Fj):=bH
theorem aa2(T:Txt K mg t):aO P w K mg base bO 3 t.tW t.xO ["a","b"] XC:=by
 have S:=aa1;refine T.y3.bV S (λ_ _ _ _ H _ _ _ hr h=>?_);intros am21 h p q x m y n am31 rfl hp hq la lb bx bm GP bn k;refine (ad _ (ar (aJ (aw (aa0 T) hr T.Q2 T.yZ.kp T.Q1 aF (ae (pv 0) (ae (gw (ae (ND NG (aA bE (pv 1) aj)) (ae (aA bE (pv 1) aj) af))) af))))) ?_)
 exact (ad _ rfl (nw _ rfl q _ _ _ rfl rfl (.of hq) rfl (db _ rfl _ rfl (u8 q _ _ _ rfl rfl (.of hq) rfl (by show 2<=sizeLine;decide) (λr hr=>(SC p r x m (-y) (SL n rfl (a9 hr _ _ hp) aK la lb.neg bx bm GP.neg bn (λr' H' u d s' e l z=>k r' H' u d ((a9 hr).trans s') e l (by rw [z,wg,Int.sub_eq_add_neg])))))))))
theorem aa3:bw ["prime","number","last","last_times","now","now_times","fits","left","left_times"] ["prime","number"] (aR Fm):=bH
theorem aa4(T:Txt K mg t):aO P w K mg base (eF P w) 1 t.tY t.xQ ["prime","number"] (XH t.ox):=by
 have S:=aa3;refine T.y6.d8 S (λ_ _ _ _ H _ _ _ hr h L=>?_);intros am26 h q b rfl q1 q2 q3 b0 am3 b1 kE k
 refine (ad _ (ak (bC (bK eE (pv 1) aj) (ar (mV L rfl mK T.K0 rfl T.KU (ae gd af))) bG)
  (gO.sE (ak (putL 2 S.nd (pv 0))
  (ak (putL 3 S.nd aj)
  (ak (putL 4 S.nd (pv 1))
  (ak (putL 5 S.nd aj)
  (ak (AS fJ (bK Iv (pv 4) aj) (ak (putL 6 S.nd (az wL (pv 2) (pv 4)))
  (ak (putL 7 S.nd (az jI (pv 2) (az kJ (pv 6) (pv 4))))
  (ak (putL 8 S.nd (az jI (pv 3) (az kJ (pv 6) (pv 5))))
  (ak (putL 2 S.nd (pv 4))
  (ak (putL 3 S.nd (pv 5))
  (ak (putL 4 S.nd (pv 7))
  (ar (putL 5 S.nd (pv 8))))))))))
  (ar (aJ (az dy (pv 5) (pv 0))))))))))) ?_)
 refine (gt _ rfl rfl _ rfl (cM (λhz=>?_) (λhz=>?_)))
 ·have hz:b=0:=V.int.inj (iS hz)
  exact ⟨by show 1<=sizeLine;decide,kE hz⟩
 have hz:b≠0:=λz=>hz (cF (by rw [z]))
 refine (sK _ rfl _ rfl (λm σ H'=>H'=H/\∃(l lt n nt:Int) (v1 v2 v3:Option V),σ=[some (.int q),some (.int b),some (.int l),some (.int lt),some (.int n),some (.int nt),v1,v2,v3]/\m=n.toNat/\pI q b l lt n nt/\l<=997) (ad b.toNat rfl (SC q 0 b 1 none (gl none none rfl rfl (pI.start q1 q2 q3 ⋯ b1) q2))) ?_)
 intro m σ H';intros am5 _ rfl l lt am27 n nt v1 v2 v3 rfl em hb hl;have p1:=hb.pos;have p2:=hb.less;refine (io _ rfl _ _ rfl rfl _ rfl (cM (λhy=>?_) (λhy=>?_)))
 ·have hy:1<n:=iS hy
  have hs:=hb.step hy;have f0:0<=l / n:=Av ⋯ ⋯
  have f1:l / n<=l:=Int.ediv_le_self _ ⋯
  refine (ad (λσ' H2=>H2=H'/\σ'=[some (.int q),some (.int b),some (.int n),some (.int nt),some (.int (l-l / n*n)),some (.int (lt-l / n*nt)),some (.int (l / n)),some (.int (l-l / n*n)),some (.int (lt-l / n*nt))]) ?_ ?_)
  ·rintro σ' H2 ⟨rfl,rfl⟩
   exact (am ((l-l / n*n).toNat) (by rw [em];lia) rfl (SC _ _ _ _ _ (gl _ _ rfl rfl hs.1 ⋯)))
  ·exact (ms _ rfl _ rfl _ _ rfl rfl ⟨⋯,⋯⟩ (sK _ rfl _ rfl _ rfl (pc _ _ rfl rfl (.inr ⟨⋯,⋯⟩) _ _ rfl rfl (sK _ rfl _ rfl _ rfl (pc _ _ rfl rfl (.inl ⟨⋯,⋯⟩) _ _ rfl rfl (sK _ rfl _ rfl _ rfl (am _ rfl rfl rfl)))))))
 ·have hy:¬1<n:=λz=>hy (cF z)
  have n1:n=1:=by lia
  subst n1;exact (ms _ rfl _ rfl _ _ rfl rfl (show (0:Int)<q by lia) (k hz _ (fi _ ⋯) (fH _ ⋯) (hb.done q1)))
theorem aa5:bw ["prime","a","b"] ["prime","a","b"] (aR Fn):=bH
theorem aa6(T:Txt K mg t):aO P w K mg base (eF P w) 2 t.tZ t.xR ["prime","a","b"] (XI t.ox):=by
 have S:=aa5;refine T.y7.d8 S (λ_ _ _ _ H _ _ _ hr h L=>?_);intros am1 h q i am35 j rfl q1 q2 q3 i0 i1 j0 j1 kE k;refine (ad _ (ar (aJ (az dy (az kJ (pv 1) (aw (aa4 T) hr T.Q8 T.y6.kp T.Q7 (j9 L) (ae (pv 0) (ae (pv 2) af)))) (pv 0)))) ?_)
 exact (db _ rfl _ rfl (xz _ rfl q (ww j rfl q1 q2 q3 j0 ⟨j1,kE,λhj r r0 r1 cZ=>(gl _ _ rfl rfl (.inl ⟨⋯,⋯⟩) (on _ rfl _ _ rfl rfl (show (0:Int)<q by lia) (k hj _ (fi _ ⋯) (fH _ ⋯) (XJ q1 i0 i1 cZ))))⟩)))
theorem aa7:bw ["self","top","bottom"] ["self","top","bottom"] (aR mr):=bH
theorem rA(T:Txt K mg t):aO P w K mg base (eF P w) 3 t.p6 t.BH ["self","top","bottom"] (XQ t.bP t.ox):=by
 have S:=aa7;refine T.Sh.IV S (λvs H Q E h=>?_) (λbN A outer s H vs Q E hr h L=>?_)
 ·intros amE h z am10 q a b rfl _
  rfl
 ·obtain ⟨z,q,a,b,rfl,⟨dx,hx⟩,hq,mb,kE,k⟩:=h
  refine (ad _ (ak (bC (bK DF (o9 (pv 0) rfl) nU) (ar (aJ (aw (aaY T) hr T.Q0 T.yY.kp T.QZ (j9 L) (ae (pv 1) (ae (pv 2) af))))) bG)
   (ar (aJ (aw (aa6 T) hr T.Q_ T.y7.kp T.Q9 (j9 L) (ae (o9 (pv 0) rfl) (ae (az dy (pv 1) (o9 (pv 0) rfl)) (ae (az dy (pv 2) (o9 (pv 0) rfl)) af))))))) ?_)
  refine (xz _ rfl z (u8 t.bP dx _ _ rfl hx T.eI T.mB (pD _) (sw rfl _ rfl ?_)));rcases hq with rfl | ⟨q2,q3,q4⟩
  ·rw [ao rfl]
   refine dW (ms _ rfl _ rfl a b rfl mb (λhb=>kE (by unfold n9;rw [ao rfl];exact hb)) (λhb r H' s' er=>k (λhn=>hb (by unfold n9 at hn;rw [ao rfl] at hn;exact hn)) _ H' s' (.inl (sw rfl r rfl er))))
  ·have hq:q≠0:=by lia
   rw [aq hq] at hx ⊢;have p0:(0:Int)<q:=by lia
   refine bQ (xz _ rfl z (sB t.bP dx _ _ rfl hx T.eI T.mB (sw (pD _) _ rfl (xz _ rfl z (u8 t.bP dx _ _ rfl hx T.eI T.mB (pD _) (ce _ _ rfl rfl (sw p0 _ rfl (xz _ rfl z (u8 t.bP dx _ _ rfl hx T.eI T.mB (pD _) (gl _ _ rfl rfl p0 ?_))))))))));have nv:n9 q b↔b % q=0:=by unfold n9;rw [aq hq]
   exact ⟨q,a % q,b % q,rfl,q2,q3,q4,fi _ hq,fH _ p0,fi _ hq,fH _ p0,λhj=>kE (nv.mpr hj),λhj r r0 r1 cZ=>k (λz=>hj (nv.mp z)) _ H (ag.refl H) (.inr ⟨q2,r,rfl,r0,r1,cZ⟩)⟩
theorem aa8:bw ["self","a","b"] ["self","a","b"] (aR Gz):=bH
theorem aa9(T:Txt K mg t):aO P w K mg base bO 4 t.vg t.yT ["self","a","b"] (Jf t.bP (λx m y n=>x*n-y*m) (λi j=>i-j)):=by
 have S:=aa8;refine T.B3.bV S (λ_ _ _ _ H _ _ _ hr h=>?_);intros amE h z am18 q v u rfl q'70 hc;obtain ⟨dx,hx⟩:=q'70
 refine (ad _ (ak (bC (bK DF (o9 (pv 0) rfl) nU) (ar (aJ (aw (aa2 T) hr T.Q4 T.y3.kp T.Q3 aF (ae (pv 1) (ae (pv 2) af))))) bG)
  (ar (aJ (az dy (az jI (pv 1) (pv 2)) (o9 (pv 0) rfl))))) ?_)
 refine (xz _ rfl z (u8 t.bP dx _ _ rfl hx T.eI T.mB (pD _) (sw rfl _ rfl ?_)));rcases hc with ⟨rfl,p,r,x,m,y,n,rfl,rfl,h1⟩ | ⟨q2,i,j,rfl,rfl,i0,i1,k⟩
 ·rw [ao rfl]
  exact dW (db _ rfl _ rfl (SC p r x m y (ad n rfl h1)))
 ·have hq:q≠0:=by lia
  rw [aq hq] at hx ⊢;exact bQ (tz _ rfl _ rfl _ _ rfl rfl (xz _ rfl z (u8 t.bP dx _ _ rfl hx T.eI T.mB (pD _) (gl _ _ rfl rfl (show (0:Int)<q by lia) k))))
theorem aa_:bw ["rows","start","lead","place"] ["rows","start","lead"] (aR FL):=bH
theorem So(T:Txt K mg t):aO P w K mg base bO 1 t.uo t.yd ["rows","start","lead"] YV:=by
 have S:=aa_;refine T.vp.bV S (λ_ _ _ s H vs _ _ hr h=>?_);intros amE h a am27 n W r c M rfl hA rn am4 alE cW k1 k2
 refine (ad _ (ak (gG fJ rfl (DC rfl T.fg (ae (pv 1) (ae (aZ cm rfl T.b5 b6 (ae (pv 0) af)) af))) (dE (i:=3) S.nd rfl (Or.inl rfl))
   (ar (bC (bK fX (aA dh (aA dh (pv 0) (pv 3)) (pv 2)) aj) (ar (aJ (pv 3))) bG)))
  (ar (aJ nU))) ?_)
 obtain ⟨vs,ea,lv,fv⟩:=id hA;refine (tz _ rfl _ rfl a vs rfl (.inl (.of ea)) (ce (r:Int) (vs.length:Int) rfl ⟨⋯,⋯,⋯,⋯⟩ ?_))
 rw [show ((vs.length:Int)-(r:Int)).toNat=n-r by lia]
 refine lZ (λi σ Hc=>Hc=H/\(∃v3:Option V,σ=[some (.ref a),some (.int (r:Int)),some (.int (c:Int)),v3])/\∀s,r<=s->s<r+i->M s c=0) ⟨rfl,⟨_,rfl⟩,λs h1 h2=>by lia⟩ ?_ ?_
 ·rintro i σ Hc hi ⟨rfl,⟨v3,rfl⟩,hz⟩
  have hp:r+i<vs.length:=by lia
  obtain ⟨x,ex,exl⟩:=fv (r+i) vs[r+i] (by simp [hp])
  refine (ad _ rfl (nw _ rfl a vs _ (.ref x) rfl rfl (.of ea) ?_ (nw _ rfl x _ _ _ rfl rfl (.of exl) (qO cW (M (r+i))) (sw rfl _ rfl (cM (λh=>?_) (λh=>?_))))))
  ·rw [show (r:Int)+(i:Int)=((r+i:Nat):Int) by lia]
   exact cK (by rw [<-ex];simp [hp])
  ·have e:M (r+i) c≠0:=by simpa using h
   have z:=k1 (r+i) ⋯ ⋯ e
   refine (ad _ rfl ?_);rw [show (r:Int)+(i:Int)=((r+i:Nat):Int) by lia]
   exact z
  ·have e:M (r+i) c=0:=by simpa using h
   refine ⟨rfl,⟨_,rfl⟩,λs h1 h2=>?_⟩;by_cases z:s=r+i;·rw [z];exact e
   ·exact hz s h1 ⋯
 ·rintro σ Hc ⟨rfl,⟨v3,rfl⟩,hz⟩
  exact k2 λs h1 h2=>hz s h1 ⋯
theorem abb:bw ["rows","one","other","told"] ["rows","one","other"] (aR FN):=bH
theorem Sq(T:Txt K mg t):aO P w K mg base bO 1 t.uq t.ye ["rows","one","other"] YW:=by
 have S:=abb;refine T.vq.bV S (λ_ _ _ _ H vs _ _ hr h=>?_);intros am1 h a l am33 n W r s' M rfl hA q'73 rn sn k;obtain ⟨ol,hl⟩:=q'73
 refine (ad _ (ak (putL 3 S.nd (mU DO rfl T.nB boot_list (ae (pv 0) af)))
  (ak (@j6 _ _ _ _ _ _ (aA dh (pv 0) (pv 2)) (kI (pv 3) (pv 1) set_list) (by rfl) (by rfl) (by rfl))
  (ak (@j6 _ _ _ _ _ _ (aA dh (pv 0) (pv 1)) (kI (pv 3) (pv 2) set_list) (by rfl) (by rfl) (by rfl))
  (ar (aJ (pv 3)))))) ?_)
 have q'74:=id hA;intros am9 q'74 vs ea lv al fv;have cZ:r<vs.length:=by lia
 have dG:s'<vs.length:=by lia
 refine (dL _ rfl a vs rfl (.inl (.of ea)) (λb nb=>?_));have s1:ag H (upd H b (.lst vs)):=a9 nb;have eb:upd H b (.lst vs) b=some (.lst vs):=aK;have ab:a≠b:=λe=>by rw [<-e,ea] at nb;cases nb
 dsimp only [aN];generalize upd H b (.lst vs)=H1 at s1 eb ⊢;refine (db _ rfl _ rfl (wE a vs _ (vs[s']) rfl rfl (.of (s1 _ _ ea)) (cK (by simp [dG])) _ rfl (nw _ rfl b vs _ r rfl rfl eb (by unfold ie;rw [ao ⋯,ao ⋯,dr]) ?_)))
 have s2:ag H (upd H1 b (.lst (vs.set r vs[s']))):=e_ s1 nb;have GQ:upd H1 b (.lst (vs.set r vs[s'])) b=some (.lst (vs.set r vs[s'])):=aK;dsimp only;generalize upd H1 b (.lst (vs.set r vs[s']))=H2 at s2 GQ ⊢;refine (db _ rfl _ rfl (wE a vs _ (vs[r]) rfl rfl (.of (s2 _ _ ea)) (cK (by simp [cZ])) _ rfl (nw _ rfl b (vs.set r vs[s']) _ s' rfl rfl GQ (by unfold ie;rw [iB,ao ⋯,ao ⋯,dr]) ?_)))
 have s3:ag H (upd H2 b (.lst ((vs.set r vs[s']).set s' vs[r]))):=e_ s2 nb;refine (ad _ rfl (k b _ s3 nb (ii _ aK (by simp [lv]) (λe=>by rw [e,hl] at nb;cases nb) (λi v hv=>?_))))
 have pick:∀j,(hj:j<vs.length)->∃x:Addr,vs[j]=.ref x/\x≠b/\x≠l/\upd H2 b (.lst ((vs.set r vs[s']).set s' vs[r])) x=some (.lst (((List.range W).map (M j)).map V.int)):=λj hj=>by
  obtain ⟨x,e1,_,nl,e2⟩:=fv j vs[j] (by simp [hj])
  exact (ii x e1 (λe=>by rw [e,nb] at e2;cases e2) nl (s3 _ _ e2))
 unfold cz;by_cases z1:i=s'
 ·subst z1
  rw [kx (by rw [iB];lia)] at hv
  cases hv;rw [ao rfl];exact pick r cZ
 ·rw [ky ⋯] at hv
  rw [aq z1];by_cases z2:i=r
  ·subst z2
   rw [kx ⋯] at hv
   cases hv;rw [ao rfl];exact pick s' dG
  ·rw [ky ⋯] at hv
   rw [aq z2];obtain ⟨x,e1,_,nl,e2⟩:=fv i v hv;exact (ii x e1 (λe=>by rw [e,nb] at e2;cases e2) nl (s3 _ _ e2))
theorem abc:bw ["world","row","head","lead","last","much","less"] ["world","row","head","lead","last"] (aR FK):=bH
theorem Sr(T:Txt K mg t):aO P w K mg base bO 1 t.um t.yc ["world","row","head","lead","last"] (YX t.bP):=by
 have S:=abc;refine T.vm.bV S (λ_ _ _ _ H _ _ _ hr h=>?_);intros am21 h z a b q last W am24 c f g e rfl q'77 hq am31 ea eb cW abd bd ml nl h0 h1 k;obtain ⟨dx,hx⟩:=q'77
 refine (ad _ (ak (d4 5 S.nd (aA dh (pv 2) (pv 3)))
  (ak (d4 6 S.nd (aA dh (pv 1) (pv 3)))
  (ak (bC (bK DF (o9 (pv 0) rfl) nU) (ar (aJ (pM (N:=["a","b","much","less","last"]) (ρ:=(λσ=>[σ[5]?.join,σ[6]?.join,σ[4]?.join])) (oa [5,6,4] rfl) rfl (kW rfl T.ku (ae (pv 1) (ae (pv 2) af))) (λ_ _ _=>.nil) (λ_ _ _=>(az Ja (az jI (az kg (pv 2) (pv 0)) (az kg (pv 3) (pv 1))) (pv 4)))))) bG)
  (ar (aJ (pM (N:=["a","b","much","less","world"]) (ρ:=(λσ=>[σ[5]?.join,σ[6]?.join,σ[0]?.join])) (oa [5,6,0] rfl) rfl (kW rfl T.ku (ae (pv 1) (ae (pv 2) af))) (λ_ _ _=>.nil) (λ_ _ _=>(az dy (az jI (az kg (pv 2) (pv 0)) (az kg (pv 3) (pv 1))) (YB (K:=K) (pv 4) rfl))))))))) ?_)
 refine (ad _ rfl (nw _ rfl b _ _ _ rfl rfl (.of eb) (qO cW g) ?_));dsimp only [aN];simp only [L2.start,df,iD,gE,gZ,List.replicate,g_,gM,aX,aY];refine (ad _ rfl (nw _ rfl a _ _ _ rfl rfl (.of ea) (qO cW f) ?_));dsimp only [aN];simp only [aX,aY];have Ss:∀x y,(x,y)∈((List.range W).map f).zip ((List.range W).map g)->b_ x/\b_ y:=λx y h=>by have m:=An h;obtain ⟨k1,K3,rfl⟩:=fI.mp m.1;obtain ⟨k2,K4,rfl⟩:=fI.mp m.2;exact ⟨(bd k1 (gs.mp K3)).1,(bd k2 (gs.mp K4)).2⟩
 have Su:=(bd c cW).2;have Sv:=(bd c cW).1;refine (xz _ rfl z (u8 t.bP dx _ _ rfl hx T.eI T.mB (pD _) (sw rfl _ rfl ?_)));rcases id hq with rfl | ⟨q2,q3,q4⟩
 ·rw [ao rfl]
  refine dW (gy (JF (xs:=(List.range W).map f) (ys:=(List.range W).map g) (λx y=>(g c*x-f c*y).fdiv last) (by simp;lia) (λR h=>(ms _ rfl _ rfl a b rfl ⟨_,.of ea⟩ ⟨_,.of eb⟩ (h _ _ (ag.refl _) (m6 (.of ea) (.of eb))))) ?_ ?_))
  ·intro x y fS Hc R sc kc
   obtain ⟨mx,my⟩:=Ss x y fS;exact (ms _ rfl _ rfl _ _ rfl rfl ⟨Su,mx⟩ (db _ rfl _ rfl (pc _ _ rfl rfl ⟨Sv,my⟩ _ _ rfl rfl (on _ rfl _ _ rfl rfl ⟨nl,ml⟩ (kc Hc (ag.refl _))))))
  ·intro D Hc nD sc eD
   have ez:=JE W f g (λx y=>(g c*x-f c*y).fdiv last);rw [ez] at eD;refine k D Hc sc nD ?_;rw [eD]
   congr 3
   refine wk λi hi=>?_;rw [h0 rfl i (gs.mp hi)];exact Int.mul_fdiv_cancel_left _ nl
 ·have Sw:q≠0:=by lia
  rw [aq Sw] at hx ⊢;refine bQ ?_;dsimp only [eO];refine gy (JF (xs:=(List.range W).map f) (ys:=(List.range W).map g) (λx y=>(g c*x-f c*y) % q) (by simp;lia) (λR h=>(ms _ rfl _ rfl a b rfl ⟨_,.of ea⟩ ⟨_,.of eb⟩ (h _ _ (ag.refl _) (m6 (.of ea) (.of eb))))) ?_ ?_)
  ·intro x y fS Hc R sc kc
   obtain ⟨mx,my⟩:=Ss x y fS;exact (ms _ rfl _ rfl _ _ rfl rfl ⟨Su,mx⟩ (db _ rfl _ rfl (pc _ _ rfl rfl ⟨Sv,my⟩ _ _ rfl rfl (xz _ rfl z (u8 t.bP dx _ _ rfl (sc _ _ hx) T.eI T.mB (pD _) (gl _ _ rfl rfl (show (0:Int)<q by lia) (kc Hc (ag.refl _))))))))
  ·intro D Hc nD sc eD
   have ez:=JE W f g (λx y=>(g c*x-f c*y) % q);rw [ez] at eD;refine k D Hc sc nD ?_;rw [eD]
   congr 3
   exact wk λi hi=>(h1 Sw i (gs.mp hi)).symm
variable {B:Nat} {H:Hp} {q a:Int} {v:V}
theorem abe{b:Int}(ho:sX H q v a b)(hq:aD q)(nb:¬q∣b)(ba:a.natAbs<=B)(bb:b.natAbs<=B):∃p:Int×Int,cH B H q v p.1 p.2/\a8 q p (a,b):=by
 rcases ho with ⟨rfl,r,rfl,e⟩ | ⟨q2,r,rfl,r0,r1,er⟩
 ·have hb:b≠0:=λz=>nb (z▸mI 0)
  obtain ⟨l,w,b1,b2⟩:=Jh (a:=a) hb;exact ⟨(n6 a b,n8 a b),.cq e l (au b1 ba) (au b2 bb),⟨0,by dsimp only;lia⟩⟩
 ·have q3:q<=997:=by rcases hq with h | h <;> lia
  refine ⟨(r,1),.rem r0 r1 q3,?_⟩;show q∣r*b-a*1;have h1:Cg q (r*(b % q)) a:=(Bq q _).symm.trans (er▸Bq q a);have h2:Cg q (r*b) (r*(b % q)):=((Bq q b).mulL r).symm;have h3:=h2.trans h1;rw [jV];exact h3
theorem abf:bw ["world","row","lead"] ["world","row","lead"] (aR FO):=bH
theorem Sx(T:Txt K mg t):aO P w K mg base bO 4 t.ur t.yf ["world","row","lead"] (YZ t.bP):=by
 have S:=abf;have iu:=rA (P:=P) (w:=w) (base:=base) T;refine T.vv.bV S (λ_ _ _ _ H _ _ _ hr h=>?_);intros am21 h z a q W c f am35 B rfl q'78 hq ea cW abd nb mb bd k;obtain ⟨dz,hd⟩:=q'78;refine (ad _ (ar (aJ (dA (N:=["number","world","row","lead"]) (ρ:=(λσ=>[σ[0]?.join,σ[1]?.join,σ[2]?.join])) (cP [0,1,2] rfl) rfl (cY (pv 1)) (λ_ _ _=>.nil) (λ_ _ _=>(ia (pv 1) T.eI T.lE iu (hr.mono ∅) T.KR .nil e9 (ae (pv 0) (ae (aA (ip (K:=K)) (pv 2) (pv 3)) af))))))) ?_)
 refine gy (fc (xs:=((List.range W).map f).map V.int) (λR h=>⟨_,rfl,a,rfl,⟨_,.of ea⟩,h _ _ (ag.refl _) (eR (.of ea))⟩) (by rw [aV,aV,gc];exact cR ⋯) (λ_ i y Hx=>∃p:Int×Int,cH B Hx q y p.1 p.2/\a8 q p (f i,f c)) (λ_ _ _ _ _ _ ⟨p,h0,h1⟩ e f=>⟨p,h0.cC e f,h1⟩) ?_ ?_)
 ·intro D i v hi Hc R sc _ kc
  have a_:i<W:=by have:=(aL.mp hi).1;simpa using this
  have ev:v=.int (f i):=by rw [bu,bu] at hi;simp [a_] at hi;exact hi.symm
  subst ev;exact (ut _ rfl z dz _ rfl (sc _ _ hd) (iI (by decide +kernel)) (db _ rfl _ rfl (nw _ rfl a _ _ _ rfl rfl (.of (sc _ _ ea)) (qO cW f) (u8 z q (f i) (f c) rfl ⟨dz,sc _ _ hd⟩ hq mb (λh=>absurd h (OZ nb)) (λ_ v' H' s' ho=>kc v' H' s' (abe ho hq nb (bd i a_) (bd c cW)))))))
 ·intro D ys Hc nD sc d_ hP eD
  obtain ⟨ps,lp,hp⟩:=pick (R:=λi y p=>cH B Hc q y (Prod.fst p) (Prod.snd p)/\a8 q p (f i,f c)) hP;rw [aV,aV,gc] at d_;refine k D ps Hc sc nD (am ys eD lp.symm (λi v p h1 h2=>(hp i v p h1 h2).1)) ⋯ λi hi=>?_
  have i1:i<ys.length:=by lia
  have i2:i<ps.length:=by lia
  rw [getD_at i2];exact (hp i ys[i] ps[i] (by simp [i1]) (by simp [i2])).2
theorem abg:bw ["row","bottom","number"] ["row"] (aR Fl):=bH
theorem abh(T:Txt K mg t):aO P w K mg base bO 2 t.tX t.xP ["row"] ZF:=by
 have S:=abg;refine T.y4.bV S (λ_ _ _ _ H vs _ _ hr h=>?_);intros amE h a am29 ps B D rfl q'80 Sy gJ hD am3 hB bD k;intros am7 q'80 vs ea hl hn
 refine (ad _ (ak (d4 1 S.nd aj)
  (ak (gG fJ rfl (cY (pv 0)) (dE (i:=2) S.nd rfl (Or.inl rfl))
   (ar (d4 1 S.nd (az kg (az i4 (pv 1) (aw (GO T) hr T.BJ T.p7.kp T.BI aF (ae (pv 1) (ae (aA bE (pv 2) aj) af)))) (aA bE (pv 2) aj)))))
  (ar (aJ (gw (ae (dA (N:=["number","bottom"]) (ρ:=(λσ=>[σ[1]?.join])) (cP [1] rfl) rfl (cY (pv 0)) (λ_ _ _=>.nil) (λ_ _ _=>(az kg (aA (qH (K:=K)) (pv 0) aj) (az i4 (pv 1) (aA (qH (K:=K)) (pv 0) aj))))) (ae (pv 1) af))))))) ?_)
 have D1:=gJ.1 rfl;have parts:∀(i:Nat) (v:V),vs[i]?=some v->∃(r:Addr) (x m:Int),v=.ref r/\H r=some (.tup [.int x,.int m])/\ps[i]?=some (x,m)/\eQ x m/\x.natAbs<=B/\m∣D:=λi v e=>by
  have hi:i<ps.length:=by rw [<-hl];exact (aL.mp e).1
  have ep:ps[i]?=some ps[i]:=by simp [hi]
  have h1:=hn i v ps[i] e ep;have h2:=hD _ (aG hi);generalize ps[i]=p at h1 ep h2;obtain ⟨x,m⟩:=p;cases h1 with
  | cq er l bx bm=>exact (xL _ x (ww m rfl er ep l bx h2))
  | rem h0 h1 h2=>lia
 have zM:∀{y:Int},y∣D->b_ y:=λh=>bT (Jv h ⋯) bD
 refine (ad _ rfl (am a rfl ⟨_,.of ea⟩ ?_))
 refine wK (K:=K) (a:=a) (xs:=vs) (λi σ Hc=>Hc=H/\∃(b:Int) (v2:Option V),σ=[some (.ref a),some (.int b),v2]/\1<=b/\b∣D/\∀(j:Nat) (p:Int×Int),j<i->ps[j]?=some p->p.2∣b)
  ⟨rfl,1,none,rfl,∅,Int.one_dvd D,λj p hj=>by lia⟩ (λi σ Hc _ ⟨z,_⟩=>by rw [z];exact .of ea) ?_ ?_
 ·intro i v σ Hc hi;intros am22 _ rfl b v2 rfl b1 bb hd
  have q'81:=parts i v hi;intros am29 q'81 r x m rfl er ep l bx bm;have m1:=l.pos;obtain ⟨s1,s2,s3,s4⟩:=Yk b1 m1;have gp:=pG (a:=b) (b:=m) ⋯
  have gm:b_ (Int.gcd b m:Int):=zM (jW (qr ..) bm);refine (db _ rfl _ rfl (nw _ rfl r _ _ _ rfl rfl (.of er) rfl (ce b m rfl (zM bm) (gl _ _ rfl rfl ⟨⋯,gm⟩ (nw _ rfl r _ _ _ rfl rfl (.of er) rfl (gl _ _ rfl rfl ⟨?_,zM bm⟩ ?_))))))
  ·exact bT (oR ..) (zM bb)
  ·refine ⟨rfl,_,_,rfl,s1,lcm_dvd b1 m1 bb bm,λj p hj hp=>?_⟩
   by_cases z:j=i
   ·subst z
    rw [ep] at hp;cases hp;exact s2
   ·exact jW (hd j p ⋯ hp) s3
 ·intro σ Hc;intros am22 _ rfl b v2 rfl b1 bb hd
  rw [hl] at hd;have mb:b_ b:=zM bb;dsimp only;refine gy (Jp (fc (xs:=vs) (λR h=>⟨_,rfl,a,rfl,⟨_,.of ea⟩,h _ _ (ag.refl _) (eR (.of ea))⟩) (by rw [hl];exact cR ⋯) (λ_ i y _=>∃(p:Int×Int),ps[i]?=some p/\y=.int (p.1*(b / p.2))) (λ_ _ _ _ _ _ h _ _=>h) ?_ ?_))
  ·intro D' i v hi Hd R sd _ kd
   have q'82:=parts i v hi;intros am29 q'82 r x m rfl er ep l bx bm;have m1:=l.pos;have hbm:b_ (b / m):=bT (oR ..) mb;exact (ad _ rfl (wE r _ _ _ rfl rfl (.of (sd _ _ er)) rfl _ rfl (nw _ rfl r _ _ _ rfl rfl (.of (sd _ _ er)) rfl (gl _ _ rfl rfl ⟨⋯,zM bm⟩ (gl _ _ rfl rfl ⟨bT bx hB,hbm⟩ (kd _ Hd (ag.refl _) (ad (x,m) ep rfl)))))))
  ·intro D' ys Hd nD sd d_ hP eD
   have ey:ys=(ps.map λp=>p.1*(b / p.2)).map V.int:=pP (by rw [d_,hl,aV]) λi v e=>by obtain ⟨p,e1,e2⟩:=hP i v e;exact ⟨p.1*(b / p.2),by rw [bu,e1];rfl,e2⟩
   refine (am _ rfl (by show 2<=sizeLine;decide) (λr cZ=>?_))
   refine k _ _ (ps.map λp=>p.1*(b / p.2)) b (sd.trans (a9 cZ)) (gl r D' rfl aK (a9 cZ _ _ (by rw [eD,ey])) nD) ⟨by rw [aV],⟨λ_=>b1,λz=>absurd rfl z⟩,bb,λi hi=>?_⟩
   have K5:i<vs.length:=by lia
   have e1:(ps.map λp=>p.1*(b / p.2)).getD i 0=ps[i].1*(b / ps[i].2):=by rw [getD_at (by rw [aV];exact hi),iU]
   rw [e1,getD_at hi];have q'84:=(parts i vs[i] (by simp [K5]));intros am29 q'84 r' x m _ _ ep l bx bm
   have zN:ps[i]=(x,m):=by
    rw [show ps[i]?=some ps[i] by simp [hi]] at ep
    exact Option.some.inj ep
   rw [zN];dsimp only;have m1:=l.pos;obtain ⟨c,ec⟩:=hd i (x,m) hi (by rw [<-zN];simp [hi])
   dsimp only at ec;have eq:b / m=c:=by rw [ec];exact lQ _ ⋯
   refine ⟨by rw [eq,ec];grind,?_⟩
   rw [bU];exact cA bx (au (oR ..) (Jv bb ⋯))
theorem abj:bw ["self","row"] ["self","row"] (aR GB):=bH
theorem B7(T:Txt K mg t):aO P w K mg base bO 3 t.vh t.yU ["self","row"] (ZG t.bP):=by
 have S:=abj;refine T.B4.bV S (λ_ _ _ _ H vs _ _ hr h=>?_);intros am21 h z a q ps B D am32 rfl q'85 hq ju Sy gJ hD hB b1 bD k;obtain ⟨dx,hx⟩:=q'85
 refine (ad _ (ak (bC (bK DF (o9 (pv 0) rfl) nU) (ar (aJ (aw (abh T) hr T.Q6 T.y4.kp T.Q5 aF (ae (pv 1) af)))) bG)
  (ar (aJ (gw (ae (mU DO rfl T.nB boot_list (ae (pv 1) af)) (ae aj af)))))) ?_)
 refine (xz _ rfl z (u8 t.bP dx _ _ rfl hx T.eI T.mB (pD _) (sw rfl _ rfl ?_)));rcases hq with rfl | ⟨q2,q3,q4⟩
 ·rw [ao rfl]
  exact dW (xz _ rfl a (wP ps B D rfl ju Sy gJ hD hB ⟨bD,k⟩))
 ·have hq:q≠0:=by lia
  rw [aq hq] at hx ⊢;intros am7 ju vs ea hl hn;have parts:∀(i:Nat) (v:V),vs[i]?=some v->∃x:Int,v=.int x/\ps[i]?=some (x,1)/\0<=x/\x<q:=λi v e=>by
   have hi:i<ps.length:=by rw [<-hl];exact (aL.mp e).1
   have ep:ps[i]?=some ps[i]:=by simp [hi]
   have h1:=hn i v ps[i] e ep;generalize ps[i]=p at h1 ep;obtain ⟨x,m⟩:=p;cases h1 with
   | cq er l bx bm=>exact absurd rfl hq
   | rem h0 h1 h2=>exact (ii x rfl ep h0 h1)
  have ey:vs=(ps.map λp=>p.1).map V.int:=pP (by rw [hl,aV]) λi v e=>by obtain ⟨x,e1,e2,_⟩:=parts i v e;exact ⟨x,by rw [bu,e2];rfl,e1⟩
  have eD:=gJ.2 hq;refine bQ (dL _ rfl a vs rfl (.inl (.of ea)) (λl nl=>⟨by show 2<=sizeLine;decide,λr cZ=>?_⟩))
  refine k _ _ (ps.map λp=>p.1) 1 ((a9 nl).trans (a9 cZ)) (gl r l rfl aK (a9 cZ _ _ (by rw [aK,ey])) nl) ⟨by rw [aV],aC.one,Int.one_dvd D,λi hi=>?_⟩
  have K5:i<vs.length:=by lia
  rw [getD_at (by rw [aV];exact hi),iU,getD_at hi]
  obtain ⟨x,_,ep,x0,x1⟩:=parts i vs[i] (by simp [K5])
  have zN:ps[i]=(x,1):=by
   rw [show ps[i]?=some ps[i] by simp [hi]] at ep
   exact Option.some.inj ep
  rw [zN];refine ⟨rfl,?_⟩;rw [eD];show x.natAbs<=B*1;lia
theorem Sz:bw ["table","wide"] ["table"] (aR Fq):=bH
theorem qf(T:Txt K mg t):aO P w K mg base (eF P w) 1 t.qV t.t6 ["table"] (Y2 t.fz):=by
 have S:=Sz;refine T.iN.d8 S (λ_ _ _ _ H vs _ _ hr h L=>?_);intros am33 h a q B aa m rfl q'88 h1 iO hm k;intros am7 q'88 vs ea hl hn
 refine (ad _ (ak (bC (bK eE (aZ cm rfl T.b5 b6 (ae (pv 0) af)) aj) (ar (aJ aj)) bG)
  (ak (d4 1 S.nd (aZ cm rfl T.b5 b6 (ae (aA dh (pv 0) aj) af)))
  (ak (bC (d7 (aZ (O5 (K:=K) rfl) rfl T.KY boot_any (ae (dA (N:=["row","wide"]) (ρ:=(λσ=>[σ[1]?.join])) (cP [1] rfl) rfl (cY (pv 0)) (λ_ _ _=>.nil) (λ_ _ _=>(e8 fX (aZ (Jo (K:=K)) rfl T.b5 b6 (ae (pv 0) af)) (pv 1)))) af))) (ar (mV L rfl mK T.qe rfl T.qd (ae gd af))) bG)
  (ar (aJ (pv 1)))))) ?_)
 have h0:0<vs.length:=by lia
 refine (f8 _ rfl a vs rfl (.inl (.of ea)) rfl false (by rw [eZ,fD ⋯]) (bQ ?_))
 have B8:0<aa.length:=by lia
 have q'89:=(hn 0 vs[0] aa[0] (by simp [h0]) (by simp [B8]));intros am16 q'89 r er us eu lu _
 have hm0:=hm aa[0] (aG ..);refine (nw _ rfl a vs _ (vs[0]) rfl rfl (.of ea) (by exact cK (j:=0) (by simp [h0])) (ce r us (by rw [er]) (.inl (.of eu)) ?_))
 have em:(us.length:Int)=(m:Int):=by lia
 rw [em];dsimp only [aN];have abk:∀(i:Nat) (v:V),vs[i]?=some v->∃(r:Addr) (us:List V),v=.ref r/\H r=some (.lst us)/\us.length=m:=λi v e=>by
  have a_:i<aa.length:=by rw [<-hl];exact (aL.mp e).1
  obtain ⟨r,e1,us,e2,e3,_⟩:=hn i v aa[i] e (by simp [a_])
  exact (ce r us e1 e2 (by rw [e3];exact hm _ (aG ..)))
 refine fY (Pg (Yl (m7 (qF (xs:=vs) (λR h=>⟨_,rfl,a,rfl,⟨_,.of ea⟩,h _ _ (ag.refl _) (eR (.of ea))⟩) (by rw [hl];exact cR ⋯) (λ_ i y _=>y=.bl false) (λ_ _ _ _ _ _ h _ _=>h) ?_ ?_))))
 ·intro D i v hi Hc R sc _ kc
  obtain ⟨r',B9,rfl,e2,e3⟩:=abk i v hi;refine (dL _ rfl r' B9 rfl (.inl (.of (sc _ _ e2))) (am _ rfl rfl ?_));have zz:(!decide (V.int (B9.length:Int)=V.int (m:Int)))=false:=by rw [eZ,cF ⋯];rfl
  rw [zz];exact kc _ Hc (ag.refl _) rfl
 ·intro D ys Hc sc d_ hP eD
  refine (pi D (List.replicate ys.length false) rfl (.of (by rw [eD];exact eW _ (eW _ (pQ hP)))) false (by rw [Ym]) (bQ ?_))
  exact (ad _ rfl (k Hc sc))
theorem abl:bw ["world","n","place","row"] ["world","n","place"] (aR FI):=bH
theorem abm(T:Txt K mg t):aO P w K mg base bO 4 t.uj t.x_ ["world","n","place"] (Yy t.bP):=by
 have S:=abl;have iu:=rA (P:=P) (w:=w) (base:=base) T;obtain ⟨dv,jR,gC⟩:=T.vD;refine T.zh.bV S (λ_ _ _ _ H _ _ _ hr h=>?_);obtain ⟨z,q,n,i,rfl,⟨dz,hd⟩,hq,n4,hi,k⟩:=h
 refine (ad _ (ak (putL 3 S.nd (az sO (eY (ae (ia (pv 0) T.eI T.lE iu (hr.mono ∅) gC jR e9 (ae aj af)) af)) (pv 1)))
  (ak (@j6 _ _ _ _ _ _ (ia (pv 0) T.eI T.lE iu (hr.mono ∅) gC jR e9 (ae aj af)) (kI (pv 3) (pv 2) set_list) (by rfl) (by rfl) (by rfl))
  (ar (aJ (pv 3))))) ?_)
 have nv:=xj hq;refine (ut _ rfl z dz _ rfl hd (iI (by decide +kernel)) (u8 z q 0 1 rfl ⟨dz,hd⟩ hq (b_.of_lt ∅ ∅) (λh=>absurd h nv) (λ_ v0 H1 s1 ho=>?_)))
 refine ⟨by show 1<=sizeLine;decide,λl nl=>?_⟩
 have sl:ag H1 (upd H1 l (.lst [v0])):=a9 nl;have el:upd H1 l (.lst [v0]) l=some (.lst [v0]):=aK;have h0:=oh (B:=10 ^ 60) ∅ (ho.mono sl) hq (.inl rfl)
 generalize upd H1 l (.lst [v0])=H2 at sl el h0 ⊢;refine (ad _ rfl (wP l (n:Int) [v0] rfl rfl el ⋯ ⋯ ?_ (λr nr=>?_)))
 ·rw [dr]
  exact au (show [v0].length*n<=40 by simp;exact n4) ∅
 rw [dr,show (List.replicate n [v0]).flatten=List.replicate n v0 by induction n with
  | zero=>rfl
  | succ n ih=>simp [oP]]
 have sr:ag H2 (upd H2 r (.lst (List.replicate n v0))):=a9 nr;have er:upd H2 r (.lst (List.replicate n v0)) r=some (.lst (List.replicate n v0)):=aK;have h0:=h0.mono sr;generalize upd H2 r (.lst (List.replicate n v0))=H3 at sr er h0 ⊢;have s3:=s1.trans (sl.trans sr);refine (ut _ rfl z dz _ rfl (s3 _ _ hd) (iI (by decide +kernel)) (u8 z q 1 1 rfl ⟨dz,s3 _ _ hd⟩ hq (b_.of_lt ∅ ∅) (λh=>absurd h nv) (λ_ v1 H4 s4 B_=>?_)))
 have h1:=oh (B:=10 ^ 60) ∅ B_ hq (.inr rfl)
 refine (ad _ rfl (nw _ rfl r _ _ i rfl rfl (s4 _ _ er) ?_ ?_))
 ·unfold ie
  rw [ao ⋯,ao (by simp;exact hi),dr]
 have SA:H1 r=none:=none_of sl nr;refine (ad _ rfl (k r _ (e_ (s3.trans s4) (none_of s1 SA)) (none_of s1 SA) (am _ aK (by simp [iK]) (λj v p hv hp=>?_))))
 have cC:∀b o,b≠r->H4 b=some o->upd H4 r (.lst ((List.replicate n v0).set i v1)) b=some o:=λb o nb e=>by rw [cj nb];exact e
 have hj:j<n:=by have:=(aL.mp hv).1;simpa using this
 unfold iK at hp;rw [bu] at hp;simp [hj] at hp;by_cases z:j=i
 ·subst z
  rw [ao rfl] at hp;have ev:v1=v:=by
   rw [kx (by simpa using hj)] at hv
   exact Option.some.inj hv
  subst ev hp;exact h1.cC (s4 _ _ er) cC
 ·rw [aq z] at hp
  have ev:v0=v:=by
   rw [ky ⋯] at hv
   simpa [hj] using hv
  subst ev hp;exact (h0.mono s4).cC (s4 _ _ er) cC
theorem abn:bw ["world","n"] ["world","n"] (aR FJ):=bH
theorem K6(T:Txt K mg t):aO P w K mg base bO 5 t.uk t.ya ["world","n"] (Yz t.bP):=by
 have S:=abn;refine T.rg.bV S (λ_ _ _ _ H vs _ _ hr h=>?_);intros am1 h z q am14 n rfl hz hq n4 k;refine (ad _ (ar (aJ (dA (N:=["place","world","n"]) (ρ:=(λσ=>[σ[0]?.join,σ[1]?.join])) (cP [0,1] rfl) rfl (gF rfl T.fg (ae (pv 1) af)) (λ_ _ _=>.nil) (λ_ _ _=>(aw (abm T) hr T.Ru T.zh.kp T.Rt aF (ae (pv 1) (ae (pv 2) (ae (pv 0) af)))))))) ?_);refine gy (fc (xs:=(List.range n).map λi:Nat=>V.int (0+(i:Int))) (λR h=>⟨_,rfl,(n:Int),rfl,⋯,⋯,h _ _ (ag.refl _) (by rw [dr];exact mi)⟩) (by rw [aV,gc];exact cR ⋯) (λD i y Hx=>∃r,y=.ref r/\r≠D/\Jr Hx q r (iK n i)) (λD i y Ha Hb ys ⟨r,h1,h2,vs,e1,e2,e3⟩ e f=>⟨r,h1,h2,vs,f _ _ h2 e1,e2,λj v p x y=>(e3 j v p x y).cC e f⟩) ?_ ?_)
 ·intro D i v hi Hc R sc ⟨zs,eD⟩ kc
  obtain ⟨a_,rfl⟩:=pR hi;exact (sK _ rfl _ rfl _ rfl (u8 z q n i rfl (hz.mono sc) hq n4 a_ (λr H' s' nr cZ=>kc _ H' s' ⟨r,rfl,λz=>by (rw [z,eD] at nr;cases nr),cZ⟩)))
 ·intro D ys Hc nD sc d_ hP eD
  refine k D Hc sc nD (am ys eD (by rw [d_,aV,aV]) (λi v ps h1 h2=>?_))
  obtain ⟨r,e1,_,e3⟩:=hP i v h1;have a_:i<n:=by have:=(aL.mp h2).1;simpa using this
  rw [bu] at h2;simp [a_] at h2;subst h2;exact (ad r e1 e3)
theorem SD:bw ["table"] ["table"] (aR Fs):=bH
theorem SE(T:Txt K mg t):aO P w K mg base (eF P w) 2 t.qW t.t7 ["table"] (Y3 t.fz):=by
 have S:=SD;refine T.oy.d8 S (λ_ _ _ _ H vs _ _ hr h L=>?_);intros am27 h a q B aa m rfl hA h1 am4 iO hm kE k
 refine (ad _ (ak (bC (bK fX (aw (qf T) hr T.lh T.iN.kp T.lg (j9 L) (ae (pv 0) af)) (aZ cm rfl T.b5 b6 (ae (pv 0) af))) (ar (mV L rfl mK T.qe rfl T.qd (ae gd af))) bG)
  (ar (aJ (aZ cm rfl T.b5 b6 (ae (pv 0) af))))) ?_)
 refine (xz _ rfl a (u8 q B aa m rfl hA h1 iO hm (λH1 s1=>?_)));obtain ⟨vs,ea,lv,_⟩:=id (hA.mono s1);refine (f8 _ rfl a vs rfl (.inl (.of ea)) rfl _ rfl (cM (λdB=>?_) (λdB=>?_)))
 ·have dB:m≠aa.length:=λz=>by
   have:(m:Int)=(vs.length:Int):=by lia
   rw [eZ,cF this] at dB;cases dB
  exact ⟨by show 1<=sizeLine;decide,kE dB H1 s1⟩
 ·have heq:m=aa.length:=by
   by_cases z:(m:Int)=(vs.length:Int);·lia
   ·exact absurd (by rw [eZ,fD z];rfl) dB
  have z:=k heq H1 s1;dsimp only [eO];refine (dL _ rfl a vs rfl (.inl (.of ea)) ?_);rw [show (vs.length:Int)=(m:Int) by lia]
  exact z
theorem abo:bw ["table","other"] ["table","other"] (aR FQ):=bH
theorem GR(T:Txt K mg t):aO P w K mg base bO 1 t.uv t.yg ["table","other"] Y4:=by
 have S:=abo;refine T.p_.bV S (λ_ _ _ _ H vs _ _ hr h=>?_);intros amE h a am21 b q B aa ai m am35 u rfl hA hB ln cO hm hu fL SF k;refine (ad _ (ar (aJ (pM (N:=["row","more"]) (ρ:=(λσ=>[])) (oa [] rfl) rfl (kW rfl T.ku (ae (pv 0) (ae (pv 1) af))) (λ_ _ _=>.nil) (λ_ _ _=>(az IP (pv 0) (pv 1)))))) ?_);obtain ⟨vs,ea,lv,fv⟩:=id hA;obtain ⟨us,eb,lu,fu⟩:=id hB;refine gy (xo (Z:=λzs Hx=>zs=vs.zip us/\Hx=H) (λR h=>(ms _ rfl _ rfl a b rfl ⟨_,.of ea⟩ ⟨_,.of eb⟩ (h _ _ _ (ag.refl _) (m6 (.of ea) (.of eb)) (cR (by rw [jX];lia)) ⟨rfl,rfl⟩))) (λD i y Hx=>∃x:Addr,y=.ref x/\x≠D/\aM B Hx q x (aa.getD i []++ai.getD i [])) (λD i y Ha Hb ys ⟨x,h1,h2,vs,e1,e2,e3⟩ e f=>⟨x,h1,h2,vs,f _ _ h2 e1,e2,λj v p x y=>(e3 j v p x y).cC e f⟩) ?_ ?_)
 ·rintro zs H1 ⟨rfl,rfl⟩ _ D i x y fS Hc R sc ⟨ys,eD⟩ kc
  obtain ⟨h1,h2⟩:=lR.mp fS;have i1:i<vs.length:=(aL.mp h1).1;have i2:i<us.length:=(aL.mp h2).1;have p1:i<aa.length:=by lia
  have p2:i<ai.length:=by lia
  obtain ⟨rx,rfl,xs,ex,lx,fx⟩:=fv i x aa[i] h1 (by simp [p1])
  obtain ⟨ry,rfl,zO,ey,ly,fy⟩:=fu i y ai[i] h2 (by simp [p2])
  have l1:=hm _ (aG p1);have l2:=hu _ (aG p2);refine ⟨_,rfl,_,rfl,rx,ry,xs,zO,rfl,rfl,sc _ _ ex,sc _ _ ey,au (show _<=100 by lia) ∅,λp np=>?_⟩
  have sp:ag Hc (upd Hc p (.lst (xs++zO))):=a9 np;refine kc _ _ sp (am p rfl (λe=>by rw [e,eD] at np;cases np) ?_)
  rw [getD_at p1,getD_at p2];exact aM.cat (B:=B) aK lx ly (λj v p' h1 h2=>((fx j v p' h1 h2).mono sc).mono sp) (λj v p' h1 h2=>((fy j v p' h1 h2).mono sc).mono sp)
 ·rintro zs H1 ⟨rfl,rfl⟩ _ D ws Hc nD sc iw hP eD
  have lz:ws.length=aa.length:=by rw [iw,jX];lia
  refine k D Hc sc nD (am ws eD (by rw [lz,wq];lia) (λi v ps h1 h2=>?_))
  have i1:i<ws.length:=(aL.mp h1).1;have p1:i<aa.length:=by lia
  have p2:i<ai.length:=by lia
  obtain ⟨x,e1,_,e2⟩:=hP i v h1;refine (ad x e1 ?_);rw [getD_at p1,getD_at p2] at e2;have e3:ps=aa[i]++ai[i]:=by rw [AH] at h2;simp [p1,p2] at h2;exact h2.symm
  rw [e3];exact e2
def abp(N:Addr):Sp:=λvs H Q E=>∃(n:Nat) (a:Addr) (xs:List V),vs=[.int (n:Int),.ref a]/\H a=some (.lst xs)/\(xs.length≠n->E (.ref N) none H)/\(xs.length=n->Q .bg H)
theorem abq:bw ["n","aim"] ["n","aim"] (aR Fu):=bH
theorem abr(T:Txt K mg t):aO P w K mg base (eF P w) 1 t.t9 t.xV ["n","aim"] (abp t.fz):=by
 have S:=abq;refine T.za.d8 S (λ_ _ _ _ H _ _ _ hr h L=>?_);intros am20 h n a xs rfl ea kE k;refine (ad _ (ar (bC (bK fX (aZ cm rfl T.b5 b6 (ae (pv 1) af)) (pv 0)) (ar (mV L rfl mK T.qe rfl T.qd (ae gd af))) bG)) ?_);refine (dL _ rfl a xs rfl (.inl (.of ea)) (gt _ rfl rfl _ rfl (cM (λdB=>?_) (λdB=>?_))))
 ·have dB:xs.length≠n:=λz=>by
   have:(xs.length:Int)=(n:Int):=by lia
   rw [eZ,cF this] at dB;cases dB
  exact ⟨by show 1<=sizeLine;decide,kE dB⟩
 ·have heq:xs.length=n:=by
   by_cases z:(xs.length:Int)=(n:Int);·lia
   ·exact absurd (by rw [eZ,fD z];rfl) dB
  exact k heq
theorem abt:bw ["table","place"] ["table","place"] (aR Fv):=bH
theorem K7(T:Txt K mg t):aO P w K mg base bO 1 t.t_ t.xW ["table","place"] Zx:=by
 have S:=abt;refine T.rf.bV S (λ_ _ _ _ H vs _ _ hr h=>?_);intros amE h a am33 q B j aa m rfl q'4 iO hm hj k;intros am7 q'4 vs ea hl hn;refine (ad _ (ar (aJ (dA (N:=["row","place"]) (ρ:=(λσ=>[σ[1]?.join])) (cP [1] rfl) rfl (cY (pv 0)) (λ_ _ _=>.nil) (λ_ _ _=>(aA (ip (K:=K)) (pv 0) (pv 1)))))) ?_);refine gy (fc (xs:=vs) (λR h=>⟨_,rfl,a,rfl,⟨_,.of ea⟩,h _ _ (ag.refl _) (eR (.of ea))⟩) (by rw [hl];exact cR ⋯) (λD i y Hx=>∃ps,aa[i]?=some ps/\cH B Hx q y (ps.getD j (0,1)).1 (ps.getD j (0,1)).2) (λ_ _ _ _ _ _ ⟨ps,h1,h2⟩ e f=>(ad ps h1 (h2.cC e f))) ?_ ?_)
 ·intro D i v hi Hc R sc _ kc
  have a_:i<aa.length:=by rw [<-hl];exact (aL.mp hi).1
  have ep:aa[i]?=some aa[i]:=by simp [a_]
  obtain ⟨r,rfl,us,er,lr,f⟩:=hn i v aa[i] hi ep;have hlen:=hm aa[i] (aG ..);have SG:j<us.length:=by lia
  have SH:j<aa[i].length:=by lia
  refine ⟨_,rfl,_,rfl,r,us,_,us[j],rfl,rfl,.of (sc _ _ er),cK (by simp [SG]),kc _ Hc (ag.refl _) (ad (aa[i]) ep ?_)⟩
  have eg:aa[i].getD j (0,1)=aa[i][j]:=by simp [SH]
  rw [eg];exact (f j us[j] aa[i][j] (by simp [SG]) (by simp [SH])).mono sc
 ·intro D ys Hc nD sc d_ hP eD
  refine k D Hc sc nD (am ys eD (by rw [d_,hl,aV]) (λi v p h1 h2=>?_))
  obtain ⟨ps,e1,e2⟩:=hP i v h1;rw [bu,e1] at h2;cases h2;exact e2
theorem SI:bw ["table"] ["table"] (aR Fw):=bH
theorem GS(T:Txt K mg t):aO P w K mg base bO 2 t.qX t.ua ["table"] (Zy t.fz):=by
 have S:=SI;refine T.oz.bV S (λ_ _ _ _ H vs _ _ hr h=>?_);intros am27 h a q B aa m rfl hA h1 am4 iO hm fL k;refine (ad _ (ar (aJ (dA (N:=["place","table"]) (ρ:=(λσ=>[σ[0]?.join])) (cP [0] rfl) rfl (gF rfl T.fg (ae (aw (qf T) hr T.lh T.iN.kp T.lg e9 (ae (pv 0) af)) af)) (λ_ _ _=>.nil) (λ_ _ _=>(aw (K7 T) hr T.GF T.rf.kp T.GD aF (ae (pv 1) (ae (pv 0) af))))))) ?_);refine gy (fc (xs:=(List.range m).map λi:Nat=>V.int (0+(i:Int))) (λR h=>(xz _ rfl a (u8 q B aa m rfl hA h1 iO hm (λH1 s1=>⟨(m:Int),rfl,⋯,⋯,h _ _ s1 (by rw [dr];exact mi)⟩)))) (by rw [aV,gc];exact cR ⋯) (λD i y Hx=>∃r,y=.ref r/\r≠D/\aM B Hx q r (aa.map λps:List (Int×Int)=>ps.getD i ((0:Int),(1:Int)))) (λD i y Ha Hb ys ⟨r,h1,h2,vs,e1,e2,e3⟩ e f=>⟨r,h1,h2,vs,f _ _ h2 e1,e2,λj v p x y=>(e3 j v p x y).cC e f⟩) ?_ ?_)
 ·intro D i v hi Hc R sc ⟨zs,eD⟩ kc
  have a_:i<m:=by have:=(aL.mp hi).1;simpa using this
  have ev:v=.int (i:Int):=by rw [bu] at hi;simp [a_] at hi;exact hi.symm
  subst ev;refine (SB _ rfl _ rfl a q (u8 B i aa m rfl (hA.mono sc) iO hm a_ (λb H' s' nb hb=>kc _ H' s' (am b rfl (λz=>by (rw [z,eD] at nb;cases nb)) hb))))
 ·intro D ys Hc nD sc d_ hP eD
  refine k D Hc sc nD (am ys eD (by unfold bL;rw [d_,aV,aV]) (λi v ps h1 h2=>?_))
  obtain ⟨r,e1,_,e3⟩:=hP i v h1;have a_:i<m:=by have:=(aL.mp h2).1;simpa [bL] using this
  unfold bL at h2;rw [bu] at h2;simp [a_] at h2;subst h2;exact (ad r e1 e3)
theorem SJ:bw ["world","table","rows","leads","last","lead","turn","found","head"] ["world","table"] (aR FP):=bH
theorem zP(T:Txt K mg t):aO P w K mg base bO 5 t.qY t.uu ["world","table"] (ZH t.bP t.fz):=by
 have S:=SJ;have oG:=B7 (P:=P) (w:=w) (base:=base) T;refine T.jP.bV S (λ_ _ _ _ H vs _ _ hr h=>?_);intros am21 h z a q B PP W am26 aa G rfl q'8 hq hA B1 am31 Ca n1 cO hW K8 hE hG hP rB k;obtain ⟨dz,hd⟩:=q'8
 refine (ad _ (ak (pK (i0:=2) (N:=["row","world"]) (ρ:=(λσ=>[σ[0]?.join])) (cP [0] rfl) rfl S.nd rfl (Or.inl rfl) (cY (pv 1)) (λ_ _ _=>.nil) (λ_ _ _=>(aA (qH (K:=K)) (ia (pv 1) T.eI T.qc oG (hr.mono ∅) T.vE .nil aF (ae (pv 0) af)) aj)))
  (ak (putL 3 S.nd (eY af))
  (ak (d4 4 S.nd aj)
  (ak (gG fJ rfl (gF rfl T.fg (ae (aw (qf T) hr T.lh T.iN.kp T.lg e9 (ae (pv 1) af)) af)) (dE (i:=5) S.nd rfl (Or.inr rfl))
   (ak (putL 6 S.nd (aZ cm rfl T.b5 b6 (ae (pv 3) af)))
  (ak (putL 7 S.nd (aw (So T) hr T.Ku T.vp.kp T.Kt aF (ae (pv 2) (ae (pv 6) (ae (pv 5) af)))))
  (ar (bC (bK NM (pv 7) nU) (ak (putL 2 S.nd (aw (Sq T) hr T.Kw T.vq.kp T.Kv aF (ae (pv 2) (ae (pv 6) (ae (pv 7) af)))))
  (ak (d4 8 S.nd (aA dh (pv 2) (pv 6)))
  (ak (pK (i0:=2) (N:=["row","world","head","lead","last"]) (ρ:=(λσ=>[σ[0]?.join,σ[8]?.join,σ[5]?.join,σ[4]?.join])) (cP [0,8,5,4] rfl) rfl S.nd rfl (Or.inl rfl) (cY (pv 2)) (λ_ _ _=>.nil) (λ_ _ _=>(aw (Sr T) hr T.Ks T.vm.kp T.Kr aF (ae (pv 1) (ae (pv 0) (ae (pv 2) (ae (pv 3) (ae (pv 4) af))))))))
  (ak (@j6 _ _ _ _ _ _ (pv 8) (kI (pv 2) (pv 6) set_list) (by rfl) (by rfl) (by rfl))
  (ak (d4 4 S.nd (aA dh (pv 8) (pv 5)))
  (ar (wF (A8 AJ AK AL nY (pv 3) (ae (pv 5) af))))))))) bG)))))
  (ar (aJ (gw (ae (pM (N:=["row","lead","world"]) (ρ:=(λσ=>[σ[0]?.join])) (oa [0] rfl) rfl (kW rfl T.ku (ae (pv 2) (ae (pv 3) af))) (λ_ _ _=>.nil) (λ_ _ _=>(aw (Sx T) hr T.Ky T.vv.kp T.Kx aF (ae (pv 2) (ae (pv 0) (ae (pv 1) af)))))) (ae (pv 3) af))))))))) ?_)
 have q'9:=id hA;intros am7 q'9 vs ea lv fv;refine fY (gx (fc (xs:=vs) (λR h=>(ad _ rfl (am a rfl ⟨_,.of ea⟩ (h _ _ (ag.refl _) (eR (.of ea)))))) (by rw [lv];exact cR ⋯) (λD i y Hx=>∃(x:Addr) (ts:List Int) (b:Int),y=.ref x/\x≠D/\H x=none/\Hx x=some (.lst (ts.map V.int))/\Bw q (G i) W (aa.getD i []) ts b) (λD i y Ha Hb ys ⟨x,ts,b,h1,h2,h3,h4,h5⟩ e f=>(o0 x ts b h1 h2 h3 (f _ _ h2 h4) h5)) ?_ ?_))
 ·intro D i v hi Hc R sc ⟨zs,eD⟩ kc
  have a_:i<vs.length:=(aL.mp hi).1;have hp:i<aa.length:=by lia
  obtain ⟨r,rfl,cZ⟩:=fv i v aa[i] hi (by simp [hp])
  obtain ⟨D',x,gJ,bD,dv,hx⟩:=hE i hp;have ep:aa.getD i []=aa[i]:=getD_at hp;rw [ep] at dv hx kc;have lW:=hW _ (aG hp);refine (ut _ rfl z dz _ rfl (sc _ _ hd) (iI (by decide +kernel)) (ad _ rfl (SC z r q (aa[i]) B (SL D' rfl ⟨dz,sc _ _ hd⟩ hq (cZ.mono sc) (by rw [lW];exact K8) gJ dv Ca B1 ⟨bT bD (hG i).2,λv H' ts b s' hn wd=>?_⟩))))
  intros am15 hn tp l rfl etp el nl;exact (sB tp _ _ _ rfl rfl (.of etp) rfl (kc _ H' s' (o0 l ts b rfl (λe=>by rw [e,eD] at nl;cases nl) (none_of sc nl) el (PN hq wd lW cZ gJ hx))))
 intro D ys H1 nD s1 dN hP1 eD;have hn:ys.length=aa.length:=by rw [dN,lv]
 obtain ⟨f,hf⟩:=m8 (n:=aa.length) (α:=List Int×Int) (R:=λi y=>∃x:Addr,ys[i]?=some (.ref x)/\x≠D/\H1 x=some (.lst (y.1.map V.int))/\Bw q (G i) W (aa.getD i []) y.1 y.2) λi hi=>by
  have a_:i<ys.length:=by lia
  obtain ⟨x,ts,b,e1,h2,h3,h4,h5⟩:=hP1 i ys[i] (by simp [a_])
  exact (gl (ts,b) x (by rw [<-e1];simp [a_]) h2 h4 h5)
 obtain ⟨AA,oH,abw⟩:∃AA:Nat->Nat->Int,(∀i,i<aa.length->∀k,AA i k=(f i).1.getD k 0)/\∀i k,aa.length<=i->AA i k=0:=⟨λi k=>if i<aa.length then (f i).1.getD k 0 else 0,λi hi k=>ao hi,λi k hi=>aq ⋯⟩
 dsimp only [aN];simp only [L2.start,df,iD,gE,gZ,List.replicate,g_,gM,aX,aY];refine ⟨by show 0<=sizeLine;decide,λl nl=>?_⟩
 have s2:ag H (upd H1 l (.lst [])):=s1.trans (a9 nl);have el:upd H1 l (.lst []) l=some (.lst (a7 [])):=aK;have iR:k7 (upd H1 l (.lst [])) D l aa.length W AA:=by
  refine (ii ys (a9 nl _ _ eD) hn (λe=>by rw [e,nl] at eD;cases eD) (λi v hv=>?_))
  have a_:i<aa.length:=by rw [<-hn];exact (aL.mp hv).1
  obtain ⟨x,e1,e2,e3,e4⟩:=hf i a_;rw [e1] at hv;cases hv;refine (ii x rfl e2 (λe=>by rw [e,nl] at e3;cases e3) ?_)
  rw [show AA i=λk=>(f i).1.getD k 0 from funext λk=>oH i a_ k,PM _ e4.len];exact a9 nl _ _ e3
 generalize upd H1 l (.lst [])=H2 at s2 el iR ⊢;dsimp only [aN];simp only [aX,aY];have K9:H l=none:=none_of s1 nl;refine (xz _ rfl a (u8 q B aa W rfl (hA.mono s2) n1 cO hW (λH3 s3=>(ii (W:Int) rfl ⋯ ⋯ ?_))))
 rw [dr];obtain ⟨A0,hA0,bA0⟩:∃A0:Nat->Nat->Int,A0=AA/\∀i k,(A0 i k).natAbs<=G i:=⟨AA,rfl,λi k=>by
  by_cases hi:i<aa.length
  ·obtain ⟨x,e1,e2,e3,e4⟩:=hf i hi
   rw [oH i hi k];exact e4.bd k
  ·rw [abw i k ⋯]
   exact f_ _⟩
 have I0:iM q PP aa.length W AA AA [] 1 0:=by refine iM.start hq (G:=G) (hA0▸bA0) (λi=>(hG i).1) hP rB n1 λz i k hi hk=>?_;obtain ⟨x,e1,e2,e3,e4⟩:=hf i hi;rw [oH i hi k];exact e4.rem z k hk
 refine lZ (λi σ Hc=>ag H Hc/\∃(rr:Addr) (M:aE) (L:List Nat) (last:Int) (v5 v6 v7 v8:Option V),σ=[some (.ref z),some (.ref a),some (.ref rr),some (.ref l),some (.int last),v5,v6,v7,v8]/\Hc l=some (.lst (a7 L))/\k7 Hc rr l aa.length W M/\iM q PP aa.length W AA M L last i) (And.intro (s2.trans s3) (Re D AA [] 1 none none (gl none none rfl (s3 _ _ el) (iR.mono s3) I0))) ?_ ?_
 ·intro i σ Hc hi;intros am12 _ sc rr M L am27 last v5 v6 v7 v8 rfl el iR I
  rw [show (0:Int)+(i:Int)=(i:Int) by lia]
  refine (dL _ rfl l (a7 L) rfl (.inl (.of el)) ?_);rw [show ((a7 L).length:Int)=(L.length:Int) by simp [a7]]
  dsimp only [aN];simp only [aX,aY];refine (S' _ rfl _ rfl _ rfl rr aa.length W (wP L.length i M rfl iR.rows I.rd.len ⋯ hi (λs' hs sn ns=>?_) (λhz=>?_)))
  ·dsimp only [aN]
   simp only [aX,aY];have q'16:=I.next hq hi hs sn ns;intros am0 q'16 Ef K_ I';obtain ⟨ml,La⟩:=I.last hq;have md:∀i' k',i'<aa.length->k'<W->b_ (cz M L.length s' i' k'):=λi' k' h1 h2=>by
    have b:∀j,j<aa.length->b_ (M j k'):=λj hj=>bT (I.bd hq hj h2) I.mid;unfold cz
    split
    ·exact b _ ⋯
    ·split
     ·exact b _ sn
     ·exact b _ h1
   have rn:L.length<aa.length:=by lia
   refine (gt _ rfl rfl _ rfl (dW ?_));refine (S' _ rfl _ rfl _ rfl rr l aa.length (u8 W L.length s' M rfl iR ⟨_,el⟩ rn sn (λb H4 s4 nb vF=>?_)));dsimp only [aN];simp only [aX,aY];have zQ:=s4 _ _ el;generalize cz M L.length s'=M1 at K_ I' vF md;have q'17:=id vF;intros am9 q'17 Cb eb SK bl SM;have SN:L.length<Cb.length:=by lia
   have q'18:=(SM L.length Cb[L.length] (by simp [SN]));intros am9 q'18 hx ehx qQ hxl eh
   refine (ad _ rfl (nw _ rfl b Cb _ (.ref hx) rfl rfl (.of eb) (cK (by rw [<-ehx];simp [SN])) ?_))
   dsimp only [aN];simp only [aX,aY];have Lb:=sc.trans s4;refine fY (gx (fc (xs:=Cb) (λR h=>(ad _ rfl (am b rfl ⟨_,.of eb⟩ (h _ _ (ag.refl _) (eR (.of eb)))))) (by rw [SK];exact cR ⋯) (λD i y Hx=>∃x:Addr,y=.ref x/\x≠D/\x≠l/\Hx x=some (.lst (((List.range W).map (Ef i)).map V.int))) (λD i y Ha Hb ys ⟨x,h1,h2,h3,h4⟩ e f=>(ii x h1 h2 h3 (f _ _ h2 h4))) ?_ ?_))
   ·intro D i' v a_ Hd R sd ⟨zs,eD⟩ kd
    have fO:i'<Cb.length:=(aL.mp a_).1;have hp:i'<aa.length:=by lia
    obtain ⟨x,rfl,_,_,ex⟩:=SM i' v a_;exact (db _ rfl _ rfl (S' _ rfl _ rfl _ rfl z x hx (Re q last W i (M1 i') (M1 L.length) (SL (Ef i') rfl ⟨dz,sd _ _ (Lb _ _ hd)⟩ hq (sd _ _ ex) (sd _ _ eh) hi K8 (λk' dC=>⟨md i' k' hp dC,md _ k' rn dC⟩) ml ⟨La,λz k' _=>(K_ i' hp).1 z k',λz k' _=>(K_ i' hp).2 z k',λr H' s' nr er=>kd _ H' s' (ii r rfl (λe=>by rw [e,eD] at nr;cases nr) (λe=>by rw [e,sd _ _ zQ] at nr;cases nr) er)⟩))))
   intro D vG H5 GU s5 abB hP5 eD5;dsimp only [aN];simp only [aX,aY];have hr5:L.length<vG.length:=by lia
   have Dl:D≠l:=λe=>by rw [e,zQ] at GU;cases GU
   refine (db _ rfl _ rfl (nw _ rfl D vG _ L.length rfl rfl eD5 (by unfold ie;rw [ao ⋯,ao ⋯,dr]) ?_))
   have nDH:H D=none:=none_of Lb GU;have s6:ag H (upd H5 D (.lst (vG.set L.length (.ref hx)))):=e_ (Lb.trans s5) nDH;have SO:hx≠D:=λe=>by rw [e,GU] at eh;cases eh
   have Lc:upd H5 D (.lst (vG.set L.length (.ref hx))) hx=some (.lst (((List.range W).map (M1 L.length)).map V.int)):=by rw [cj SO];exact s5 _ _ eh
   have Ld:upd H5 D (.lst (vG.set L.length (.ref hx))) l=some (.lst (a7 L)):=by rw [cj (Ne.symm Dl)];exact s5 _ _ zQ
   have SQ:k7 (upd H5 D (.lst (vG.set L.length (.ref hx)))) D l aa.length W (λi=>if i=L.length then M1 L.length else Ef i):=by
    refine (ii _ aK (by rw [iB,abB,SK]) Dl (λj v hv=>?_))
    by_cases ej:j=L.length
    ·subst ej
     rw [kx hr5] at hv;cases hv;refine (ii hx rfl SO hxl ?_);dsimp only;rw [ao rfl];exact Lc
    ·rw [ky (λe=>ej e.symm)] at hv
     obtain ⟨x,e1,e2,e3,e4⟩:=hP5 j v hv;refine (ii x e1 e2 e3 ?_);dsimp only;rw [aq ej,cj e2];exact e4
   dsimp only;generalize upd H5 D (.lst (vG.set L.length (.ref hx)))=H6 at s6 Lc Ld SQ ⊢;refine (ad _ rfl (nw _ rfl hx _ _ _ rfl rfl (.of Lc) (qO hi (M1 L.length)) ?_));dsimp only [aN];simp only [aX,aY];refine (gt _ rfl (.inl (re rfl _ (.of Ld))) _ rfl (o0 l (a7 L) _ rfl rfl Ld (bT (show (a7 L).length<=100 by simp [a7];lia) ∅) ?_))
   have eN:a7 L++[.int (i:Int)]=a7 (L++[i]):=by simp [a7]
   rw [eN];exact (And.intro (e_ s6 K9) (Re D _ (L++[i]) (M1 L.length i) _ _ (gl _ _ rfl aK (SQ.off _) I')))
  ·dsimp only [aN]
   simp only [aX,aY];refine (gt _ rfl rfl _ rfl (bQ ?_));exact (And.intro sc (Re rr M L last _ _ (gl _ _ rfl el iR (I.skip hz))))
 ·intro σ Hc;intros am12 _ sc rr M L am27 last v5 v6 v7 v8 rfl el iR I
  have q'21:=id iR;intros am9 q'21 vs6 er lv6 rl fv6;have lN:(a7 L).length=L.length:=by simp [a7]
  have ln:=I.rd.len;dsimp only;refine gy (Jp (xo (Z:=λzs Hx=>zs=vs6.zip (a7 L)/\Hx=Hc) (λR h=>(ms _ rfl _ rfl rr l rfl ⟨_,.of er⟩ ⟨_,.of el⟩ (h _ _ _ (ag.refl _) (m6 (.of er) (.of el)) (cR (by rw [jX];lia)) ⟨rfl,rfl⟩))) (λD j y Hx=>∃(x:Addr) (ps:aI),y=.ref x/\x≠D/\aM (aa.length*(br aa.length*PP)) Hx q x ps/\ps.length=W/\∀k,k<W->a8 q (ps.getD k o1) (M j k,M j (L.getD j 0))) (λD j y Ha Hb ys ⟨x,ps,h1,h2,⟨ws,e1,e2,e3⟩,h4,h5⟩ e f=>(gl x ps h1 h2 (am ws (f _ _ h2 e1) e2 (λj v p x y=>(e3 j v p x y).cC e f)) ⟨h4,h5⟩)) ?_ ?_))
  ·rintro zs Le ⟨rfl,rfl⟩ _ D' j x y fS Hd R sd ⟨ws,qg⟩ kd
   obtain ⟨h1,h2⟩:=lR.mp fS;have j2:j<L.length:=by rw [<-lN];exact (aL.mp h2).1
   have j1:j<aa.length:=by lia
   obtain ⟨rx,rfl,_,_,ex⟩:=fv6 j x h1;have ey:y=.int ((L.getD j 0:Nat):Int):=by unfold a7 at h2;rw [bu,bu] at h2;simp [j2] at h2;rw [getD_at j2];exact h2.symm
   subst ey;have cW:L.getD j 0<W:=I.rd.lt _ (by rw [getD_at j2];exact aG _)
   exact (sK _ rfl _ rfl _ rfl (Re z rx q W (L.getD j 0) (M j) (SL (aa.length*(br aa.length*PP)) rfl ⟨dz,sd _ _ (sc _ _ hd)⟩ hq (sd _ _ ex) cW K8 (I.rd.lead j j2) (bT (I.bd hq j1 cW) I.mid) (λk' dC=>I.bd hq j1 dC) (λr ps H' s' nr cZ lp hw=>kd _ H' s' (gl r ps rfl (λe=>by rw [e,qg] at nr;cases nr) cZ ⟨lp,hw⟩)))))
  ·rintro zs Le ⟨rfl,rfl⟩ _ D' ws H7 GV s7 iw Lf zR
   have lz:ws.length=L.length:=by rw [iw,jX];lia
   obtain ⟨ai,lr,Cc⟩:=pick (R:=fun(j:Nat) (y:V) (ps:aI)=>∃x:Addr,y=.ref x/\aM (aa.length*(br aa.length*PP)) H7 q x ps/\ps.length=W/\∀k,k<W->a8 q (ps.getD k o1) (M j k,M j (L.getD j 0))) (λj y hy=>by obtain ⟨x,ps,h1,_,h3,h4,h5⟩:=Lf j y hy;exact (gl ps x h1 h3 h4 h5))
   refine (am _ rfl (by show 2<=sizeLine;decide) (λp np=>?_))
   have sp:ag H7 (upd H7 p (.tup [.ref D',.ref l])):=a9 np;refine k p D' l _ AA M (λi=>(f i).2) L last ai (sc.trans (s7.trans sp)) aK (sp _ _ (s7 _ _ el)) (am ws (sp _ _ zR) lr.symm (λj v ps h1 h2=>?_)) ⟨I,λi hi=>?_,λi k' hi dC=>?_,⋯,λps qU=>?_,λj k' hj dC=>?_⟩
   ·obtain ⟨x,e1,e2,_⟩:=Cc j v ps h1 h2
    exact (ad x e1 (e2.mono sp))
   ·obtain ⟨x,e1,e2,e3,e4⟩:=hf i hi
    exact e4.ok
   ·obtain ⟨x,e1,e2,e3,e4⟩:=hf i hi
    rw [oH i hi k'];exact e4.eq k' dC
   ·obtain ⟨j,hj,e⟩:=eJ.mp qU
    have j1:j<ws.length:=by lia
    obtain ⟨x,_,_,e3,_⟩:=Cc j ws[j] ps (by simp [j1]) (by simp [hj,e])
    exact e3
   ·have j1:j<ws.length:=by lia
    have j2:j<ai.length:=by lia
    obtain ⟨x,_,_,_,e4⟩:=Cc j ws[j] ai[j] (by simp [j1]) (by simp [j2])
    unfold atT;rw [getD_at j2];exact e4 k' dC
theorem SR:bw ["world","table","other","n","told"] ["world","table","other"] (aR FW):=bH
theorem abI(T:Txt K mg t):aO P w K mg base (eF P w) 6 t.qZ t.uA ["world","table","other"] (ZI t.bP t.fz):=by
 have S:=SR;refine T.rh.d8 S (λ_ _ _ _ H vs _ _ hr h L=>?_);intros am34 h z a b q B PP u aa gA G am31 rfl hz hq hA hU B1 Ca n1 cO am32 lu hm hu SF hw hE hG hP rB kN k;have gD:=hr.units
 refine (ad _ (ak (d4 3 S.nd (aw (SE T) hr T.BL T.oy.kp T.BK (j9 L) (ae (pv 1) af)))
  (ak (putL 4 S.nd (aw (zP T) hr T.oB T.jP.kp T.oA aF (ae (pv 0) (ae (aw (GR T) hr T.BU T.p_.kp T.BS aF (ae (pv 1) (ae (pv 2) af))) af))))
  (ak (bC (bK (PH gD) (aA bE (pv 4) aj) (mU (OH rfl) rfl T.nB boot_list (ae (mU OG rfl T.fg OJ (ae (pv 3) af)) af))) (ar (aJ nU)) bG)
  (ar (aJ (dA (N:=["row","n"]) (ρ:=(λσ=>[σ[3]?.join])) (cP [3] rfl) rfl (cY (aA bE (pv 4) aj)) (λ_ _ _=>.nil) (λ_ _ _=>(DN (PQ (K:=K)) (pv 0) (DM (pv 1)) DL)))))))) ?_)
 have lz:(List.zipWith (·++·) aa gA).length=aa.length:=by rw [wq,lu,Nat.min_self]
 refine (Rs _ rfl a q (wP B aa aa.length rfl hA n1 cO hm (λh=>absurd rfl h) (λ_ H1 s1=>?_)));dsimp only [aN];simp only [L2.start,df,iD,gE,gZ,List.replicate,g_,gM,aX,aY];refine (sK _ rfl _ rfl _ rfl (zn a b q B aa gA aa.length (SL u rfl (hA.mono s1) (hU.mono s1) lu.symm cO hm hu cO SF (λr H2 s2 nr hT=>?_))));refine (zn z r q B PP (aa.length+u) (List.zipWith (·++·) aa gA) (SL G rfl ((hz.mono s1).mono s2) hq hT B1 Ca ⋯ ⋯ hw ⟨⋯,λi hi=>hE i ⋯,hG,by rw [lz];exact hP,by rw [lz];exact rB,λp rr l H3 AA M c LL last ai s3 ep el hR R=>?_⟩))
 rw [lz] at hR;dsimp only [aN];simp only [aX,aY];have gq:=s1.trans (s2.trans s3);refine (nw _ rfl p _ _ _ rfl rfl (.of ep) rfl (db _ rfl (aa.length:Int) rfl (λpr Lg=>?_)));have s4:ag H3 (upd H3 pr (.jC 0 (aa.length:Int))):=a9 Lg;have Cd:upd H3 pr (.jC 0 (aa.length:Int)) pr=some (.jC 0 (aa.length:Int)):=aK;generalize upd H3 pr (.jC 0 (aa.length:Int))=H4 at s4 Cd ⊢;refine (gl pr aa.length rfl Cd ⋯ (λlr Lh=>?_))
 have s5:ag H4 (upd H4 lr (.lst (jM aa.length))):=a9 Lh;have mC:upd H4 lr (.lst (jM aa.length)) lr=some (.lst (jM aa.length)):=aK;generalize upd H4 lr (.lst (jM aa.length))=H5 at s5 mC ⊢;rw [P1] at mC;have kv:=s4.trans s5;refine (wE l lr (LL.map (λj:Nat=>(j:Int))) ((List.range aa.length).map (λj:Nat=>(j:Int))) rfl rfl (.of (kv _ _ el)) (.of mC) _ rfl (cM (λdB=>?_) (λdB=>?_)))
 ·refine kN H5 AA M c LL last ai (gq.trans kv) R λe=>?_
  rw [e] at dB;simp at dB
 ·have eL:LL=List.range aa.length:=Ze (by simpa using dB)
  subst eL;have hR5:=hR.mono kv;obtain ⟨vs,er,lv,fv⟩:=id hR5;have lr:ai.length=aa.length:=by rw [R.len,gc]
  dsimp only [eO];refine gy (fc (xs:=vs) (λR h=>(nw _ rfl p _ _ _ rfl rfl (.of (kv _ _ ep)) rfl (am rr rfl ⟨_,.of er⟩ (h _ _ (ag.refl _) (eR (.of er)))))) (by rw [lv];exact cR ⋯) (λD j y Hx=>∃x:Addr,y=.ref x/\x≠D/\H x=none/\aM (aa.length*(br aa.length*PP)) Hx q x ((ai.getD j []).drop aa.length)) (λD j y Ha Hb ys ⟨x,h1,h2,h3,⟨ws,e1,e2,e3⟩⟩ e f=>(ii x h1 h2 h3 (am ws (f _ _ h2 e1) e2 (λj v p x y=>(e3 j v p x y).cC e f)))) ?_ ?_)
  ·intro D j v hj Hc R' sc ⟨zs,eD⟩ kc
   have j1:j<vs.length:=(aL.mp hj).1;have j2:j<ai.length:=by lia
   obtain ⟨x,rfl,ws,ew,lw,fw⟩:=fv j v ai[j] hj (by simp [j2])
   have lW:=R.bY _ (aG j2);refine (ad _ rfl (tz _ rfl _ rfl x ws rfl (.of (sc _ _ ew)) (λr' nC=>?_)));rw [PZ _ _ ⋯]
   have s6:ag Hc (upd Hc r' (.lst (ws.drop aa.length))):=a9 nC;refine kc _ _ s6 (ii r' rfl (λe=>by rw [e,eD] at nC;cases nC) (none_of (gq.trans (kv.trans sc)) nC) ?_)
   rw [getD_at j2];exact aM.drop aK lw λi v p h1 h2=>((fw i v p h1 h2).mono sc).mono s6
  ·intro D ys H6 nD s6 dN Li eD
   refine k H6 AA M c last ai D (gq.trans (kv.trans s6)) R (xL H3 rr hR) (ii ys eD (by rw [dN,lv,aV]) (none_of (gq.trans kv) nD) (λj v ps h1 h2=>?_))
   obtain ⟨x,e1,e2,e3,e4⟩:=Li j v h1;have j2:j<ai.length:=by have:=(aL.mp h2).1;simpa using this
   rw [bu] at h2;simp [j2] at h2;rw [getD_at j2] at e4;subst h2;exact (ii x e1 e2 e3 e4)
theorem SS:bw ["world","table"] ["world","table"] (aR FX):=bH
theorem abK(T:Txt K mg t):aO P w K mg base (eF P w) 7 t.q5 t.uB ["world","table"] (ZJ t.bP t.fz):=by
 have S:=SS;refine T.vy.d8 S (λ_ _ _ _ H vs _ _ hr h L=>?_);intros am21 h z a q B m aa am32 rfl hz hq hA B1 Ca n1 cO hm kE kk;refine (ad _ (ar (aJ (aw (abI T) hr T.KD T.rh.kp T.KC (j9 L) (ae (pv 0) (ae (pv 1) (ae (aw (K6 T) hr T.GH T.rg.kp T.GG aF (ae (pv 0) (ae (aw (SE T) hr T.BL T.oy.kp T.BK (j9 L) (ae (pv 1) af)) af))) af)))))) ?_);refine (db _ rfl _ rfl (SB _ rfl _ rfl a q (wP B aa m rfl hA n1 cO hm (λne H1 s1=>kE ne H1 s1) (λem H1 s1=>?_))));have q'33:=kk em;intros am26 q'33 PP G hE hG hP rB kN k;subst em;refine (o0 z q aa.length rfl (hz.mono s1) hq cO (λr H2 s2 nr hU=>?_));have dD:=s1.trans s2;have nums:=hA.nums hq;have hb:∀ps∈aa,∀p∈ps,aC q p.2:=λps h1 p h2=>(nums ps h1 p h2).2.1;refine (xL z a (zn r q B PP aa.length aa (BA aa.length) (SL G rfl (hz.mono dD) hq (hA.mono dD) ((Es.b hU).weak B1) (au ∅ B1) Ca n1 cO ⟨by unfold BA;simp,hm,λps hp=>?_,cO,Zc rfl hm,λi hi=>?_,hG,hP,rB,λH' AA M c LL last ai s' R ne=>?_,λH' AA M c last ai rr s' R ⟨Hx,x,hR⟩ hF=>?_⟩)))
 ·obtain ⟨i,_,e⟩:=fI.mp hp
  rw [<-e];exact xn
 ·have z:=EI (n:=aa.length) (i:=i) (aa:=aa) rfl hi
  unfold k8 at z;rw [z];exact Y_ (hE i hi)
 ·exact kN (cJ.none hq R rfl hm hb ne) H' (dD.trans s')
 ·have rC:=hR.nums hq
  have lr:ai.length=aa.length:=by rw [R.len,gc]
  have hF':tD (aa.length*(br aa.length*PP)) H H' q rr (ai.map λps=>ps.drop aa.length):=by intros am9 hF vs e1 e2 e3 e4;exact (ii vs e1 e2 (none_of dD e3) (λi v ps h1 h2=>by obtain ⟨x,f1,f2,f3,f4⟩:=e4 i v ps h1 h2;exact (ii x f1 f2 (none_of dD f3) f4)))
  refine k rr H' _ (dD.trans s') hF' (by rw [aV,lr]) (λps hp=>?_) (cJ.inv hq R rfl hm hb λps h1 p h2=>(rC ps h1 p h2).2.1) (λj hj=>?_) (λj hj=>?_)
  ·obtain ⟨GW,h1,e⟩:=fI.mp hp
   rw [<-e,r_,R.bY _ h1];lia
  ·have z:=cJ.PY hq (n:=aa.length) R (λps h1 p h2=>(rC ps h1 p h2).1) (j:=j) (by simpa using hj)
   have lz:=pW (n:=aa.length) (aa:=aa) rfl;unfold k8 at lz;rw [lz] at z;exact z
  ·have z:=cJ.Qa hq R (λps h1 p h2=>(rC ps h1 p h2).1) (k:=aa.length+j) ⋯
   have lz:=pW (n:=aa.length) (aa:=aa) rfl;unfold k8 at lz;rw [lz] at z;have e:((ai.map λps=>ps.drop aa.length).map λps=>ps.getD j ((0:Int),(1:Int)))=ai.map λps=>ps.getD (aa.length+j) (0,1):=by rw [AG];refine wk λps _=>?_;show (ps.drop aa.length).getD j (0,1)=ps.getD (aa.length+j) (0,1);rw [cb,wt,<-cb]
   rw [e];exact z
theorem abM:bw ["world","rows","leads","wide","answer","row","lead"] ["world","rows","leads","wide"] (aR FR):=bH
theorem SU(T:Txt K mg t):aO P w K mg base bO 4 t.uw t.yh ["world","rows","leads","wide"] (ZD t.bP):=by
 have S:=abM;have iu:=rA (P:=P) (w:=w) (base:=base) T;obtain ⟨dv,jR,gC⟩:=T.vD;refine T.vw.bV S (λ_ _ _ _ H vs _ _ hr h=>?_);intros am11 h z ra la q am27 B W wide ai L rfl hz hq am32 hR B1 hW el lr GX up hL m_ wW k
 refine (ad _ (ak (putL 4 S.nd (az sO (eY (ae (ia (pv 0) T.eI T.lE iu (hr.mono ∅) gC jR e9 (ae aj af)) af)) (pv 3)))
  (ak (gG fJ rfl (kW rfl T.ku (ae (pv 1) (ae (pv 2) af))) (wH rfl (jF (dE (i:=5) S.nd rfl (Or.inl rfl)) (jF (dE (i:=6) S.nd rfl (Or.inl rfl)) wG)))
   (ar (@j6 _ _ _ _ _ _ (aA dh (pv 5) (pv 3)) (kI (pv 4) (pv 6) set_list) (by rfl) (by rfl) (by rfl))))
  (ar (aJ (pv 4))))) ?_)
 obtain ⟨dz,hd⟩:=id hz;have nv:=xj hq;refine (ut _ rfl z dz _ rfl hd (iI (by decide +kernel)) (u8 z q 0 1 rfl ⟨dz,hd⟩ hq (b_.of_lt ∅ ∅) (λh=>absurd h nv) (λ_ v0 H1 s1 ho=>?_)))
 refine ⟨by show 1<=sizeLine;decide,λl nl=>?_⟩
 have sl:ag H1 (upd H1 l (.lst [v0])):=a9 nl;have jS:upd H1 l (.lst [v0]) l=some (.lst [v0]):=aK;have h0:=oh (B:=B) ⋯ (ho.mono sl) hq (.inl rfl)
 generalize upd H1 l (.lst [v0])=H2 at sl jS h0 ⊢;refine (ad _ rfl (wP l (wide:Int) [v0] rfl rfl jS ⋯ ⋯ ?_ (λr nr=>?_)))
 ·rw [dr]
  exact au (show [v0].length*wide<=40 by simp;exact m_) ∅
 rw [dr,show (List.replicate wide [v0]).flatten=List.replicate wide v0 by
  clear wW hL k
  induction wide with
  | zero=>rfl
  | succ n ih=>simp [oP]]
 have sr:ag H2 (upd H2 r (.lst (List.replicate wide v0))):=a9 nr;have er:upd H2 r (.lst (List.replicate wide v0)) r=some (.lst (List.replicate wide v0)):=aK;have h0:=h0.mono sr;generalize upd H2 r (.lst (List.replicate wide v0))=H3 at sr er h0 ⊢;have s3:=s1.trans (sl.trans sr);have zS:H r=none:=none_of (s1.trans sl) nr;dsimp only [aN];simp only [L2.start,df,iD,gE,gZ,List.replicate,g_,gM,aX,aY];have ju:aM B H3 q r (List.replicate wide ((0:Int),(1:Int))):=by
  refine (am _ er (by simp) (λj v p hv hp=>?_))
  have hj:j<wide:=by have:=(aL.mp hv).1;simpa using this
  simp [hj] at hv hp;subst hv hp;exact h0
 obtain ⟨vs,ea,lv,fv⟩:=id hR;have lN:(a7 L).length=L.length:=by simp [a7]
 refine (ms _ rfl _ rfl ra la rfl ⟨_,.of (s3 _ _ ea)⟩ ⟨_,.of (s3 _ _ el)⟩ ?_);refine Jn (K:=K) (xs:=vs) (ys:=a7 L) (λi σ Hc=>ag H Hc/\∃(ps:aI) (v5 v6:Option V),σ=[some (.ref z),some (.ref ra),some (.ref la),some (.int (wide:Int)),some (.ref r),v5,v6]/\aM B Hc q r ps/\ps.length=wide/\(∀j,j<i->j<L.length->ps.getD (L.getD j 0) o1=atT ai j wide)/\(∀k,k<wide->(∀j,j<i->k≠L.getD j 0)->ps.getD k o1=(0,1))) (And.intro s3 (o0 _ none none rfl ju (by simp) (λj hj=>by lia) (λk hk _=>by rw [getD_at (by simpa using hk)];simp))) (λi σ Hc ⟨sc,_⟩=>⟨.of (sc _ _ ea),.of (sc _ _ el)⟩) ?_ ?_
 ·intro i x y σ Hc Tt fS;intros am5 _ sc ps v5 am14 v6 rfl cZ lp pw p0;intro nT
  obtain ⟨e1,e2⟩:=lR.mp fS;have i1:i<vs.length:=(aL.mp e1).1;have i2:i<ai.length:=by lia
  have i3:i<L.length:=by lia
  have q'39:=(fv i x ai[i] e1 (by simp [i2]));intros am16 q'39 rx rfl ws ew lw fw
  have ey:y=.int ((L.getD i 0:Nat):Int):=by unfold a7 at e2;rw [bu,bu] at e2;simp [i3] at e2;rw [getD_at i3];exact e2.symm
  subst ey;have cW:L.getD i 0<wide:=hL _ (by rw [getD_at i3];exact aG _)
  have sT:ag Hc (upd Hc Tt (.tup [.ref rx,.int ((L.getD i 0:Nat):Int)])):=a9 nT;have eT:upd Hc Tt (.tup [.ref rx,.int ((L.getD i 0:Nat):Int)]) Tt=some (.tup [.ref rx,.int ((L.getD i 0:Nat):Int)]):=aK;generalize upd Hc Tt (.tup [.ref rx,.int ((L.getD i 0:Nat):Int)])=Hd at sT eT ⊢;have sd:=sc.trans sT;refine (ce Tt _ rfl (.of eT) (re rfl _ (dL _ rfl _ _ rfl rfl ?_)));have lW:=hW _ (aG i2);have f1:wide<ws.length:=by lia
  have f2:wide<ai[i].length:=by lia
  have zf:=(fw wide ws[wide] ai[i][wide] (by simp [f1]) (by simp [f2])).mono sd
  have Lj:dF ws (wide:Int)=some ws[wide]:=cK (by simp [f1])
  have q'40:=cZ.mono sT;intros am7 q'40 us eu lu fu;refine (db _ rfl _ rfl (wE rx ws _ _ rfl rfl (.of (sd _ _ ew)) Lj _ rfl (nw _ rfl r us _ (L.getD i 0) rfl rfl eu ?_ ?_)))
  ·unfold ie
   rw [ao ⋯,ao ⋯,dr]
  ·refine (And.intro (e_ sd zS) (o0 (ps.set (L.getD i 0) ai[i][wide]) _ _ rfl (am _ aK (by rw [iB,iB];exact lu) (λj v p h1 h2=>?_)) (by rw [iB];exact lp) ?_ ?_))
   ·by_cases y:j=L.getD i 0
    ·subst y
     rw [kx ⋯] at h1 h2
     cases h1;cases h2;exact zf.cC eu kn
    ·rw [ky (λe=>y e.symm)] at h1 h2
     exact (fu j v p h1 h2).cC eu kn
   ·intro j hj Ce
    by_cases y:j=i
    ·subst y
     rw [JV ⋯]
     unfold atT;rw [getD_at i2,getD_at f2]
    ·rw [xy (λe=>y (ES up Ce i3 e))]
     exact pw j ⋯ Ce
   ·intro k' dC hj
    rw [xy (hj i ⋯)]
    exact p0 k' dC λj eG=>hj j ⋯
 ·intro σ Hc;intros am5 _ sc ps v5 am14 v6 rfl cZ lp pw p0
  have lz:(vs.zip (a7 L)).length=L.length:=by rw [jX];lia
  rw [lz] at pw p0;refine (ad _ rfl (k r ps Hc sc zS cZ lp (λj hj=>pw j hj hj) λk' dC Cf=>p0 k' dC λj hj e=>Cf ?_));rw [e,getD_at hj];exact aG _
theorem abN:bw ["world","rows","leads","wide","free","move","row","lead"] ["world","rows","leads","wide","free"] (aR FT):=bH
theorem abO(T:Txt K mg t):aO P w K mg base bO 5 t.ux t.yi ["world","rows","leads","wide","free"] (ZE t.bP):=by
 have S:=abN;have iu:=rA (P:=P) (w:=w) (base:=base) T;have abP:=aa9 (P:=P) (w:=w) (base:=base) T;obtain ⟨dv,jR,gC⟩:=T.vD;refine T.zi.bV S (λ_ _ _ _ H vs _ _ hr h=>?_);intros am34 h z ra la q B W wide free ai L am28 rfl hz hq hR B1 B2 hW el am28 lr GX up hL m_ wW hf nf k
 refine (ad _ (ak (putL 5 S.nd (az sO (eY (ae (ia (pv 0) T.eI T.lE iu (hr.mono ∅) gC jR e9 (ae aj af)) af)) (pv 3)))
  (ak (@j6 _ _ _ _ _ _ (ia (pv 0) T.eI T.lE iu (hr.mono ∅) gC jR e9 (ae aj af)) (kI (pv 5) (pv 4) set_list) (by rfl) (by rfl) (by rfl))
  (ak (gG fJ rfl (kW rfl T.ku (ae (pv 1) (ae (pv 2) af))) (wH rfl (jF (dE (i:=6) S.nd rfl (Or.inl rfl)) (jF (dE (i:=7) S.nd rfl (Or.inl rfl)) wG)))
   (ar (@j6 _ _ _ _ _ _ (ia (pv 0) T.eI T.GN abP (hr.mono ∅) T.Si .nil aF (ae (ia (pv 0) T.eI T.lE iu (hr.mono ∅) gC jR e9 (ae aj af)) (ae (aA dh (pv 6) (pv 4)) af))) (kI (pv 5) (pv 7) set_list) (by rfl) (by rfl) (by rfl))))
  (ar (aJ (pv 5)))))) ?_)
 obtain ⟨dz,hd⟩:=id hz;have nv:=xj hq;refine (ut _ rfl z dz _ rfl hd (iI (by decide +kernel)) (u8 z q 0 1 rfl ⟨dz,hd⟩ hq (b_.of_lt ∅ ∅) (λh=>absurd h nv) (λ_ v0 H1 s1 ho=>?_)))
 refine ⟨by show 1<=sizeLine;decide,λl nl=>?_⟩
 have sl:ag H1 (upd H1 l (.lst [v0])):=a9 nl;have jS:upd H1 l (.lst [v0]) l=some (.lst [v0]):=aK;have h0:=oh (B:=B) ⋯ (ho.mono sl) hq (.inl rfl)
 generalize upd H1 l (.lst [v0])=H2 at sl jS h0 ⊢;refine (ad _ rfl (wP l (wide:Int) [v0] rfl rfl jS ⋯ ⋯ ?_ (λr nr=>?_)))
 ·rw [dr]
  exact au (show [v0].length*wide<=40 by simp;exact m_) ∅
 rw [dr,show (List.replicate wide [v0]).flatten=List.replicate wide v0 by
  clear hf wW hL k nf
  induction wide with
  | zero=>rfl
  | succ n ih=>simp [oP]]
 have sr:ag H2 (upd H2 r (.lst (List.replicate wide v0))):=a9 nr;have er:upd H2 r (.lst (List.replicate wide v0)) r=some (.lst (List.replicate wide v0)):=aK;have h0:=h0.mono sr;generalize upd H2 r (.lst (List.replicate wide v0))=H3 at sr er h0 ⊢;have s3:=s1.trans (sl.trans sr);have zS:H r=none:=none_of (s1.trans sl) nr;dsimp only [aN];simp only [L2.start,df,iD,gE,gZ,List.replicate,g_,gM,aX,aY];refine (ut _ rfl z dz _ rfl (s3 _ _ hd) (iI (by decide +kernel)) (u8 z q 1 1 rfl ⟨dz,s3 _ _ hd⟩ hq (b_.of_lt ∅ ∅) (λh=>absurd h nv) (λ_ v1 H4 s4 B_=>?_)))
 have h1:=oh (B:=B) ⋯ B_ hq (.inr rfl)
 refine (ad _ rfl (nw _ rfl r _ _ free rfl rfl (s4 _ _ er) ?_ ?_))
 ·unfold ie
  rw [ao ⋯,ao (by simp;exact hf),dr]
 have ju:aM B (upd H4 r (.lst ((List.replicate wide v0).set free v1))) q r (((List.replicate wide ((0:Int),(1:Int)))).set free (1,1)):=by
  refine (am _ aK (by simp) (λj v p hv hp=>?_))
  have cC:∀b o,b≠r->H4 b=some o->upd H4 r (.lst ((List.replicate wide v0).set free v1)) b=some o:=λb o nb e=>by rw [cj nb];exact e
  have hj:j<wide:=by have:=(aL.mp hv).1;simpa using this
  by_cases y:j=free
  ·subst y
   rw [kx (by simpa using hj)] at hv hp
   cases hv;cases hp;exact h1.cC (s4 _ _ er) cC
  ·rw [ky ⋯] at hv hp
   simp [hj] at hv hp;subst hv hp;exact (h0.mono s4).cC (s4 _ _ er) cC
 have s5:ag H (upd H4 r (.lst ((List.replicate wide v0).set free v1))):=e_ (s3.trans s4) zS;dsimp only;generalize upd H4 r (.lst ((List.replicate wide v0).set free v1))=H5 at ju s5 ⊢;have q'42:=id hR;intros am7 q'42 vs ea lv fv;have lN:(a7 L).length=L.length:=by simp [a7]
 refine (ms _ rfl _ rfl ra la rfl ⟨_,.of (s5 _ _ ea)⟩ ⟨_,.of (s5 _ _ el)⟩ ?_);refine Jn (K:=K) (xs:=vs) (ys:=a7 L) (λi σ Hc=>ag H Hc/\∃(ps:aI) (v6 v7:Option V),σ=[some (.ref z),some (.ref ra),some (.ref la),some (.int (wide:Int)),some (.int (free:Int)),some (.ref r),v6,v7]/\aM B Hc q r ps/\ps.length=wide/\ps.getD free o1=(1,1)/\(∀j,j<i->j<L.length->a8 q (ps.getD (L.getD j 0) o1) (-(atT ai j free).1,(atT ai j free).2))/\(∀k,k<wide->k≠free->(∀j,j<i->k≠L.getD j 0)->ps.getD k o1=(0,1))) (ul s5 _ none (ww none rfl ju (by simp) (JV (by simpa using hf)) (λj hj=>by lia) (λk hk nk _=>by rw [xy nk,getD_at (by simpa using hk)];simp))) (λi σ Hc ⟨sc,_⟩=>⟨.of (sc _ _ ea),.of (sc _ _ el)⟩) ?_ ?_
 ·intro i x y σ Hc Tt fS;intros amA _ sc am29 ps v6 v7 rfl cZ lp pf pw p0;intro nT
  obtain ⟨e1,e2⟩:=lR.mp fS;have i1:i<vs.length:=(aL.mp e1).1;have i2:i<ai.length:=by lia
  have i3:i<L.length:=by lia
  have q'43:=(fv i x ai[i] e1 (by simp [i2]));intros am16 q'43 rx rfl ws ew lw fw
  have ey:y=.int ((L.getD i 0:Nat):Int):=by unfold a7 at e2;rw [bu,bu] at e2;simp [i3] at e2;rw [getD_at i3];exact e2.symm
  subst ey;have cW:L.getD i 0<wide:=hL _ (by rw [getD_at i3];exact aG _)
  have sT:ag Hc (upd Hc Tt (.tup [.ref rx,.int ((L.getD i 0:Nat):Int)])):=a9 nT;have eT:upd Hc Tt (.tup [.ref rx,.int ((L.getD i 0:Nat):Int)]) Tt=some (.tup [.ref rx,.int ((L.getD i 0:Nat):Int)]):=aK;generalize upd Hc Tt (.tup [.ref rx,.int ((L.getD i 0:Nat):Int)])=Hd at sT eT ⊢;have sd:=sc.trans sT;refine (ce Tt _ rfl (.of eT) (re rfl _ (dL _ rfl _ _ rfl rfl ?_)));have lW:=hW _ (aG i2);have f1:free<ws.length:=by lia
  have f2:free<ai[i].length:=by lia
  have zf:=(fw free ws[free] ai[i][free] (by simp [f1]) (by simp [f2])).mono sd
  have Lj:dF ws (free:Int)=some ws[free]:=cK (by simp [f1])
  refine (ut _ rfl z dz _ rfl (sd _ _ hd) (iI (by decide +kernel)) (ut _ rfl z dz _ rfl (sd _ _ hd) (iI (by decide +kernel)) (u8 z q 0 1 rfl ⟨dz,sd _ _ hd⟩ hq (b_.of_lt ∅ ∅) (λh=>absurd h nv) (λ_ v2 H6 s6 ho2=>?_))))
  have h2:=oh (B:=B) ⋯ ho2 hq (.inl rfl)
  refine (ad _ rfl (nw _ rfl rx ws _ _ rfl rfl (.of (s6 _ _ (sd _ _ ew))) Lj ?_));obtain ⟨b1,b2⟩:=zf.both B1;have big:∀{x:Int},x.natAbs<=B->dH x:=λh=>au h (au B2 (by decide +kernel))
  dsimp only [wQ,g_,gM];refine XS (hz.mono (sd.trans s6)) hq (h2.jk hq) ((zf.mono s6).jk hq) (big (by simp)) (big (by show 1<=B;lia)) (big b1) (big b2) λv' H7 s7 hN=>?_
  obtain ⟨p',tO,SV⟩:=Eu (B:=B) hN hq (by rw [show (0:Int)*ai[i][free].2-ai[i][free].1*1=-ai[i][free].1 by lia,qt];exact b1) (by rw [mJ];exact b2)
  have oI:=sT.trans (s6.trans s7);have Cc:=cZ.mono oI;intros am7 Cc us eu lu fu;refine (ad _ rfl (nw _ rfl r us _ (L.getD i 0) rfl rfl eu ?_ ?_))
  ·unfold ie
   rw [ao ⋯,ao ⋯,dr]
  ·refine (ul (e_ (sc.trans oI) zS) (ps.set (L.getD i 0) p') _ (ww _ rfl (am _ aK (by rw [iB,iB];exact lu) (λj v p h1 h2=>?_)) (by rw [iB];exact lp) ?_ ?_ ?_))
   ·by_cases y:j=L.getD i 0
    ·subst y
     rw [kx ⋯] at h1 h2
     cases h1;cases h2;exact tO.cC eu kn
    ·rw [ky (λe=>y e.symm)] at h1 h2
     exact (fu j v p h1 h2).cC eu kn
   ·have nf':free≠L.getD i 0:=λe=>nf (by rw [e,getD_at i3];exact aG _)
    rw [xy nf'];exact pf
   ·intro j hj Ce
    by_cases y:j=i
    ·subst y
     rw [JV ⋯]
     have GY:atT ai j free=ai[j][free]:=by unfold atT;rw [getD_at i2,getD_at f2]
     rw [GY];rw [show (0:Int)*ai[j][free].2-ai[j][free].1*1=-ai[j][free].1 by lia,mJ] at SV
     exact SV
    ·rw [xy (λe=>y (ES up Ce i3 e))]
     exact pw j ⋯ Ce
   ·intro k' dC Cf hj
    rw [xy (hj i ⋯)]
    exact p0 k' dC Cf λj eG=>hj j ⋯
 ·intro σ Hc;intros amA _ sc am29 ps v6 v7 rfl cZ lp pf pw p0
  have lz:(vs.zip (a7 L)).length=L.length:=by rw [jX];lia
  rw [lz] at pw p0;refine (ad _ rfl (k r ps Hc sc zS cZ lp pf (λj hj=>pw j hj hj) λk' dC Cf ne=>p0 k' dC ne λj hj e=>Cf ?_));rw [e,getD_at hj];exact aG _
theorem abS:bw ["world","table","aim","asked","wanted","told"] ["world","table","aim"] (aR FU):=bH
theorem abT(T:Txt K mg t):aO P w K mg base bO 6 t.uy t.yj ["world","table","aim"] (ZQ t.bP):=by
 have S:=abS;have iu:=rA (P:=P) (w:=w) (base:=base) T;obtain ⟨dv,jR,gC⟩:=T.vD;refine T.zj.bV S (λ_ _ _ _ H _ _ _ hr h=>?_);intros am34 h z a b q B PP m aa as G am28 rfl hz hq hA hb B1 B2 n1 am31 Ci hm Cj la hE hG hP rB q'46 k;intros am11 q'46 P0 A0 M0 c0 am10 L0 alH alI R0 mL
 refine (ad _ (ak (putL 3 S.nd (az IP (aw (GS T) hr T.BP T.oz.kp T.BO aF (ae (pv 1) af)) (eY (ae (pv 2) af))))
  (ak (putL 4 S.nd (az IP (az sO (eY (ae (eY (ae (ia (pv 0) T.eI T.lE iu (hr.mono ∅) gC jR e9 (ae aj af)) af)) af)) (az jI (aZ cm rfl T.b5 b6 (ae (pv 3) af)) aj)) (eY (ae (eY (ae (ia (pv 0) T.eI T.lE iu (hr.mono ∅) gC jR e9 (ae aj af)) af)) af))))
  (ak (putL 5 S.nd (aw (zP T) hr T.oB T.jP.kp T.oA aF (ae (pv 0) (ae (aw (GR T) hr T.BU T.p_.kp T.BS aF (ae (pv 3) (ae (pv 4) af))) af))))
  (ar (aJ (aw (SU T) hr T.KA T.vw.kp T.Kz aF (ae (pv 0) (ae (aA bE (pv 5) aj) (ae (aA bE (pv 5) aj) (ae (aZ cm rfl T.b5 b6 (ae (pv 1) af)) af)))))))))) ?_)
 obtain ⟨dz,hd⟩:=id hz;have nv:=xj hq;refine (Rs _ rfl a q (wP B aa m rfl hA n1 ⋯ hm ⋯ (λb1 H1 s1 nb hC=>?_)))
 refine (am _ rfl (by show 1<=sizeLine;decide) (λl nl=>?_))
 have q'47:=id hC;intros am7 q'47 qh e1 l1 f1;have lc:qh.length=m:=by rw [l1,gi]
 have sl:ag H1 (upd H1 l (.lst [.ref b])):=a9 nl;refine (u8 b1 l qh _ rfl rfl (sl _ _ e1) aK (au (show _<=100 by simp;lia) ∅) (λp np=>?_))
 have sp:=sl.trans (a9 (o:=.lst (qh++[.ref b])) np);have hT:aU B (upd (upd H1 l (.lst [.ref b])) p (.lst (qh++[.ref b]))) q p (gB m aa as):=by
  refine aU.cat aK l1 rfl (λi v ps h1 h2=>?_) (λi v ps h1 h2=>?_)
  ·obtain ⟨r,e,cZ⟩:=f1 i v ps h1 h2
   exact (ad r e (cZ.mono sp))
  ·cases i with
   | zero=>cases h1;cases h2;exact (ad b rfl (hb.mono (s1.trans sp)))
   | succ i=>simp at h1
 have ep:upd (upd H1 l (.lst [.ref b])) p (.lst (qh++[.ref b])) p=some (.lst (qh++[.ref b])):=aK;generalize upd (upd H1 l (.lst [.ref b])) p (.lst (qh++[.ref b]))=H2 at sp hT ep ⊢;have s2:=s1.trans sp;have lp:(qh++[V.ref b]).length=m+1:=by simp [lc]
 dsimp only [aN];simp only [L2.start,df,iD,gE,gZ,List.replicate,g_,gM,aX,aY];refine (ut _ rfl z dz _ rfl (s2 _ _ hd) (iI (by decide +kernel)) (u8 z q 0 1 rfl ⟨dz,s2 _ _ hd⟩ hq (b_.of_lt ∅ ∅) (λh=>absurd h nv) (λ_ v0 H3 s3 ho=>?_)))
 refine ⟨by show 1<=sizeLine;decide,λl0 La=>?_⟩
 refine ⟨by show 1<=sizeLine;decide,λl2 GZ=>?_⟩
 have s4:ag H3 (upd (upd H3 l0 (.lst [v0])) l2 (.lst [.ref l0])):=(a9 La).trans (a9 GZ);have e0:upd (upd H3 l0 (.lst [v0])) l2 (.lst [.ref l0]) l0=some (.lst [v0]):=a9 GZ _ _ aK;have e2:upd (upd H3 l0 (.lst [v0])) l2 (.lst [.ref l0]) l2=some (.lst [.ref l0]):=aK;have h0:=oh (B:=B) ⋯ (ho.mono s4) hq (.inl rfl)
 generalize upd (upd H3 l0 (.lst [v0])) l2 (.lst [.ref l0])=H4 at s4 e0 e2 h0 ⊢;have nE:=s3.trans s4;refine (dL _ rfl p _ rfl (.inl (.of (nE _ _ ep))) (ce _ _ rfl rfl ?_));dsimp only;have eM:(((qh++[V.ref b]).length:Nat):Int)-1=(m:Int):=by lia
 rw [eM];refine (wP l2 _ _ rfl rfl e2 ⋯ ⋯ (au (show [V.ref l0].length*(m:Int).toNat<=40 by simp;lia) ∅) (λr nr=>?_))
 rw [dr,show (List.replicate m [V.ref l0]).flatten=List.replicate m (V.ref l0) by
  clear rB hP hE hm hC l1 lc hT lp R0 mL k
  induction m with
  | zero=>rfl
  | succ n ih=>simp [oP]]
 have s5:ag H4 (upd H4 r (.lst (List.replicate m (V.ref l0)))):=a9 nr;have er:upd H4 r (.lst (List.replicate m (V.ref l0))) r=some (.lst (List.replicate m (V.ref l0))):=aK;generalize upd H4 r (.lst (List.replicate m (V.ref l0)))=H5 at s5 er ⊢;have qi:=nE.trans s5;have lG:=s2.trans qi;refine (ut _ rfl z dz _ rfl (lG _ _ hd) (iI (by decide +kernel)) (u8 z q 1 1 rfl ⟨dz,lG _ _ hd⟩ hq (b_.of_lt ∅ ∅) (λh=>absurd h nv) (λ_ v1 H6 s6 B_=>?_)))
 refine ⟨by show 1<=sizeLine;decide,λl3 nl3=>?_⟩
 refine ⟨by show 1<=sizeLine;decide,λl4 SW=>?_⟩
 have s7:ag H6 (upd (upd H6 l3 (.lst [v1])) l4 (.lst [.ref l3])):=(a9 nl3).trans (a9 SW);have e3:upd (upd H6 l3 (.lst [v1])) l4 (.lst [.ref l3]) l3=some (.lst [v1]):=a9 SW _ _ aK;have e4:upd (upd H6 l3 (.lst [v1])) l4 (.lst [.ref l3]) l4=some (.lst [.ref l3]):=aK;have h1:=oh (B:=B) ⋯ (B_.mono s7) hq (.inr rfl)
 generalize upd (upd H6 l3 (.lst [v1])) l4 (.lst [.ref l3])=H7 at s7 e3 e4 h1 ⊢;have rD:=s6.trans s7;refine (u8 r l4 _ _ rfl rfl (rD _ _ er) e4 (au (show _<=100 by simp;lia) ∅) (λr2 nr2=>?_))
 have s8:ag H7 (upd H7 r2 (.lst (List.replicate m (V.ref l0)++[.ref l3]))):=a9 nr2;have hU:aU B (upd H7 r2 (.lst (List.replicate m (V.ref l0)++[.ref l3]))) q r2 (ja (jb m)):=by
  unfold ja jb;rw [Di];have SX:=s5.trans (rD.trans s8);refine aU.cat aK (by simp) rfl (λi v ps pJ h2=>?_) (λi v ps pJ h2=>?_)
  ·have hi:i<m:=by have:=(aL.mp pJ).1;simpa using this
   simp [hi] at pJ h2;subst pJ h2;exact (ad l0 rfl (J0 (p:=(0,1)) (SX _ _ e0) (h0.mono SX)))
  ·cases i with
   | zero=>cases pJ;cases h2;exact (ad l3 rfl (J0 (p:=(1,1)) (s8 _ _ e3) (h1.mono s8)))
   | succ i=>simp at pJ
 generalize upd H7 r2 (.lst (List.replicate m (V.ref l0)++[.ref l3]))=H8 at s8 hU ⊢;have Lk:=qi.trans (rD.trans s8);have rH:=s2.trans Lk;dsimp only [aN];simp only [aX,aY];have lW:(fQ (gB m aa as) (jb m)).length=m+1:=by rw [J1 (by rw [xB,p3]),p3]
 have wA:=Qe (m:=m) (as:=as) rfl la;have wW:=Qo (aa:=gB m aa as) (as:=jb m) (by rw [xB,p3]) wA
 refine (sK _ rfl _ rfl _ rfl (zn p r2 q B (gB m aa as) (ja (jb m)) aa.length (SL 1 rfl (hT.mono Lk) hU (by rw [oq,p3,xB]) (by rw [p3];lia) wA (Qb _) ⋯ ∅ (λbs H9 s9 nbs hB=>?_))))
 refine (zn z bs q B PP (aa.length+1) (fQ (gB m aa as) (jb m)) (SL G rfl (hz.mono (rH.trans s9)) hq hB B1 B2 (by rw [lW];lia) (by rw [lW];lia) wW ⟨⋯,λi hi=>?_,hG,by rw [lW];exact hP,by rw [lW];exact rB,λpt rr l mD AA M c L last ai jc Ck el hR R=>?_⟩))
 ·rw [lW] at hi
  rw [Qn (by rw [xB,p3]) (by rw [p3];exact hi)]
  refine ZP (hE i hi) ?_;by_cases y:i<m;·exact .inl (Qf y)
  ·have:i=m:=by lia
   subst this;exact .inr Qg
 dsimp only [aN];simp only [aX,aY];rw [lW] at hR;have nums:=hA.nums hq;have jt:∀ps∈aa,∀p∈ps,aC q p.2:=λps h1 p h2=>(nums ps h1 p h2).2.1;have ko:∀p∈as,aC q p.2:=λp hp=>(hb.nums hq p hp).2.1;obtain ⟨T0,D0,rT⟩:=hA.rep hq rfl hm;obtain ⟨a0,F0,ra⟩:=xp ko la;have hL:=cJ.ZO hq R0 R rfl la hm jt ko rT ra mL;have abX:=Lk.trans (s9.trans jc);have zT:=s2.trans abX;have lL:=R.red.rd.len;rw [lW] at lL;have i8:=R.red.i8;rw [lW] at i8;have rC:=hR.nums hq;obtain ⟨Ll,eA,lA,fA⟩:=id hA;refine (ad _ rfl (nw _ rfl pt _ _ _ rfl rfl (.of Ck) rfl (nw _ rfl pt _ _ _ rfl rfl (.of Ck) rfl (dL _ rfl a Ll rfl (.inl (.of (zT _ _ eA))) ?_))));rw [lA];refine (Exists.intro z (zn rr l q ((m+1)*(br (m+1)*PP)) (aa.length+1) aa.length ai (SL L rfl (hz.mono zT) hq hR i8 R.bY el R.len ⋯ ⟨R.red.rd.up,hL,⋯,⋯,λr' ys G0 rJ nC cZ dN h1 h0=>?_⟩)))
 refine k r' ys G0 (zT.trans rJ) (none_of zT nC) cZ dN (ZM hq rfl (R.sol hq p3 xB wA (Qi hm jt ko) Qh (λps h1 p h2=>(rC ps h1 p h2).2.1) hL h1 h0)) ?_;have w:=R.JZ hq (wide:=aa.length) (f:=aa.length) dN (λp hp=>(cZ.nums hq p hp).1) ⋯ (λk' dC=>?_) (by rw [lW];exact i8)
 ·rw [lW] at w
  exact w
 ·by_cases y:k'∈L
  ·obtain ⟨j,hj,e⟩:=eJ.mp y
   have e':L.getD j 0=k':=by rw [getD_at hj,e]
   obtain ⟨ps,p1,p2⟩:=k9 R.len R.bY hj (show aa.length<aa.length+1 by lia)
   refine .inl ⟨j,hj,.inl ?_,λz0=>(rC ps p1 _ p2).2.1.nz hq ⟨0,by rw [z0];simp⟩⟩
   rw [<-e',h1 j hj];exact a8.refl _
  ·exact .inr (.inl (h0 k' dC y))
theorem abY:bw ["world","table","aim","wide","told","rows","leads","answer","moves"] ["world","table","aim"] (aR FV):=bH
theorem abZ(T:Txt K mg t):aO P w K mg base (eF P w) 7 t.uz t.yk ["world","table","aim"] (Qs t.bP t.fz):=by
 have S:=abY;refine T.zk.d8 S (λ_ _ _ _ H _ _ _ hr h L=>?_);intros am34 h z a b q B PP P2 m aa as am13 G G2 rfl hz am32 hq hA hb B1 B2 n1 Ci hm Cj la am32 hE hG hP hX hE2 hG2 Lo ab2 kB k1 kM
 refine (ad _ (ak (d4 3 S.nd (aw (qf T) hr T.lh T.iN.kp T.lg (j9 L) (ae (pv 1) af)))
  (ak (wF (aw (abr T) hr T.Rh T.za.kp T.Rg (j9 L) (ae (aZ cm rfl T.b5 b6 (ae (pv 1) af)) (ae (pv 2) af))))
  (ak (putL 4 S.nd (aw (zP T) hr T.oB T.jP.kp T.oA aF (ae (pv 0) (ae (aw (GR T) hr T.BU T.p_.kp T.BS aF (ae (pv 1) (ae (dA (N:=["number"]) (ρ:=(λσ=>[])) (cP [] rfl) rfl (cY (pv 2)) (λ_ _ _=>.nil) (λ_ _ _=>(eY (ae (pv 0) af)))) af))) af))))
  (ak (d4 5 S.nd (aA bE (pv 4) aj))
  (ak (d4 6 S.nd (aA bE (pv 4) aj))
  (ak (bC (DG Wa (pv 3) (pv 6) rfl) (ar (aJ (gw (ae gd (ae (aw (abT T) hr T.Ry T.zj.kp T.Rx aF (ae (pv 0) (ae (pv 1) (ae (pv 2) af)))) af))))) bG)
  (ak (putL 7 S.nd (aw (SU T) hr T.KA T.vw.kp T.Kz aF (ae (pv 0) (ae (pv 5) (ae (pv 6) (ae (pv 3) af))))))
  (ak (bC (bK eE (aZ cm rfl T.b5 b6 (ae (pv 6) af)) (pv 3)) (ar (aJ (gw (ae gd (ae (pv 7) af))))) bG)
  (ak (pK (i0:=8) (N:=["free","world","rows","leads","wide"]) (ρ:=(λσ=>[σ[0]?.join,σ[5]?.join,σ[6]?.join,σ[3]?.join])) (cP [0,5,6,3] rfl) rfl S.nd rfl (Or.inl rfl) (gF rfl T.fg (ae (pv 3) af)) (λ_ _ _=>(.one (DG (Zw (K:=K)) (pv 0) (pv 3) rfl))) (λ_ _ _=>(aw (abO T) hr T.Rw T.zi.kp T.Rv aF (ae (pv 1) (ae (pv 2) (ae (pv 3) (ae (pv 4) (ae (pv 0) af))))))))
  (ar (aJ (gw (ae gd (ae (pv 7) (ae (pv 8) af))))))))))))))) ?_)
 have q'53:=id hA;intros am7 q'53 Ll eA lA fA;have q'54:=id hb;intros am7 q'54 Lp eB lB fB;have nums:=hA.nums hq;have jt:∀ps∈aa,∀p∈ps,aC q p.2:=λps h1 p h2=>(nums ps h1 p h2).2.1;have ko:∀p∈as,aC q p.2:=λp hp=>(hb.nums hq p hp).2.1;have lW:(fQ aa as).length=aa.length:=J1 la;have wW:=Qo (aa:=aa) (as:=as) la hm;refine (xz _ rfl a (u8 q B aa m rfl hA n1 ⋯ hm (λH1 s1=>?_)))
 dsimp only [aN];simp only [L2.start,df,iD,gE,gZ,List.replicate,g_,gM,aX,aY];refine (dL _ rfl a Ll rfl (.inl (.of (s1 _ _ eA))) ?_);rw [lA];refine (ut _ rfl aa.length b Lp rfl (s1 _ _ eB) (λne=>absurd ⋯ ne) (λ_=>?_))
 dsimp only;refine fY (gx ?_);refine (db _ rfl _ rfl (fc (xs:=Lp) (λR h=>(ad _ rfl (am b rfl ⟨_,.of (s1 _ _ eB)⟩ (h _ _ (ag.refl _) (eR (.of (s1 _ _ eB))))))) (by rw [lB,la];exact cR ⋯) (λD i y Hx=>∃x:Addr,y=.ref x/\x≠D/\aM B Hx q x [as.getD i o1]) (λD i y Ha Hb ys ⟨x,h1,h2,ws,e1,e2,e3⟩ e f=>⟨x,h1,h2,ws,f _ _ h2 e1,e2,λj v p x y=>(e3 j v p x y).cC e f⟩) ?_ ?_))
 ·intro D i v hi Hc R sc ⟨zs,eD⟩ kc
  have i1:i<Lp.length:=(aL.mp hi).1;have i2:i<as.length:=by lia
  have hv:=fB i v as[i] hi (by simp [i2])
  refine ⟨_,rfl,by show 1<=sizeLine;decide,λx nx=>?_⟩
  have sx:ag Hc (upd Hc x (.lst [v])):=a9 nx;refine kc _ _ sx (am x rfl (λe=>by rw [e,eD] at nx;cases nx) (J0 aK ?_))
  rw [getD_at i2];exact ((hv.mono s1).mono sc).mono sx
 intro D ws H2 nD s2 iw ab3 eD;have jv:=s1.trans s2;have hU:aU B H2 q D (ja as):=(am ws eD (by rw [iw,lB,oq]) (λi v ps h1 h2=>by
  obtain ⟨x,e1,_,e3⟩:=ab3 i v h1;have i1:i<ws.length:=(aL.mp h1).1;have i2:i<as.length:=by lia
  unfold ja at h2;rw [bu] at h2;simp [i2] at h2;subst h2;rw [getD_at i2] at e3;exact (ad x e1 e3)))
 refine (zn a D q B aa (ja as) m (SL 1 rfl (hA.mono jv) hU (by rw [oq];lia) ⋯ hm (Qb _) ⋯ ∅ (λbs H3 s3 nbs hB=>?_)))
 have gq:=jv.trans s3;refine (zn z bs q B PP (m+1) (fQ aa as) (SL G rfl (hz.mono gq) hq hB B1 B2 (by rw [lW];lia) (by rw [lW];lia) wW ⟨⋯,λi hi=>hE i ⋯,hG,by rw [lW];exact hP,by rw [lW];exact bT hX (by decide +kernel),λpt rr l H4 AA M c LL last ai s4 Ck el hR R=>?_⟩))
 rw [lW] at hR;have jT:=gq.trans s4;dsimp only [aN];simp only [aX,aY];refine (nw _ rfl pt _ _ _ rfl rfl (.of Ck) rfl ?_);dsimp only [aN];simp only [aX,aY];refine (nw _ rfl pt _ _ _ rfl rfl (.of Ck) rfl ?_);dsimp only [aN];simp only [aX,aY];refine (ms _ rfl _ rfl l (a7 LL) rfl (.inl (.of el)) rfl (sw Qp _ rfl ?_));have Lq:=hz.mono jT;refine cM (λy=>?_) (λy=>?_)
 ·have mL:m∈LL:=by rw [J2] at y;simpa using y
  refine (S' _ rfl _ rfl _ rfl z a b (Re q B P2 m aa as (SL G2 rfl Lq hq (hA.mono jT) (hb.mono jT) B1 B2 n1 Ci ⟨hm,Cj,la,hE2,hG2,Lo,ab2,(Re PP AA M c LL last (ad ai R mL)),λr ys H5 s5 nr cZ dN ab4 hE'=>⟨by show 2<=sizeLine;decide,λp np=>?_⟩⟩)))
  have sp:ag H5 (upd H5 p (.tup [.str (Str.ofString "barred"),.ref r])):=a9 np;exact kB p r ys _ (jT.trans (s5.trans sp)) aK (cZ.mono sp) dN ab4 hE'
 have nL:m∉LL:=by rw [J2] at y;simpa using y
 have hL:∀x∈LL,x<m:=λx hx=>by have h1:=R.red.rd.lt x hx;have h2:x≠m:=λe=>nL (e▸hx);lia
 have lL:=R.red.rd.len;rw [lW] at lL;have i8:=R.red.i8;rw [lW] at i8;have rC:=hR.nums hq;have kr:∀ps∈ai,∀p∈ps,aC q p.2:=λps h1 p h2=>(rC ps h1 p h2).2.1;have LP:=R.EV hq rfl lW hm (λi k hi hk=>EU rfl la hm hi hk) (lK m) jt hL;dsimp only [eO];refine (ad _ rfl (S' _ rfl _ rfl _ rfl z rr l (SC q (aa.length*(br aa.length*PP)) (m+1) m ai (SL LL rfl Lq hq hR i8 R.bY el R.len ⋯ ⟨R.red.rd.up,hL,⋯,⋯,λr xs H5 s5 nr cZ Lr h1 h0=>?_⟩))))
 have sol:=R.sol hq rfl la hm jt ko kr hL h1 h0;have xE:bj q (aa.length*(br aa.length*PP)) xs:=by
  have w:=R.JZ hq (wide:=m) (f:=m) Lr (λp hp=>(cZ.nums hq p hp).1) ⋯ (λk' dC=>?_) (by rw [lW];exact i8)
  ·rw [lW] at w
   exact w
  ·by_cases y:k'∈LL
   ·obtain ⟨j,hj,e⟩:=eJ.mp y
    have e':LL.getD j 0=k':=by rw [getD_at hj,e]
    obtain ⟨ps,p1,p2⟩:=k9 R.len R.bY hj (show m<m+1 by lia)
    refine .inl ⟨j,hj,.inl ?_,λz0=>(kr ps p1 _ p2).nz hq ⟨0,by rw [z0];simp⟩⟩
    rw [<-e',h1 j hj];exact a8.refl _
   ·exact .inr (.inl (h0 k' dC y))
 have lG:=jT.trans s5;dsimp only [aN];simp only [aX,aY];refine (dL _ rfl l (a7 LL) rfl (.inl (.of (s5 _ _ el))) (gt _ rfl rfl _ rfl ?_));rw [gk];by_cases full:LL.length=m
 ·rw [eZ,cF ⋯]
  refine dW (am _ rfl (by show 2<=sizeLine;decide) (λp np=>?_))
  have sp:ag H5 (upd H5 p (.tup [.str (Str.ofString "one"),.ref r])):=a9 np;exact k1 p r xs LL _ (lG.trans sp) aK (cZ.mono sp) Lr sol xE LP full
 rw [eZ,fD ⋯]
 refine bQ ?_;dsimp only [eO];refine fY (gx (ZC (xs:=(List.range m).map λi:Nat=>V.int (0+(i:Int))) (by rw [aV,gc]) (λi=>!decide (i∈LL)) (λR h=>⟨_,rfl,(m:Int),rfl,⋯,⋯,h _ _ (ag.refl _) (by rw [dr];exact mi)⟩) (cR ⋯) (λD i y Hx=>∃(x:Addr) (ps:aI),y=.ref x/\x≠D/\aM (aa.length*(br aa.length*PP)) Hx q x ps/\ps.length=m/\ps.getD i o1=(1,1)/\(∀j,j<LL.length->a8 q (ps.getD (LL.getD j 0) o1) (-(atT ai j i).1,(atT ai j i).2))/\(∀k,k<m->k∉LL->k≠i->ps.getD k o1=(0,1))) (λD i y Ha Hb ys ⟨x,ps,h1,h2,⟨ws,e1,e2,e3⟩,h4⟩ e f=>(gl x ps h1 h2 (am ws (f _ _ h2 e1) e2 (λj v p x y=>(e3 j v p x y).cC e f)) h4)) ?_ ?_ ?_))
 ·intro i x hx Hc R' sc h
  obtain ⟨hi,rfl⟩:=pR hx;refine (ms _ rfl _ rfl l (a7 LL) rfl (.inl (.of (sc _ _ (s5 _ _ el)))) rfl (sw Qp _ rfl ?_));rw [ao rfl,J2];exact h
 ·intro D i x hx hf Hc R' sc ⟨zs,eD⟩ kc
  obtain ⟨hi,rfl⟩:=pR hx;have ni:i∉LL:=by simpa using hf
  have Ls:=s5.trans sc;exact (db _ rfl _ rfl (S' _ rfl _ rfl _ rfl z rr l (Re q (aa.length*(br aa.length*PP)) (m+1) m i ai (SL LL rfl (Lq.mono Ls) hq (hR.mono Ls) i8 hX R.bY (Ls _ _ el) R.len ⟨⋯,R.red.rd.up,hL,⋯,⋯,hi,ni,λr' ps H6 s6 nC hr6 Kl g1 g2 g3=>kc _ _ s6 ⟨r',ps,rfl,(λe=>by rw [e,eD] at nC;cases nC),hr6,Kl,g1,g2,g3⟩⟩))))
 ·intro D ws H6 nD6 s6 iw Li Cm
  have iw:ws.length=(dO m LL).length:=iw;have fup:(dO m LL).Pairwise (· < ·):=List.Pairwise.filter _ List.pairwise_lt_range;dsimp only [aN];simp only [aX,aY];refine (ad _ rfl (am _ rfl (by show 3<=sizeLine;decide) (λp np=>?_)))
  have sp:ag H6 (upd H6 p (.tup [.str (Str.ofString "many"),.ref r,.ref D])):=a9 np;obtain ⟨bz,lv,hv⟩:=pick (R:=fun(j:Nat) (y:V) (ps:aI)=>∃x:Addr,y=.ref x/\aM (aa.length*(br aa.length*PP)) H6 q x ps/\ps.length=m/\ps.getD ((dO m LL).getD j 0) o1=(1,1)/\(∀i,i<LL.length->a8 q (ps.getD (LL.getD i 0) o1) (-(atT ai i ((dO m LL).getD j 0)).1,(atT ai i ((dO m LL).getD j 0)).2))/\(∀k,k<m->k∉LL->k≠(dO m LL).getD j 0->ps.getD k o1=(0,1))) (λj y hy=>by
   have j1:j<ws.length:=(aL.mp hy).1;have j2:j<(dO m LL).length:=by rw [<-iw];exact j1
   obtain ⟨x,ps,h1,_,h3⟩:=Li j y ((dO m LL).getD j 0) hy (by rw [getD_at j2];exact d5 j2)
   exact ⟨ps,x,h1,h3⟩)
  have lf:bz.length=(dO m LL).length:=by rw [lv,iw]
  have Lu:∀j,j<bz.length->(dO m LL).getD j 0<m/\(dO m LL).getD j 0∉LL:=λj hj=>BC.mp (by rw [getD_at ⋯];exact aG _)
  have fne:∀i j,i<bz.length->j<bz.length->i≠j->(dO m LL).getD j 0≠(dO m LL).getD i 0:=λi j hi hj ne e=>ne (ES fup (by rw [<-lf];exact hj) (by rw [<-lf];exact hi) e).symm
  have row:∀j,(hj:j<bz.length)->∃x:Addr,aM (aa.length*(br aa.length*PP)) H6 q x bz[j]/\bz[j].length=m/\bz[j].getD ((dO m LL).getD j 0) o1=(1,1)/\(∀i,i<LL.length->a8 q (bz[j].getD (LL.getD i 0) o1) (-(atT ai i ((dO m LL).getD j 0)).1,(atT ai i ((dO m LL).getD j 0)).2))/\(∀k,k<m->k∉LL->k≠(dO m LL).getD j 0->bz[j].getD k o1=(0,1)):=λj hj=>by
   have j1:j<ws.length:=by lia
   obtain ⟨x,_,h3⟩:=hv j ws[j] bz[j] (by simp [j1]) (by simp [hj])
   exact ⟨x,h3⟩
  refine kM p r D xs LL bz _ (lG.trans (s6.trans sp)) aK ((cZ.mono s6).mono sp) Lr sol xE LP full (aU.mono (am ws Cm lv.symm (λj v ps h1 h2=>?_)) sp) ⟨lf,λps hp=>?_,λps hp=>?_,λj hj=>?_,λj hj=>?_,λi j hi hj ne=>?_⟩
  ·obtain ⟨x,e1,e2,_⟩:=hv j v ps h1 h2
   exact (ad x e1 e2)
  ·obtain ⟨j,hj,e⟩:=eJ.mp hp
   obtain ⟨x,_,h4,_⟩:=row j hj;rw [<-e];exact h4
  ·obtain ⟨j,hj,e⟩:=eJ.mp hp
   obtain ⟨x,h3,h4,h5,h6,h7⟩:=row j hj;rw [<-e];have f1:=Lu j hj;exact R.xA hq rfl lW hm (λi k hi hk=>EU rfl la hm hi hk) (lK m) jt kr hL f1.1 f1.2 (λk hk=>(h3.nums hq _ (by rw [getD_at ⋯];exact aG _)).2.1) h5 h6 h7
  ·have q'63:=row j hj;intros am14 q'63 x h3 h4 h5 h6 h7
   have f1:=Lu j hj;rw [getD_at hj];have w:=R.JZ hq (wide:=m) (f:=(dO m LL).getD j 0) h4 (λp hp=>(h3.nums hq p hp).1) ⋯ (λk' dC=>?_) (by rw [lW];exact i8)
   ·rw [lW] at w
    exact w
   ·by_cases y:k'∈LL
    ·obtain ⟨i,hi,e⟩:=eJ.mp y
     have e':LL.getD i 0=k':=by rw [getD_at hi,e]
     obtain ⟨ps,p1,p2⟩:=k9 R.len R.bY hi (show (dO m LL).getD j 0<m+1 by lia)
     refine .inl ⟨i,hi,.inr ?_,λz0=>(kr ps p1 _ p2).nz hq ⟨0,by rw [z0];simp⟩⟩
     rw [<-e'];exact h6 i hi
    ·by_cases y2:k'=(dO m LL).getD j 0
     ·rw [y2]
      exact .inr (.inr h5)
     ·exact .inr (.inl (h7 k' dC y y2))
  ·have q'65:=row j hj;intros am14 q'65 x h3 h4 h5 h6 h7
   unfold atT;rw [getD_at hj];exact h5
  ·have q'66:=row i hi;intros am14 q'66 x h3 h4 h5 h6 h7
   unfold atT;rw [getD_at hi];have f1:=Lu j hj;exact h7 _ f1.1 f1.2 (fne i j hi hj ne)
theorem ab_:bw ["world","one","other","total"] ["world","one","other"] (aR Fz):=bH
theorem SY(T:Txt K mg t):aO P w K mg base bO 4 t.ub t.xX ["world","one","other"] (Yj t.bP):=by
 have S:=ab_;have iu:=rA (P:=P) (w:=w) (base:=base) T;refine T.vj.bV S (λ_ _ _ _ H vs _ _ hr h=>?_);obtain ⟨z,q,v,u,ts,us,b,c,rfl,⟨dz,hd⟩,hq,⟨tp,l,rfl,e1,e2⟩,⟨S0,l',rfl,jj,Cn⟩,ht,Ed,mt,mu,mb,mc,mbc,nz,k⟩:=h
 refine (ad _ (ak (putL 3 S.nd (aZ (O6 (K:=K) rfl) rfl T.KZ boot_sum (ae (pM (N:=["a","b"]) (ρ:=(λσ=>[])) (oa [] rfl) rfl (kW rfl T.ku (ae (aA bE (pv 1) aj) (ae (aA bE (pv 2) aj) af))) (λ_ _ _=>.nil) (λ_ _ _=>(az kg (pv 0) (pv 1)))) af)))
  (ar (aJ (ia (pv 0) T.eI T.lE iu (hr.mono ∅) T.KR .nil e9 (ae (pv 3) (ae (az kg (aA bE (pv 1) aj) (aA bE (pv 2) aj)) af)))))) ?_)
 have hlen:((ts.map V.int).zip (us.map V.int)).length=min ts.length us.length:=by simp
 refine fY (gx (m7 (Pc (zs:=(ts.map V.int).zip (us.map V.int)) (λR h=>(nw _ rfl tp _ _ _ rfl rfl (.of e1) rfl (nw _ rfl S0 _ _ _ rfl rfl (.of jj) rfl (gl l l' rfl ⟨_,.of e2⟩ ⟨_,.of Cn⟩ (h _ _ (ag.refl _) (m6 (.of e2) (.of Cn))))))) (by rw [hlen];exact cR ⋯) (λi v=>∃w:Int,(List.zipWith (· * ·) ts us)[i]?=some w/\v=.int w) ?_ ?_)))
 ·intro i x y fS Hc R sc kc
  obtain ⟨t0,u0,rfl,rfl,a1,a2⟩:=Pf fS;exact (ms _ rfl _ rfl _ _ rfl rfl ⟨mt t0 (jA a1),mu u0 (jA a2)⟩ (kc _ Hc (ag.refl _) ⟨t0*u0,by rw [AH,a1,a2],rfl⟩))
 ·intro D vs Hc sc hl hP eD
  have ev:vs=(List.zipWith (· * ·) ts us).map V.int:=pP (by rw [hl,hlen,wq]) hP
  subst ev;refine (ce D _ rfl (.of eD) ?_);refine (ut _ rfl z dz _ rfl (sc _ _ hd) (iI (by decide +kernel)) (ad _ rfl (nw _ rfl tp _ _ _ rfl rfl (.of (sc _ _ e1)) rfl (nw _ rfl S0 _ _ _ rfl rfl (.of (sc _ _ jj)) rfl (gl _ _ rfl rfl ⟨mb,mc⟩ (u8 z q _ _ rfl ⟨dz,sc _ _ hd⟩ hq mbc (λh=>absurd h (OZ nz)) (λ_ v' H' s' ho=>k v' H' (sc.trans s') (XT ho hq nz))))))))
theorem acb:bw ["world","rows","row"] ["world","rows","row"] (aR FA):=bH
theorem acd(T:Txt K mg t):aO P w K mg base bO 5 t.uc t.xY ["world","rows","row"] (ZS t.bP):=by
 have S:=acb;refine T.zb.bV S (λ_ _ _ _ H vs _ _ hr h=>?_);intros am11 h z a q u am33 ws us c E' F rfl hz hq q'71 iO am31 hb gD lu hut okc bc E2 F2 EF k;obtain ⟨vs,ea,hl,hn⟩:=q'71;refine (ad _ (ar (aJ (dA (N:=["each","world","row"]) (ρ:=(λσ=>[σ[0]?.join,σ[2]?.join])) (cP [0,2] rfl) rfl (cY (pv 1)) (λ_ _ _=>.nil) (λ_ _ _=>(aw (SY T) hr T.Ko T.vj.kp T.Kn aF (ae (pv 1) (ae (pv 0) (ae (pv 2) af)))))))) ?_);refine gy (fc (xs:=vs) (λR h=>⟨_,rfl,a,rfl,⟨_,.of ea⟩,h _ _ (ag.refl _) (eR (.of ea))⟩) (by rw [hl];exact cR ⋯) (λD i y Hx=>∃w,ws[i]?=some w/\cN Hx q y (kj (Prod.fst w) us) (Prod.snd w*c)) (λ_ _ _ _ _ _ ⟨w,h1,h2⟩ e f=>(ad w h1 (h2.cC e f))) ?_ ?_)
 ·intro D i v hi Hc R sc _ kc
  have a_:i<ws.length:=by rw [<-hl];exact (aL.mp hi).1
  have ep:ws[i]?=some ws[i]:=by simp [a_]
  have hw:=hn i v ws[i] hi ep;have hwb:=hb ws[i] (aG ..);obtain ⟨lw,ht,G1,bb⟩:=hwb;refine (sK _ rfl _ rfl _ rfl (zn z q v u (ws[i].1) us (ws[i].2) (SL c rfl (hz.mono sc) hq (hw.mono sc) (gD.mono sc) ⋯ ⋯ (λt h=>bT (ht t h) E2) (λt h=>bT (hut t h) F2) ⟨bT bb E2,bT bc F2,?_,i5 hq (G1.nz hq) (okc.nz hq),λv' H' s' hv=>kc v' H' s' (ad (ws[i]) ep hv)⟩)))
  refine bT ?_ EF;rw [bU];exact cA bb bc
 ·intro D ys Hc nD sc d_ hP eD
  refine k D Hc sc nD (am ys eD (by rw [d_,hl,aV]) (λi v p h1 h2=>?_))
  obtain ⟨w',e1,e2⟩:=hP i v h1;rw [bu,e1] at h2;cases h2;exact e2
theorem ach:bw ["world","rows"] ["world","rows"] (aR FC):=bH
theorem aci(T:Txt K mg t):aO P w K mg base bO 4 t.ud t.xZ ["world","rows"] (ZR t.bP):=by
 have S:=ach;have oG:=B7 (P:=P) (w:=w) (base:=base) T;refine T.zc.bV S (λ_ _ _ _ H vs _ _ hr h=>?_);intros am21 h z a q B E' aa am31 rfl q'73 hq q'74 B1 B2 E2 iO qU k;obtain ⟨dz,hd⟩:=q'73;intros am7 q'74 vs ea hl hn;refine (ad _ (ar (aJ (dA (N:=["row","world"]) (ρ:=(λσ=>[σ[0]?.join])) (cP [0] rfl) rfl (cY (pv 1)) (λ_ _ _=>.nil) (λ_ _ _=>(ia (pv 1) T.eI T.qc oG (hr.mono ∅) T.vE .nil aF (ae (pv 0) af)))))) ?_)
 refine gy (fc (xs:=vs) (λR h=>⟨_,rfl,a,rfl,⟨_,.of ea⟩,h _ _ (ag.refl _) (eR (.of ea))⟩) (by rw [hl];exact cR ⋯) (λD i y Hx=>∃ps w,aa[i]?=some ps/\qI D Hx y (Prod.fst w) (Prod.snd w)/\EX q E' ps (Prod.fst w) (Prod.snd w)) (λ_ _ _ _ _ _ ⟨ps,w,h1,h2,h3⟩ e f=>(ce ps w h1 (h2.keep e f) h3)) ?_ ?_)
 ·intro D i v hi Hc R sc ⟨zs,eD⟩ kc
  have a_:i<aa.length:=by rw [<-hl];exact (aL.mp hi).1
  have ep:aa[i]?=some aa[i]:=by simp [a_]
  obtain ⟨r,rfl,ju⟩:=hn i v aa[i] hi ep;obtain ⟨qK,D',x,gJ,bD,dv,hx⟩:=qU _ (aG a_);exact (ut _ rfl z dz _ rfl (sc _ _ hd) (iI (by decide +kernel)) (ad _ rfl (SC z r q (aa[i]) B (SL D' rfl ⟨dz,sc _ _ hd⟩ hq (ju.mono sc) ⋯ gJ dv B2 B1 ⟨bT bD E2,λv' H' ts b s' hw ho=>kc v' H' s' ⟨aa[i],(ts,b),ep,hw.cC eD,EY hq ho ju gJ bD hx⟩⟩))))
 ·intro D ys Hc nD sc d_ hP eD
  obtain ⟨ws,lw,hw⟩:=pick (R:=λi y w=>∃ps,aa[i]?=some ps/\qI D Hc y (Prod.fst w) (Prod.snd w)/\EX q E' ps (Prod.fst w) (Prod.snd w)) (λi y e=>by obtain ⟨ps,w,h1,h2,h3⟩:=hP i y e;exact (ce w ps h1 h2 h3))
  refine k D Hc ws sc nD ⟨(am ys eD lw.symm (λi v w' h1 h2=>?_))⟩ (by rw [lw,d_,hl]) λi ps w' h1 h2=>?_
  ·obtain ⟨ps,_,h4,_⟩:=hw i v w' h1 h2
   exact h4.at
  ·have hi:i<ys.length:=by rw [<-lw];exact (aL.mp h2).1
   obtain ⟨GW,h3,_,h5⟩:=hw i ys[i] w' (by simp [hi]) h2
   rw [h1] at h3;cases h3;exact h5
theorem acj:bw ["world","rows","others","wholes"] ["world","rows","others"] (aR FE):=bH
theorem G3(T:Txt K mg t):aO P w K mg base bO 6 t.uf t.x5 ["world","rows","others"] (Qt t.bP):=by
 have S:=acj;have oG:=B7 (P:=P) (w:=w) (base:=base) T;refine T.p9.bV S (λ_ _ _ _ H vs _ _ hr h=>?_);intros am34 h z a o q Ba Bo E' F aa ai am28 rfl hz hq hA hO a1 a2 i7 am28 o2 E2 F2 EF iO S1 qU zU k
 refine (ad _ (ak (d4 3 S.nd (aw (aci T) hr T.Rl T.zc.kp T.Rk aF (ae (pv 0) (ae (pv 2) af))))
  (ar (aJ (dA (N:=["row","world","wholes"]) (ρ:=(λσ=>[σ[0]?.join,σ[3]?.join])) (cP [0,3] rfl) rfl (cY (pv 1)) (λ_ _ _=>.nil) (λ_ _ _=>(aw (acd T) hr T.Rj T.zb.kp T.Ri aF (ae (pv 1) (ae (pv 2) (ae (ia (pv 1) T.eI T.qc oG (hr.mono ∅) T.vE .nil aF (ae (pv 0) af)) af))))))))) ?_)
 refine (db _ rfl _ rfl (SC z o q Bo F (SL ai rfl hz hq hO i7 o2 F2 S1 zU (λwa H1 ws s1 nwa hWs iw aT=>?_))));have acm:∀ps∈ai,∀p∈ps,aC q p.2:=λps h1 p h2=>(hO.nums hq ps h1 p h2).2.1;have hz1:=hz.mono s1;obtain ⟨dz,hd⟩:=hz1;have q'81:=hA.mono s1;intros am7 q'81 vs ea hl hn;have wb:∀x∈ws,x.1.length<=40/\(∀t∈x.1,t.natAbs<=F)/\aC q x.2/\x.2.natAbs<=F:=λx hx=>by
  obtain ⟨i,hi,ei⟩:=List.getElem_of_mem hx;have a_:i<ai.length:=by lia
  have w:=aT i ai[i] x (by simp [a_]) (by rw [<-ei];simp [hi])
  exact ⟨by rw [w.len];exact (zU _ (aG ..)).1,w.bd,w.ok,w.bb⟩
 dsimp only [aN];refine gy (fc (xs:=vs) (λR h=>⟨_,rfl,a,rfl,⟨_,.of ea⟩,h _ _ (ag.refl _) (eR (.of ea))⟩) (by rw [hl];exact cR ⋯) (λD i y Hx=>∃ps r,aa[i]?=some ps/\y=.ref r/\H r=none/\Ep D Hx q r (ai.map λrs=>aW rs ps (0,1))) (λ_ _ _ _ _ _ ⟨ps,r,h1,h2,h3,h4⟩ e f=>(gl ps r h1 h2 h3 (h4.keep e f))) ?_ ?_)
 ·intro D i v hi Hc R sc ⟨zs,eD⟩ kc
  have a_:i<aa.length:=by rw [<-hl];exact (aL.mp hi).1
  have ep:aa[i]?=some aa[i]:=by simp [a_]
  obtain ⟨r,rfl,ju⟩:=hn i v aa[i] hi ep;have aco:∀p∈aa[i],aC q p.2:=λp hp=>(ju.nums hq p hp).2.1;have q'83:=qU aa[i] (aG ..);intros am22 q'83 qK D' x gJ bD dv hx;refine (db _ rfl _ rfl (ut _ rfl z dz _ rfl (sc _ _ hd) (iI (by decide +kernel)) (ad _ rfl (SC z r q (aa[i]) Ba (SL D' rfl ⟨dz,sc _ _ hd⟩ hq (ju.mono sc) ⋯ gJ dv a2 a1 ⟨bT bD E2,λu H2 us c s2 hu2 hwd=>?_⟩)))))
  have zV:=EY hq hwd ju gJ bD hx;refine (Exists.intro z (zn wa q u ws us c F (SL E' rfl ⟨dz,s2 _ _ (sc _ _ hd)⟩ hq (hWs.mono (sc.trans s2)) ⋯ wb hu2.at (by rw [zV.len];exact qK) zV.bd ⟨zV.ok,zV.bb,F2,E2,EF,λb H3 s3 nb hN=>?_⟩)))
  have Hb:H b=none:=by
   cases e:H b with
   | none=>rfl
   | some o'=>rw [s2 _ _ (sc _ _ (s1 _ _ e))] at nb;cases nb
  refine kc _ H3 (s2.trans s3) (gl (aa[i]) b ep rfl Hb ⟨(λz'=>by (rw [z',s2 _ _ eD] at nb;cases nb)),?_⟩)
  intros am7 hN ys eb ly f;refine (am ys eb (by rw [ly,aV,aV,iw]) (λj y p h1 h2=>?_))
  have hj:j<ws.length:=by rw [<-aV (f:=λx:List Int×Int=>(kj x.1 us,x.2*c)),<-ly];exact (aL.mp h1).1
  have eG:j<ai.length:=by lia
  have er:ai[j]?=some ai[j]:=by simp [eG]
  have ew:ws[j]?=some ws[j]:=by simp [hj]
  rw [bu,er] at h2;cases h2;have v1:=f j y _ h1 (by rw [bu,ew];rfl)
  have ok:=aT j ai[j] ws[j] er ew;have e:=En (ps:=ai[j]) (rs:=aa[i]) (ts:=ws[j].1) (us:=us) (B:=ws[j].2) (C:=c) (S:=0) (acc:=(0,1)) ok.len zV.len ok.eq zV.eq (by simp)
  rw [wj] at e;exact v1.to hq e (Eo (acm _ (aG ..)) aco ⟨λ_=>by decide,λ_=>rfl⟩)
 ·intro D ys Hc nD sc d_ hP eD
  have HD:H D=none:=by
   cases e:H D with
   | none=>rfl
   | some o'=>rw [s1 _ _ e] at nD;cases nD
  refine k D Hc ys (s1.trans sc) HD eD (by rw [d_,hl]) λi v ps h1 h2=>?_
  obtain ⟨GW,r,e1,e2,e3,e4⟩:=hP i v h1;rw [h2] at e1;cases e1;exact (am r e2 e3 e4.2)
theorem acr:bw ["world","one","other"] ["world","one","other"] (aR FD):=bH
theorem acs(T:Txt K mg t):aO P w K mg base bO 6 t.ue t.x4 ["world","one","other"] (ZT t.bP):=by
 have S:=acr;have oG:=B7 (P:=P) (w:=w) (base:=base) T;refine T.zd.bV S (λ_ _ _ _ H _ _ _ hr h=>?_);intros am34 h z a o q Ba Bo E' F ps rs am28 rfl q'85 hq hA hO a1 a2 i7 am28 o2 E2 F2 EF lp lr q'86 q'87 k;obtain ⟨dz,hd⟩:=q'85;intros am15 q'86 D x gJ bD dv hx;intros am15 q'87 D' x' S2 S3 dv' jG;refine (ad _ (ar (aJ (aw (SY T) hr T.Ko T.vj.kp T.Kn aF (ae (pv 0) (ae (ia (pv 0) T.eI T.qc oG (hr.mono ∅) T.vE .nil aF (ae (pv 1) af)) (ae (ia (pv 0) T.eI T.qc oG (hr.mono ∅) T.vE .nil aF (ae (pv 2) af)) af)))))) ?_)
 refine (ad _ rfl (ut _ rfl z dz _ rfl hd (iI (by decide +kernel)) (ad _ rfl (SC z a q ps Ba (SL D rfl ⟨dz,hd⟩ hq hA ⋯ gJ dv a2 a1 ⟨bT bD E2,λv H1 ts b s1 hv wd=>?_⟩)))))
 refine (ut _ rfl z dz _ rfl (s1 _ _ hd) (iI (by decide +kernel)) (ad _ rfl (SC z o q rs Bo (SL D' rfl ⟨dz,s1 _ _ hd⟩ hq (hO.mono s1) ⋯ S2 dv' o2 i7 ⟨bT S3 F2,λu H2 us c s2 hu wd'=>?_⟩))))
 have w1:=EY hq wd hA gJ bD hx;have w2:=EY hq wd' hO S2 S3 jG;have pb:∀p∈ps,aC q p.2:=λp hp=>(hA.nums hq p hp).2.1;have rb:∀p∈rs,aC q p.2:=λp hp=>(hO.nums hq p hp).2.1;refine (zn z q v u ts us b (SL c rfl ⟨dz,s2 _ _ (s1 _ _ hd)⟩ hq (hv.at.mono s2) hu.at (by rw [w1.len];lia) (by rw [w2.len];lia) (λt h=>bT (w1.bd t h) E2) (λt h=>bT (w2.bd t h) F2) ⟨bT w1.bb E2,bT w2.bb F2,?_,i5 hq (w1.ok.nz hq) (w2.ok.nz hq),λv' H3 s3 fO=>k v' H3 (s1.trans (s2.trans s3)) ?_⟩))
 ·refine bT ?_ EF
  rw [bU];exact cA w1.bb w2.bb
 ·have e:=En (ps:=ps) (rs:=rs) (ts:=ts) (us:=us) (B:=b) (C:=c) (S:=0) (acc:=(0,1)) w1.len w2.len w1.eq w2.eq (by simp)
  rw [wj] at e;exact fO.to hq e (Eo pb rb ⟨λ_=>by decide,λ_=>rfl⟩)
theorem acw:bw ["world","table","row"] ["world","table","row"] (aR FF):=bH
theorem S4(T:Txt K mg t):aO P w K mg base (eF P w) 7 t.ug t.x6 ["world","table","row"] (ZU t.bP t.fz):=by
 have S:=acw;refine T.vk.d8 S (λ_ _ _ _ H vs _ _ hr h L=>?_);intros am34 h z a r q Ba Bo E' F aa ps am35 m rfl hz hq hA hR a1 a2 i7 o2 am28 E2 F2 EF h1 iO hm fL kE kk
 refine (ad _ (ak (bC (bK fX (aZ cm rfl T.b5 b6 (ae (pv 2) af)) (aw (qf T) hr T.lh T.iN.kp T.lg e9 (ae (pv 1) af))) (ar (mV L rfl mK T.qe rfl T.qd (ae gd af))) bG)
  (ar (aJ (aA dh (aw (G3 T) hr T.BR T.p9.kp T.BQ aF (ae (pv 0) (ae (eY (ae (pv 2) af)) (ae (pv 1) af)))) aj)))) ?_)
 obtain ⟨vs,er,lr,_⟩:=id hR;refine (dL _ rfl r vs rfl (.inl (.of er)) (xz _ rfl a (u8 q Bo aa m rfl hA h1 iO hm (λH1 s1=>(sw rfl _ rfl (cM (λdB=>?_) (λdB=>?_)))))))
 ·have dB:ps.length≠m:=λz=>by
   have:(vs.length:Int)=(m:Int):=by lia
   rw [eZ,cF this] at dB;cases dB
  exact ⟨by show 1<=sizeLine;decide,kE dB H1 s1⟩
 ·have heq:ps.length=m:=by
   by_cases z:(vs.length:Int)=(m:Int);·lia
   ·exact absurd (by rw [eZ,fD z];rfl) dB
  obtain ⟨hE,hF,k⟩:=kk heq;refine (ad _ rfl (am _ rfl (by show 1<=sizeLine;decide) (λl nl=>?_)))
  have sl:ag H1 (upd H1 l (.lst [.ref r])):=a9 nl;have s2:=s1.trans sl;refine (Rs _ rfl z l (zn a q Ba Bo E' F [ps] (SL aa rfl (hz.mono s2) hq (am _ aK rfl (λi v GW h1 h2=>?_)) (hA.mono s2) a1 a2 i7 o2 ⟨E2,F2,EF,(by show 1<=40;decide),iO,λx hx=>by rw [iC.mp hx];exact ⟨⋯,hE⟩,λx hx=>⟨by rw [hm x hx];exact fL,hF x hx⟩,λb H3 ws s3 nb eb lb hb=>?_⟩)))
  ·match i,h1,h2 with
   | 0,h1,h2=>cases h1;cases h2;exact ⟨r,rfl,hR.mono s2⟩
   | i+1,h1,h2=>cases h1
  ·have hw:0<ws.length:=by rw [lb];show 0<1;decide
   obtain ⟨r3,e3,n3,hN⟩:=hb 0 ws[0] ps (by simp [hw]) rfl
   have nr:H r3=none:=by
    cases e:H r3 with
    | none=>rfl
    | some o'=>rw [s2 _ _ e] at n3;cases n3
   refine (sB b ws _ (ws[0]) rfl rfl (.of eb) (by exact cK (j:=0) (by simp [hw])) ?_)
   rw [e3];exact k r3 H3 (s2.trans s3) nr hN
theorem acx:bw ["world","row","table","across"] ["world","row","table"] (aR FG):=bH
theorem acy(T:Txt K mg t):aO P w K mg base (eF P w) 7 t.uh t.x8 ["world","row","table"] (ZV t.bP t.fz):=by
 have S:=acx;refine T.ze.d8 S (λ_ _ _ _ H vs _ _ hr h L=>?_);intros am34 h z a r q Ba Bo E' F aa ps am35 m rfl hz hq hA hR a1 a2 i7 o2 am28 E2 F2 EF h1 iO hm fL kE kk
 refine (ad _ (ak (putL 3 S.nd (aw (GS T) hr T.BP T.oz.kp T.BO aF (ae (pv 2) af)))
  (ak (bC (bK fX (aZ cm rfl T.b5 b6 (ae (pv 1) af)) (aZ cm rfl T.b5 b6 (ae (pv 2) af))) (ar (mV L rfl mK T.qe rfl T.qd (ae gd af))) bG)
  (ar (aJ (aA dh (aw (G3 T) hr T.BR T.p9.kp T.BQ aF (ae (pv 0) (ae (eY (ae (pv 1) af)) (ae (pv 3) af)))) aj))))) ?_)
 have q'90:=id hR;intros am7 q'90 vs er lr _;have q'91:=id hA;intros am7 q'91 ts ea la _;refine (Rs _ rfl a q (wP Bo aa m rfl hA h1 iO hm fL (λc H1 s1 nc hC=>?_)));refine (dL _ rfl r vs rfl (.inl (.of (s1 _ _ er))) (f8 _ rfl a ts rfl (.inl (.of (s1 _ _ ea))) rfl _ rfl (cM (λdB=>?_) (λdB=>?_))))
 ·have dB:ps.length≠aa.length:=λz=>by
   have:(vs.length:Int)=(ts.length:Int):=by lia
   rw [eZ,cF this] at dB;cases dB
  exact ⟨by show 1<=sizeLine;decide,kE dB H1 s1⟩
 ·have heq:ps.length=aa.length:=by
   by_cases z:(vs.length:Int)=(ts.length:Int);·lia
   ·exact absurd (by rw [eZ,fD z];rfl) dB
  obtain ⟨hE,hF,k⟩:=kk heq;refine (ad _ rfl (am _ rfl (by show 1<=sizeLine;decide) (λl nl=>?_)))
  have sl:ag H1 (upd H1 l (.lst [.ref r])):=a9 nl;have s2:=s1.trans sl;refine (Rs _ rfl z l (zn c q Ba Bo E' F [ps] (SL (bL m aa) rfl (hz.mono s2) hq (am _ aK rfl (λi v GW h1 h2=>?_)) (hC.mono sl) a1 a2 i7 o2 ⟨E2,F2,EF,(by show 1<=40;decide),by rw [gi];exact fL,λx hx=>by rw [iC.mp hx];exact ⟨⋯,hE⟩,λx hx=>⟨?_,hF x hx⟩,λb H3 ws s3 nb eb lb hb=>?_⟩)))
  ·match i,h1,h2 with
   | 0,h1,h2=>cases h1;cases h2;exact ⟨r,rfl,hR.mono s2⟩
   | i+1,h1,h2=>cases h1
  ·unfold bL at hx
   obtain ⟨j,_,ej⟩:=fI.mp hx;rw [<-ej,aV];exact iO
  ·have hw:0<ws.length:=by rw [lb];show 0<1;decide
   obtain ⟨r3,e3,n3,hN⟩:=hb 0 ws[0] ps (by simp [hw]) rfl
   have nr:H r3=none:=by
    cases e:H r3 with
    | none=>rfl
    | some o'=>rw [s2 _ _ e] at n3;cases n3
   refine (sB b ws _ (ws[0]) rfl rfl (.of eb) (by exact cK (j:=0) (by simp [hw])) ?_)
   rw [e3];exact k r3 H3 (s2.trans s3) nr hN
theorem acz:bw ["world","row"] ["world","row"] (aR FY):=bH
theorem S5(T:Txt K mg t):aO P w K mg base bO 4 t.uC t.ym ["world","row"] (ZW t.bP):=by
 have S:=acz;have iu:=rA (P:=P) (w:=w) (base:=base) T;obtain ⟨dv,jR,gC⟩:=T.vD;refine T.vz.bV S (λ_ _ _ _ H _ _ _ hr h=>?_);obtain ⟨z,r,q,ws,rfl,⟨dz,hd⟩,hq,er,m_,hw,k⟩:=h;have gD:=hr.units;refine (ad _ (ar (aJ (e8 (Ek (n:=1) gD) (pv 1) (az sO (eY (ae (ia (pv 0) T.eI T.lE iu (hr.mono ∅) gC jR e9 (ae aj af)) af)) (aZ cm rfl T.b5 b6 (ae (pv 1) af)))))) ?_)
 have nv:=xj hq;refine (ad _ rfl (ut _ rfl z dz _ rfl hd (iI (by decide +kernel)) (u8 z q 0 1 rfl ⟨dz,hd⟩ hq (b_.of_lt ∅ ∅) (λh=>absurd h nv) (λ_ v0 H1 s1 ho=>?_))))
 refine ⟨by show 1<=sizeLine;decide,λl nl=>?_⟩
 have sl:ag H1 (upd H1 l (.lst [v0])):=a9 nl;have s2:=s1.trans sl;refine (dL _ rfl r ws rfl (.inl (.of (s2 _ _ er))) (wP l (ws.length:Int) [v0] rfl rfl aK ⋯ ⋯ (au (show [v0].length*(ws.length:Int).toNat<=40 by simp;lia) ∅) (λp np=>?_)))
 have h0:=oh (B:=1000) ∅ (ho.mono sl) hq (.inl rfl)
 generalize upd H1 l (.lst [v0])=H2 at sl s2 h0 np ⊢;have sp:ag H2 (upd H2 p (.lst (List.replicate (ws.length:Int).toNat [v0]).flatten)):=a9 np;have s3:=s2.trans sp;refine ⟨r,p,ws,_,rfl,rfl,.of (s3 _ _ er),.of aK,?_,λj x y h1 h2=>?_,k _ s3⟩
 ·rw [len_rep]
  simp
 ·have hx:=(hw x (jA h1)).mono s3
  have hy:y=v0:=by have:=jA h2;obtain ⟨l',mZ,rK⟩:=AF.mp this;rw [(AI.mp mZ).2] at rK;exact iC.mp rK
  rw [hy];exact td hx ((h0.mono sp).jk hq) rfl 0
theorem acA:bw ["world","table","aim","row"] ["world","table","aim","row"] (aR FZ):=bH
theorem acB(T:Txt K mg t):aO P w K mg base bO 8 t.uD t.yn ["world","table","aim","row"] (ZX t.bP t.fz):=by
 have S:=acA;refine T.zl.bV S (λ_ _ _ _ H _ _ _ hr h=>?_);intros am34 h z a b r q Ba Bo E' F m am18 aa as xs rfl hz am32 hq hA hb hx sz la lx hE hF sol k;have gD:=hr.units;refine (ad _ (ar (aJ (iF (e8 eE (aZ cm rfl T.b5 b6 (ae (pv 3) af)) (aw (qf T) hr T.lh T.iN.kp T.lg e9 (ae (pv 1) af))) (jE (e8 (Ek (n:=1) gD) (aw (S4 T) hr T.Kq T.vk.kp T.Kp e9 (ae (pv 0) (ae (pv 1) (ae (pv 3) af)))) (pv 2)))))) ?_);obtain ⟨vx,ex,lvx,fx⟩:=id hx;have q'0:=id hb;intros am7 q'0 vb eb zW fb;have bA:∀p∈as,aC q p.2:=λp hp=>(hb.nums hq p hp).2.1;have bX:∀p∈xs,aC q p.2:=λp hp=>(hx.nums hq p hp).2.1;refine (dL _ rfl r vx rfl (.inl (.of ex)) (xz _ rfl a (u8 q Bo aa m rfl hA sz.n1 sz.cO sz.bY (λH1 s1=>(sw rfl true (by rw [eZ,cF ⋯]) (dW ?_))))))
 refine (S' _ rfl _ rfl _ rfl z a r (zn q Ba Bo E' F aa xs (SL m rfl (hz.mono s1) hq (hA.mono s1) (hx.mono s1) sz.a1 sz.a2 sz.o1 sz.o2 ⟨sz.e2,sz.f2,sz.ef,sz.n1,sz.cO,sz.bY,sz.fL,λne=>absurd lx ne,λ_=>⟨hE,hF,λc H2 s2 nc hN=>?_⟩⟩)));intros am7 hN ws ec lw fw;have dD:=s1.trans s2;rw [aV] at lw;refine (xz _ rfl c (wP b ws vb rfl rfl (.of ec) (.of (dD _ _ eb)) ⋯ (λj x y h1 h2=>?_) (k H2 dD)))
 have j1:j<ws.length:=(aL.mp h1).1;have j2:j<aa.length:=by lia
 have j3:j<as.length:=by lia
 have jG:=fw j x _ h1 (by rw [bu,d5 j2];rfl)
 have w:=Qu hq rfl sz.bY la lx (hA.rep hq rfl sz.bY) bA bX sol j2;rw [getD_at j2,getD_at j3] at w;have hy:=(fb j y as[j] h2 (by simp [j3])).mono dD
 exact td (jG.i6 w (bA _ (aG _))) (hy.jk hq) rfl 0
theorem acD:bw ["world","table","row"] ["world","table","row"] (aR F4):=bH
theorem acE(T:Txt K mg t):aO P w K mg base bO 8 t.uF t.yp ["world","table","row"] (Qx t.bP t.fz):=by
 have S:=acD;refine T.zo.bV S (λ_ _ _ _ H _ _ _ hr h=>?_);intros amE h z am34 a r q Ba Bo E' F m aa xs am32 rfl hz hq hA hx sz lx hE hF xA k;refine (ad _ (ar (aJ (aw (S5 T) hr T.KH T.vz.kp T.KG aF (ae (pv 0) (ae (aw (S4 T) hr T.Kq T.vk.kp T.Kp e9 (ae (pv 0) (ae (pv 1) (ae (pv 2) af)))) af))))) ?_);have bX:∀p∈xs,aC q p.2:=λp hp=>(hx.nums hq p hp).2.1;refine (ad _ rfl (S' _ rfl _ rfl _ rfl z a r (zn q Ba Bo E' F aa xs (SL m rfl hz hq hA hx sz.a1 sz.a2 sz.o1 sz.o2 ⟨sz.e2,sz.f2,sz.ef,sz.n1,sz.cO,sz.bY,sz.fL,λne=>absurd lx ne,λ_=>⟨hE,hF,λc H2 s2 nc hN=>?_⟩⟩))));intros am7 hN ws ec lw fw;have cO:=sz.cO;rw [aV] at lw;refine ⟨z,c,q,ws,rfl,hz.mono s2,hq,ec,⋯,λx jG=>?_,λH3 s3=>k H3 (s2.trans s3)⟩
 obtain ⟨j,j1,e⟩:=eJ.mp jG;have j2:j<aa.length:=by lia
 have hN:=fw j x _ (by rw [d5 j1,e]) (by rw [bu,d5 j2];rfl)
 have w:=Qv hq rfl sz.bY lx (hA.rep hq rfl sz.bY) bX xA j2;rw [getD_at j2] at w;exact hN.i6 w aC.one
theorem acF:bw ["world","table","aim","row"] ["world","table","aim","row"] (aR F3):=bH
theorem acG(T:Txt K mg t):aO P w K mg base bO 8 t.uE t.yo ["world","table","aim","row"] (ZY t.bP t.fz):=by
 have S:=acF;have iu:=rA (P:=P) (w:=w) (base:=base) T;obtain ⟨dv,jR,gC⟩:=T.vD;refine T.zm.bV S (λ_ _ _ _ H _ _ _ hr h=>?_);intros am34 h z a b r q Ba Bo E' F m am20 aa as xs rfl hz hq am32 hA hb hx sz la lx hE hF hFa bar k;have gD:=hr.units;have hu:=bT (AB _ 64) gD
 refine (ad _ (ak (bC (PW.pt (pw_or (bK fX (aZ cm rfl T.b5 b6 (ae (pv 3) af)) (aZ cm rfl T.b5 b6 (ae (pv 1) af))) (pw_or1 (bK fX (aZ cm rfl T.b5 b6 (ae (pv 2) af)) (aZ cm rfl T.b5 b6 (ae (pv 1) af)))))) (ar (aJ dM)) bG)
  (ar (aJ (iF (aw (S5 T) hr T.KH T.vz.kp T.KG aF (ae (pv 0) (ae (aw (acy T) hr T.Rp T.ze.kp T.Ro e9 (ae (pv 0) (ae (pv 3) (ae (pv 1) af)))) af))) (jE (e8 (XG hu) (aw (acs T) hr T.Rn T.zd.kp T.Rm aF (ae (pv 0) (ae (pv 3) (ae (pv 2) af)))) (ia (pv 0) T.eI T.lE iu (hr.mono ∅) gC jR e9 (ae aj af)))))))) ?_)
 have q'2:=id hx;intros am7 q'2 vx ex lvx fx;have q'3:=id hb;intros am7 q'3 vb eb zW fb;have q'4:=id hA;intros am7 q'4 va ea Lv fa;have bA:∀p∈as,aC q p.2:=λp hp=>(hb.nums hq p hp).2.1;have bX:∀p∈xs,aC q p.2:=λp hp=>(hx.nums hq p hp).2.1;have f1:(!decide (V.int (vx.length:Int)=V.int (va.length:Int)))=false:=by rw [eZ,cF ⋯];rfl
 have f2:(!decide (V.int (vb.length:Int)=V.int (va.length:Int)))=false:=by rw [eZ,cF ⋯];rfl
 refine (dL _ rfl r vx rfl (.inl (.of ex)) (f8 _ rfl a va rfl (.inl (.of ea)) rfl false (by rw [f1]) (bQ ?_)))
 refine (dL _ rfl b vb rfl (.inl (.of eb)) (f8 _ rfl a va rfl (.inl (.of ea)) rfl false (by rw [f2]) (bQ ?_)))
 dsimp only [eO];obtain ⟨tb1,tb2⟩:=Qw hq rfl sz.bY la lx (hA.rep hq rfl sz.bY) bA bX bar;have fL:=sz.fL;have cO:=sz.cO;refine (ad _ rfl (S' _ rfl _ rfl _ rfl z a r (zn q Ba Bo E' F aa xs (SL m rfl hz hq hA hx sz.a1 sz.a2 sz.o1 sz.o2 ⟨sz.e2,sz.f2,sz.ef,sz.n1,sz.cO,sz.bY,sz.fL,λne=>absurd lx ne,λ_=>⟨hE,hF,λc H2 s2 nc hN=>?_⟩⟩))));intros am7 hN ws ec lw fw;rw [aV,gi] at lw;refine (Exists.intro z (wP c q ws rfl (hz.mono s2) hq ec ⋯ (λx jG=>?_) (λH3 s3=>(ad true rfl (dW ?_)))))
 ·obtain ⟨j,j1,e⟩:=eJ.mp jG
  have j2:j<(bL m aa).length:=by rw [gi];lia
  have hN:=fw j x _ (by rw [d5 j1,e]) (by rw [bu,d5 j2];rfl)
  have w:=tb1 j ⋯
  rw [getD_at j2] at w;exact hN.i6 w aC.one
 ·have G4:=s2.trans s3
  have fe:=sz.ef;rw [oQ] at fe;refine (S' _ rfl _ rfl _ rfl z r b (Re q Ba Bo E' F xs (SL as rfl (hz.mono G4) hq (hx.mono G4) (hb.mono G4) sz.a1 sz.a2 sz.o1 sz.o2 ⟨sz.e2,sz.f2,fe,⋯,⋯,hE,hFa,λv H4 s4 hv=>?_⟩)))
  have nE:=G4.trans s4;obtain ⟨dz,hd⟩:=hz.mono nE;have nv:=xj hq;refine (ut _ rfl z dz _ rfl hd (iI (by decide +kernel)) (u8 z q 1 1 rfl ⟨dz,hd⟩ hq (b_.of_lt ∅ ∅) (λh=>absurd h nv) (λ_ v1 H5 s5 ho=>?_)))
  have h1:=oh (B:=1000) ∅ ho hq (.inr rfl)
  exact XX ((hv.i6 tb2 aC.one).mono s5) (h1.jk hq) rfl (k H5 (nE.trans s5))
theorem acK:bw ["table","n","m"] ["table","n","m"] (aR Ft):=bH
theorem G5(T:Txt K mg t):aO P w K mg base bO 1 t.t8 t.xU ["table","n","m"] ZZ:=by
 have S:=acK;refine T.p8.bV S (λ_ _ _ _ H _ _ _ hr h=>?_);intros amE h a am29 n m xs rfl ea lx cO hx k;refine (ad _ (ar (aJ (iF (e8 eE (aZ cm rfl T.b5 b6 (ae (pv 0) af)) (pv 1)) (jE (aZ (pC (K:=K) rfl) rfl T.oF boot_all (ae (dA (N:=["row","m"]) (ρ:=(λσ=>[σ[2]?.join])) (cP [2] rfl) rfl (cY (pv 0)) (λ_ _ _=>.nil) (λ_ _ _=>(e8 eE (aZ (Jo (K:=K)) rfl T.b5 b6 (ae (pv 0) af)) (pv 1)))) af)))))) ?_);refine (dL _ rfl a xs rfl (.inl (.of ea)) (gt _ rfl rfl true (by rw [eZ,cF ⋯]) (dW ?_)))
 refine m7 (qF (xs:=xs) (λR h=>⟨_,rfl,a,rfl,⟨_,.of ea⟩,h _ _ (ag.refl _) (eR (.of ea))⟩) (cR ⋯) (λ_ i y _=>y=.bl true) (λ_ _ _ _ _ _ h _ _=>h) ?_ ?_)
 ·intro D i v hi Hc R sc _ kc
  obtain ⟨r,us,rfl,e2,e3⟩:=hx v (jA hi);refine (dL _ rfl r us rfl (.inl (.of (sc _ _ e2))) (am _ rfl rfl ?_));rw [eZ,cF ⋯]
  exact kc _ Hc (ag.refl _) rfl
 ·intro D ys Hc sc d_ hP eD
  refine ⟨D,List.replicate ys.length true,rfl,.of (by rw [eD];exact eW _ (eW _ (pQ hP))),?_⟩
  rw [qJ];exact k Hc sc
theorem acL:bw ["world","table"] ["world","table"] (aR F7):=bH
theorem acM(T:Txt K mg t):aO P w K mg base bO 6 t.uJ t.yt ["world","table"] (Z2 t.bP t.fz):=by
 have S:=acL;refine T.zq.bV S (λ_ _ _ _ H _ _ _ hr h=>?_);intros am21 h z a q B PP W am26 aa G rfl hz hq hA sz k;refine (ad _ (ar (aJ (aZ cm rfl T.b5 b6 (ae (aA bE (aw (zP T) hr T.oB T.jP.kp T.oA aF (ae (pv 0) (ae (pv 1) af))) aj) af)))) ?_);have m_:=sz.m_;refine (db _ rfl _ rfl (zn z a q B PP W aa (SL G rfl hz hq hA sz.b1 sz.b2 sz.n1 sz.cO sz.bY ⟨⋯,sz.row,sz.g,sz.pr,sz.mid,λp rr l H1 AA M c L last ai s1 ep el hR R=>?_⟩)))
 refine (sB p _ _ _ rfl rfl (.of ep) rfl (ce l (a7 L) rfl (.inl (.of el)) ?_));rw [gk];exact k L H1 s1 (R.EV hq rfl rfl sz.bY (λ_ _ _ _=>rfl) (aP _) (λps h1 p h2=>(hA.nums hq ps h1 p h2).2.1) R.red.rd.lt) R.red.rd.len
theorem G6(T:Txt K mg t):aO P w K mg base (eF P w) 1 t.qV t.t6 ["table"] Z0:=by
 have S:=Sz;refine T.iN.d8 S (λ_ _ _ _ H _ _ _ hr h L=>?_);intros am7 h a rfl ea k
 refine (ad _ (ak (bC (bK eE (aZ cm rfl T.b5 b6 (ae (pv 0) af)) aj) (ar (aJ aj)) bG)
  (ak (d4 1 S.nd (aZ cm rfl T.b5 b6 (ae (aA dh (pv 0) aj) af)))
  (ak (bC (d7 (aZ (O5 (K:=K) rfl) rfl T.KY boot_any (ae (dA (N:=["row","wide"]) (ρ:=(λσ=>[σ[1]?.join])) (cP [1] rfl) rfl (cY (pv 0)) (λ_ _ _=>.nil) (λ_ _ _=>(e8 fX (aZ (Jo (K:=K)) rfl T.b5 b6 (ae (pv 0) af)) (pv 1)))) af))) (ar (mV L rfl mK T.qe rfl T.qd (ae gd af))) bG)
  (ar (aJ (pv 1)))))) ?_)
 exact (f8 _ rfl a [] rfl (.inl (.of ea)) rfl true rfl (dW k))
theorem Lw(T:Txt K mg t):aO P w K mg base bO 5 t.qY t.uu ["world","table"] Z1:=by
 have S:=SJ;have oG:=B7 (P:=P) (w:=w) (base:=base) T;refine T.jP.bV S (λ_ _ _ _ H _ _ _ hr h=>?_);intros am13 h z a rfl ea k
 refine (ad _ (ak (pK (i0:=2) (N:=["row","world"]) (ρ:=(λσ=>[σ[0]?.join])) (cP [0] rfl) rfl S.nd rfl (Or.inl rfl) (cY (pv 1)) (λ_ _ _=>.nil) (λ_ _ _=>(aA (qH (K:=K)) (ia (pv 1) T.eI T.qc oG (hr.mono ∅) T.vE .nil aF (ae (pv 0) af)) aj)))
  (ak (putL 3 S.nd (eY af))
  (ak (d4 4 S.nd aj)
  (ak (gG fJ rfl (gF rfl T.fg (ae (aw (G6 T) hr T.lh T.iN.kp T.lg e9 (ae (pv 1) af)) af)) (dE (i:=5) S.nd rfl (Or.inr rfl))
   (ak (putL 6 S.nd (aZ cm rfl T.b5 b6 (ae (pv 3) af)))
  (ak (putL 7 S.nd (aw (So T) hr T.Ku T.vp.kp T.Kt aF (ae (pv 2) (ae (pv 6) (ae (pv 5) af)))))
  (ar (bC (bK NM (pv 7) nU) (ak (putL 2 S.nd (aw (Sq T) hr T.Kw T.vq.kp T.Kv aF (ae (pv 2) (ae (pv 6) (ae (pv 7) af)))))
  (ak (d4 8 S.nd (aA dh (pv 2) (pv 6)))
  (ak (pK (i0:=2) (N:=["row","world","head","lead","last"]) (ρ:=(λσ=>[σ[0]?.join,σ[8]?.join,σ[5]?.join,σ[4]?.join])) (cP [0,8,5,4] rfl) rfl S.nd rfl (Or.inl rfl) (cY (pv 2)) (λ_ _ _=>.nil) (λ_ _ _=>(aw (Sr T) hr T.Ks T.vm.kp T.Kr aF (ae (pv 1) (ae (pv 0) (ae (pv 2) (ae (pv 3) (ae (pv 4) af))))))))
  (ak (@j6 _ _ _ _ _ _ (pv 8) (kI (pv 2) (pv 6) set_list) (by rfl) (by rfl) (by rfl))
  (ak (d4 4 S.nd (aA dh (pv 8) (pv 5)))
  (ar (wF (A8 AJ AK AL nY (pv 3) (ae (pv 5) af))))))))) bG)))))
  (ar (aJ (gw (ae (pM (N:=["row","lead","world"]) (ρ:=(λσ=>[σ[0]?.join])) (oa [0] rfl) rfl (kW rfl T.ku (ae (pv 2) (ae (pv 3) af))) (λ_ _ _=>.nil) (λ_ _ _=>(aw (Sx T) hr T.Ky T.vv.kp T.Kx aF (ae (pv 2) (ae (pv 0) (ae (pv 1) af)))))) (ae (pv 3) af))))))))) ?_)
 refine fY (gx (fc (xs:=[]) (λR h=>(ad _ rfl (am a rfl ⟨_,.of ea⟩ (h _ _ (ag.refl _) (eR (.of ea)))))) ∅ (λ_ _ _ _=>True) (λ_ _ _ _ _ _ _ _ _=>trivial) (λD i v hi=>by simp at hi) ?_))
 intro D ys H1 nD s1 dN _ eD;have ey:ys=[]:=jB.mp dN;subst ey;dsimp only [aN];simp only [L2.start,df,iD,gE,gZ,List.replicate,g_,gM,aX,aY];refine ⟨by show 0<=sizeLine;decide,λl nl=>?_⟩
 have sl:ag H1 (upd H1 l (.lst [])):=a9 nl;have el:upd H1 l (.lst []) l=some (.lst []):=aK;generalize upd H1 l (.lst [])=H2 at sl el ⊢;have s2:=s1.trans sl;dsimp only [aN];simp only [aX,aY];refine (ad _ rfl (am a rfl (s2 _ _ ea) (ii (0:Int) rfl ∅ ∅ ?_)))
 refine lZ (λi σ Hc=>Hc=H2/\σ=[some (.ref z),some (.ref a),some (.ref D),some (.ref l),some (.int 1),none,none,none,none]) ⟨rfl,rfl⟩ (λi σ Hc hi=>absurd hi (mG _)) ?_;rintro σ Hc ⟨rfl,rfl⟩;dsimp only;refine gy (Jp (xo (Z:=λzs Hx=>zs=[]/\Hx=Hc) (λR h=>(ms _ rfl _ rfl D l rfl ⟨_,.of (sl _ _ eD)⟩ ⟨_,.of el⟩ (h _ _ _ (ag.refl _) (m6 (.of (sl _ _ eD)) (.of el)) ∅ ⟨rfl,rfl⟩))) (λ_ _ _ _=>True) (λ_ _ _ _ _ _ _ _ _=>trivial) ?_ ?_))
 ·rintro zs Le ⟨rfl,rfl⟩ _ D' j x y fS
  simp at fS
 ·rintro zs Le ⟨rfl,rfl⟩ _ D' ws H7 GV s7 iw _ zR
  have ey:ws=[]:=jB.mp iw;subst ey;refine (am _ rfl (by show 2<=sizeLine;decide) (λp np=>?_))
  have sp:ag H7 (upd H7 p (.tup [.ref D',.ref l])):=a9 np;exact k p D' l _ (s2.trans (s7.trans sp)) aK (sp _ _ zR) (sp _ _ (s7 _ _ el))
theorem acN:bw ["world","table","rows","wide"] ["world","table","rows"] (aR F5):=bH
theorem S6(T:Txt K mg t):aO P w K mg base bO 9 t.uH t.yq ["world","table","rows"] (Z3 t.bP t.fz):=by
 have S:=acN;have Co:=My.aO.or (zP (P:=P) (w:=w) (base:=base) T) (Lw (P:=P) (w:=w) (base:=base) T);refine T.vA.bV S (λ_ _ _ _ H _ Q _ hr h=>?_);intros am11 h z a tt q am34 Ba Bo E' F PP m aa bz G L am32 rfl hz hq hA hV sz sr hF LP cs k
 refine (ad _ (ak (putL 3 S.nd (aw (qf T) hr T.lh T.iN.kp T.lg e9 (ae (pv 1) af)))
  (ak (bC (e7 (d7 (aw (G5 T) hr T.BN T.p8.kp T.BM aF (ae (pv 2) (ae (az jI (pv 3) (aZ cm rfl T.b5 b6 (ae (aA bE (aw Co hr T.oB T.jP.kp T.oA aF (ae (pv 0) (ae (pv 1) af))) aj) af))) (ae (pv 3) af)))))) (ar (aJ dM)) bG)
  (ar (aJ (iF (e8 eE (aZ cm rfl T.b5 b6 (ae (aA bE (aw Co hr T.oB T.jP.kp T.oA aF (ae (pv 0) (ae (pv 2) af))) aj) af)) (aZ cm rfl T.b5 b6 (ae (pv 2) af))) (jE (aZ (pC (K:=K) rfl) rfl T.oF boot_all (ae (dA (N:=["row","world","table"]) (ρ:=(λσ=>[σ[0]?.join,σ[1]?.join])) (cP [0,1] rfl) rfl (cY (pv 2)) (λ_ _ _=>.nil) (λ_ _ _=>(aw (acE T) hr T.RI T.zo.kp T.RH aF (ae (pv 1) (ae (pv 2) (ae (pv 0) af)))))) af)))))))) ?_)
 have q'6:=id hV;intros am7 q'6 vt et Lx S7;have m_:=sr.m_;have cO:=sr.cO;have jt:∀ps∈aa,∀p∈ps,aC q p.2:=λps h1 p h2=>(hA.nums hq ps h1 p h2).2.1;have rT:=hA.rep hq rfl sz.bY;have fl:=xC LP.1 LP.2.1;have lv:bz.length+L.length=m:=by
  rcases cs with ⟨e,h⟩ | ⟨mv,_⟩;·rw [e];simpa using h
  ·rw [mv.len];exact fl
 have wv:∀ps∈bz,ps.length=m:=by
  rcases cs with ⟨e,_⟩ | ⟨mv,_⟩;·rw [e];intro ps hp;cases hp
  ·exact mv.bY
 refine (xz _ rfl a (u8 q Bo aa m rfl hA sz.n1 sz.cO sz.bY (λH1 s1=>?_)));dsimp only [aN];simp only [L2.start,df,iD,gE,gZ,List.replicate,g_,gM,aX,aY];refine (ad _ rfl (sK _ rfl _ rfl _ rfl (.inl (zn z a q Bo PP m aa (SL G rfl (hz.mono s1) hq (hA.mono s1) sr.b1 sr.b2 sr.n1 sr.cO sr.bY ⟨⋯,sr.row,sr.g,sr.pr,sr.mid,λp rr l H2 AA M c LL last ai s2 ep el hR R=>?_⟩)))))
 have jv:=s1.trans s2;have LP':=R.EV hq rfl rfl sr.bY (λ_ _ _ _=>rfl) (aP _) jt R.red.rd.lt;have eL:LL=L:=LP'.uniq LP rT;subst eL;refine (sB p _ _ _ rfl rfl (.of ep) rfl (ce l (a7 LL) rfl (.inl (.of el)) ?_));refine (pi _ _ rfl rfl _ rfl (u8 tt bz.length m vt ?_ (jv _ _ et) Lx ⋯ (λv hv=>?_) (λH3 s3=>(ad true rfl (bQ ?_)))))
 ·have eM:(m:Int)-(((a7 LL).length:Nat):Int)=(bz.length:Int):=by rw [gk];lia
  dsimp only;rw [eM];rfl
 ·obtain ⟨j,hj,e⟩:=eJ.mp hv
  have j2:j<bz.length:=by lia
  obtain ⟨r,e1,us,e2,e3,_⟩:=S7 j v bz[j] (by rw [d5 hj,e]) (by simp [j2])
  exact ⟨r,us,e1,jv _ _ e2,by rw [e3];exact wv _ (aG j2)⟩
 dsimp only [eO];have gq:=jv.trans s3;have rest:∀(H4:Hp),ag H3 H4->∀(Q':VK),(∀H',ag H H'->Q' (.bl true) H')->(AY (allR K) (mS (jL (wJ K (jD 2)) (λσ=>[σ[0]?.join,σ[1]?.join]) (λx H Q=>Q true H) (IA (Qx t.bP t.fz) [] E0 (mS (jD 1) (mS (jD 2) (mS (jD 0) wQ))))) wQ)) [some (V.ref z),some (V.ref a),some (V.ref tt),some (V.int (m:Int))] H4 Q':=λH4 s4 Q' k'=>by
  have jT:=gq.trans s4;refine m7 (qF (xs:=vt) (λR h=>⟨_,rfl,tt,rfl,⟨_,.of (jT _ _ et)⟩,h _ _ (ag.refl _) (eR (.of (jT _ _ et)))⟩) (cR ⋯) (λ_ i y _=>y=.bl true) (λ_ _ _ _ _ _ h _ _=>h) ?_ ?_)
  ·intro D i v hi Hc R' sc _ kc
   have i1:i<vt.length:=(aL.mp hi).1;have i2:i<bz.length:=by lia
   obtain ⟨r,rfl,cZ⟩:=S7 i v bz[i] hi (by simp [i2])
   have qj:=jT.trans sc;rcases cs with ⟨e,_⟩ | ⟨mv,_⟩
   ·rw [e] at i2
    exact absurd i2 (mG _)
   ·have mo:=mv.ok i i2
    rw [getD_at i2] at mo;exact (S' _ rfl _ rfl _ rfl z a r (zn q Ba Bo E' F m aa (SL (bz[i]) rfl (hz.mono qj) hq (hA.mono qj) (cZ.mono qj) sz (wv _ (aG i2)) mo hF ⟨mv.xA _ (aG i2),λH' s'=>kc _ H' s' rfl⟩)))
  ·intro D ys Hc sc d_ hP eD
   refine ⟨D,List.replicate ys.length true,rfl,.of (by rw [eD];exact eW _ (eW _ (pQ hP))),?_⟩
   rw [qJ];exact k' Hc (jT.trans sc)
 rcases id cs with ⟨e,full⟩ | ⟨mv,nf,P2,G2,oJ⟩
 ·subst e
  have ev:vt=[]:=jB.mp Lx;subst ev;refine (db _ rfl _ rfl (.inr (ce z tt rfl (gq _ _ et) (λp' r' l' H4 s4 mM Ly jS=>?_))));refine (sB p' _ _ _ rfl rfl (.of mM) rfl (ce l' [] rfl (.inl (.of jS)) (f8 _ rfl tt [] rfl (.inl (.of (s4 _ _ (gq _ _ et)))) rfl true (by rfl) (dW (rest H4 s4 _ λH' s'=>k H' s')))))
 ·have alK:=oJ.cO
  refine (db _ rfl _ rfl (.inl (zn z tt q Ba P2 m bz (SL G2 rfl (hz.mono gq) hq (hV.mono gq) oJ.b1 oJ.b2 oJ.n1 oJ.cO oJ.bY ⟨⋯,oJ.row,oJ.g,oJ.pr,oJ.mid,λp' r' l' H4 A' M' c' L' Ql Qm s4 mM jS hR' R'=>?_⟩))))
  have e:=R'.moves hq mv;have eN:(a7 L').length=vt.length:=by rw [gk,e,Lx]
  refine (sB p' _ _ _ rfl rfl (.of mM) rfl (ce l' (a7 L') rfl (.inl (.of jS)) (f8 _ rfl tt vt rfl (.inl (.of (s4 _ _ (gq _ _ et)))) rfl true (by rw [eZ,cF ⋯]) (dW (rest H4 s4 _ λH' s'=>k H' s')))))
theorem acP:bw ["row","places"] ["row","places"] (aR F8):=bH
theorem Lz(T:Txt K mg t):aO P w K mg base bO 1 t.uK t.yu ["row","places"] aab:=by
 have S:=acP;refine T.rj.bV S (λ_ _ _ _ H _ _ _ hr h=>?_);intros amE h a am29 l xs L rfl ea el hL GX k;refine (ad _ (ar (aJ (dA (N:=["place","row"]) (ρ:=(λσ=>[σ[0]?.join])) (cP [0] rfl) rfl (cY (pv 1)) (λ_ _ _=>.nil) (λ_ _ _=>(aA (ip (K:=K)) (pv 1) (pv 0)))))) ?_);refine gy (fc (xs:=a7 L) (λR h=>⟨_,rfl,l,rfl,⟨_,.of el⟩,h _ _ (ag.refl _) (eR (.of el))⟩) (by rw [gk];exact cR ⋯) (λD i y Hx=>y=xs.getD (L.getD i 0) .bg) (λ_ _ _ _ _ _ h _ _=>h) ?_ ?_)
 ·intro D i v hi Hc R sc _ kc
  have i1:i<L.length:=by rw [<-gk];exact (aL.mp hi).1
  have ev:v=.int ((L.getD i 0:Nat):Int):=by unfold a7 at hi;rw [bu,bu] at hi;simp [i1] at hi;rw [getD_at i1];exact hi.symm
  subst ev;have li:L.getD i 0<xs.length:=hL _ (by rw [getD_at i1];exact aG _)
  refine ⟨_,rfl,_,rfl,a,xs,_,_,rfl,rfl,.of (sc _ _ ea),cK (j:=L.getD i 0) (d5 li),kc _ Hc (ag.refl _) ?_⟩;generalize L.getD i 0=c at li;simp [li]
 ·intro D ys Hc nD sc d_ hP eD
  rw [gk] at d_;have e:ys=L.map λi=>xs.getD i .bg:=by
   refine wo (by simp [d_]) λj h1 h2=>?_
   have j1:j<L.length:=by lia
   have:=hP j ys[j] (by simp [h1])
   rw [this,iU,getD_at j1]
  rw [e] at eD;exact k D Hc sc nD eD
theorem S8(T:Txt K mg t):aO P w K mg base (eF P w) 2 t.qW t.t7 ["table"] aac:=by
 have S:=SD;refine T.oy.d8 S (λ_ _ _ _ H _ _ _ hr h L=>?_);intros am7 h a rfl ea k
 refine (ad _ (ak (bC (bK fX (aw (G6 T) hr T.lh T.iN.kp T.lg (j9 L) (ae (pv 0) af)) (aZ cm rfl T.b5 b6 (ae (pv 0) af))) (ar (mV L rfl mK T.qe rfl T.qd (ae gd af))) bG)
  (ar (aJ (aZ cm rfl T.b5 b6 (ae (pv 0) af))))) ?_)
 refine (ad _ rfl (am a rfl ea (f8 _ rfl a [] rfl (.inl (.of ea)) rfl false rfl (bQ ?_))));dsimp only [eO];exact (dL _ rfl a [] rfl (.inl (.of ea)) k)
theorem acQ(T:Txt K mg t):aO P w K mg base (eF P w) 6 t.qZ t.uA ["world","table","other"] aad:=by
 have S:=SR;refine T.rh.d8 S (λ_ _ _ _ H vs _ _ hr h L=>?_);intros am20 h z a b rfl ea eb k;have gD:=hr.units
 refine (ad _ (ak (d4 3 S.nd (aw (S8 T) hr T.BL T.oy.kp T.BK (j9 L) (ae (pv 1) af)))
  (ak (putL 4 S.nd (aw (Lw T) hr T.oB T.jP.kp T.oA aF (ae (pv 0) (ae (aw (GR T) hr T.BU T.p_.kp T.BS aF (ae (pv 1) (ae (pv 2) af))) af))))
  (ak (bC (bK (PH gD) (aA bE (pv 4) aj) (mU (OH rfl) rfl T.nB boot_list (ae (mU OG rfl T.fg OJ (ae (pv 3) af)) af))) (ar (aJ nU)) bG)
  (ar (aJ (dA (N:=["row","n"]) (ρ:=(λσ=>[σ[3]?.join])) (cP [3] rfl) rfl (cY (aA bE (pv 4) aj)) (λ_ _ _=>.nil) (λ_ _ _=>(DN (PQ (K:=K)) (pv 0) (DM (pv 1)) DL)))))))) ?_)
 refine (ad _ rfl (am a rfl ea ?_));dsimp only [aN];simp only [L2.start,df,iD,gE,gZ,List.replicate,g_,gM,aX,aY];have t0:∀{x:Addr},H x=some (.lst [])->aU 0 H 0 x []:=λe=>(am [] e rfl (λi v ps h=>by simp at h))
 refine (sK _ rfl _ rfl _ rfl (zn a b 0 0 [] [] 0 (SL 0 rfl (t0 ea) (t0 eb) rfl ∅ (λps h=>by cases h) (λps h=>by cases h) ∅ ∅ (λr H2 s2 nr hT=>?_))))
 have er:H2 r=some (.lst []):=by intros am7 hT vs e l _;rw [e,jB.mp l]
 refine (ce z r rfl er (λp rr l H3 s3 ep err el=>?_));dsimp only [aN];simp only [aX,aY];have gq:=s2.trans s3;refine (nw _ rfl p _ _ _ rfl rfl (.of ep) rfl (db _ rfl (0:Int) rfl (λpr Lg=>?_)));have s4:ag H3 (upd H3 pr (.jC 0 (0:Int))):=a9 Lg;have Cd:upd H3 pr (.jC 0 (0:Int)) pr=some (.jC 0 (0:Int)):=aK;generalize upd H3 pr (.jC 0 (0:Int))=H4 at s4 Cd ⊢;refine (gl pr 0 rfl Cd ⋯ (λlr Lh=>?_))
 have s5:ag H4 (upd H4 lr (.lst (jM 0))):=a9 Lh;have mC:upd H4 lr (.lst (jM 0)) lr=some (.lst (jM 0)):=aK;generalize upd H4 lr (.lst (jM 0))=H5 at s5 mC ⊢;rw [P1] at mC;have kv:=s4.trans s5;refine (wE l lr [] [] rfl rfl (.of (kv _ _ el)) (.of mC) _ rfl (bQ ?_));dsimp only [eO];refine gy (fc (xs:=[]) (λR h=>(nw _ rfl p _ _ _ rfl rfl (.of (kv _ _ ep)) rfl (am rr rfl ⟨_,.of (kv _ _ err)⟩ (h _ _ (ag.refl _) (eR (.of (kv _ _ err))))))) ∅ (λ_ _ _ _=>True) (λ_ _ _ _ _ _ _ _ _=>trivial) (λD i v hi=>by simp at hi) ?_)
 intro D ys H6 nD s6 dN _ eD;have ey:ys=[]:=jB.mp dN;subst ey;exact k D H6 (gq.trans (kv.trans s6)) (none_of (gq.trans kv) nD) eD
theorem acR(T:Txt K mg t):aO P w K mg base (eF P w) 7 t.q5 t.uB ["world","table"] (aae t.bP):=by
 have S:=SS;refine T.vy.d8 S (λ_ _ _ _ H vs _ _ hr h L=>?_);intros am1 h z a am14 q rfl hz hq ea k;refine (ad _ (ar (aJ (aw (acQ T) hr T.KD T.rh.kp T.KC (j9 L) (ae (pv 0) (ae (pv 1) (ae (aw (K6 T) hr T.GH T.rg.kp T.GG aF (ae (pv 0) (ae (aw (S8 T) hr T.BL T.oy.kp T.BK (j9 L) (ae (pv 1) af)) af))) af)))))) ?_);refine (ad _ rfl (sK _ rfl _ rfl _ rfl (am a rfl ea (o0 z q 0 rfl hz hq ∅ (λr H2 s2 nr hU=>?_)))))
 have er:H2 r=some (.lst []):=by
  intros am7 hU vs e l _;have ev:vs=[]:=jB.mp (by simpa using l)
  rw [e,ev]
 exact ⟨z,a,r,rfl,s2 _ _ ea,er,λr' H3 s3 nC e3=>k r' H3 (s2.trans s3) (none_of s2 nC) e3⟩
theorem acS:bw ["world","table","told","right","across","left","down","back"] ["world","table"] (aR F9):=bH
theorem acT(T:Txt K mg t):aO P w K mg base bO 8 t.uM t.yv ["world","table"] (aag t.bP t.fz):=by
 have S:=acS;have Co:=My.aO.or (zP (P:=P) (w:=w) (base:=base) T) (Lw (P:=P) (w:=w) (base:=base) T);have acU:=My.aO.or (abK (P:=P) (w:=w) (base:=base) T) (acR (P:=P) (w:=w) (base:=base) T);refine T.zr.bV S (λ_ _ _ _ H vs _ _ hr h=>?_);intros amE h z am21 a q B E' F m am35 aa rfl hz hq hA S9 B2 n1 Ci hm am32 Cj hE hF E1 E2 F1 F2 ubn LA G7 k
 refine (ad _ (ak (putL 2 S.nd (aw Co hr T.oB T.jP.kp T.oA aF (ae (pv 0) (ae (pv 1) af))))
  (ak (putL 3 S.nd (aA bE (pv 2) aj))
  (ak (d4 4 S.nd (aA bE (pv 2) aj))
  (ak (pK (i0:=5) (N:=["row","across"]) (ρ:=(λσ=>[σ[4]?.join])) (cP [4] rfl) rfl S.nd rfl (Or.inl rfl) (cY (pv 1)) (λ_ _ _=>.nil) (λ_ _ _=>(aw (Lz T) hr T.GJ T.rj.kp T.GI aF (ae (pv 0) (ae (pv 1) af)))))
  (ak (putL 6 S.nd (aA bE (aw Co hr T.oB T.jP.kp T.oA aF (ae (pv 0) (ae (aw (GS T) hr T.BP T.oz.kp T.BO aF (ae (pv 5) af)) af))) aj))
  (ak (putL 7 S.nd (aw acU hr T.RC T.vy.kp T.RB e9 (ae (pv 0) (ae (aw (Lz T) hr T.GJ T.rj.kp T.GI aF (ae (pv 5) (ae (pv 6) af))) af))))
  (ar (aJ (gw (ae (pv 5) (ae (pv 3) (ae (pv 6) (ae (pv 4) (ae (pv 7) af)))))))))))))) ?_)
 have B1:1000<=B:=au ∅ S9
 have jt:∀ps∈aa,∀p∈ps,aC q p.2:=λps h1 p h2=>(hA.nums hq ps h1 p h2).2.1;have rT:=hA.rep hq rfl hm;have cO:aa.length<=40:=by lia
 refine (db _ rfl _ rfl (.inl (zn z a q B (E' ^ aa.length) m aa (SL (λ_=>E') rfl hz hq hA B1 B2 n1 cO hm ⟨⋯,λi hi=>by rw [getD_at hi];exact hE _ (aG _),λ_=>⟨E1,E2⟩,jz (E6 _ _),ubn _ (aP _),λp rr l H1 AA M c L last ai s1 ep el hR R=>?_⟩))))
 have hL:∀x∈L,x<m:=R.red.rd.lt;have lL:=R.red.rd.len;have Lm:L.length<=m:=by have:=xC R.red.rd.up hL;lia
 have kr:∀ps∈ai,∀p∈ps,aC q p.2:=λps h1 p h2=>(hR.nums hq ps h1 p h2).2.1;have LP:=R.EV hq rfl rfl hm (λ_ _ _ _=>rfl) (aP _) jt hL;dsimp only [aN];simp only [L2.start,df,iD,gE,gZ,List.replicate,g_,gM,aX,aY];refine (nw _ rfl p _ _ _ rfl rfl (.of ep) rfl ?_);dsimp only [aN];simp only [aX,aY];refine (nw _ rfl p _ _ _ rfl rfl (.of ep) rfl ?_);dsimp only [aN];simp only [aX,aY];have q'9:=id hA;intros am7 q'9 vs ea lv fv;refine fY (gx (fc (xs:=vs) (λR h=>(ad _ rfl (am a rfl ⟨_,.of (s1 _ _ ea)⟩ (h _ _ (ag.refl _) (eR (.of (s1 _ _ ea))))))) (by rw [lv];exact cR ⋯) (λD i y Hx=>∃x:Addr,y=.ref x/\x≠D/\aM B Hx q x (L.map λc=>(aa.getD i []).getD c o1)) (λD i y Ha Hb ys ⟨x,h1,h2,ws,e1,e2,e3⟩ e f=>⟨x,h1,h2,ws,f _ _ h2 e1,e2,λj v p x y=>(e3 j v p x y).cC e f⟩) ?_ ?_))
 ·intro D i v hi Hc R' sc ⟨zs,eD⟩ kc
  have i1:i<aa.length:=by rw [<-lv];exact (aL.mp hi).1
  obtain ⟨r,rfl,xs,ex,lx,fx⟩:=fv i v aa[i] hi (by simp [i1])
  have lm:=hm _ (aG i1);have qk:=s1.trans sc;refine (db _ rfl _ rfl (u8 r l xs L rfl (qk _ _ ex) (sc _ _ el) (λc hc=>by rw [lx,lm];exact hL c hc) ⋯ (λb H' s' nb eb=>kc _ H' s' (am b rfl (λe=>by rw [e,eD] at nb;cases nb) ?_))))
  rw [getD_at i1];exact QG eb lx (λj v p h1 h2=>(fx j v p h1 h2).mono (qk.trans s')) λc hc=>by rw [lm];exact hL c hc
 intro lf ys H2 nlf s2 dN Lo S_;have jv:=s1.trans s2;have vH:aU B H2 q lf (bW L aa):=(am ys S_ (by rw [dN,lv,ng]) (λi v ps h1 h2=>by
  obtain ⟨x,e1,_,e3⟩:=Lo i v h1;have i1:i<aa.length:=by rw [<-ng (L:=L)];exact (aL.mp h2).1
  unfold bW at h2;rw [bu,d5 i1] at h2;cases h2;rw [getD_at i1] at e3;exact (ad x e1 e3)))
 dsimp only [aN];simp only [aX,aY];have lP:(bW L aa).length=aa.length:=ng;refine (SB _ rfl _ rfl lf q (wP B (bW L aa) L.length rfl vH ⋯ ⋯ qT ⋯ (λcs H3 s3 ncs hC=>?_)))
 have gq:=jv.trans s3;have lC:(bL L.length (bW L aa)).length=L.length:=gi _ _;have wC:∀ps∈bL L.length (bW L aa),ps.length=aa.length:=λps hp=>by rw [BF ps hp,lP]
 have eC:∀i,i<L.length->bj q F ((bL L.length (bW L aa)).getD i []):=λi hi=>by
  have lm:L.getD i 0<m:=hL _ (by rw [getD_at hi];exact aG _)
  have e:(bL L.length (bW L aa)).getD i []=(bL m aa).getD (L.getD i 0) []:=by
   rw [k_ hi,k_ lm];unfold bW;rw [AG];refine wk λps _=>?_;show (L.map λc=>ps.getD c o1).getD i (0,1)=ps.getD (L.getD i 0) (0,1);rw [getD_at (by simpa using hi),iU,getD_at hi]
   rfl
  rw [e];have lm':L.getD i 0<(bL m aa).length:=by rw [gi];exact lm
  rw [getD_at lm'];exact hF _ (aG _)
 have rE:∀ps∈ai,bj q (aa.length*(br aa.length*E' ^ aa.length)) ps:=λps hp=>by
  obtain ⟨j,hj,e⟩:=eJ.mp hp;have z:=cJ.PY hq (n:=0) R (λps h1 p h2=>(hR.nums hq ps h1 p h2).1) (j:=j) (by rw [<-R.len];exact hj)
  rw [show (ai.map λps=>ps.drop 0)=ai by simp,getD_at hj,e] at z
  exact z
 have cE:∀ps∈bL m ai,bj q (aa.length*(br aa.length*E' ^ aa.length)) ps:=λps hp=>by unfold bL at hp;obtain ⟨k',dC,e⟩:=fI.mp hp;rw [<-e];exact R.Qa hq (λps h1 p h2=>(hR.nums hq ps h1 p h2).1) (gs.mp dC)
 have rM:∀T F R' LB,cS q aa.length m (atT aa) T F->cS q L.length m (atT ai) R' LB->∀t k,t<aa.length->k<m->Cg q (ah L.length λj=>T t (L.getD j 0)*R' j k) (T t k*LB):=λT F R' LB r1 r2 t k ht hk=>R.QE hq rfl hm jt kr r1 r2 ht hk;by_cases r0:L.length=0
 ·have eL:L=[]:=jB.mp r0
  have ecs:H3 cs=some (.lst []):=by
   obtain ⟨ws,e,l',_⟩:=id hC;have ev:ws=[]:=jB.mp (by rw [l',lC];exact r0)
   rw [e,ev]
  refine .inr (ce z cs rfl ecs (λp' r' l' H4 s4 mM Ly jS=>?_));refine (sB p' _ _ _ rfl rfl (.of mM) rfl ?_);dsimp only [aN];simp only [aX,aY];have nE:=s3.trans s4;refine (sK _ rfl _ rfl _ rfl (u8 lf l' ys [] rfl (nE _ _ S_) jS (λi hi=>by cases hi) ∅ (λb H5 s5 nb eb=>?_)))
  have qi:=nE.trans s5;have lG:=jv.trans qi;refine .inr (o0 z b q rfl (hz.mono lG) hq eb (λbk H6 s6 nbk ebk=>?_));have Cp:=qi.trans s6;have ql:=jv.trans Cp;dsimp only [aN];simp only [aX,aY];refine (ad _ rfl (sK _ rfl _ rfl _ rfl (am _ rfl (by show 5<=sizeLine;decide) (λpt LC=>?_))))
  have sp:=a9 (o:=.tup [.ref lf,.ref rr,.ref l',.ref l,.ref bk]) LC;have vI:=Cp.trans sp;refine k pt lf rr l' l bk L [] ai [] _ (ql.trans sp) aK (vI _ _ (s2 _ _ el)) (sp _ _ (s6 _ _ (s5 _ _ jS))) (vH.mono vI) (hR.mono (s2.trans vI)) (am [] (sp _ _ ebk) rfl (λi v ps h=>by simp at h)) LP lL (by rw [r0];rfl) List.Pairwise.nil (λd hd=>by cases hd) R.len R.bY (by rw [r0];rfl) (λps hp=>by cases hp) rM (λne=>absurd r0 ne) rE (λps hp=>by cases hp) cE (λps hp=>by rw [r0] at hp;cases hp)
 ·refine .inl (zn z cs q B (F ^ L.length) aa.length (bL L.length (bW L aa)) (SL (λ_=>F) rfl (hz.mono gq) hq hC B1 B2 ⋯ ⋯ wC ⟨⋯,λi hi=>eC i ⋯,λ_=>⟨F1,F2⟩,by rw [lC];exact jz (E6 _ _),by rw [lC];exact LA _ Lm,λp' r' l' H4 A2 M2 c2 D J5 xF s4 mM jS G8 R2=>?_⟩))
  have p4:∀ps∈bL L.length (bW L aa),∀p∈ps,aC q p.2:=λps h1 p h2=>(hC.nums hq ps h1 p h2).2.1;have J6:∀ps∈xF,∀p∈ps,aC q p.2:=λps h1 p h2=>(G8.nums hq ps h1 p h2).2.1;have dl:=R.QF hq R2 rfl hm jt p4 rT;have hD:∀d∈D,d<aa.length:=R2.red.rd.lt;have r2:=G8.rep hq R2.len R2.bY;refine (sB p' _ _ _ rfl rfl (.of mM) rfl ?_);dsimp only [aN];simp only [aX,aY];have nE:=s3.trans s4;obtain ⟨zO,acZ,LD,fys⟩:=id vH;refine (sK _ rfl _ rfl _ rfl (u8 lf l' zO D rfl (nE _ _ acZ) jS (λi hi=>by rw [LD,lP];exact hD i hi) ⋯ (λb H5 s5 nb eb=>?_)))
  have qi:=nE.trans s5;have lG:=jv.trans qi;have hS:aU B H5 q b (d9 D (bW L aa)):=aaf eb LD (λi v ps h1 h2=>by obtain ⟨r,e,h⟩:=fys i v ps h1 h2;exact ⟨r,e,h.mono qi⟩) λi hi=>by rw [lP];exact hD i hi
  have lS:(d9 D (bW L aa)).length=L.length:=by rw [xD,dl]
  have wS:∀ps∈d9 D (bW L aa),ps.length=L.length:=J4 qT λi hi=>by rw [lP];exact hD i hi
  refine .inl (SC z b q B L.length (SL (d9 D (bW L aa)) rfl (hz.mono lG) hq hS S9 B2 ⋯ ⋯ wS ⟨λne=>absurd lS.symm ne,λ_=>⟨E' ^ L.length,λ_=>E',λi hi=>?_,λ_=>⟨E1,E2⟩,by rw [lS];exact jz (E6 _ _),by rw [lS];exact G7 _ Lm,λJI=>(R.aaa hq R2 rfl hm jt p4 J6 rT r2 JI).elim,λbk H6 cU s6 hFs nF wfs inv fE fC=>?_⟩⟩))
  ·have i1:i<D.length:=by lia
   have d1:D.getD i 0<aa.length:=hD _ (by rw [getD_at i1];exact aG _)
   rw [E3 i1,BE d1];refine QH ?_ λc hc=>?_;·rw [getD_at d1];exact hE _ (aG _)
   ·rw [getD_at d1,hm _ (aG _)];exact hL c hc
  ·have Cp:=qi.trans s6
   have ql:=jv.trans Cp;dsimp only [aN];simp only [aX,aY];refine (ad _ rfl (sK _ rfl _ rfl _ rfl (am _ rfl (by show 5<=sizeLine;decide) (λpt LC=>?_))))
   have sp:=a9 (o:=.tup [.ref lf,.ref rr,.ref l',.ref l,.ref bk]) LC;have vI:=Cp.trans sp;have hFb:aU (L.length*(br L.length*E' ^ L.length)) H6 q bk cU:=by intros am9 hFs ws e1 e2 e3 e4;exact (am ws e1 e2 (λi v ps h1 h2=>by obtain ⟨x,f1,_,_,f4⟩:=e4 i v ps h1 h2;exact (ad x f1 f4)))
   refine k pt lf rr l' l bk L D ai cU _ (ql.trans sp) aK (vI _ _ (s2 _ _ el)) (sp _ _ (s6 _ _ (s5 _ _ jS))) (vH.mono vI) (hR.mono (s2.trans vI)) (hFb.mono sp) LP lL dl R2.red.rd.up hD R.len R.bY nF wfs rM (λ_=>inv) rE (λps hp=>?_) cE (λps hp=>by unfold bL at hp;obtain ⟨k',dC,e⟩:=fI.mp hp;rw [<-e];exact fC k' (gs.mp dC))
   obtain ⟨j,hj,e⟩:=eJ.mp hp;have z:=fE j ⋯
   rw [getD_at hj,e] at z;exact z
theorem ac4:bw ["world","left","right","wide"] ["world","left","right","wide"] (aR F_):=bH
theorem ac5(T:Txt K mg t):aO P w K mg base bO 7 t.uN t.yw ["world","left","right","wide"] (aaj t.bP):=by
 have S:=ac4;refine T.zt.bV S (λ_ _ _ _ H vs _ _ hr h=>?_);intros amE h z am34 a o q Ba Bo E' F r m aa am35 ai rfl hz hq hA hO a1 a2 i7 o2 am32 E2 F2 EF cO zX fL lr wr hp hc k;refine (ad _ (ar (aJ (aw (G3 T) hr T.BR T.p9.kp T.BQ aF (ae (pv 0) (ae (pv 1) (ae (dA (N:=["place","right"]) (ρ:=(λσ=>[σ[2]?.join])) (cP [2] rfl) rfl (gF rfl T.fg (ae (pv 3) af)) (λ_ _ _=>.nil) (λ_ _ _=>(aw (K7 T) hr T.GF T.rf.kp T.GD aF (ae (pv 1) (ae (pv 0) af))))) af)))))) ?_);refine (db _ rfl _ rfl (fc (xs:=(List.range m).map λi:Nat=>V.int (0+(i:Int))) (λR h=>⟨_,rfl,(m:Int),rfl,⋯,⋯,h _ _ (ag.refl _) (by rw [dr];exact mi)⟩) (by rw [aV,gc];exact cR ⋯) (λD i y Hx=>∃r,y=.ref r/\r≠D/\aM Bo Hx q r (ai.map λps:List (Int×Int)=>ps.getD i ((0:Int),(1:Int)))) (λD i y Ha Hb ys ⟨r,h1,h2,vs,e1,e2,e3⟩ e f=>⟨r,h1,h2,vs,f _ _ h2 e1,e2,λj v p x y=>(e3 j v p x y).cC e f⟩) ?_ ?_))
 ·intro D i v hi Hc R sc ⟨zs,eD⟩ kc
  obtain ⟨a_,rfl⟩:=pR hi;exact (SB _ rfl _ rfl o q (u8 Bo i ai m rfl (hO.mono sc) zX wr a_ (λb H' s' nb hb=>kc _ H' s' (am b rfl (λz=>by (rw [z,eD] at nb;cases nb)) hb))))
 ·intro D ys Hc nD sc d_ hP eD
  rw [aV,gc] at d_;have hC:aU Bo Hc q D (bL m ai):=(am ys eD (by rw [d_,gi]) (λi v ps h1 h2=>by
   obtain ⟨r,e1,_,e3⟩:=hP i v h1;have a_:i<m:=by rw [<-gi m ai];exact (aL.mp h2).1
   unfold bL at h2;rw [bu] at h2;simp [a_] at h2;subst h2;exact (ad r e1 e3)))
  refine (xL z a (zn D q Ba Bo E' F aa (SL (bL m ai) rfl (hz.mono sc) hq (hA.mono sc) hC a1 a2 i7 o2 ⟨E2,F2,EF,cO,by rw [gi];exact fL,λps h=>⟨by rw [(hp ps h).1];lia,(hp ps h).2⟩,λps h=>⟨by rw [BF ps h];exact zX,hc ps h⟩,λb H' vs s' nb eb lb hb=>k b H' vs (sc.trans s') (none_of sc nb) eb lb λi v ps h1 h2=>?_⟩)))
  obtain ⟨r',e1,e2,e3⟩:=hb i v ps h1 h2;exact (am r' e1 (none_of sc e2) e3)
theorem ac6:bw ["things"] ["things"] (aR F6):=bH
theorem ac7(T:Txt K mg t):aO P w K mg base bO 1 t.uI t.yr ["things"] aah:=by
 have S:=ac6;refine T.zp.bV S (λ_ _ _ _ H _ _ _ hr h=>?_);intros amE h l am14 L rfl el GX up k;refine (ad _ (ar (aJ (aZ (pC (K:=K) rfl) rfl T.oF boot_all (ae (pM (N:=["one","other"]) (ρ:=(λσ=>[])) (oa [] rfl) rfl (kW rfl T.ku (ae (pv 0) (ae (DN IG (pv 0) (DM aj) DL) af))) (λ_ _ _=>.nil) (λ_ _ _=>(e8 jg (pv 0) (pv 1)))) af)))) ?_);refine gy (m7 (xo (Z:=λzs _=>zs=(a7 L).zip ((a7 L).drop 1)) (λR h=>(ad _ rfl (tz _ rfl _ rfl l (a7 L) rfl (.of el) (λr nr=>by
  have ec:kR (a7 L) (some (1:Int)) none=(a7 L).drop 1\/L=[]:=by
   by_cases y:L=[];·exact .inr y
   ·have:0<L.length:=List.length_pos_iff.mpr y
    exact .inl (PZ _ 1 (by rw [gk];lia))
  have ec:kR (a7 L) (some (1:Int)) none=(a7 L).drop 1:=ec.elim id λy=>by subst y;rfl
  rw [ec];have sr:ag H (upd H r (.lst ((a7 L).drop 1))):=a9 nr;exact (gl l r rfl ⟨_,.of (sr _ _ el)⟩ ⟨_,.of aK⟩ (h _ _ _ sr (m6 (.of (sr _ _ el)) (.of aK)) (cR (by rw [jX,gk];lia)) rfl)))))) (λ_ _ y _=>y=.bl true) (λ_ _ _ _ _ _ h _ _=>h) ?_ ?_))
 ·rintro zs H1 rfl s1 D j x y fS Hc R sc _ kc
  obtain ⟨h1,h2⟩:=lR.mp fS;have j2:1+j<L.length:=by have:=(aL.mp h2).1;simp [a7] at this;lia
  have j1:j<L.length:=by lia
  have ex:x=.int ((L.getD j 0:Nat):Int):=by unfold a7 at h1;rw [bu,bu] at h1;simp [j1] at h1;rw [getD_at j1];exact h1.symm
  have ey:y=.int ((L.getD (1+j) 0:Nat):Int):=by unfold a7 at h2;rw [wt,bu,bu] at h2;simp [j2] at h2;rw [getD_at j2];exact h2.symm
  subst ex ey;have lt:L.getD j 0<L.getD (1+j) 0:=by rw [getD_at j1,getD_at j2];exact HZ.mp up j (1+j) j1 j2 ⋯
  refine (tz _ rfl _ rfl _ _ rfl rfl ?_);dsimp only;rw [cF ⋯]
  exact kc _ Hc (ag.refl _) rfl
 ·rintro zs H1 rfl s1 D ys Hc nD sc d_ hP eD
  refine ⟨D,List.replicate ys.length true,rfl,.of (by rw [eD];exact eW _ (eW _ (pQ hP))),?_⟩
  rw [qJ];exact k Hc (s1.trans sc)
theorem ac8:bw ["places","many","bound"] ["places","many","bound"] (aR Ga):=bH
theorem Ta(T:Txt K mg t):aO P w K mg base bO 2 t.uO t.yy ["places","many","bound"] aai:=by
 have S:=ac8;refine T.vB.bV S (λ_ _ _ _ H _ _ _ hr h=>?_);intros am24 h l L n b rfl el lL am4 cO up hL k;refine (ad _ (ar (aJ (iF (e8 eE (aZ cm rfl T.b5 b6 (ae (pv 0) af)) (pv 1)) (iF (aw (ac7 T) hr T.RK T.zp.kp T.RJ aF (ae (pv 0) af)) (jE (aZ (pC (K:=K) rfl) rfl T.oF boot_all (ae (dA (N:=["place","bound"]) (ρ:=(λσ=>[σ[2]?.join])) (cP [2] rfl) rfl (cY (pv 0)) (λ_ _ _=>.nil) (λ_ _ _=>(DH wM jg aj (pv 0) (pv 1)))) af))))))) ?_);refine (dL _ rfl l (a7 L) rfl (.inl (.of el)) (gt _ rfl rfl true (by rw [eZ,cF (by rw [gk];lia)]) (dW ?_)))
 refine (on _ rfl l L rfl el ⋯ ⟨up,λH1 s1=>(ad true rfl (dW ?_))⟩)
 refine m7 (qF (xs:=a7 L) (λR h=>⟨_,rfl,l,rfl,⟨_,.of (s1 _ _ el)⟩,h _ _ (ag.refl _) (eR (.of (s1 _ _ el)))⟩) (by rw [gk];exact cR ⋯) (λ_ i y _=>y=.bl true) (λ_ _ _ _ _ _ h _ _=>h) ?_ ?_)
 ·intro D i v hi Hc R sc _ kc
  have i1:i<L.length:=by rw [<-gk];exact (aL.mp hi).1
  have ev:v=.int ((L[i]:Nat):Int):=by unfold a7 at hi;rw [bu,bu] at hi;simp [i1] at hi;exact hi.symm
  subst ev;have lb:=hL _ (aG i1);refine (io _ rfl _ _ rfl rfl true (by (dsimp only;rw [cF ⋯])) (dW ?_))
  refine (dL _ rfl _ _ rfl rfl ?_);dsimp only;rw [cF ⋯]
  exact kc _ Hc (ag.refl _) rfl
 ·intro D ys Hc sc d_ hP eD
  refine ⟨D,List.replicate ys.length true,rfl,.of (by rw [eD];exact eW _ (eW _ (pQ hP))),?_⟩
  rw [qJ];exact k Hc (s1.trans sc)
theorem ac9(T:Txt K mg t):aO P w K mg base bO 2 t.qX t.ua ["table"] aak:=by
 have S:=SI;refine T.oz.bV S (λ_ _ _ _ H _ _ _ hr h=>?_);intros am7 h a rfl ea k;refine (ad _ (ar (aJ (dA (N:=["place","table"]) (ρ:=(λσ=>[σ[0]?.join])) (cP [0] rfl) rfl (gF rfl T.fg (ae (aw (G6 T) hr T.lh T.iN.kp T.lg e9 (ae (pv 0) af)) af)) (λ_ _ _=>.nil) (λ_ _ _=>(aw (K7 T) hr T.GF T.rf.kp T.GD aF (ae (pv 1) (ae (pv 0) af))))))) ?_);refine gy (fc (xs:=[]) (λR h=>⟨_,rfl,a,rfl,ea,(0:Int),rfl,∅,∅,h _ _ (ag.refl _) (mi (n:=0))⟩) ∅ (λ_ _ _ _=>True) (λ_ _ _ _ _ _ _ _ _=>trivial) (λD i v hi=>by simp at hi) ?_)
 intro D ys Hc nD sc d_ _ eD;have ey:ys=[]:=jB.mp d_;subst ey;exact k D Hc sc nD eD
theorem ac_:bw ["world","one","other"] ["world","one","other"] (aR FH):=bH
theorem ada(T:Txt K mg t):aO P w K mg base (eF P w) 7 t.ui t.x9 ["world","one","other"] (aal t.bP):=by
 have S:=ac_;have adb:=My.aO.or (qf (P:=P) (w:=w) (base:=base) T) (G6 (P:=P) (w:=w) (base:=base) T);have ade:=My.aO.or (GS (P:=P) (w:=w) (base:=base) T) (ac9 (P:=P) (w:=w) (base:=base) T);refine T.zg.d8 S (λ_ _ _ _ H vs Q _ hr h L=>?_);intros am34 h z a o q Ba Bo E' F r aa am35 ai rfl hz hq hA hO a1 a2 i7 o2 am31 E2 F2 EF zX lp lr hp wr hc k
 refine (ad _ (ak (bC (bK fX (aw adb hr T.lh T.iN.kp T.lg (j9 L) (ae (pv 1) af)) (aZ cm rfl T.b5 b6 (ae (pv 2) af))) (ar (mV L rfl mK T.qe rfl T.qd (ae gd af))) bG)
  (ar (aJ (aw (G3 T) hr T.BR T.p9.kp T.BQ aF (ae (pv 0) (ae (pv 1) (ae (aw ade hr T.BP T.oz.kp T.BO aF (ae (pv 2) af)) af))))))) ?_)
 have q'19:=id hA;intros am7 q'19 va ea Lv fva;have q'20:=id hO;intros am7 q'20 vo eo lvo fvo;have rest:∀(H1:Hp),ag H H1->∀(c:Addr) (H2:Hp),ag H1 H2->aU Bo H2 q c (bL r ai)->Qt t.bP [.ref z,.ref a,.ref c] H2 Q E0:=λH1 s1 c H2 s2 hC=>by
  have dD:=s1.trans s2;refine (xL z a (zn c q Ba Bo E' F aa (SL (bL r ai) rfl (hz.mono dD) hq (hA.mono dD) hC a1 a2 i7 o2 ⟨E2,F2,EF,⋯,by rw [gi];exact zX,λps h=>⟨by rw [(hp ps h).1];lia,(hp ps h).2⟩,λps h=>⟨by rw [BF ps h,lr];exact zX,hc ps h⟩,λb H' vs s' nb eb lb hb=>k b H' vs (dD.trans s') (none_of dD nb) eb lb λi v ps h1 h2=>?_⟩)))
  obtain ⟨r',e1,e2,e3⟩:=hb i v ps h1 h2;exact (am r' e1 (none_of dD e2) e3)
 by_cases r0:r=0
 ·subst r0
  have ev:va=[]:=jB.mp ⋯
  have ew:vo=[]:=jB.mp ⋯
  subst ev ew;refine (ad _ rfl (.inr (am a rfl ea (f8 _ rfl o [] rfl (.inl (.of eo)) rfl false rfl (bQ ?_)))));dsimp only [eO];refine (sK _ rfl _ rfl _ rfl (.inr (am o rfl eo (λc H2 s2 nc ec=>?_))));exact rest H (ag.refl H) c H2 s2 (am [] ec rfl (λi v ps h=>by simp at h))
 ·have f1:(!decide (V.int (r:Int)=V.int (vo.length:Int)))=false:=by rw [eZ,cF ⋯];rfl
  refine (ad _ rfl (.inl (Exists.intro a (u8 q Ba aa r rfl hA ⋯ ⋯ (λps h=>(hp ps h).1) (λH1 s1=>(f8 _ rfl o vo rfl (.inl (.of (s1 _ _ eo))) rfl false (by rw [f1]) (bQ ?_)))))))
  dsimp only [eO];refine (sK _ rfl _ rfl _ rfl (.inl (xL o q (wP Bo ai r rfl (hO.mono s1) ⋯ ⋯ wr zX (λc H2 s2 nc hC=>?_)))))
  exact rest H1 s1 c H2 s2 hC
theorem adf:bw ["world","table","paper","left","right","back","wide","many","inner"] ["world","table","paper"] (aR Gb):=bH
theorem adg(T:Txt K mg t):aO P w K mg base bO 8 t.uP t.yz ["world","table","paper"] (aam t.bP t.fz):=by
 have S:=adf;refine T.zu.bV S (λ_ _ _ _ H vs _ _ hr h=>?_);intros am34 h z a p lf rt dn ac bk q B am34 Bx By E' Fx Fy m aa ai cU L am35 D rfl hz hq hA ep nG mE vH hR am32 hF B1 B2 x1 x2 y1 y2 E2 Fx2 Fy2 am32 xE yE n1 Ci hm Cj hE LP Ln dl am32 Dup hD lr wr nF wf rM inv cx cy k;have gD:=hr.units
 refine (ad _ (ak (putL 3 S.nd (aA bE (pv 2) aj))
  (ak (putL 4 S.nd (aA bE (pv 2) aj))
  (ak (putL 5 S.nd (aA bE (pv 2) aj))
  (ak (putL 6 S.nd (aw (qf T) hr T.lh T.iN.kp T.lg e9 (ae (pv 1) af)))
  (ak (putL 7 S.nd (aZ cm rfl T.b5 b6 (ae (pv 4) af)))
  (ak (bC (PW.pt (pw_or (e7 (d7 (aw (G5 T) hr T.BN T.p8.kp T.BM aF (ae (pv 3) (ae (aZ cm rfl T.b5 b6 (ae (pv 1) af)) (ae (pv 7) af)))))) (pw_or (e7 (d7 (aw (G5 T) hr T.BN T.p8.kp T.BM aF (ae (pv 4) (ae (pv 7) (ae (pv 6) af)))))) (pw_or1 (e7 (d7 (aw (G5 T) hr T.BN T.p8.kp T.BM aF (ae (pv 5) (ae (pv 7) (ae (pv 7) af)))))))))) (ar (aJ dM)) bG)
  (ak (bC (PW.pt (pw_or (e7 (d7 (aw (Ta T) hr T.KN T.vB.kp T.KL aF (ae (aA bE (pv 2) aj) (ae (pv 7) (ae (aZ cm rfl T.b5 b6 (ae (pv 1) af)) af)))))) (pw_or1 (e7 (d7 (aw (Ta T) hr T.KN T.vB.kp T.KL aF (ae (aA bE (pv 2) aj) (ae (pv 7) (ae (pv 6) af))))))))) (ar (aJ dM)) bG)
  (ak (pK (i0:=8) (N:=["place","table","paper"]) (ρ:=(λσ=>[σ[1]?.join,σ[2]?.join])) (cP [1,2] rfl) rfl S.nd rfl (Or.inl rfl) (cY (aA bE (pv 2) aj)) (λ_ _ _=>.nil) (λ_ _ _=>(aw (Lz T) hr T.GJ T.rj.kp T.GI aF (ae (aA (ip (K:=K)) (pv 1) (pv 0)) (ae (aA (qH (K:=K)) (pv 2) aj) af)))))
  (ar (aJ (iF (e8 (Ek (n:=2) gD) (aw (ac5 T) hr T.RQ T.zt.kp T.RP aF (ae (pv 0) (ae (pv 3) (ae (pv 4) (ae (pv 6) af))))) (pv 1)) (jE (e8 (Ek (n:=2) gD) (aw (ada T) hr T.Rr T.zg.kp T.Rq e9 (ae (pv 0) (ae (pv 8) (ae (pv 5) af)))) (aw (K6 T) hr T.GH T.rg.kp T.GG aF (ae (pv 0) (ae (pv 7) af)))))))))))))))) ?_)
 have hL:=LP.2.1;have Lm:L.length<=m:=by have:=xC LP.1 hL;lia
 have lP:(bW L aa).length=aa.length:=ng;have q'22:=hA.has hm;intros am7 q'22 va ea Lv hva;have q'23:=vH.has qT;intros am7 q'23 vl el lvl hvl;have q'24:=hR.has wr;intros am7 q'24 vr er lvr hvr;have q'25:=hF.has wf;intros am7 q'25 vb eb zW hvb;refine (nw _ rfl p _ _ _ rfl rfl (.of ep) rfl ?_);dsimp only [aN];simp only [L2.start,df,iD,gE,gZ,List.replicate,g_,gM,aX,aY];refine (nw _ rfl p _ _ _ rfl rfl (.of ep) rfl ?_);dsimp only [aN];simp only [aX,aY];refine (nw _ rfl p _ _ _ rfl rfl (.of ep) rfl ?_);dsimp only [aN];simp only [aX,aY];refine (xz _ rfl a (u8 q B aa m rfl hA n1 ⋯ hm (λH1 s1=>?_)))
 dsimp only [aN];simp only [aX,aY];refine (dL _ rfl rt vr rfl (.inl (.of (s1 _ _ er))) ?_);rw [show ((vr.length:Nat):Int)=(L.length:Int) by lia]
 dsimp only [aN];simp only [aX,aY];have up:∀{H':Hp} (s':ag H H') {xs:List V} {w:Nat},(∀v∈xs,∃(r:Addr) (us:List V),v=.ref r/\H r=some (.lst us)/\us.length=w)->∀v∈xs,∃(r:Addr) (us:List V),v=.ref r/\H' r=some (.lst us)/\us.length=w:=fun{H'} s' {xs} {w} h v hv=>by obtain ⟨r,us,e1,e2,e3⟩:=h v hv;exact (ce r us e1 (s' _ _ e2) e3)
 refine (ad _ rfl (io _ rfl a va rfl (.inl (.of (s1 _ _ ea))) _ rfl (u8 lf va.length L.length vl rfl (s1 _ _ el) ⋯ ⋯ (up s1 hvl) (λH2 s2=>(ad true rfl (bQ ?_))))))
 have jv:=s1.trans s2;refine (sK _ rfl _ rfl _ rfl (u8 rt L.length m vr rfl (jv _ _ er) ⋯ ⋯ (up jv hvr) (λH3 s3=>(ad true rfl (bQ ?_)))))
 have gq:=jv.trans s3;refine (sK _ rfl _ rfl _ rfl (u8 bk L.length L.length vb rfl (gq _ _ eb) ⋯ ⋯ (up gq hvb) (λH4 s4=>(ad true rfl (bQ ?_)))))
 have jT:=gq.trans s4;dsimp only [eO];refine (nw _ rfl p _ _ _ rfl rfl (.of (jT _ _ ep)) rfl (tz _ rfl _ rfl a va rfl (.inl (.of (jT _ _ ea))) (Exists.intro dn (wP D L.length va.length rfl (jT _ _ mE) dl ⋯ Dup (λi hi=>by rw [Lv];exact hD i hi) (λH5 s5=>(ad true rfl (bQ ?_)))))))
 have lG:=jT.trans s5;refine (ad _ rfl (wE p _ _ _ rfl rfl (.of (lG _ _ ep)) rfl _ rfl (xz _ rfl ac (wP L L.length m rfl (lG _ _ nG) rfl ⋯ LP.1 hL (λH6 s6=>(ad true rfl (bQ ?_)))))))
 have ql:=lG.trans s6;dsimp only [eO];have rT:=hA.rep hq rfl hm;have jt:∀ps∈aa,∀p∈ps,aC q p.2:=λps h1 p h2=>(hA.nums hq ps h1 p h2).2.1;have q'27:=id hA;intros am7 q'27 wa GY lwa fa;have pE:∀ps∈bW L aa,ps.length=L.length/\bj q E' ps:=λps hp=>by refine ⟨qT ps hp,?_⟩;unfold bW at hp;obtain ⟨rs,h1,e⟩:=fI.mp hp;rw [<-e];exact QH (hE rs h1) λc hc=>by rw [hm rs h1];exact hL c hc
 refine fY (gx (fc (xs:=a7 D) (λR h=>(nw _ rfl p _ _ _ rfl rfl (.of (ql _ _ ep)) rfl (am dn rfl ⟨_,.of (ql _ _ mE)⟩ (h _ _ (ag.refl _) (eR (.of (ql _ _ mE))))))) (by rw [gk];exact cR ⋯) (λD' i y Hx=>∃x:Addr,y=.ref x/\x≠D'/\aM B Hx q x ((d9 D (bW L aa)).getD i [])) (λD' i y Ha Hb ys ⟨x,h1,h2,ws,e1,e2,e3⟩ e f=>⟨x,h1,h2,ws,f _ _ h2 e1,e2,λj v p x y=>(e3 j v p x y).cC e f⟩) ?_ ?_))
 ·intro D' i v hi Hc R sc ⟨zs,qg⟩ kc
  have i1:i<D.length:=by rw [<-gk];exact (aL.mp hi).1
  have ev:v=.int ((D.getD i 0:Nat):Int):=by unfold a7 at hi;rw [bu,bu] at hi;simp [i1] at hi;rw [getD_at i1];exact hi.symm
  subst ev;have di:D.getD i 0<aa.length:=hD _ (by rw [getD_at i1];exact aG _)
  have Tb:D.getD i 0<wa.length:=by lia
  have q'28:=fa (D.getD i 0) wa[D.getD i 0] aa[D.getD i 0] (d5 Tb) (d5 di);intros am16 q'28 r Ly us eu lu fu;have qj:=ql.trans sc;have lm:=hm _ (aG di);refine (ad _ rfl (nw _ rfl a wa _ _ rfl rfl (.of (qj _ _ GY)) (cK (j:=D.getD i 0) (d5 Tb)) (nw _ rfl p _ _ _ rfl rfl (.of (qj _ _ ep)) rfl ?_)));rw [Ly];refine (u8 r ac us L rfl (qj _ _ eu) (qj _ _ nG) (λc hc=>by rw [lu,lm];exact hL c hc) ⋯ (λb H' s' nb LF=>kc _ H' s' (am b rfl (λe=>by rw [e,qg] at nb;cases nb) ?_)))
  rw [E3 i1,BE di];refine QG LF (by rw [getD_at di];exact lu) (λj v p h1 h2=>(fu j v p h1 (by rw [getD_at di] at h2;exact h2)).mono (qj.trans s')) λc hc=>by rw [getD_at di,lm];exact hL c hc
 intro ir ys H7 nir s7 dN Lf eir;rw [gk] at dN;have G9:=ql.trans s7;have hI:aU B H7 q ir (d9 D (bW L aa)):=(am ys eir (by rw [dN,xD]) (λi v ps h1 h2=>by obtain ⟨x,e1,_,e3⟩:=Lf i v h1;have i2:i<(d9 D (bW L aa)).length:=(aL.mp h2).1;rw [d5 i2] at h2;cases h2;rw [getD_at i2] at e3;exact (ad x e1 e3)))
 dsimp only [aN];simp only [aX,aY];have rR:=hR.rep hq lr wr;refine (ad _ rfl (sK _ rfl _ rfl _ rfl (SC z lf rt q B (Re Bx E' Fx L.length m (bW L aa) (SL ai rfl (hz.mono G9) hq (vH.mono G9) (hR.mono G9) B1 B2 x1 x2 ⟨E2,Fx2,xE,⋯,⋯,⋯,lr,wr,pE,cx,λb H8 vs s8 nb LF lb hb=>?_⟩)))))
 have rH:=G9.trans s8;refine (ad _ rfl (u8 b a vs wa rfl rfl (.of LF) (.of (rH _ _ GY)) ⋯ (sw (λj x y h1 h2=>?_) true rfl (dW ?_))))
 ·have j1:j<vs.length:=(aL.mp h1).1
  have j2:j<aa.length:=by lia
  have j3:j<(bW L aa).length:=by lia
  obtain ⟨r',rfl,_,ws,ew,lw,fw⟩:=hb j x (bW L aa)[j] h1 (d5 j3);obtain ⟨ra,rfl,us,eu,lu,fu⟩:=fa j y aa[j] h2 (d5 j2);rw [aV,gi] at lw;have lm:=hm _ (aG j2);have f1:kX H8 q r' m (λc=>atT aa j c):=(am ws ew lw (λc w hw=>by
   have c1:c<ws.length:=(aL.mp hw).1;have c2:c<(bL m ai).length:=by rw [gi];lia
   have z:=fw c w _ hw (by rw [bu,d5 c2];rfl)
   have w2:=QI hq hm hL lr wr rT rR rM j2 (show c<m by lia)
   rw [getD_at c2,getD_at j3] at w2;obtain ⟨ps,p1,p2⟩:=k9 rfl hm j2 (show c<m by lia)
   exact z.i6 w2 (jt ps p1 _ p2)))
  have f2:kX H8 q ra m (λc=>atT aa j c):=⟨us,rH _ _ eu,⋯,λc w hw=>by
   have c1:c<us.length:=(aL.mp hw).1;have c2:c<aa[j].length:=by lia
   have z:=(fu c w aa[j][c] hw (d5 c2)).jk hq;have e:atT aa j c=aa[j][c]:=by unfold atT;rw [getD_at j2,getD_at c2]
   dsimp only;rw [e];exact z.mono rH⟩
  exact Pj f1 f2 0
 ·have hI8:=hI.mono s8
  have lS:(d9 D (bW L aa)).length=L.length:=by rw [xD,dl]
  have wS:∀ps∈d9 D (bW L aa),ps.length=L.length:=J4 qT λi hi=>by rw [lP];exact hD i hi
  have pS:∀ps∈d9 D (bW L aa),ps.length=L.length/\bj q E' ps:=λps hp=>by
   refine ⟨wS ps hp,?_⟩;unfold d9 at hp;obtain ⟨d,hd,e⟩:=fI.mp hp;have d1:d<(bW L aa).length:=by rw [lP];exact hD d hd
   rw [<-e,getD_at d1];exact (pE _ (aG _)).2
  refine (S' _ rfl _ rfl _ rfl z ir bk (zn q B By E' Fy L.length (d9 D (bW L aa)) (SL cU rfl (hz.mono rH) hq hI8 (hF.mono rH) B1 B2 y1 y2 ⟨E2,Fy2,yE,⋯,lS,nF,pS,wf,cy,λb2 H9 ws s9 nb2 GQ lb2 p4=>?_⟩)))
  have Tc:=rH.trans s9;refine (db _ rfl _ rfl (o0 z q L.length rfl (hz.mono Tc) hq ⋯ (λot mD jc not hOt=>?_)))
  intros am7 hOt vo eo lo fo;rw [aV,gc] at lo;have zT:=Tc.trans jc;refine ⟨b2,ot,ws,vo,rfl,rfl,.of (jc _ _ GQ),.of eo,⋯,λj x y h1 h2=>?_,k mD zT⟩
  have j1:j<ws.length:=(aL.mp h1).1;have j2:j<L.length:=by lia
  have j3:j<(d9 D (bW L aa)).length:=by lia
  obtain ⟨r',rfl,_,us,eu,lu,fu⟩:=p4 j x (d9 D (bW L aa))[j] h1 (d5 j3);obtain ⟨ro,rfl,B9,eu',Te,fu'⟩:=fo j y (iK L.length j) h2 (by simp [j2])
  rw [aV,gi] at lu;rw [xn] at Te;have f1:kX mD q r' L.length (λc=>if j=c then ((1:Int),(1:Int)) else (0,1)):=(am us (jc _ _ eu) lu (λc w hw=>by
   have c1:c<us.length:=(aL.mp hw).1;have c2:c<(bL L.length cU).length:=by rw [gi];lia
   have z:=fu c w _ hw (by rw [bu,d5 c2];rfl)
   have w2:=QJ hq lS wS nF (hI.rep hq lS wS) (hF.rep hq nF wf) (inv ⋯) j2 (show c<L.length by lia)
   rw [getD_at c2,getD_at j3] at w2;have bo:aC q (if j=c then ((1:Int),(1:Int)) else (0,1)).2:=by
    by_cases y:j=c;·rw [ao y];exact aC.one
    ·rw [aq y];exact aC.one
   exact (z.i6 w2 bo).mono jc))
  have f2:kX mD q ro L.length (λc=>if j=c then ((1:Int),(1:Int)) else (0,1)):=(am B9 eu' Te (λc w hw=>by
   have c1:c<B9.length:=(aL.mp hw).1;have c2:c<(iK L.length j).length:=by rw [xn];lia
   have z:=(fu' c w (iK L.length j)[c] hw (d5 c2)).jk hq;have e:=Ew (n:=L.length) (i:=j) (j:=c) ⋯
   rw [getD_at c2] at e;rw [e] at z;dsimp only at z ⊢;by_cases y:j=c
   ·rw [ao y]
    rw [ao y.symm] at z;exact z
   ·rw [aq y]
    rw [aq (λe=>y e.symm)] at z;exact z))
  exact Pj f1 f2 0
theorem adt:bw ["script","k","mixed","cell"] ["script","k"] (aR Gd):=bH
theorem vJ(T:Txt K mg t):aO P w K mg base bO 1 t.uQ t.yA ["script","k"] (Xp K):=by
 have S:=adt;refine T.mw.bV S (λ_ _ _ _ H _ _ _ hr h=>?_);intros am1 h a ns am14 j rfl hS h0 h1 k
 refine (ad _ (ak (bC (bK jg (pv 1) (aZ cm rfl T.b5 b6 (ae (pv 0) af))) (ar (aJ (az dy (aA dh (pv 0) (pv 1)) (az Vq aj aj)))) bG)
  (ak (putL 2 S.nd (az kJ aj (az gQ (pv 1) aj)))
  (ak (gG fJ rfl (cY (DN IG (pv 0) DL (DM aj))) (dE (i:=3) S.nd rfl (Or.inl rfl))
   (ar (putL 2 S.nd (az dy (az gQ (az gQ (az kJ (pv 2) aj) (az dy (pv 3) aj)) aj) aj))))
  (ak (putL 2 S.nd (az dy (az kJ (pv 2) (pv 2)) aj))
  (ak (putL 2 S.nd (az dy (az kJ (az gQ (pv 2) (az kJ (az kJ aj (pv 1)) (pv 1))) aj) aj))
  (ar (aJ (az wL (az dy (az kJ (pv 2) (pv 2)) aj) aj)))))))) ?_)
 refine (tz _ rfl _ rfl a _ rfl (.inl hS) (pi _ _ rfl rfl _ rfl (cM (λhj=>?_) (λhj=>?_))))
 ·have hj:j<(ns.map V.int).length:=iS hj
  rw [aV] at hj;have hz:dF (ns.map V.int) j=some (.int (ns.getD j.toNat 0)):=by
   have e:j=(j.toNat:Int):=by lia
   rw [e];refine cK ?_;rw [bu,d5 ⋯,dr,cb,d5 ⋯]
   rfl
  refine (ad _ rfl (nw _ rfl a _ j _ rfl rfl hS hz (gl _ _ rfl rfl ⟨∅,∅,∅⟩ (gl _ _ rfl rfl (by show (0:Int)<10 ^ 40;decide) ?_))))
  have z:=k H (ag.refl H);unfold mY at z;rw [ao hj] at z;exact z
 ·have hj:¬j<ns.length:=λz=>hj (cF (by rw [aV];exact z))
  refine (dL _ rfl _ _ rfl rfl (gl _ _ rfl rfl (.inl ⟨∅,∅⟩) ?_))
  refine (tz _ rfl _ rfl a _ rfl hS (λc nc=>(am c rfl ⟨_,.of aK⟩ ?_)))
  refine wK (K:=K) (a:=c) (xs:=(ns.take 7).map V.int) (λi σ H'=>H'=upd H c (.lst (kR (ns.map V.int) none (some 7)))/\∃(m:Int) (v:Option V),σ=[some (.ref a),some (.int j),some (.int m),v]/\m=((ns.take 7).take i).foldl OO (1000003*(j+1))/\-(2 ^ 64)<m/\m<2 ^ 64)
   (And.intro rfl (gl _ _ rfl rfl ⋯ ⋯)) ?_ ?_ ?_
  ·rintro i σ H' _ ⟨rfl,_⟩
   have e:kR (ns.map V.int) none (some 7)=(ns.take 7).map V.int:=by have:=Xv (ns.map V.int) 7;rw [<-List.map_take] at this;exact this
   rw [e];exact .of aK
  ·intro i y σ H' hi;intros am22 _ rfl m v rfl hm _ _
   rw [bu] at hi;cases ez:(ns.take 7)[i]? with
   | none=>rw [ez] at hi;cases hi
   | some z=>
    rw [ez] at hi;cases hi;refine (f8 _ rfl _ _ rfl rfl (.inr ⟨∅,∅⟩) _ rfl (pc _ _ rfl rfl (by show (0:Int)<998244353;decide) _ _ rfl rfl (ce _ _ rfl rfl (gl _ _ rfl rfl (by show (0:Int)<1000000007;decide) (And.intro rfl (gl _ _ rfl ?_ ?_ ?_))))))
    ·rw [List.take_succ,ez,Option.toList_some,List.foldl_append,<-hm]
     rfl
    ·have:=fi (m*69621+z % 998244353+1) (show (1000000007:Int)≠0 by decide)
     show -(2 ^ 64)<(m*69621+z % 998244353+1) % 1000000007;lia
    ·have:=fH (m*69621+z % 998244353+1) (show (0:Int)<1000000007 by decide)
     show (m*69621+z % 998244353+1) % 1000000007<2 ^ 64;lia
  ·intro σ H';intros am22 _ rfl m v rfl hm hm1 hm2
   rw [aV,List.take_length] at hm;refine (ms _ rfl _ rfl _ _ rfl rfl (.inl ⟨hm1,hm2⟩) (gl _ _ rfl rfl (by show (0:Int)<1000000007;decide) ?_))
   refine (ad _ rfl (f8 _ rfl _ _ rfl rfl (.inl ⟨∅,∅⟩) _ rfl (pc _ _ rfl rfl (.inr ⟨⋯,⋯⟩) _ _ rfl rfl (gl _ _ rfl rfl (.inr ⟨∅,∅⟩) (gl _ _ rfl rfl (by show (0:Int)<2147483647;decide) ?_)))))
   have b0:=fi ((m*m % 1000000007+7919*j*j)*48271) (show (2147483647:Int)≠0 by decide)
   have b1:=fH ((m*m % 1000000007+7919*j*j)*48271) (show (0:Int)<2147483647 by decide)
   refine (ms _ rfl _ rfl _ _ rfl rfl (.inl ⟨?_,?_⟩) (gl _ _ rfl rfl (by show (0:Int)<2147483647;decide) (gl _ _ rfl rfl ⟨∅,∅⟩ ?_)))
   ·show -(2 ^ 64)<(m*m % 1000000007+7919*j*j)*48271 % 2147483647
    lia
   ·show (m*m % 1000000007+7919*j*j)*48271 % 2147483647<2 ^ 64
    lia
   ·have z:=k (upd H c (.lst (kR (ns.map V.int) none (some 7)))) (a9 nc)
    unfold mY D3 at z;rw [aq hj,<-hm] at z;exact z
theorem adw:bw ["top","bottom","one","other"] ["top","bottom"] (aR Ge):=bH
theorem G_(T:Txt K mg t):aO P w K mg base bO 1 t.uR t.yB ["top","bottom"] P4:=by
 have S:=adw;refine T.qa.bV S (λ_ _ _ _ H _ Q _ hr h=>?_);intros am15 h a b rfl hb mb k
 refine (ad _ (ak (putL 2 S.nd (aZ DI rfl T.B6 boot_abs (ae (pv 0) af)))
  (ak (putL 3 S.nd (aZ DI rfl T.B6 boot_abs (ae (pv 1) af)))
  (ak (AS fJ (kK (pv 3) (λ_=>rfl)) (ar (U_ (i:=2) (j:=3) rfl S.nd rfl rfl ∅ rfl rfl (ae (pv 3) (ae (az dy (pv 2) (pv 3)) af)) rfl)))
  (ak (bC (bK jg (pv 1) aj) (ar (putL 2 S.nd (az jI aj (pv 2)))) bG)
  (ar (aJ (gw (ae (az JL (pv 0) (pv 2)) (ae (az JL (pv 1) (pv 2)) af))))))))) ?_)
 have ok:=Zf (a:=a) hb mb;refine (db _ rfl a rfl (sK _ rfl b rfl (λm σ H'=>H'=H/\∃(x y:Nat),σ=[some (.int a),some (.int b),some (.int (x:Int)),some (.int (y:Int))]/\m=y/\Nat.gcd x y=Int.gcd a b) (dL b.natAbs rfl a.natAbs b.natAbs ?_ rfl rfl) ?_))
 ·show [some (V.int a),some (V.int b),some (V.int (if a<0 then -a else a)),some (V.int (if b<0 then -b else b))]=_
  rw [DZ,DZ]
 ·intro m σ H';intros am19 _ rfl x y rfl em hg
  refine (db _ rfl _ rfl (cM (λhy=>?_) (λhy=>?_)))
  ·have hy:y≠0:=λz=>by subst z;cases hy
   refine (ad (λσ' H2=>H2=H'/\σ'=[some (.int a),some (.int b),some (.int (y:Int)),some (.int (((x % y:Nat)):Int))]) ?_ ?_)
   ·rintro σ' H2 ⟨rfl,rfl⟩
    exact ⟨x % y,by rw [em];exact Nat.mod_lt _ ⋯,rfl,y,x % y,rfl,rfl,by rw [OM];exact hg⟩
   ·exact (sK _ rfl _ rfl _ rfl (pc _ _ rfl rfl (show (0:Int)<y by lia) _ _ rfl rfl rfl))
  ·have y0:y=0:=by
    by_cases z:y=0;·exact z
    ·exact absurd (by simpa using z) hy
   subst y0;rw [Nat.gcd_zero_right] at hg;have Cq:∀(g:Int),g=lowG a b->∀(p:Addr),H' p=none->Q (.ref p) (upd H' p (.tup [.int (a.fdiv g),.int (b.fdiv g)])):=λg e p hp=>by rw [e];exact k p _ (a9 hp) aK
   refine (io _ rfl _ _ rfl rfl _ rfl (cM (λhn=>?_) (λhn=>?_)))
   ·have hn:b<0:=iS hn
    have eg:0-(x:Int)=lowG a b:=by unfold lowG;rw [ao hn,hg]
    have vK:EK 0 (0-(x:Int)):=by rw [eg];exact ok
    exact (dL _ rfl _ _ rfl rfl (ms _ rfl _ rfl _ _ rfl rfl vK (ms _ rfl _ rfl _ _ rfl rfl vK ⟨by show 2<=sizeLine;decide,Cq _ eg⟩)))
   ·have hn:¬b<0:=λz=>hn (cF z)
    have eg:(x:Int)=lowG a b:=by unfold lowG;rw [aq hn,hg]
    have vK:EK 0 (x:Int):=by rw [eg];exact ok
    exact (ms _ rfl _ rfl _ _ rfl rfl vK (ms _ rfl _ rfl _ _ rfl rfl vK ⟨by show 2<=sizeLine;decide,Cq _ eg⟩))
theorem adx:bw ["cell","at"] ["cell"] (aR Gf):=bH
theorem ady(T:Txt K mg t):aO P w K mg base bO 1 t.uS t.yC ["cell"] Xo:=by
 have S:=adx;refine T.zw.bV S (λ_ _ _ _ H _ _ _ hr h=>?_);intros am0 h c rfl k
 refine (ad _ (ak (d4 1 S.nd (az gQ aj (az dy (pv 0) aj)))
  (ak (AS fJ (e7 (d7 (aZ (pC (K:=K) rfl) rfl T.oF boot_all (ae (dA (N:=["by","at"]) (ρ:=(λσ=>[σ[1]?.join])) (cP [1] rfl) rfl (DC rfl T.fg (ae aj (ae aj af))) (λ_ _ _=>(.one (bK jg (pv 0) (pv 1)))) (λ_ _ _=>(e8 fX (az dy (pv 1) (pv 0)) aj))) af)))) (ar (d4 1 S.nd (az gQ (pv 1) aj))))
  (ar (aJ (pv 1))))) ?_)
 have c0:=fi c (show (996:Int)≠0 by decide)
 have c1:=fH c (show (0:Int)<996 by decide)
 refine (on _ rfl _ _ rfl rfl (by show (0:Int)<996;decide) (pi _ _ rfl rfl (λm σ H'=>ag H H'/\∃v:Int,σ=[some (.int c),some (.int v)]/\2<=v/\v<=997/\m=(997-v).toNat) ⟨_,ag.refl H,2+c % 996,rfl,⋯,⋯,rfl⟩ ?_))
 intro m σ H';intros amA _ sH am9 v rfl h1 h2 rfl;refine (ce 2 32 rfl ⟨∅,∅,∅,∅⟩ (λD nD=>(ad (λi m ys Hc=>Hc=upd H' D (.lst ys)/\i+m=30/\ys=(kh v i).map V.bl) (am 30 rfl rfl rfl) ?_)))
 rintro i m ys Hc ⟨rfl,hm,rfl⟩;refine ⟨aK,?_⟩;have hl:((kh v i).map V.bl).length<sizeLine:=by rw [aV];have:=Xs v i;exact cR ⋯
 by_cases hi:i<30
 ·refine .inr ⟨hi,λx H2 y=>?_⟩
  obtain ⟨rfl,rfl⟩:=y;refine (ad _ rfl (io _ rfl _ _ rfl rfl _ rfl (cM (λhx=>?_) (λhx=>?_))))
  ·have hx:2+(i:Int)<v:=iS hx
   refine (ad _ rfl (xz _ rfl _ (ww _ rfl rfl (show (0:Int)<2+(i:Int) by lia) rfl aK (And.intro hl (ii (m-1) ⋯ UJ ⋯ ?_)))))
   rw [Xq hx,Di];show _++[V.bl (!decide (V.int (v % (2+(i:Int)))=V.int 0))]=_;rw [eZ];rfl
  ·have hx:¬2+(i:Int)<v:=λz=>hx (cF z)
   exact ⟨m-1,⋯,rfl,⋯,by rw [Xr hx]⟩
 ·have i30:i=30:=by lia
  subst i30;refine .inl (And.intro (aP _) (pi D (kh v 30) rfl (.of aK) _ rfl ?_));rw [Xt];have s2:ag H (upd H' D (.lst ((kh v 30).map V.bl))):=sH.trans (a9 nD);refine cM (λhb=>?_) (λhb=>?_)
  ·have hb:ph v=false:=by simpa using hb
   have hv:v≠997:=λz=>by rw [z,Xu] at hb;cases hb
   refine (ad (λσ' H2=>ag H H2/\σ'=[some (.int c),some (.int (v+1))]) ?_ ?_)
   ·rintro σ' H2 ⟨s3,rfl⟩
    exact ⟨(997-(v+1)).toNat,⋯,s3,v+1,rfl,⋯,⋯,rfl⟩
   ·exact (on _ rfl _ _ rfl rfl s2 rfl)
  ·have hb:ph v=true:=by simpa using hb
   exact (ad _ rfl (k v _ s2 h1 h2 (by rw [WY h1 h2];exact hb)))
theorem adA:bw ["draw","way"] ["draw"] (aR Gg):=bH
theorem adB(T:Txt K mg t):aO P w K mg base bO 2 t.uT t.yF ["draw"] XD:=by
 have S:=adA;refine T.zx.bV S (λ_ _ _ _ H _ _ _ hr h=>?_);intros am0 h c rfl k
 refine (ad _ (ak (putL 1 S.nd (az dy (pv 0) aj))
  (ak (bC (bK jg (pv 1) aj) (ar (aJ aj)) bG)
  (ak (bC (bK jg (pv 1) aj) (ar (aJ (aA dh (eY (ae aj (ae aj (ae aj af)))) (az jI (pv 1) aj)))) bG)
  (ar (aJ (aw (ady T) hr T.RU T.zw.kp T.RT aF (ae (az wL (pv 0) aj) af))))))) ?_)
 refine (on _ rfl _ _ rfl rfl (by show (0:Int)<8;decide) ?_)
 refine (io _ rfl _ _ rfl rfl _ rfl (cM (λ_=>k 0 H (ag.refl H) (.inl rfl)) (λh3=>?_)));refine (io _ rfl _ _ rfl rfl _ rfl (cM (λh6=>⟨by show 3<=sizeLine;decide,λl hl=>?_⟩) (λ_=>?_)))
 ·have h3:¬c % 8<3:=λz=>h3 (cF z)
  have h6:c % 8<6:=iS h6;obtain ⟨v,hv,mv⟩:=Xb (xs:=([.int 2,.int 3,.int 5]:List V)) (i:=c % 8-3) ⋯ (by show c % 8-3<3;lia)
  refine (dL _ rfl _ _ rfl rfl (sB l _ _ v rfl rfl (.of aK) hv ?_));simp only [fM,sj,or_false] at mv;rcases mv with e | e | e;·rw [e];exact k 2 _ (a9 hl) (.inr ⟨∅,∅,by decide +kernel⟩)
  ·rw [e];exact k 3 _ (a9 hl) (.inr ⟨∅,∅,by decide +kernel⟩)
  ·rw [e];exact k 5 _ (a9 hl) (.inr ⟨∅,∅,by decide +kernel⟩)
 ·exact (f8 _ rfl _ _ rfl rfl ⟨∅,∅⟩ _ rfl (λp H' s' h1 h2 h3=>k p H' s' (.inr ⟨h1,h2,h3⟩)))
theorem adC{p:Int}(h1:2<=p)(h2:p<=997)(h3:iZ p=true):(Td.b "wheel" p).good=true:=by simp [Td.good,Td.Bd,Td.me,h1,h2,h3]
theorem adD:(Td.a "fractions").good=true:=by simp [Td.good,Td.Bd]
theorem adE:bw ["p"] ["p"] (aR Gh):=bH
theorem adF(T:Txt K mg t):aO P w K mg base bO 5 t.uU t.yG ["p"] (XE t.bP):=by
 have S:=adE;have Tf:=aaW (P:=P) (w:=w) (base:=base) T;refine T.zy.bV S (λ_ _ _ _ H _ _ _ hr h=>?_);intros am7 h p rfl hp k
 refine (ad _ (ak (bC (kK (pv 0) (λ_=>rfl)) (ar (aJ (N4 T.B0 Tf (hr.mono ∅) rfl T.KS T.KQ .nil e9 (ae (gw (ae gd (ae (pv 0) af))) af)))) bG)
  (ar (aJ (N4 T.B0 Tf (hr.mono ∅) rfl T.KS T.KQ .nil e9 (ae (gw (ae gd af)) af))))) ?_)
 refine (db _ rfl _ rfl (cM (λhq=>?_) (λhq=>?_)))
 ·have hq:p≠0:=by simpa using hq
  obtain ⟨Tg,LG,Th⟩:2<=p/\p<=997/\iZ p=true:=hp.resolve_left hq;refine (am _ rfl (by show 2<=sizeLine;decide) (λq nq xw dw nx Cr nex=>(sB xw dw q (.b "wheel" p) rfl aK ?_ (λ_=>⟨rfl,k xw _ ?_ ⟨dw,by rw [aK,aq hq];rfl⟩⟩) (λhg=>absurd ((adC Tg LG Th).symm.trans hg) ∅))))
  ·rw [cj (gN aK nx),cj (gN aK Cr)]
   exact aK
  ·intro b o e
   have e1:=a9 (o:=.tup [.str "wheel",.int p]) nq _ _ e;rw [cj (gN e1 nx),cj (gN e1 nx),cj (gN e1 Cr)];exact e1
 ·have hq:p=0:=by simpa using hq
  subst hq;refine ⟨by show 1<=sizeLine;decide,λq nq xw dw nx Cr nex=>(sB xw dw q (.a "fractions") rfl aK ?_ (λ_=>⟨rfl,k xw _ ?_ ⟨dw,by rw [aK,ao rfl];rfl⟩⟩) (λhg=>absurd (adD.symm.trans hg) ∅))⟩
  ·rw [cj (gN aK nx),cj (gN aK Cr)]
   exact aK
  ·intro b o e
   have e1:=a9 (o:=.tup [.str "fractions"]) nq _ _ e;rw [cj (gN e1 nx),cj (gN e1 nx),cj (gN e1 Cr)];exact e1
theorem adH:bw ["thing"] ["thing"] (aR Gi):=bH
theorem Cs(T:Txt K mg t):aO P w K mg base bO 1 t.uV t.yH ["thing"] ON:=by
 have S:=adH;refine T.oC.bV S (λ_ _ _ _ H _ Q _ hr h=>?_);intros am7 h v rfl ha k;refine (ad _ (ar (aJ (iF (aZ (ma (K:=K)) rfl T.lF boot_isinstance (ae (pv 0) (ae (lX (v:=.ty "int") rfl T.B5 boot_int rfl) af))) (jE (Nu (aZ (ma (K:=K)) rfl T.lF boot_isinstance (ae (pv 0) (ae (lX (v:=.ty "bool") rfl T.KW boot_bool rfl) af)))))))) ?_);obtain ⟨Ty,ty,k1,k2,_⟩:=ha.Bb (K:=K);refine (ad _ rfl (wE _ _ _ _ rfl rfl ty k1 _ rfl (cM (λh1=>?_) (λh1=>?_))))
 ·refine (ad _ rfl (wE _ _ _ _ rfl rfl ty k2 _ rfl ?_))
  have e:(!pF v)=kT v:=by
   cases h2:pF v with
   | true=>rw [OL h2];rfl
   | false=>rw [h2,Bool.or_false] at h1;rw [h1];rfl
  show Q (.bl (!pF v)) H;rw [e];exact k
 ·have e:kT v=false:=by
   cases h2:kT v with
   | true=>rw [h2] at h1;exact absurd rfl h1
   | false=>rfl
  rw [e] at k;exact k
theorem adI:bw ["p","thing"] ["p","thing"] (aR Gj):=bH
theorem adJ(T:Txt K mg t):aO P w K mg base bO 2 t.uW t.yI ["p","thing"] Xn:=by
 have S:=adI;refine T.zC.bV S (λ_ _ _ _ H _ _ _ hr h=>?_);intros am13 h q v rfl hv k;have hu:=hr.DK
 refine (ad _ (ak (bC (kK (pv 0) (λ_=>rfl)) (ar (aJ (iF (aw (Cs T) hr T.zB T.oC.kp T.zA aF (ae (pv 1) af)) (jE (DH wM jg aj (pv 1) (pv 0)))))) bG)
  (ak (bC (PW.pt (pw_or (e7 (d7 (aZ (ma (K:=K)) rfl T.lF boot_isinstance (ae (pv 1) (ae (lX (v:=.ty "tuple") rfl T.zL boot_tuple rfl) af))))) (pw_or1 (bK fX (aZ cm rfl T.b5 b6 (ae (pv 1) af)) aj)))) (ar (aJ dM)) bG)
  (ak (bC (PW.pt (pw_or (e7 (d7 (aw (Cs T) hr T.zB T.oC.kp T.zA aF (ae (aA bE (pv 1) aj) af)))) (pw_or (e7 (d7 (aw (Cs T) hr T.zB T.oC.kp T.zA aF (ae (aA bE (pv 1) aj) af)))) (pw_or1 (bK jg (aA bE (pv 1) aj) aj))))) (ar (aJ dM)) bG)
  (ar (aJ (e8 (OA hu) (aw (G_ T) hr T.BW T.qa.kp T.BV aF (ae (aA bE (pv 1) aj) (ae (aA bE (pv 1) aj) af))) (pv 1))))))) ?_)
 have k0:=k H (ag.refl H);refine (db _ rfl _ rfl (cM (λhq=>?_) (λhq=>?_)))
 ·have hq:q≠0:=by simpa using hq
  unfold Bg at k0;rw [aq hq] at k0;refine (ad _ rfl (gt v rfl hv.any _ rfl (cM (λh1=>?_) (λh1=>?_))))
  ·cases v with
   | int i=>
    refine (io _ rfl _ _ rfl rfl _ rfl (cM (λh2=>?_) (λh2=>?_)))
    ·have e:DY q (.int i)=decide (i<q):=by show (decide (0<=i) && decide (i<q))=_;rw [h2,Bool.true_and]
     rw [e] at k0;exact (dL _ rfl _ _ rfl rfl k0)
    ·have e:DY q (.int i)=false:=by
      show (decide (0<=i) && decide (i<q))=_;have h2:decide (0<=i)=false:=by simpa using h2
      rw [h2,Bool.false_and]
     rw [e] at k0;exact k0
   | _=>cases h1
  ·have e:DY q v=false:=by cases v <;> first | rfl | exact absurd rfl h1
   rw [e] at k0;exact k0
 ·have hq:q=0:=by simpa using hq
  unfold Bg at k0 k;rw [ao hq] at k0;have q'37:=hv.any.Bb (K:=K);intros am9 q'37 Ty ty _ _ k3;refine (ad _ rfl (wE _ _ _ _ rfl rfl ty k3 _ rfl (cM (λh1=>?_) (λh1=>?_))))
  ·have h1:nZ H v=false:=by simpa using h1
   rw [Xd h1] at k0;exact dW k0
  ·have h1:nZ H v=true:=by simpa using h1
   obtain ⟨a,xs,rfl,e⟩:∃a xs,v=.ref a/\H a=some (.tup xs):=by
    cases hv.any with
    | @tup a xs e=>exact ⟨a,xs,rfl,e⟩
    | @lst a xs e=>unfold nZ at h1;dsimp only at h1;rw [e] at h1;cases h1
    | @sP a e=>unfold nZ at h1;dsimp only at h1;rw [e] at h1;cases h1
    | _=>cases h1
   refine (f8 _ rfl a xs rfl (.inr (.of e)) rfl _ rfl (cM (λh2=>?_) (λh2=>?_)))
   ·have h2:xs.length≠2:=λz=>by rw [z] at h2;cases h2
    rw [Xc e h2] at k0;exact k0
   ·have h2:xs.length=2:=by
     by_cases z:xs.length=2;·exact z
     ·refine absurd ?_ h2
      have z':¬V.int (xs.length:Int)=V.int 2:=λy=>z (by have:=V.int.inj y;lia)
      rw [fD z'];rfl
    match xs,h2,e,k0 with
    | [x,y],_,e,k0=>
     obtain ⟨ax,ay,my⟩:=hv.two a x y rfl e;rw [Jd e] at k0;refine (nw _ rfl a _ 0 x rfl rfl (.of e) rfl (gt x rfl ax _ rfl (cM (λh3=>?_) (λh3=>?_))))
     ·have h3:kT x=false:=by simpa using h3
      have e1:Bf x y=false:=by cases x <;> first | rfl | cases h3
      rw [e1] at k0;exact dW k0
     ·have h3:kT x=true:=by simpa using h3
      refine (nw _ rfl a _ 1 y rfl rfl (.of e) rfl (gt y rfl ay _ rfl (cM (λh4=>?_) (λh4=>?_))))
      ·have h4:kT y=false:=by simpa using h4
       have e1:Bf x y=false:=by cases y <;> first | (cases x <;> rfl) | cases h4
       rw [e1] at k0;exact dW k0
      ·have h4:kT y=true:=by simpa using h4
       cases x with
       | int i=>
        cases y with
        | int j=>
         refine (nw _ rfl a _ 1 (.int j) rfl rfl (.of e) rfl (pi _ _ rfl rfl _ rfl (cM (λh5=>?_) (λh5=>?_))))
         ·have h5:j<1:=iS h5
          have e1:Bf (.int i) (.int j)=false:=by show (decide (1<=j) && decide (Int.gcd i j=1))=_;rw [fD ⋯];rfl
          rw [e1] at k0;exact k0
         ·have h5:¬j<1:=λz=>h5 (cF z)
          refine (nw _ rfl a _ 0 (.int i) rfl rfl (.of e) rfl (nw _ rfl a _ 1 (.int j) rfl rfl (.of e) rfl (gl i j rfl ⋯ ((my j rfl).wide) (λp H2 s2 hp=>?_))))
          refine (xz _ rfl p (wP a _ _ rfl rfl (.of hp) (.of (s2 _ _ e)) rfl rfl ?_));have z:=k H2 s2;rw [ao hq,Jd e] at z;have e1:Bf (.int i) (.int j)=ji [.int (i.fdiv (lowG i j)),.int (j.fdiv (lowG i j))] [.int i,.int j]:=by show (decide (1<=j) && decide (Int.gcd i j=1))=((i.fdiv (lowG i j) == i) && ((j.fdiv (lowG i j) == j) && true));rw [cF (show 1<=j by lia),Bool.true_and,Bool.and_true,Xw ⋯]
          rw [e1] at z;exact z
        | _=>cases h4
       | _=>cases h3
theorem adK:bw ["p","draw","way","rest"] ["p","draw"] (aR Gk):=bH
theorem Ct(T:Txt K mg t):aO P w K mg base bO 2 t.uX t.yJ ["p","draw"] Zg:=by
 have S:=adK;refine T.oE.bV S (λ_ _ _ _ H _ Q E hr h=>?_);intros am15 h q c rfl hp hc k
 refine (ad _ (ak (bC (kK (pv 0) (λ_=>rfl)) (ar (aJ (az dy (pv 1) (pv 0)))) bG)
  (ak (putL 2 S.nd (az dy (pv 1) aj))
  (ak (putL 3 S.nd (az wL (pv 1) aj))
  (ak (bC (bK jg (pv 2) aj) (ar (aJ (gw (ae aj (ae aj af))))) bG)
  (ak (bC (bK jg (pv 2) aj) (ar (aJ (gw (ae (az jI (az dy (pv 3) aj) aj) (ae aj af))))) bG)
  (ak (bC (bK jg (pv 2) aj) (ar (aJ (aw (G_ T) hr T.BW T.qa.kp T.BV aF (ae (az jI (az dy (pv 3) aj) aj) (ae (az gQ (az dy (az wL (pv 3) aj) aj) aj) af))))) bG)
  (ar (aJ (aw (G_ T) hr T.BW T.qa.kp T.BV aF (ae (az jI (az dy (pv 3) aj) aj) (ae (az gQ (az dy (az wL (pv 3) aj) aj) aj) af))))))))))) ?_)
 have Ti:∀(a b:Int),1<=b->a.natAbs<=10 ^ 6->b.natAbs<=1000->q=0->P4 [.int a,.int b] H Q E:=λa b hb ba bb e=>by
  subst e;obtain ⟨u,d,e1,e2,l,l1,l2⟩:=XF (a:=a) hb;refine ⟨a,b,rfl,⋯,(b_.of_lt ⋯ ⋯).wide,λr H' s' e=>k (.ref r) u d H' s' (.cq ?_ l (au l1 ba) (au l2 (au bb ∅))) (au l2 bb)⟩
  rw [e,e1,e2]
 refine (db _ rfl _ rfl (cM (λhq=>?_) (λhq=>?_)))
 ·have hq:q≠0:=by simpa using hq
  obtain ⟨Tg,LG,Th⟩:2<=q/\q<=997/\iZ q=true:=hp.resolve_left hq;exact (ms _ rfl _ rfl _ _ rfl rfl (show (0:Int)<q by lia) (k _ _ _ H (ag.refl H) (.rem (fi _ hq) (fH _ ⋯) LG) ∅))
 ·have hq:q=0:=by simpa using hq
  refine (on _ rfl _ _ rfl rfl (by show (0:Int)<8;decide) ?_)
  refine (on _ rfl _ _ rfl rfl ⟨∅,∅⟩ ?_)
  generalize c / 8=e;refine (io _ rfl _ _ rfl rfl _ rfl (cM (λ_=>⟨by show 2<=sizeLine;decide,λr hr=>?_⟩) (λ_=>?_)))
  ·subst hq
   exact k _ _ _ _ (a9 hr) (.cq aK ⟨∅,∅⟩ ∅ ∅) ∅
  refine (io _ rfl _ _ rfl rfl _ rfl (cM (λ_=>(on _ rfl _ _ rfl rfl (by show (0:Int)<7;decide) (gl _ _ rfl rfl (by show 2<=sizeLine;decide) (λr hr=>?_)))) (λ_=>?_)))
  ·subst hq
   have b0:=fi e (show (7:Int)≠0 by decide)
   have b1:=fH e (show (0:Int)<7 by decide)
   exact k _ _ _ _ (a9 hr) (.cq aK ⟨∅,nM ..⟩ ⋯ ∅) ∅
  refine (io _ rfl _ _ rfl rfl _ rfl (cM (λ_=>(ad _ rfl (pc _ _ rfl rfl (by show (0:Int)<23;decide) _ _ rfl rfl (on _ rfl _ _ rfl rfl ⟨∅,∅⟩ (pc _ _ rfl rfl (by show (0:Int)<6;decide) _ _ rfl rfl ?_))))) (λ_=>?_)))
  ·have b0:=fi e (show (23:Int)≠0 by decide)
   have b1:=fH e (show (0:Int)<23 by decide)
   have b2:=fi (e / 23) (show (6:Int)≠0 by decide)
   have b3:=fH (e / 23) (show (0:Int)<6 by decide)
   exact Ti _ _ ⋯ ⋯ ⋯ hq
  ·refine (ad _ rfl (pc _ _ rfl rfl (by show (0:Int)<2000001;decide) _ _ rfl rfl (on _ rfl _ _ rfl rfl ⟨∅,∅⟩ (pc _ _ rfl rfl (by show (0:Int)<1000;decide) _ _ rfl rfl ?_))))
   have b0:=fi e (show (2000001:Int)≠0 by decide)
   have b1:=fH e (show (0:Int)<2000001 by decide)
   have b2:=fi (e / 2000001) (show (1000:Int)≠0 by decide)
   have b3:=fH (e / 2000001) (show (0:Int)<1000 by decide)
   exact Ti _ _ ⋯ ⋯ ⋯ hq
theorem adL:bw ["p","one","other","top","bottom","a","b"] ["p","one","other"] (aR Gm):=bH
theorem rN(T:Txt K mg t):aO P w K mg base bO 2 t.q8 t.uY ["p","one","other"] QO:=by
 have S:=adL;refine T.jQ.bV S (λ_ _ _ _ H vs _ _ hr h=>?_);intros am21 h q a b B C ps am35 rs rfl hq hA hB B1 C1 iO S1 hW k;have Tj:=(λp hp=>(hA.nums hq p hp).2.1);have Tn:=(λp hp=>(hB.nums hq p hp).2.1);intros am7 hA vs ea la fa;intros am7 hB us eb lb fb
 refine (ad _ (ak (bC (kK (pv 0) (λ_=>rfl)) (ar (aJ (az dy (aZ (O6 (K:=K) rfl) rfl T.KZ boot_sum (ae (pM (N:=["a","b"]) (ρ:=(λσ=>[])) (oa [] rfl) rfl (kW rfl T.ku (ae (pv 1) (ae (pv 2) af))) (λ_ _ _=>.nil) (λ_ _ _=>(az kJ (pv 0) (pv 1)))) af)) (pv 0)))) bG)
  (ak (putL 3 S.nd aj)
  (ak (putL 4 S.nd aj)
  (ak (gG fJ rfl (kW rfl T.ku (ae (pv 1) (ae (pv 2) af))) (wH rfl (jF (dE (i:=5) S.nd rfl (Or.inl rfl)) (jF (dE (i:=6) S.nd rfl (Or.inl rfl)) wG)))
   (ak (putL 3 S.nd (az gQ (az oo (az oo (pv 3) (aA bE (pv 5) aj)) (aA bE (pv 6) aj)) (az oo (az oo (aA bE (pv 5) aj) (aA bE (pv 6) aj)) (pv 4))))
  (ar (putL 4 S.nd (az oo (az oo (pv 4) (aA bE (pv 5) aj)) (aA bE (pv 6) aj))))))
  (ar (aJ (aw (G_ T) hr T.BW T.qa.kp T.BV aF (ae (pv 3) (ae (pv 4) af))))))))) ?_)
 refine (db _ rfl _ rfl (cM (λhp=>?_) (λhp=>?_)))
 ·have hp:q≠0:=by simpa using hp
  obtain ⟨q2,q3,q4⟩:=hq.resolve_left hp;have eV:vs=(ps.map λp=>p.1).map V.int:=pP (by rw [la,aV]) λi v e=>by
   have hi:i<ps.length:=by rw [<-la];exact (aL.mp e).1
   have h1:=fa i v ps[i] e (by simp [hi])
   refine ⟨ps[i].1,by rw [bu];simp [hi],?_⟩
   generalize ps[i]=p at h1;obtain ⟨x,m⟩:=p;cases h1 with
   | cq er l bx bm=>exact absurd rfl hp
   | rem h0 h1 h2=>rfl
  have eU:us=(rs.map λp=>p.1).map V.int:=pP (by rw [lb,aV]) λi v e=>by
   have hi:i<rs.length:=by rw [<-lb];exact (aL.mp e).1
   have h1:=fb i v rs[i] e (by simp [hi])
   refine ⟨rs[i].1,by rw [bu];simp [hi],?_⟩
   generalize rs[i]=p at h1;obtain ⟨x,m⟩:=p;cases h1 with
   | cq er l bx bm=>exact absurd rfl hp
   | rem h0 h1 h2=>rfl
  have hz:(vs.zip us).length<=40:=by rw [jX];lia
  refine gy (Bn (m7 (Pc (zs:=vs.zip us) (λR h=>(ms _ rfl _ rfl a b rfl ⟨_,.of ea⟩ ⟨_,.of eb⟩ (h _ _ (ag.refl _) (m6 (.of ea) (.of eb))))) (cR ⋯) (λi v=>∃w:Int,(List.zipWith (· * ·) (ps.map λp=>p.1) (rs.map λp=>p.1))[i]?=some w/\v=.int w) ?_ ?_)))
  ·intro i x y fS Hc R sc kc
   have h0:=(lR.mp fS);have hi:i<ps.length:=by rw [<-la];exact (aL.mp h0.1).1
   have nb:=fa i x ps[i] h0.1 (by simp [hi])
   rw [eV,eU] at fS;obtain ⟨t0,u0,rfl,rfl,a1,a2⟩:=Pf fS;have bt:0<=t0/\t0<1000:=by
    generalize ps[i]=p at nb;obtain ⟨x',m'⟩:=p;cases nb with
    | rem h0 h1 h2=>lia
   exact (ms _ rfl _ rfl _ _ rfl rfl (.inl ⟨⋯,⋯⟩) (kc _ Hc (ag.refl _) ⟨t0*u0,by rw [AH,a1,a2],rfl⟩))
  ·intro D ws Hc sc hl hP eD
   have ev:ws=(List.zipWith (· * ·) (ps.map λp=>p.1) (rs.map λp=>p.1)).map V.int:=pP (by rw [hl,jX,wq,aV,aV,la,lb]) hP
   subst ev;refine (ce D _ rfl (.of eD) (on _ rfl _ _ rfl rfl (show (0:Int)<q by lia) (k _ Hc sc ?_)))
   have e:=En (ps:=ps) (rs:=rs) (ts:=ps.map λp=>p.1) (us:=rs.map λp=>p.1) (B:=1) (C:=1) (S:=0) (acc:=(0,1)) (by simp) (by simp)
    (λi p t h1 h2=>by rw [bu,h1] at h2;cases h2;rw [(Tj p (jA h1)).2 hp])
    (λi p t h1 h2=>by rw [bu,h1] at h2;cases h2;rw [(Tn p (jA h1)).2 hp]) (by simp)
   have bt:=Eo (q:=q) Tj Tn (acc:=(0,1)) ⟨λ_=>by decide,λ_=>rfl⟩
   have b1:=bt.2 hp;rw [b1] at e ⊢;rw [wj,jV,jV,jV] at e;refine .rem q2 (fi _ hp) (fH _ ⋯) (by rw [nM]) ?_
   rw [<-e];obtain ⟨w,ew⟩:=Bi (kj (ps.map λp=>p.1) (rs.map λp=>p.1)) q;exact ⟨-w,by show kj _ _ % q*1-_=_;rw [je];lia⟩
 ·have hp:q=0:=by simpa using hp
  subst hp;have get:∀(B:Nat) (ts:List V) (xs:aI),ts.length=xs.length->(∀(i:Nat) (v:V) (p:Int×Int),ts[i]?=some v->xs[i]?=some p->cH B H 0 v p.1 p.2)->∀(i:Nat) (v:V),ts[i]?=some v->∃(r:Addr) (x m:Int),v=.ref r/\H r=some (.tup [.int x,.int m])/\xs[i]?=some (x,m)/\eQ x m/\x.natAbs<=B/\m.natAbs<=B:=λB ts xs hl hn i v e=>by
   have hi:i<xs.length:=by rw [<-hl];exact (aL.mp e).1
   have ep:xs[i]?=some xs[i]:=by simp [hi]
   have h1:=hn i v xs[i] e ep;generalize xs[i]=p at h1 ep;obtain ⟨x,m⟩:=p;cases h1 with
   | cq er l bx bm=>exact (xL _ x (ww m rfl er ep l bx bm))
   | rem h0 h1 h2=>lia
  have adM:=get B vs ps la fa;have adN:=get C us rs lb fb;have Cu:1<=B*C:=wu B1 C1;have wd:∀{x:Int} {i:Nat},i<ps.length->x.natAbs<=40*(B*C) ^ i*(B*C)->Wide x:=fun{x i} hi hx=>by refine bT (au hx ?_) (hW rfl);rw [lU,<-nP];exact fq _ (dR Cu hi)
  have lz:(vs.zip us).length=min ps.length rs.length:=by rw [jX,la,lb]
  refine (ms _ rfl _ rfl a b rfl ⟨_,.of ea⟩ ⟨_,.of eb⟩ ?_)
  refine Jn (K:=K) (xs:=vs) (ys:=us) (λi σ Hc=>ag H Hc/\∃(v5 v6:Option V),σ=[some (.int 0),some (.ref a),some (.ref b),some (.int (aW (ps.take i) (rs.take i) (0,1)).1),some (.int (aW (ps.take i) (rs.take i) (0,1)).2),v5,v6]/\1<=(aW (ps.take i) (rs.take i) (0,1)).2/\(aW (ps.take i) (rs.take i) (0,1)).2.natAbs<=(B*C) ^ i/\(aW (ps.take i) (rs.take i) (0,1)).1.natAbs<=i*(B*C) ^ i)
   ⟨ag.refl H,none,none,by simp [aW];rfl,by simp [aW],by simp [aW],by simp [aW]⟩ (λi σ Hc ⟨z,_⟩=>⟨.of (z _ _ ea),.of (z _ _ eb)⟩) ?_ ?_
  ·intro i x y σ Hc Tt fS;intros am22 _ sc v5 v6 rfl b1 bb bt;intro nT
   obtain ⟨h1,h2⟩:=lR.mp fS;have q'40:=adM i x h1;intros am29 q'40 r1 x1 m1 rfl LH Cv l1 LI zY;have q'41:=adN i y h2;intros am29 q'41 r2 x2 m2 rfl er2 zN l2 LJ Hh;have tk:=Ph ps rs i (0,1) (x1,m1) (x2,m2) Cv zN;generalize aW (ps.take i) (rs.take i) (0,1)=tb at *;obtain ⟨tp,bo⟩:=tb;have sT:ag Hc (upd Hc Tt (.tup [.ref r1,.ref r2])):=a9 nT;have e1:=sT _ _ (sc _ _ LH);have e2:=sT _ _ (sc _ _ er2);have p1:=l1.pos;have p2:=l2.pos;refine (ce Tt _ rfl (.of aK) (re rfl _ (dL _ rfl _ _ rfl rfl ?_)));dsimp only at tk b1 bb bt;have hi:i<ps.length:=(aL.mp Cv).1;have p0:1<=(B*C) ^ i:=sq Cu;have To:i*(B*C) ^ i<=40*(B*C) ^ i:=g8 _ ⋯
   have zZ:(B*C) ^ i<=40*(B*C) ^ i:=g9 _ ∅
   have leB:B<=B*C:=nO _ C1;have leC:C<=B*C:=g9 _ B1;have up:∀{x:Int},x.natAbs<=B*C->Wide x:=fun{x} h=>wd hi (au h (g9 _ (wu ∅ p0)))
   have MB:∀{x:Int},x.natAbs<=B->Wide x:=λh=>up (au h leB);have MC:∀{x:Int},x.natAbs<=C->Wide x:=λh=>up (au h leC);have mt:Wide tp:=wd hi (au (au bt To) (nO _ Cu));have mt1:Wide (tp*m1):=wd hi (by rw [bU];exact cA (au bt To) (au zY leB))
   have mb:Wide bo:=wd hi (au (au bb zZ) (nO _ Cu));have mb1:Wide (bo*m1):=wd hi (by rw [bU];exact cA (au bb zZ) (au zY leB))
   have mx:Wide (x1*x2):=up (by rw [bU];exact cA LI LJ)
   refine (ad _ rfl (nw _ rfl r1 _ _ _ rfl rfl (.of e1) rfl (gl _ _ rfl rfl ⟨mt,MB zY⟩ (nw _ rfl r2 _ _ _ rfl rfl (.of e2) rfl (gl _ _ rfl rfl ⟨mt1,MC Hh⟩ (nw _ rfl r1 _ _ _ rfl rfl (.of e1) rfl (nw _ rfl r2 _ _ _ rfl rfl (.of e2) rfl (ce _ _ rfl rfl (sw ⟨MB LI,MC LJ⟩ _ rfl (pc _ _ rfl rfl ⟨mx,mb⟩ _ _ rfl rfl ?_))))))))));refine (ad _ rfl (nw _ rfl r1 _ _ _ rfl rfl (.of e1) rfl (gl _ _ rfl rfl ⟨mb,MB zY⟩ (nw _ rfl r2 _ _ _ rfl rfl (.of e2) rfl (gl _ _ rfl rfl ⟨mb1,MC Hh⟩ ?_)))));refine (And.intro (sc.trans sT) (gl _ _ (by rw [tk];rfl) ?_ ?_ ?_))
   ·rw [tk]
    have:=fk (fk (show 0<bo by lia) (show 0<m1 by lia)) (show 0<m2 by lia)
    dsimp only;lia
   ·rw [tk]
    dsimp only;rw [bU,bU,nP,lU];exact cA bb (cA zY Hh)
   ·rw [tk]
    dsimp only;refine au (Int.natAbs_add_le _ _) ?_;rw [bU,bU,bU,bU,nP,Nat.succ_mul];refine Nat.add_le_add ?_ ?_
    ·rw [lU,<-lU i]
     exact cA bt (cA zY Hh)
    ·rw [oQ]
     exact cA bb (cA LI LJ)
  ·intro σ Hc;intros am22 _ sc v5 v6 rfl b1 bb bt
   have e:=Yn ps rs (0,1) (vs.zip us).length (by rw [lz];exact aP _)
   rw [e] at b1 bb ⊢;have b0:(aW ps rs (0,1)).2≠0:=by lia
   have lw:=Jh (a:=(aW ps rs (0,1)).1) b0;have wb:Wide (aW ps rs (0,1)).2:=by refine bT (au bb (au (dR Cu (show (vs.zip us).length<=ps.length by lia)) (g9 _ ∅))) (hW rfl)
   exact (ms _ rfl _ rfl _ _ rfl b0 wb (λr H' s' er=>k (.ref r) H' (sc.trans s') (.cq er lw.1 b0 lw.2.1)))
theorem LK(T:Txt K mg t):aO P w K mg base bO 2 t.q8 t.uY ["p","one","other"] Zh:=aO.imp (rN T) λvs H Q E h=>by intros am27 h q a b ps rs rfl hq hA am4 hB hL tQ k;exact (Re q a b _ _ ps (SL rs rfl hq hA hB ∅ ∅ hL.qK tQ.qK (λz=>bT (fq _ (dR ∅ (hL.l4 z))) (by decide +kernel)) k))
theorem adS:bw ["p","thing","many"] ["p","thing","many"] (aR Gn):=bH
theorem LM(T:Txt K mg t):aO P w K mg base bO 3 t.uZ t.yK ["p","thing","many"] Yo:=by
 have S:=adS;refine T.rz.bV S (λ_ _ _ _ H vs _ _ hr h=>?_);obtain ⟨q,a,tb,n,rfl,⟨vs,ea,hl,hn⟩,en,iO,hb,k⟩:=h
 refine (ad _ (ak (bC (PW.pt (pw_or (e7 (d7 (aZ (ma (K:=K)) rfl T.lF boot_isinstance (ae (pv 1) (ae (lX (v:=.ty "list") rfl T.nB boot_list rfl) af))))) (pw_or1 (bK fX (aZ cm rfl T.b5 b6 (ae (pv 1) af)) (pv 2))))) (ar (aJ dM)) bG)
  (ar (aJ (aZ (pC (K:=K) rfl) rfl T.oF boot_all (ae (dA (N:=["number","p"]) (ρ:=(λσ=>[σ[0]?.join])) (cP [0] rfl) rfl (cY (pv 1)) (λ_ _ _=>.nil) (λ_ _ _=>(aw (adJ T) hr T.R5 T.zC.kp T.RZ aF (ae (pv 1) (ae (pv 0) af))))) af))))) ?_)
 refine (ad _ rfl (wE _ _ _ true rfl rfl (.of (.lst ea)) sU true rfl (bQ ?_)));refine (dL _ rfl a vs rfl (.inl (.of ea)) (gt _ rfl rfl false (by rw [eZ,cF ⋯];rfl) (bQ ?_)))
 dsimp only [eO];refine gy (m7 (qF (xs:=vs) (λR h=>⟨_,rfl,a,rfl,⟨_,.of ea⟩,h _ _ (ag.refl _) (eR (.of ea))⟩) (by rw [hl];exact cR ⋯) (λ_ i y _=>y=.bl true) (λ_ _ _ _ _ _ h _ _=>h) ?_ ?_))
 ·intro D i v hi Hc R sc _ kc
  have a_:i<tb.length:=by rw [<-hl];exact (aL.mp hi).1
  have hv:=(hn i v tb[i] hi (by simp [a_])).mono sc
  refine (tz _ rfl _ rfl q v rfl (Yp hv (hb _ (aG ..))) (λH' s'=>?_));rw [XU hv];exact kc _ H' s' rfl
 ·intro D ys Hc sc d_ hP eD
  refine ⟨D,List.replicate ys.length true,rfl,.of (by rw [eD];exact eW _ (eW _ (pQ hP))),?_⟩
  rw [qJ];exact k Hc sc
theorem adT:bw ["p","thing","many","each"] ["p","thing","many","each"] (aR Gp):=bH
theorem Hi(T:Txt K mg t):aO P w K mg base bO 4 t.u3 t.yL ["p","thing","many","each"] Yr:=by
 have S:=adT;refine T.qb.bV S (λ_ _ _ _ H vs _ _ hr h=>?_);intros amE h q am33 H0 a N M f rfl q'43 iO fL hb k;intros am7 q'43 vs ea hl hn
 refine (ad _ (ak (bC (PW.pt (pw_or (e7 (d7 (aZ (ma (K:=K)) rfl T.lF boot_isinstance (ae (pv 1) (ae (lX (v:=.ty "list") rfl T.nB boot_list rfl) af))))) (pw_or1 (bK fX (aZ cm rfl T.b5 b6 (ae (pv 1) af)) (pv 2))))) (ar (aJ dM)) bG)
  (ar (aJ (aZ (pC (K:=K) rfl) rfl T.oF boot_all (ae (dA (N:=["row","p","each"]) (ρ:=(λσ=>[σ[0]?.join,σ[3]?.join])) (cP [0,3] rfl) rfl (cY (pv 1)) (λ_ _ _=>.nil) (λ_ _ _=>(aw (LM T) hr T.GL T.rz.kp T.GK aF (ae (pv 1) (ae (pv 0) (ae (pv 2) af)))))) af))))) ?_)
 refine (ad _ rfl (wE _ _ _ true rfl rfl (.of (.lst ea)) sU true rfl (bQ ?_)));refine (dL _ rfl a vs rfl (.inl (.of ea)) (gt _ rfl rfl false (by rw [eZ,cF ⋯];rfl) (bQ ?_)))
 dsimp only [eO];refine gy (m7 (qF (xs:=vs) (λR h=>⟨_,rfl,a,rfl,⟨_,.of ea⟩,h _ _ (ag.refl _) (eR (.of ea))⟩) (by rw [hl];exact cR ⋯) (λ_ i y _=>y=.bl true) (λ_ _ _ _ _ _ h _ _=>h) ?_ ?_))
 ·intro D i v hi Hc R sc _ kc
  have a_:i<N:=by rw [<-hl];exact (aL.mp hi).1
  obtain ⟨r,rfl,_,_,cZ⟩:=hn i v hi;refine (sK _ rfl _ rfl _ rfl (u8 q r _ (M:Int) rfl ((cZ.mono sc).Yq) (by simp) (by simp;exact fL) (λp hp=>?_) (λH' s'=>kc _ H' s' rfl)))
  obtain ⟨j,hj,rfl⟩:=fI.mp hp;exact hb i j a_ (gs.mp hj)
 ·intro D ys Hc sc d_ hP eD
  refine ⟨D,List.replicate ys.length true,rfl,.of (by rw [eD];exact eW _ (eW _ (pQ hP))),?_⟩
  rw [qJ];exact k Hc sc
variable {c:TT} {u:TS} {D:Ends} {σ:St}
theorem Cw{t:TS}(k:∀R:St->Hp->Prop,(∀σ H,D.nx σ H->R σ H)->AQ c t u {D with nx:=R} σ H):AQ c t u D σ H:=k D.nx λ_ _ h=>h
variable {i:Nat}
theorem Tp{r:TS}(h:r D (σ.set i (some v)) H):Ih (o7 (tC v) (aN i)) r D σ H:=h
theorem adU{x:Int}(h:0<=x/\x<q)(hq:aD q):Wide x:=by
 have:q<=997:=by rcases hq with h | h <;> lia
 exact (b_.of_lt ⋯ ⋯).wide
theorem swap_eq(M:aE)(c s:Nat):(λj=>if j=c then M s else (λj=>if j=s then M c else M j) j)=cz M c s:=by
 funext i
 unfold cz;by_cases z:i=c
 ·subst z
  by_cases y:i=s;·subst y;simp
  ·rw [ao rfl,aq y,ao rfl]
 ·rw [aq z,aq z]
theorem adV:bw ["p","rows","many","left","row","big","number","count","j","at","lead","i","by","made"] ["p","rows","many"] (aR Gq):=bH
theorem adW(T:Txt K mg t):aO P w K mg base bO 1 t.u4 t.yM ["p","rows","many"] aap:=by
 have S:=adV;refine T.zF.bV S (λ_ _ _ _ H vs _ _ hr h=>?_);intros am33 h q a B W aa rfl hq hA qK hm am4 W40 B1 hB k;have gD:=hr.units
 refine (ad _ (ak (d4 3 S.nd (eY af))
  (ak (gG fJ rfl (cY (pv 1)) (dE (i:=4) S.nd rfl (Or.inl rfl))
   (ak (d4 5 S.nd aj)
  (ak (bC (bK eE (pv 0) aj) (ar (gG fJ rfl (cY (pv 4)) (dE (i:=6) S.nd rfl (Or.inl rfl))
   (ar (d4 5 S.nd (az oo (pv 5) (aA bE (pv 6) aj)))))) bG)
  (ar (wF (A8 AJ AK AL nY (pv 3) (ae (dA (N:=["number","p","big"]) (ρ:=(λσ=>[σ[0]?.join,σ[5]?.join])) (cP [0,5] rfl) rfl (cY (pv 4)) (λ_ _ _=>.nil) (λ_ _ _=>(o6 (P7 (K:=K) (pv 1) (λ_=>rfl)) (pv 0) (az oo (aA (qH (K:=K)) (pv 0) aj) (az JL (pv 2) (aA (qH (K:=K)) (pv 0) aj)))))) af)))))))
  (ak (putL 7 S.nd aj)
  (ak (gG fJ rfl (gF rfl T.fg (ae (pv 2) af)) (dE (i:=8) S.nd rfl (Or.inr rfl))
   (ak (pK (i0:=9) (N:=["i","left","j"]) (ρ:=(λσ=>[σ[3]?.join,σ[8]?.join])) (cP [3,8] rfl) rfl S.nd rfl (Or.inl rfl) (DC rfl T.fg (ae (pv 7) (ae (aZ cm rfl T.b5 b6 (ae (pv 3) af)) af))) (λ_ _ _=>(.one (bK fX (aA (ip (K:=K)) (aA (ip (K:=K)) (pv 1) (pv 0)) (pv 2)) aj))) (λ_ _ _=>(pv 0)))
  (ar (bC (bK (Yx gD) (pv 9) (eY af)) (ak (d4 10 S.nd (aA dh (pv 3) (aA dh (pv 9) aj)))
  (ak (@j6 _ _ _ _ _ _ (aA dh (pv 3) (pv 7)) (kI (pv 3) (aA dh (pv 9) aj) set_list) (by rfl) (by rfl) (by rfl))
  (ak (@j6 _ _ _ _ _ _ (pv 10) (kI (pv 3) (pv 7) set_list) (by rfl) (by rfl) (by rfl))
  (ak (gG fJ rfl (DC rfl T.fg (ae (az gQ (pv 7) aj) (ae (aZ cm rfl T.b5 b6 (ae (pv 3) af)) af))) (dE (i:=11) S.nd rfl (Or.inl rfl))
   (ak (d4 12 S.nd (aA dh (aA dh (pv 3) (pv 11)) (pv 8)))
  (ak (aaG (i0:=13) (N:=["a","b","lead","j","by"]) (ρ:=(λσ=>[σ[10]?.join,σ[8]?.join,σ[12]?.join])) (oa [10,8,12] rfl) rfl S.nd rfl (Or.inl rfl) (kW rfl T.ku (ae (aA dh (pv 3) (pv 11)) (ae (pv 10) af))) (λ_ _ _=>.nil) (λ_ _ _=>(az jI (az oo (pv 0) (aA (ip (K:=K)) (pv 2) (pv 3))) (az oo (pv 1) (pv 4)))))
  (ar (@j6 _ _ _ _ _ _ (dA (N:=["number","p"]) (ρ:=(λσ=>[σ[0]?.join])) (cP [0] rfl) rfl (cY (pv 13)) (λ_ _ _=>.nil) (λ_ _ _=>(o6 (P7 (K:=K) (pv 1) (λ_=>rfl)) (az dy (pv 0) (pv 1)) (pv 0)))) (kI (pv 3) (pv 11) set_list) (by rfl) (by rfl) (by rfl))))))
  (ar (putL 7 S.nd (az gQ (pv 7) aj))))))) bG))))
  (ar (aJ (pv 7))))))) ?_)
 have q'45:=id hA;intros am7 q'45 vs ea lv fv;have LN:q=0->∀j,j<=W+1->B ^ j<2 ^ 8192:=λz j hj=>by
  have h1:B ^ j<=B ^ (W+1):=dR ⋯ hj
  have h2:(2*B ^ (W+1)) ^ 1<=(2*B ^ (W+1)) ^ (2 ^ (aa.length-2)):=dR (by have:=sq (n:=W+1) (show 0<B by lia);lia) (sq ∅)
  have h3:=hB z;rw [Nat.pow_one] at h2;lia
 have LO:q=0->B<2 ^ 8192:=λz=>by have:=LN z 1 ⋯;rw [Nat.pow_one] at this;exact this
 refine ⟨by show 0<=sizeLine;decide,λl nl=>?_⟩
 have s0:ag H (upd H l (.lst [])):=a9 nl;have Tq:upd H l (.lst []) l=some (.lst []):=aK;generalize upd H l (.lst [])=H0 at s0 Tq ⊢;dsimp only [aN];simp only [L2.start,df,iD,gE,gZ,List.replicate,g_,gM,aX,aY];refine (ad _ rfl (am a rfl ⟨_,.of (s0 _ _ ea)⟩ ?_));refine wK (K:=K) (a:=a) (xs:=vs) (λi σ Hc=>ag H Hc/\∃(ls:List V) (v4 v5 v6:Option V),σ=[some (.int q),some (.ref a),some (.int (W:Int)),some (.ref l),v4,v5,v6,none,none,none,none,none,none,none]/\Hc l=some (.lst ls)/\ls.length=i/\∀(i':Nat) (v:V),ls[i']?=some v->∃(x:Addr) (ts:List Int) (b:Int),v=.ref x/\x≠l/\Hc x=some (.lst (ts.map V.int))/\Bw q (B ^ (W+1)) W (aa.getD i' []) ts b) (ul s0 [] none (gl none none rfl Tq rfl (λi' v e=>by simp at e))) (λi σ Hc _ ⟨sc,_⟩=>.of (sc _ _ ea)) ?_ ?_
 ·intro i v σ Hc hv;intros am30 _ sc ls v4 v5 v6 rfl el ll Hj
  have hi:i<aa.length:=by rw [<-lv];exact (aL.mp hv).1
  have q'46:=(fv i v aa[i] hv (by simp [hi]));intros am16 q'46 r rfl ws ew lw fw
  have lp:=hm _ (aG hi);dsimp only [aN];simp only [aX,aY];refine Tp ?_;simp only [aX,aY];refine fY (Cw λR hR=>?_);dsimp only;have Tr:∀p∈aa[i],aC q p.2/\p.1.natAbs<=B/\p.2.natAbs<=B:=λp hp=>by
   obtain ⟨j,hj,e⟩:=eJ.mp hp;have eG:j<ws.length:=by lia
   have z:=fw j ws[j] p (by simp [eG]) (by simp [hj,e])
   exact ⟨z.bot hq,z.both B1⟩
  have fin:∀(big:Int) (v6:Option V) (Hd:Hp),ag Hc Hd->aC q big->(∀p∈aa[i],p.2∣big)->big.natAbs<=B ^ W->R [some (.int q),some (.ref a),some (.int (W:Int)),some (.ref l),some (.ref r),some (.int big),v6,none,none,none,none,none,none,none] Hd:=λbig v6 Hd sd G1 dv bb=>hR _ _ (by
   have LQ:=sd _ _ el;have Ts:=sd _ _ (sc _ _ ew);refine (am _ rfl (.inl (re rfl _ (.of LQ))) ?_);refine fc (xs:=ws) (λR h=>(ad _ rfl (am r rfl ⟨_,.of Ts⟩ (h _ _ (ag.refl _) (eR (.of Ts)))))) (by rw [lw,lp];exact cR ⋯) (λD j y Hx=>∃t:Int,y=.int t/\t*(aa[i].getD j o1).2=(aa[i].getD j o1).1*big/\t.natAbs<=B ^ (W+1)/\(q≠0->0<=t/\t<q)) (λD j y Ha Hb ys h e f=>h) ?_ ?_
   ·intro D j v hj He R' se _ kc
    have j1:j<ws.length:=(aL.mp hj).1;have j2:j<aa[i].length:=by lia
    have z:=fw j v aa[i][j] hj (by simp [j2])
    rw [getD_at j2] at kc;have bp:=Tr _ (aG j2);have dp:=dv _ (aG j2);generalize aa[i][j]=p at z kc bp dp;obtain ⟨x,m⟩:=p;refine (db _ rfl _ rfl (cM (λhp=>?_) (λhp=>?_)))
    ·have hp:q≠0:=by simpa using hp
     cases z with
     | cq er lo bx bm=>exact absurd rfl hp
     | rem h0 h1 h2=>exact (ad _ rfl (kc _ He (ag.refl _) ⟨x,rfl,by rw [G1.2 hp];rfl,au bp.2.1 (Nat.le_self_pow ⋯ B),λ_=>⟨h0,h1⟩⟩))
    ·have hp:q=0:=by simpa using hp
     subst hp;cases z with
     | rem h0 h1 h2=>lia
     | cq er lo bx bm=>
      rename_i pa
      have e1:=se _ _ (sd _ _ (sc _ _ er));have m0:m≠0:=by have:=lo.pos;lia
      obtain ⟨e,ee⟩:=dp;dsimp only at ee;have ef:big.fdiv m=e:=by rw [ee,Int.mul_fdiv_cancel_left _ m0]
      have be:e.natAbs<=B ^ W:=by refine au ?_ bb;rw [ee,bU];exact g9 _ (kC.mpr m0)
      have we:Wide e:=bT be (LN rfl W ⋯)
      have wx:Wide x:=bT bx (LO rfl);have wm:Wide m:=bT bm (LO rfl);refine (ad _ rfl (wE pa _ _ _ rfl rfl (.of e1) rfl _ rfl (nw _ rfl pa _ _ _ rfl rfl (.of e1) rfl (gl _ _ rfl rfl ⟨m0,wm⟩ (gl _ _ rfl rfl ⟨wx,by rw [ef];exact we⟩ (kc _ He (ag.refl _) ⟨x*e,by rw [ef],?_,?_,λz=>absurd rfl z⟩))))))
      ·dsimp only
       rw [ee];grind
      ·rw [bU]
       exact au (cA bx be) (by rw [nP,oQ];exact aP _)
   ·intro D ys He nD se dN hP eD
    have q'47:=(pick (R:=fun(j:Nat) (y:V) (t:Int)=>y=.int t/\t*(aa[i].getD j o1).2=(aa[i].getD j o1).1*big/\t.natAbs<=B ^ (W+1)/\(q≠0->0<=t/\t<q)) hP);intros am0 q'47 ts lt ht;have ey:ys=ts.map V.int:=pP lt.symm λj v e=>by
     have j1:j<ys.length:=(aL.mp e).1;have j2:j<ts.length:=by lia
     exact ⟨ts[j],by simp [j2],(ht j v ts[j] e (by simp [j2])).1⟩
    have lt':ts.length=W:=by rw [lt,dN,lw,lp]
    have LR:∀j,j<W->ts.getD j 0*(aa[i].getD j o1).2=(aa[i].getD j o1).1*big/\(ts.getD j 0).natAbs<=B ^ (W+1)/\(q≠0->0<=ts.getD j 0/\ts.getD j 0<q):=λj hj=>by
     have j1:j<ys.length:=by lia
     have j2:j<ts.length:=by lia
     rw [getD_at j2];exact (ht j ys[j] ts[j] (by simp [j1]) (by simp [j2])).2
    rw [ey] at eD;have Tu:D≠l:=λe=>by rw [e,LQ] at nD;cases nD
    have z8:=se _ _ LQ;refine (o0 l ls _ rfl rfl z8 (bT (show ls.length<=100 by lia) ∅) ?_)
    have K9:H l=none:=nl;refine (ul (e_ (sc.trans (sd.trans se)) K9) (ls++[.ref D]) _ (gl _ _ rfl aK (by simp [ll]) (λi' v fO=>?_)))
    by_cases z:i'<ls.length
    ·rw [gL z] at fO
     have q'48:=Hj i' v fO;intros am20 q'48 x ts' b e1 e2 e3 e4;exact ⟨x,ts',b,e1,e2,by rw [cj e2];exact se _ _ (sd _ _ e3),e4⟩
    ·have ei:i'=i:=by have:=(aL.mp fO).1;simp at this;lia
     subst ei;rw [iA ⋯,ll,qu] at fO
     cases fO;refine ⟨D,ts,big,rfl,Tu,by rw [cj Tu];exact eD,?_⟩
     rw [getD_at hi];refine ⟨lt',G1,λk' dC=>(LR k' dC).1,λk'=>?_,λz k' dC=>(LR k' dC).2.2 z⟩;by_cases dC:k'<W;·exact (LR k' dC).2.1
     ·rw [Pn ⋯]
      exact f_ _)
  refine (gt _ rfl rfl _ rfl (cM (λhp=>?_) (λhp=>?_)))
  ·have hp:q=0:=by simpa using hp
   subst hp;refine (ad _ rfl (am r rfl ⟨_,.of (sc _ _ ew)⟩ ?_));refine wK (K:=K) (a:=r) (xs:=ws) (λj σ Hd=>ag Hc Hd/\∃(big:Int) (v6:Option V),σ=[some (.int 0),some (.ref a),some (.int (W:Int)),some (.ref l),some (.ref r),some (.int big),v6,none,none,none,none,none,none,none]/\1<=big/\(∀p∈aa[i].take j,p.2∣big)/\big.natAbs<=B ^ j) ⟨ag.refl _,1,v6,rfl,∅,(λp hp=>by simp at hp),by simp⟩ (λj σ Hd _ ⟨sd,_⟩=>.of (sd _ _ (sc _ _ ew))) ?_ ?_
   ·intro j v σ Hd hj;intros am22 _ sd big Tv rfl b1 dv bb
    have j1:j<ws.length:=(aL.mp hj).1;have j2:j<aa[i].length:=by lia
    have z:=fw j v aa[i][j] hj (by simp [j2])
    have tk:aa[i].take (j+1)=aa[i].take j++[aa[i][j]]:=by rw [List.take_succ];simp [j2]
    rw [tk];generalize aa[i][j]=p at z;obtain ⟨x,m⟩:=p;cases z with
    | rem h0 h1 h2=>lia
    | cq er lo bx bm=>
     rename_i pa
     have mp:=lo.pos;have wb:Wide big:=bT bb (LN rfl j ⋯)
     have wm:Wide m:=bT bm (LO rfl);dsimp only [aN];simp only [aX,aY];refine (ad _ rfl (nw _ rfl pa _ _ _ rfl rfl (.of (sd _ _ (sc _ _ er))) rfl (gl _ _ rfl rfl ⟨wb,wm⟩ ?_)));refine ⟨sd,big*m,_,rfl,?_,λp hp=>?_,?_⟩
     ·have:=fk (show 0<big by lia) (show 0<m by lia)
      lia
     ·rcases lJ.mp hp with y | y
      ·exact jW (dv p y) (Int.dvd_mul_right ..)
      ·rw [iC.mp y]
       exact qs ..
     ·rw [bU,nP]
      exact cA bb bm
   ·intro σ Hd;intros am22 _ sd big Tv rfl b1 dv bb
    rw [lw,List.take_length] at dv;refine fin big Tv Hd sd ⟨λ_=>b1,λz=>absurd rfl z⟩ dv (au bb ?_);rw [lw,lp];exact aP _
  ·have hp:q≠0:=by simpa using hp
   exact fin 1 v6 Hc (ag.refl _) aC.one (λp tO=>by rw [((Tr p tO).1).2 hp];exact mI 1) (sq ⋯)
 ·intro σ H1;intros am30 _ s1 ls v4 v5 v6 rfl el ll Hj
  obtain ⟨f,hf⟩:=m8 (n:=aa.length) (α:=List Int×Int) (R:=λi y=>∃x:Addr,ls[i]?=some (.ref x)/\x≠l/\H1 x=some (.lst (y.1.map V.int))/\Bw q (B ^ (W+1)) W (aa.getD i []) y.1 y.2) λi hi=>by
   have a_:i<ls.length:=by lia
   obtain ⟨x,ts,b,e1,h2,h3,h4⟩:=Hj i ls[i] (by simp [a_])
   exact (gl (ts,b) x (by rw [<-e1];simp [a_]) h2 h3 h4)
  obtain ⟨AA,oH⟩:∃AA:Nat->Nat->Int,∀i k,AA i k=(f i).1.getD k 0:=⟨λi k=>(f i).1.getD k 0,λi k=>rfl⟩;have iR:pX H1 l aa.length W AA:=by
   refine (am ls el ⋯ (λi v hv=>?_))
   have a_:i<aa.length:=by have:=(aL.mp hv).1;lia
   obtain ⟨x,e1,e2,e3,e4⟩:=hf i a_;rw [e1] at hv;cases hv;refine (am x rfl e2 ?_);rw [show AA i=λk=>(f i).1.getD k 0 from funext λk=>oH i k,PM _ e4.len];exact e3
  have I0:jq q aa.length W (2*B ^ (W+1)) AA AA 0 0 (λ_=>0):=jq.start (λz i k' hi hk=>by
    obtain ⟨x,e1,e2,e3,e4⟩:=hf i hi;rw [oH i k'];exact e4.rem z k' hk) (λz i k' hi hk=>by
    obtain ⟨x,e1,e2,e3,e4⟩:=hf i hi;rw [oH i k'];exact fq 2 (e4.bd k'))
  have nk:∀{M:aE} {c:Nat} {g:Nat->Nat},jq q aa.length W (2*B ^ (W+1)) AA M c W g->∃L,i_ q aa.length W aa L/\L.length=c:=fun{M c g} h=>h.lead hq (b:=λi=>(f i).2) rfl hm (λps h1 p h2=>(hA.nums hq ps h1 p h2).2.1) (λi hi=>by
    obtain ⟨x,e1,e2,e3,e4⟩:=hf i hi;exact e4.ok) (λi k' hi hk=>by
    obtain ⟨x,e1,e2,e3,e4⟩:=hf i hi;rw [oH i k'];exact e4.eq k' hk)
  clear hf oH Hj ll;dsimp only;refine Tp ?_;simp only [aX,aY];refine (ad _ rfl (ii (W:Int) rfl ⋯ ⋯ ?_))
  rw [dr];refine lZ (λj σ Hc=>ag H Hc/\∃(M:aE) (c:Nat) (g:Nat->Nat) (v8 v9 v10 v11 gX eS:Option V),σ=[some (.int q),some (.ref a),some (.int (W:Int)),some (.ref l),v4,v5,v6,some (.int (c:Int)),v8,v9,v10,v11,gX,eS]/\pX Hc l aa.length W M/\jq q aa.length W (2*B ^ (W+1)) AA M c j g) (And.intro s1 (zn AA 0 (λ_=>0) none none none none (ce none none rfl iR I0))) ?_ ?_
  ·intro j σ Hc hj;intros am25 _ sc M c g v8 v9 v10 am18 v11 gX eS rfl iR I
   rw [show (0:Int)+(j:Int)=(j:Int) by lia]
   have q'55:=id iR;intros am7 q'55 ls el ll fl;have cn:=I.cn;dsimp only [aN];simp only [aX,aY];refine fY (gx (Zj (xs:=(List.range (aa.length-c)).map λi:Nat=>V.int ((c:Int)+(i:Int))) (λi=>!decide (V.int (M (c+i) j)=V.int 0)) (λR h=>(tz _ rfl _ rfl l ls rfl (.inl (.of el)) (ce (c:Int) (ls.length:Int) rfl ⟨⋯,⋯,⋯,⋯⟩ ?_))) (by rw [aV,gc];exact cR ⋯) ?_ (λi x hx Hd R h=>(ad _ rfl h)) ?_))
   ·rw [show ((ls.length:Int)-(c:Int)).toNat=aa.length-c by lia]
    exact h _ _ (ag.refl _) mi
   ·intro i x hx Hd R sd h
    have hi:i<aa.length-c:=by have:=(aL.mp hx).1;simpa using this
    have ex:x=.int ((c:Int)+(i:Int)):=by rw [bu] at hx;simp [hi] at hx;exact hx.symm
    subst ex;have hc:c+i<ls.length:=by lia
    obtain ⟨y,ey,_,Cy⟩:=fl (c+i) ls[c+i] (by simp [hc])
    refine (ad _ rfl (nw _ rfl l ls _ (.ref y) rfl rfl (.of (sd _ _ el)) ?_ (nw _ rfl y _ _ _ rfl rfl (.of (sd _ _ Cy)) (qO hj (M (c+i))) (sw rfl _ rfl h))));rw [show (c:Int)+(i:Int)=((c+i:Nat):Int) by lia]
    exact cK (by rw [<-ey];simp [hc])
   ·intro D ys Hd nD sd h1 h2 eD
    dsimp only [aN];simp only [aX,aY];have nts:∀v∈ys,∃i,v=.int i:=λv hv=>by
     obtain ⟨i,_,e⟩:=h1 v hv;rw [bu] at e;cases e':(List.range (aa.length-c))[i]? with
     | none=>rw [e'] at e;cases e
     | some w=>rw [e'] at e;cases e;exact ⟨_,rfl⟩
    refine (am _ rfl (by show 0<=sizeLine;decide) (λb nb=>?_))
    have s2:ag Hd (upd Hd b (.lst [])):=a9 nb;have eb:upd Hd b (.lst []) b=some (.lst []):=aK;generalize upd Hd b (.lst [])=He at s2 eb;have vL:=sc.trans (sd.trans s2);have LS:=(iR.mono sd).mono s2;have Hk:=s2 _ _ eD;refine (o0 D b ys rfl rfl (.of Hk) eb (sw nts _ rfl ?_));cases ys with
    | nil=>
     refine bQ ?_;refine (And.intro vL (zn M c g _ _ _ _ (ce _ _ rfl LS (I.skip λi h3 h4=>?_))));refine oS λh5=>h2 (i-c) (by rw [aV,gc];lia) ?_ rfl
     rw [show c+(i-c)=i by lia]
     simpa using h5
    | cons v zO=>
     refine dW ?_;have q'58:=h1 v jx;intros am0 q'58 i0 Tw Cz;have w_:i0<aa.length-c:=by have:=(aL.mp Cz).1;simpa using this
     have ev:v=.int ((c+i0:Nat):Int):=by rw [bu] at Cz;simp [w_] at Cz;rw [<-Cz];simp
     subst ev;have ns:M (c+i0) j≠0:=by simpa using Tw
     have Tx:c<=c+i0:=by lia
     have sn:c+i0<aa.length:=by lia
     generalize c+i0=s' at ns Tx sn Hk;clear Cz Tw w_;have z8:=s2 _ _ (sd _ _ el);have LS:=(iR.mono sd).mono s2;have dG:s'<ls.length:=by lia
     have fV:c<ls.length:=by lia
     have q'59:=(fl s' ls[s'] (by simp [dG]));intros am7 q'59 x ex xl LU
     have q'60:=(fl c ls[c] (by simp [fV]));intros am7 q'60 y ey yl Cy
     have LU:=s2 _ _ (sd _ _ LU);have Cy:=s2 _ _ (sd _ _ Cy);have Dl:D≠l:=λe=>by rw [e,el] at nD;cases nD
     have ats:dF ls (s':Int)=some (.ref x):=cK (by rw [<-ex];simp [dG])
     have EE:dF ls (c:Int)=some (.ref y):=cK (by rw [<-ey];simp [fV])
     have jd:dF (V.int (s':Int)::zO) 0=some (V.int (s':Int)):=by exact cK (j:=0) rfl
     refine (ad _ rfl (nw _ rfl D _ _ _ rfl rfl (.of Hk) jd (sB l ls _ (.ref x) rfl rfl (.of z8) ats ?_)));dsimp only [aN];simp only [aX,aY];refine (db _ rfl _ rfl (wE l ls _ (.ref y) rfl rfl (.of z8) EE _ rfl (nw _ rfl D _ _ _ rfl rfl (.of Hk) jd (sB l ls _ s' rfl rfl z8 (by unfold ie;rw [ao ⋯,ao ⋯,dr]) ?_))))
     have Tz:=LS.put z8 yl Cy sn;have LV:upd He l (.lst (ls.set s' (.ref y))) l=some (.lst (ls.set s' (.ref y))):=aK;have LW:upd He l (.lst (ls.set s' (.ref y))) x=some (.lst (((List.range W).map (M s')).map V.int)):=by rw [cj xl];exact LU
     have s3:ag H (upd He l (.lst (ls.set s' (.ref y)))):=e_ vL nl;dsimp only;generalize upd He l (.lst (ls.set s' (.ref y)))=H3 at Tz LV LW s3 ⊢;refine (db _ rfl _ rfl (nw _ rfl l (ls.set s' (.ref y)) _ c rfl rfl LV (by unfold ie;rw [iB,ao ⋯,ao ⋯,dr]) ?_))
     have vF:=Tz.put LV xl LW (show c<aa.length by lia)
     rw [swap_eq] at vF;have Hl:upd H3 l (.lst ((ls.set s' (.ref y)).set c (.ref x))) x=some (.lst (((List.range W).map (M s')).map V.int)):=by rw [cj xl];exact LW
     have s4:ag H (upd H3 l (.lst ((ls.set s' (.ref y)).set c (.ref x)))):=e_ s3 nl;have zQ:upd H3 l (.lst ((ls.set s' (.ref y)).set c (.ref x))) l=some (.lst ((ls.set s' (.ref y)).set c (.ref x))):=aK;dsimp only;generalize upd H3 l (.lst ((ls.set s' (.ref y)).set c (.ref x)))=H4 at vF Hl s4 zQ ⊢;obtain ⟨I',LX⟩:=I.next hq (by have:=sq (n:=W+1) (show 0<B by lia);lia) hj Tx sn ns
     have e1:cz M c s' c=M s':=by
      unfold cz;by_cases z:c=s';·rw [ao z,z]
      ·rw [aq z,ao rfl]
     rw [<-e1] at Hl;generalize cz M c s'=M1 at vF Hl I' LX;refine (dL _ rfl _ _ rfl rfl (dL _ rfl l _ rfl (.inl (.of zQ)) (ce _ _ rfl ⟨⋯,⋯,⋯,by have:=iB (as:=ls.set s' (.ref y)) (i:=c) (a:=.ref x);have:=iB (as:=ls) (i:=s') (a:=.ref y);lia⟩ ?_)))
     rw [show (((((ls.set s' (.ref y)).set c (.ref x)).length:Nat):Int)-((c:Int)+1)).toNat=aa.length-(c+1) by simp;lia]
     have r0:i9 q M1 c j 0=M1:=by
      funext i
      unfold i9;rw [aq ⋯]
     refine lZ (λm σ Hc=>ag H Hc/\∃(v11 gX eS:Option V),σ=[some (.int q),some (.ref a),some (.int (W:Int)),some (.ref l),v4,v5,v6,some (.int (c:Int)),some (.int (j:Int)),some (.ref D),some (.ref x),v11,gX,eS]/\pX Hc l aa.length W (i9 q M1 c j m)/\Hc x=some (.lst (((List.range W).map (M1 c)).map V.int))) (re s4 _ (ce _ _ rfl (by rw [r0];exact vF) Hl)) ?_ ?_
     ·intro m σ H5 gU;intros am23 _ s5 v11 gX eS rfl Hm CA
      obtain ⟨i',hI⟩:∃i',i'=c+1+m:=⟨_,rfl⟩;have ei:(c:Int)+1+(m:Int)=(i':Int):=by lia
      rw [ei];have hi:i'<aa.length:=by lia
      have er:i9 q M1 c j m (i')=M1 (i'):=by unfold i9;rw [aq ⋯]
      have LH:i9 q M1 c j (m+1)=λj'=>if j'=i' then (λk=>if q=0 then M1 (i') k*M1 c j-M1 c k*M1 (i') j else (M1 (i') k*M1 c j-M1 c k*M1 (i') j) % q) else i9 q M1 c j m j':=by
       funext j'
       by_cases z:j'=i'
       ·rw [ao z,z]
        unfold i9;rw [ao ⟨⋯,⋯⟩]
       ·rw [aq z]
        unfold i9;by_cases w:c<j'/\j'<c+1+m;·rw [ao w,ao ⟨w.1,⋯⟩]
        ·rw [aq w,aq (λu=>w ⟨u.1,⋯⟩)]
      have q'61:=id Hm;intros am7 q'61 z9 mC ll5 fl5;have h5:i'<z9.length:=by lia
      have q'62:=(fl5 (i') z9[i'] (by simp [h5]));intros am7 q'62 y5 ey5 yl5 Hn
      rw [er] at Hn;have wd:∀i k,i<aa.length->k<W->Wide (M1 i k):=λi k hi hk=>by
       by_cases z:q=0
       ·have h1:=(LX i k hi hk).2 z
        have h2:=hB z;have h3:(2*B ^ (W+1)) ^ (2 ^ c)<=(2*B ^ (W+1)) ^ (2 ^ (aa.length-2)):=dR (by have:=sq (n:=W+1) (show 0<B by lia);lia) (dR ∅ ⋯)
        unfold Wide;lia
       ·exact adU ((LX i k hi hk).1 z) hq
      have p5:c<aa.length:=by lia
      dsimp only [aN];simp only [aX,aY];have TB:dF z9 (i':Int)=some (.ref y5):=cK (by rw [<-ey5];simp [h5])
      refine (ad _ rfl (nw _ rfl l z9 _ (.ref y5) rfl rfl (.of mC) TB (nw _ rfl y5 _ _ _ rfl rfl (.of Hn) (qO hj (M1 i')) ?_)));dsimp only [aN];simp only [aX,aY];refine fY (gx (JF (xs:=(List.range W).map (M1 i')) (ys:=(List.range W).map (M1 c)) (λu v=>u*M1 c j-v*M1 i' j) (by simp;lia) (λR h=>(ad _ rfl (nw _ rfl l z9 _ (.ref y5) rfl rfl (.of mC) TB (on _ rfl y5 x rfl ⟨_,.of Hn⟩ ⟨_,.of CA⟩ (h _ _ (ag.refl _) (m6 (.of Hn) (.of CA))))))) ?_ ?_))
      ·intro u v huv Hf R sf kf
       have mz:=An huv;obtain ⟨k1,K3,rfl⟩:=fI.mp mz.1;obtain ⟨k2,K4,rfl⟩:=fI.mp mz.2;exact (db _ rfl _ rfl (nw _ rfl x _ _ _ rfl rfl (.of (sf _ _ CA)) (qO hj (M1 c)) (gl _ _ rfl rfl ⟨wd _ _ hi (gs.mp K3),wd _ _ p5 hj⟩ (db _ rfl _ rfl (pc _ _ rfl rfl ⟨wd _ _ p5 (gs.mp K4),wd _ _ hi hj⟩ _ _ rfl rfl (kf Hf (ag.refl _)))))))
      ·intro D6 H6 nD6 s6 Cm
       have ez:=JE W (M1 i') (M1 c) (λu v=>u*M1 c j-v*M1 i' j);rw [ez] at Cm;dsimp only [aN];simp only [aX,aY];refine gx (YC (ts:=(List.range W).map λk=>M1 i' k*M1 c j-M1 c k*M1 i' j) (λt=>if q=0 then t else t % q) (by simp;lia) (λR h=>(ad _ rfl (am D6 rfl ⟨_,.of Cm⟩ (h _ _ (ag.refl _) (eR (.of Cm)))))) ?_ ?_)
       ·intro t _ Hf R sf kf
        refine (db _ rfl _ rfl (cM (λhp=>?_) (λhp=>?_)))
        ·have hp:q≠0:=by simpa using hp
         rw [aq hp] at kf;have q0:0<q:=by rcases hq with h | h <;> lia
         exact (ms _ rfl _ rfl _ _ rfl rfl q0 (kf Hf (ag.refl _)))
        ·have hp:q=0:=by simpa using hp
         rw [ao hp] at kf;exact (ad _ rfl (kf Hf (ag.refl _)))
       ·intro D7 H7 GV s7 zR
        have rD:=s6.trans s7;have TC:=rD _ _ mC;have em:((List.range W).map λk=>M1 i' k*M1 c j-M1 c k*M1 i' j).map (λt=>if q=0 then t else t % q)=(List.range W).map λk=>if q=0 then M1 i' k*M1 c j-M1 c k*M1 i' j else (M1 i' k*M1 c j-M1 c k*M1 i' j) % q:=by rw [AG];rfl
        rw [em] at zR;have D7l:D7≠l:=λe=>by rw [e,s6 _ _ mC] at GV;cases GV
        refine (ad _ rfl (nw _ rfl l z9 _ i' rfl rfl TC (by unfold ie;rw [ao ⋯,ao ⋯,dr]) ?_))
        have iR8:=(Hm.mono rD).put TC D7l zR hi;refine (re (e_ (s5.trans rD) nl) _ (ce _ _ rfl ?_ ?_))
        ·rw [LH]
         exact iR8
        ·have xl':x≠l:=xl
         rw [cj xl'];exact rD _ _ CA
     ·intro σ H5;intros am23 _ s5 v11 gX eS rfl Hm CA
      refine (dL _ rfl _ _ rfl rfl ?_);exact (And.intro s5 (zn _ (c+1) _ _ _ _ _ (ce _ _ rfl Hm I')))
  ·intro σ Hc;intros am25 _ sc M c g v8 v9 v10 am18 v11 gX eS rfl iR I
   obtain ⟨L,hL,eL⟩:=nk I;have kk:=k L Hc sc hL;rw [eL] at kk;exact (ad _ rfl kk)
theorem Ho{t:TS}(b:Bool)(hc:∀Q:Bool->Hp->Prop,Q b H->c σ H Q)(ht:b=true->t D σ H)(hu:b=false->u D σ H):AQ c t u D σ H:=hc _ (by
 cases b with
 | true=>rw [ao rfl];exact ht rfl
 | false=>rw [aq d3];exact hu rfl)
variable {Q:Bool->Hp->Prop}
theorem eq_test{w:Int}(e:σ[i]?=some (some (.int w)))(h:Q (decide (w=a)) H):wN (l6 AV (jD i) (tC (.int a))) σ H Q:=⟨.int w,e,rfl,_,rfl,by rw [eZ];exact h⟩
theorem TF{w b:Int}(e:σ[i]?=some (some (.int w)))(h:Q (decide (w=a) || decide (w=b)) H):Nt (wN (l6 AV (jD i) (tC (.int a)))) (wN (l6 AV (jD i) (tC (.int b)))) σ H Q:=by
 refine eq_test e ?_;cases z:decide (w=a) with
 | true=>rw [z,Bool.true_or] at h;rw [ao rfl];exact h
 | false=>rw [z,Bool.false_or] at h;rw [aq d3];exact eq_test e h
def CB(n kk:Nat)(way:Int)(f:Nat->List (Int×Int)):Prop:=(∀i,i<n->de (10 ^ 12) (10 ^ 6) (f i))\/(way≠3/\way≠4/\∀i,i<n->de (if i=kk then 10 ^ 30 else 10 ^ 12) (if i=kk then 2*10 ^ 12 else 10 ^ 6) (f i))
def LY(n kk:Nat)(way:Int)(f:Nat->List (Int×Int)):Prop:=(∀i,i<n->de (10 ^ 12) (10 ^ 6) (f i))\/(way≠3/\way≠4/\∀i,i<n->de (if i=kk then 10 ^ 36 else 10 ^ 18) (if i=kk then 4*10 ^ 18 else 2*10 ^ 12) (f i))
def TH(n kk:Nat)(way:Int)(f:Nat->List (Int×Int)):Prop:=LY n kk way f\/(way≠4/\∀i,i<n->de (10 ^ 24) (10 ^ 12) (f i))
variable {n kk:Nat} {way:Int}
theorem CB.up{f:Nat->List (Int×Int)}(h:CB n kk way f):∀i,i<n->de (if i=kk then 10 ^ 30 else 10 ^ 12) (if i=kk then 2*10 ^ 12 else 10 ^ 6) (f i):=λi hi=>by
 rcases h with h | ⟨_,_,h⟩
 ·refine (h i hi).weak ?_ ?_
  ·split <;> decide
  ·split <;> decide
 ·exact h i hi
theorem CB.two{f:Nat->List (Int×Int)}(h:CB n kk way f):LY n kk way f:=by
 rcases h with h | ⟨h1,h2,h⟩;·exact .inl h
 ·refine .inr ⟨h1,h2,λi hi=>(h i hi).weak ?_ ?_⟩
  ·split <;> decide
  ·split <;> decide
structure Hq (H Hc:Hp) (q:Int) (tb yb:Addr) (n m:Nat) (A:Nat->Addr) (f:Nat->List (Int×Int)) (byp:aI):Prop where
 same:ag H Hc
 dt:jO H Hc q tb n m A f
 hy:aM (10 ^ 150) Hc q yb byp
 ty:tb≠yb
 ay:∀i,i<n->A i≠yb
theorem ad7{x:Addr}{ps:aI}(hq:aD q)(hn:q≠0)(h:aM B H q x ps):bj q 1000 ps:=by
 have nums:=h.nums hq;have q9:q<=997:=by rcases hq with h | h <;> lia
 refine ⟨1,λj=>(ps.getD j o1).1,⟨λz=>absurd z hn,λ_=>rfl⟩,∅,λp hp=>?_,λj hj=>?_⟩
 ·rw [((nums p hp).1.2 hn).1];exact mI 1
 ·obtain ⟨c1,c2,c3⟩:=(nums _ (by rw [getD_at hj];exact aG _:ps.getD j o1∈ps)).1.2 hn
  rw [c1];exact ⟨rfl,by dsimp only;lia⟩
def ad8(K:aQ):Sp:=λvs H Q _=>∃(sa:Addr) (ns:List Int) (q:Int) (n m jd:Nat),vs=[.ref sa,.int q,.int (n:Int),.int (m:Int),.int (jd:Int)]/\cG K H sa (ns.map V.int)/\aD q/\1<=n/\pU q n/\1<=m/\pU q m/\jd<=1000 /\
 ∀(r:Addr) (H':Hp) (aa:aH) (G Dl:Nat->Nat),ag H H'->tD (10 ^ 60) H H' q r aa->aa.length=n->(∀ps∈aa,ps.length=m)->(∀i,1000<=G i/\G i<=10 ^ 60)->(q=0->bS n G<=10 ^ 146)->(q≠0->∀i,G i=1000)->(∀i,i<n->bj q (G i) (aa.getD i []))->(q=0->n<=3->bS n Dl<=10 ^ 72)->(q=0->∀i,i<n->de (Dl i) (4*10 ^ 18) (aa.getD i []))->Q (.ref r) H'
theorem TJ{k:Nat}(n1:1<=n)(n3:n<=3):bS n (λi=>if i=k then 10 ^ 36 else 10 ^ 18)<=10 ^ 72:=by
 obtain ⟨n',rfl⟩:∃n',n=n'+1:=⟨n-1,⋯⟩
 refine au (JQ ∅ k n') (au (fq _ (dR ∅ (show n'<=2 by lia))) (by decide +kernel))
theorem ad9(n3:n<=3):bS n (λ_=>10 ^ 24)<=10 ^ 72:=by rw [m9];exact au (dR ∅ n3) (by decide +kernel)
theorem ad_:bw ["script","p","n","m","at","table","way","rest","by","two","i","row"] ["script","p","n","m","at"] (aR Gr):=bH
theorem aea(T:Txt K mg t):aO P w K mg base bO 3 t.u6 t.yN ["script","p","n","m","at"] (ad8 K):=by
 have S:=ad_;refine T.zG.bV S (λ_ _ _ _ H vs Q _ hr h=>?_);intros am21 h sa ns q n m jd am28 rfl hS hq n1 hn m1 hm ha0 k
 refine (ad _ (ak (d4 5 S.nd (O8 (N:=["i","m","p","script","at"]) (ρ:=(λσ=>[σ[3]?.join,σ[1]?.join,σ[0]?.join,σ[4]?.join])) ⟨rfl,rfl,(λ_=>rfl),(λ_=>rfl),by decide +kernel,(qp.mpr ⟨rfl,(qp.mpr ⟨rfl,(qp.mpr ⟨rfl,(qp.mpr ⟨rfl,(Df _)⟩)⟩)⟩)⟩),O7 (by rfl),rfl,by decide +kernel,rfl,(λσ j v h=>match j,h with | 0,h=>⟨3,_,rfl,rfl,join_some h,Or.inr (Or.inl rfl),.inl rfl,.inl rfl⟩ | 1,h=>⟨1,_,rfl,rfl,join_some h,Or.inr (Or.inl rfl),.inl rfl,.inl rfl⟩ | 2,h=>⟨0,_,rfl,rfl,join_some h,Or.inr (Or.inl rfl),.inl rfl,.inl rfl⟩ | 3,h=>⟨4,_,rfl,rfl,join_some h,Or.inr (Or.inl rfl),.inl rfl,.inl rfl⟩ | j+4,h=>by cases h),(λ_ _=>rfl)⟩ rfl (gF rfl T.fg (ae (pv 2) af)) (λ_ _ _=>.nil) (λ_ _ _=>(dA (N:=["j","p","script","at","i","m"]) (ρ:=(λσ=>[σ[2]?.join,σ[3]?.join,σ[4]?.join,σ[0]?.join,σ[1]?.join])) (cP [2,3,4,0,1] rfl) rfl (gF rfl T.fg (ae (pv 1) af)) (λ_ _ _=>.nil) (λ_ _ _=>(aw (Ct T) hr T.zE T.oE.kp T.zD aF (ae (pv 1) (ae (aw (vJ T) hr T.rq T.mw.kp T.rp aF (ae (pv 2) (ae (az gQ (az gQ (pv 3) (az kJ (pv 4) (pv 5))) (pv 0)) af))) af))))))))
  (ak (putL 6 S.nd (az dy (aw (vJ T) hr T.rq T.mw.kp T.rp aF (ae (pv 0) (ae aj af))) aj))
  (ak (d4 7 S.nd (az i4 (aw (vJ T) hr T.rq T.mw.kp T.rp aF (ae (pv 0) (ae aj af))) aj))
  (ak (d4 8 S.nd (eY (ae (aw (Ct T) hr T.zE T.oE.kp T.zD aF (ae (pv 1) (ae (az i4 (pv 7) aj) af))) (ae (aw (Ct T) hr T.zE T.oE.kp T.zD aF (ae (pv 1) (ae (az i4 (pv 7) aj) af))) af))))
  (ak (bC (PW.pt (pw_or (bK eE (pv 6) aj) (pw_or1 (bK eE (pv 6) aj)))) (ak (putL 9 S.nd (eY (ae (aA dh (pv 5) (az dy (az i4 (pv 7) aj) (pv 2))) (ae (aA dh (pv 5) (az dy (az i4 (pv 7) aj) (pv 2))) af))))
  (ar (@j6 _ _ _ _ _ _ (pM (N:=["a","b","p","by"]) (ρ:=(λσ=>[σ[1]?.join,σ[8]?.join])) (oa [1,8] rfl) rfl (kW rfl T.ku (ae (aA dh (pv 9) aj) (ae (aA dh (pv 9) aj) af))) (λ_ _ _=>.nil) (λ_ _ _=>(aw (LK T) hr T.nj T.jQ.kp T.nh aF (ae (pv 2) (ae (pv 3) (ae (eY (ae (pv 0) (ae (pv 1) af))) af)))))) (kI (pv 5) (az dy (pv 7) (pv 2)) set_list) (by rfl) (by rfl) (by rfl)))) bG)
  (ak (bC (PW.pt (pw_or (bK eE (pv 6) aj) (pw_or1 (bK eE (pv 6) aj)))) (ar (gG fJ rfl (gF rfl T.fg (ae (pv 2) af)) (dE (i:=10) S.nd rfl (Or.inl rfl))
   (ak (putL 11 S.nd (aA dh (pv 5) (pv 10)))
  (ar (@j6 _ _ _ _ _ _ (aw (LK T) hr T.nj T.jQ.kp T.nh aF (ae (pv 1) (ae (pv 8) (ae (eY (ae (aA dh (pv 11) (az dy (az i4 (pv 7) aj) (pv 3))) (ae (aA dh (pv 11) (az dy (az i4 (pv 7) aj) (pv 3))) af))) af)))) (kI (pv 11) (az dy (az i4 (pv 7) aj) (pv 3)) set_list) (by rfl) (by rfl) (by rfl)))))) bG)
  (ak (bC (bK eE (pv 6) aj) (ar (d4 5 S.nd (O8 (N:=["row","table","p"]) (ρ:=(λσ=>[σ[5]?.join,σ[1]?.join])) ⟨rfl,rfl,(λ_=>rfl),(λ_=>rfl),by decide +kernel,(qp.mpr ⟨rfl,(qp.mpr ⟨rfl,(Df _)⟩)⟩),O7 (by rfl),rfl,by decide +kernel,rfl,(λσ j v h=>match j,h with | 0,h=>⟨5,_,rfl,rfl,join_some h,Or.inr (Or.inl rfl),.inl rfl,.inl rfl⟩ | 1,h=>⟨1,_,rfl,rfl,join_some h,Or.inr (Or.inl rfl),.inl rfl,.inl rfl⟩ | j+2,h=>by cases h),(λ_ _=>rfl)⟩ rfl (cY (pv 5)) (λ_ _ _=>.nil) (λ_ _ _=>(dA (N:=["number","p","row"]) (ρ:=(λσ=>[σ[2]?.join,σ[0]?.join])) (cP [2,0] rfl) rfl (Yi (K:=K) (aA (ip (K:=K)) (pv 1) aj)) (λ_ _ _=>.nil) (λ_ _ _=>(aw (LK T) hr T.nj T.jQ.kp T.nh aF (ae (pv 1) (ae (eY (ae (aA (ip (K:=K)) (pv 2) aj) af)) (ae (eY (ae (pv 0) af)) af)))))))))) bG)
  (ak (bC (bK eE (pv 6) aj) (ar (d4 5 S.nd (dA (N:=["i","table","rest","n"]) (ρ:=(λσ=>[σ[5]?.join,σ[7]?.join,σ[2]?.join])) (cP [5,7,2] rfl) rfl (gF rfl T.fg (ae (pv 2) af)) (λ_ _ _=>.nil) (λ_ _ _=>(mU (Pe (K:=K)) rfl T.nB boot_list (ae (aA (ip (K:=K)) (pv 1) (aZ (Vx rfl) rfl T.Sk boot_min (ae (pv 0) (ae (az dy (pv 2) (pv 3)) af)))) af)))))) bG)
  (ar (aJ (pv 5))))))))))) ?_)
 have cO:=hn.qK;have fL:=hm.qK;have im:∀i:Nat,i<n->(i:Int)*(m:Int)<=1600/\0<=(i:Int)*(m:Int):=λi hi=>by
  have:=cA (show i<=40 by lia) fL
  have e:(i:Int)*(m:Int)=((i*m:Nat):Int):=by simp
  lia
 refine fY (gx (Jy (n:=n) (xs:=(List.range n).map λi:Nat=>V.int (0+(i:Int))) (by simp) (λR h=>⟨_,rfl,(n:Int),rfl,⋯,⋯,h _ _ (ag.refl _) (by rw [dr];exact mi)⟩) (cR ⋯) (λD i y Hx=>∃ps:List (Int×Int),H y=none/\aM (10 ^ 6) Hx q y ps/\ps.length=m/\∀p∈ps,p.2.natAbs<=1000) (λD i y Ha Hb ys ⟨ps,h0,h1,h2,h3⟩ nD e f=>(ii ps h0 (mq h1 nD e f) h2 h3)) ?_ ?_))
 ·intro D i v hi Hc R sc ⟨zs,eD⟩ kc
  obtain ⟨a_,rfl⟩:=pR hi;obtain ⟨im1,im2⟩:=im i a_;refine fc (xs:=(List.range m).map λi:Nat=>V.int (0+(i:Int))) (λR h=>⟨_,rfl,(m:Int),rfl,⋯,⋯,h _ _ (ag.refl _) (by rw [dr];exact mi)⟩) (by rw [aV,gc];exact cR ⋯) (λD j y Hx=>∃p:Int×Int,cH (10 ^ 6) Hx q y p.1 p.2/\p.2.natAbs<=1000) (λD i y Ha Hb ys ⟨p,h0,h1⟩ e f=>(ad p (h0.cC e f) h1)) ?_ ?_
  ·intro D' j v hj Hd R' sd _ kd
   obtain ⟨eG,rfl⟩:=pR hj;refine (db _ rfl _ rfl (sK _ rfl _ rfl _ rfl (pc _ _ rfl rfl (.inl ⟨⋯,⋯⟩) _ _ rfl rfl (dL _ rfl _ _ rfl rfl (o0 sa ns _ rfl ((sc.trans sd).seq hS) ⋯ ⋯ (λH3 s3=>(gl q _ rfl hq (Bh ..) (λv x mm H4 s4 hN hb=>kd v H4 (s3.trans s4) (ad (x,mm) hN hb)))))))))
  ·intro D' ys Hd CD sd dN hP qg
   obtain ⟨ps,lp,hp⟩:=pick (R:=λ_ y p=>cH (10 ^ 6) Hd q y (Prod.fst p) (Prod.snd p)/\(Prod.snd p).natAbs<=1000) hP;rw [aV,gc] at dN;refine kc D' Hd sd CD ⟨_,qg⟩ ⟨ps,none_of sc CD,(am ys qg lp.symm (λj v p h1 h2=>(hp j v p h1 h2).1)),⋯,λp tO=>?_⟩
   obtain ⟨j,hj,e⟩:=eJ.mp tO;have j1:j<ys.length:=by lia
   exact (hp j ys[j] p (by simp [j1]) (by simp [hj,e])).2
 intro tb A1 H1 TK s1 inj hA z_;have Aa:=λi hi=>(hA i hi).1;obtain ⟨f,hf⟩:=m8 (n:=n) (α:=List (Int×Int)) (R:=λi ps=>H (A1 i)=none/\aM (10 ^ 6) H1 q (A1 i) ps/\ps.length=m/\∀p∈ps,p.2.natAbs<=1000) Aa;have dt:jO H H1 q tb n m A1 f:=⟨z_,TK,inj,λi hi=>by obtain ⟨h1,h2,h3,_⟩:=hf i hi;exact ⟨(hA i hi).2,h1,h2.weak ∅,h3⟩⟩
 have bv:q=0->∀i,i<n->de (10 ^ 12) (10 ^ 6) (f i):=λz i hi=>by
  obtain ⟨h1,h2,h3,h4⟩:=hf i hi;refine (JM (f i) λp hp=>?_).weak ?_ (aP _)
  ·obtain ⟨_,b,v,hv⟩:=h2.nums hq p hp
   exact ⟨(hv.both ∅).1,b.1 z,h4 p hp⟩
  ·rw [h3]
   exact au (dR ∅ (hm.l4 z)) ∅
 clear hf Aa hA inj z_;dsimp only [aN];simp only [L2.start,df,iD,gE,gZ,List.replicate,g_,gM,aX,aY];have d0:=Bh ns 2;have d1:=OP ns 2;refine (ad _ rfl (o0 sa ns 2 rfl (s1.seq hS) ∅ ∅ (λH2 s2=>(gl _ _ rfl rfl (by show (0:Int)<8;decide) ?_))))
 dsimp only [aN];simp only [aX,aY];refine (ad _ rfl (o0 sa ns 2 rfl ((s1.trans s2).seq hS) ∅ ∅ (λH3 s3=>(gl _ _ rfl rfl ⟨∅,b_.of_lt ∅ ∅⟩ ?_))))
 dsimp only [aN];simp only [aX,aY];generalize al4:mY ns 2 % 8=way;have r0:0<=mY ns 2 / 8:=Av d0 ∅
 generalize mY ns 2 / 8=rest at r0;have vM:∀c:Int,0<c->c<10000->OF rest c:=λc h1 h2=>⟨h1,b_.of_lt ⋯ ⋯⟩
 refine (ms _ rfl _ rfl _ _ rfl rfl (vM 1000 ∅ ∅) (gl q _ rfl hq (Av r0 ∅) (λb0 x0 m0 H4 s4 Hr lb0=>?_)))
 refine (ms _ rfl _ rfl _ _ rfl rfl (vM 7000 ∅ ∅) (gl q _ rfl hq (Av r0 ∅) (λb1 x1 rO H5 s5 gC lb1=>?_)))
 refine ⟨by show 2<=sizeLine;decide,λyb Ab=>?_⟩
 have s6:ag H5 (upd H5 yb (.lst [b0,b1])):=a9 Ab;have TL:upd H5 yb (.lst [b0,b1]) yb=some (.lst [b0,b1]):=aK;generalize upd H5 yb (.lst [b0,b1])=H6 at s6 TL ⊢;have TM:aM (10 ^ 150) H6 q yb [(x0,m0),(x1,rO)]:=by
  refine (am [b0,b1] TL rfl (λi v p h1 h2=>?_));have w0:=((Hr.mono s5).mono s6).weak (show 10 ^ 6<=10 ^ 150 by decide +kernel)
  have w1:=(gC.mono s6).weak (show 10 ^ 6<=10 ^ 150 by decide +kernel)
  match i,h1,h2 with
  | 0,h1,h2=>cases h1;cases h2;exact w0
  | 1,h1,h2=>cases h1;cases h2;exact w1
 have Hs:q=0->tE x0 m0 x1 rO:=λz=>⟨(Hr.both ∅).1,(gC.both ∅).1,(Hr.bot hq).1 z,(gC.bot hq).1 z,lb0,lb1⟩
 have nH:=s2.trans (s3.trans (s4.trans (s5.trans s6)));have gK:=s2.trans (s3.trans (s4.trans s5));have LZ:tb≠yb:=λe=>by rw [<-e,gK _ _ dt.at'] at Ab;cases Ab
 have aed:∀i,i<n->A1 i≠yb:=λi hi e=>by obtain ⟨_,_,⟨vs,e',_⟩,_⟩:=dt.rows i hi;rw [e] at e';rw [gK _ _ e'] at Ab;cases Ab
 have Ht:=dt.mono nH;have L4:=s1.trans nH;clear Hr gC Ab s2 s3 s4 s5 s6 gK nH dt;dsimp only [aN];simp only [aX,aY];have nn:(n:Int)≠0:=by lia
 have np:(0:Int)<(n:Int):=by lia
 have modn:∀e:Int,∃u:Nat,u<n/\e % (n:Int)=(u:Int):=λe=>by have h1:=fi e nn;have h2:=fH e np;exact ⟨(e % (n:Int)).toNat,⋯,⋯⟩
 have mn:(m:Int)≠0:=by lia
 have mp:(0:Int)<(m:Int):=by lia
 have L5:∀e:Int,∃u:Nat,u<m/\e % (m:Int)=(u:Int):=λe=>by have h1:=fi e mn;have h2:=fH e mp;exact ⟨(e % (m:Int)).toNat,⋯,⋯⟩
 have q'68:=modn rest;intros am0 q'68 kk L6 TN;have TQ:=aed;have I6:Hq H H6 q tb yb n m A1 f [(x0,m0),(x1,rO)]:=⟨L4,Ht,TM,LZ,TQ⟩;refine fY (Cw λR1 hR1=>?_);have Cq:∀(A2:Nat->Addr) (f2:Nat->List (Int×Int)) (v9:Option V) (H7:Hp),Hq H H7 q tb yb n m A2 f2 [(x0,m0),(x1,rO)]->(q=0->CB n kk way f2)->R1 [some (.ref sa),some (.int q),some (.int (n:Int)),some (.int (m:Int)),some (.int (jd:Int)),some (.ref tb),some (.int way),some (.int rest),some (.ref yb),v9,none,none] H7:=λA2 f2 v9 H7 I7 b7=>hR1 _ _ (by
  dsimp only;refine fY (Cw λR2 G8=>?_);have fin2:∀(f3:Nat->List (Int×Int)) (v10 v11:Option V) (H8:Hp),Hq H H8 q tb yb n m A2 f3 [(x0,m0),(x1,rO)]->(q=0->LY n kk way f3)->R2 [some (.ref sa),some (.int q),some (.int (n:Int)),some (.int (m:Int)),some (.int (jd:Int)),some (.ref tb),some (.int way),some (.int rest),some (.ref yb),v9,v10,v11] H8:=λf3 v10 v11 H8 I8 b8=>G8 _ _ (by
   dsimp only;refine fY (Cw λR3 hR3=>?_);have TR:∀(lH:Addr) (A4:Nat->Addr) (f4:Nat->List (Int×Int)) (H9:Hp),ag H H9->jO H H9 q lH n m A4 f4->(q=0->TH n kk way f4)->R3 [some (.ref sa),some (.int q),some (.int (n:Int)),some (.int (m:Int)),some (.int (jd:Int)),some (.ref lH),some (.int way),some (.int rest),some (.ref yb),v9,v10,v11] H9:=λlH A4 f4 H9 s9 lI b9=>hR3 _ _ (by
    dsimp only;refine fY (Cw λR4 hR4=>?_);have TU:∀(lH:Addr) (A4:Nat->Addr) (f4:Nat->List (Int×Int)) (H9:Hp),ag H H9->jO H H9 q lH n m A4 f4->(q=0->TH n kk way f4)->R4 [some (.ref sa),some (.int q),some (.int (n:Int)),some (.int (m:Int)),some (.int (jd:Int)),some (.ref lH),some (.int way),some (.int rest),some (.ref yb),v9,v10,v11] H9:=λlH A4 f4 H9 s9 lI b9=>hR4 _ _ (by
     have row:∀i,i<n->((List.range n).map f4).getD i []=f4 i:=λi hi=>by
      rw [getD_at (by simpa using hi)]
      simp
     have bY:∀ps∈(List.range n).map f4,ps.length=m:=λps hp=>by obtain ⟨i,hi,e⟩:=fI.mp hp;rw [<-e];exact (lI.rows i (gs.mp hi)).2.2.2
     have tx:∀i,i<n->∀p∈f4 i,Canon q p:=λi hi p hp=>((lI.rows i hi).2.2.1.nums hq p hp).1;dsimp only;refine (ad _ rfl ?_);by_cases z:q=0
     ·subst z
      rcases b9 rfl with (b | ⟨_,_,b⟩) | ⟨_,b⟩
      ·refine k lH H9 _ (λi=>if i=kk then 4*10 ^ 54 else 2*10 ^ 30) (λi=>if i=kk then 10 ^ 36 else 10 ^ 18) s9 lI.EN (by simp) bY (λi=>?_) (λ_=>P_ n1 (hn.l4 rfl)) (λy=>absurd rfl y) (λi hi=>?_) (λ_ n3=>TJ n1 n3) (λ_ i hi=>?_)
       ·split <;> decide
       ·rw [row i hi]
        refine (b i hi).e (tx i hi) ?_ ∅
        split <;> decide
       ·rw [row i hi]
        refine (b i hi).weak ?_ ∅
        split <;> decide
      ·refine k lH H9 _ (λi=>if i=kk then 4*10 ^ 54 else 2*10 ^ 30) (λi=>if i=kk then 10 ^ 36 else 10 ^ 18) s9 lI.EN (by simp) bY (λi=>?_) (λ_=>P_ n1 (hn.l4 rfl)) (λy=>absurd rfl y) (λi hi=>?_) (λ_ n3=>TJ n1 n3) (λ_ i hi=>?_)
       ·split <;> decide
       ·rw [row i hi]
        have bi:=b i hi;by_cases y:i=kk
        ·rw [ao y,ao y] at bi
         rw [ao y];exact bi.e (tx i hi) ∅ ∅
        ·rw [aq y,aq y] at bi
         rw [aq y];exact bi.e (tx i hi) ∅ ∅
       ·rw [row i hi]
        refine (b i hi).weak (aP _) ?_
        split <;> decide
      ·refine k lH H9 _ (λ_=>10 ^ 36) (λ_=>10 ^ 24) s9 lI.EN (by simp) bY (λi=>by decide) (λ_=>Zu (hn.l4 rfl)) (λy=>absurd rfl y) (λi hi=>?_) (λ_ n3=>ad9 n3) (λ_ i hi=>?_)
       ·rw [row i hi]
        exact (b i hi).e (tx i hi) ∅ ∅
       ·rw [row i hi]
        exact (b i hi).weak (aP _) ∅
     ·refine k lH H9 _ (λ_=>1000) (λ_=>1) s9 lI.EN (by simp) bY (λi=>by decide) (λy=>absurd y z) (λ_ _=>rfl) (λi hi=>?_) (λy=>absurd y z) (λy=>absurd y z)
      rw [row i hi];exact ad7 hq z (lI.rows i hi).2.2.1)
    refine Ho (decide (way=4)) (λQ h=>eq_test rfl h) (λhw=>?_) (λhw=>TU lH A4 f4 H9 s9 lI b9);have hw:way=4:=by simpa using hw
    have aeh:q=0->∀i,i<n->de (10 ^ 12) (10 ^ 6) (f4 i):=λz=>by
     rcases b9 z with (b | ⟨_,y,_⟩) | ⟨y,_⟩;·exact b
     ·exact absurd hw y
     ·exact absurd hw y
    have Ac:∀j:Nat,j<n->dF ((List.range n).map λi=>V.ref (A4 i)) (j:Int)=some (.ref (A4 j)):=λj hj=>cK (by simp [hj])
    refine gx (Jy (n:=n) (xs:=(List.range n).map λi:Nat=>V.int (0+(i:Int))) (by simp) (λR h=>⟨_,rfl,(n:Int),rfl,⋯,⋯,h _ _ (ag.refl _) (by rw [dr];exact mi)⟩) (cR ⋯) (λD i y Hx=>∃ps:List (Int×Int),H y=none/\aM (10 ^ 60) Hx q y ps/\ps.length=m/\(q=0->de (10 ^ 12) (10 ^ 6) ps)) (λD i y Ha Hb ys ⟨ps,h0,h1,h2,h3⟩ nD e f=>(ii ps h0 (mq h1 nD e f) h2 h3)) ?_ ?_)
    ·intro D i v hi Hc R sc ⟨zs,eD⟩ kc
     obtain ⟨a_,rfl⟩:=pR hi;obtain ⟨w,wn,ew⟩:∃w:Nat,w<n/\(if rest % (n:Int)<(i:Int) then rest % (n:Int) else (i:Int))=(w:Int):=by
      rw [TN];by_cases y:(kk:Int)<(i:Int);·rw [ao y];exact (ad kk L6 rfl)
      ·rw [aq y];exact (ad i a_ rfl)
     obtain ⟨h1,h2,⟨ws,oK,iw,rQ⟩,h4⟩:=lI.rows w wn;refine (db _ rfl _ rfl (tz _ rfl _ rfl _ _ rfl rfl (re np _ (nw _ rfl lH _ _ (.ref (A4 w)) rfl rfl (.of (sc _ _ lI.at')) (by rw [ew];exact Ac w wn) (ce (A4 w) ws rfl (.inl (.of (sc _ _ oK))) (λb nb=>?_))))))
     have sb:ag Hc (upd Hc b (.lst ws)):=a9 nb;refine kc b _ sb nb ⟨_,aK⟩ ⟨f4 w,none_of (s9.trans sc) nb,(am ws aK iw (λj v p h1 h2=>((rQ j v p h1 h2).mono sc).mono sb)),h4,λz=>aeh z w wn⟩
    ·intro L7 A5 mD L8 jc inj hA z_
     have Aa:=λi hi=>(hA i hi).1;obtain ⟨f5,hf⟩:=m8 (n:=n) (α:=List (Int×Int)) (R:=λi ps=>H (A5 i)=none/\aM (10 ^ 60) mD q (A5 i) ps/\ps.length=m/\(q=0->de (10 ^ 12) (10 ^ 6) ps)) Aa;refine TU L7 A5 f5 mD (s9.trans jc) ⟨z_,none_of s9 L8,inj,λi hi=>?_⟩ λz=>.inl (.inl λi hi=>(hf i hi).2.2.2 z);obtain ⟨h1,h2,h3,_⟩:=hf i hi;exact ⟨(hA i hi).2,h1,h2,h3⟩)
   refine Ho (decide (way=3)) (λQ h=>eq_test rfl h) (λhw=>?_) (λhw=>TR tb A2 f3 H8 I8.same I8.dt λz=>.inl (b8 z));have hw:way=3:=by simpa using hw
   have Hu:q=0->∀i,i<n->de (10 ^ 12) (10 ^ 6) (f3 i):=λz=>by
    rcases b8 z with b | ⟨y,_,_⟩;·exact b
    ·exact absurd hw y
   have qm:=I8.dt;have n0:0<n:=by lia
   have m0':0<m:=by lia
   have L9:dF ((List.range n).map λi=>V.ref (A2 i)) 0=some (.ref (A2 0)):=by exact cK (j:=0) (by simp [n0])
   obtain ⟨q1,q2,⟨us,CF,TV,L_⟩,q4⟩:=id (qm.rows 0 n0);refine gx (Jy (n:=n) (xs:=(List.range n).map λi=>V.ref (A2 i)) (by simp) (λR h=>(ad _ rfl (am tb rfl ⟨_,.of qm.at'⟩ (h _ _ (ag.refl _) (eR (.of qm.at')))))) (cR ⋯) (λD i y Hx=>∃ps:List (Int×Int),H y=none/\aM (10 ^ 60) Hx q y ps/\ps.length=m/\(q=0->de (10 ^ 24) (10 ^ 12) ps)) (λD i y Ha Hb ys ⟨ps,h0,h1,h2,h3⟩ nD e f=>(ii ps h0 (mq h1 nD e f) h2 h3)) ?_ ?_)
   ·intro D i v hi Hc R sc ⟨zs,eD⟩ kc
    have a_:i<n:=by have:=(aL.mp hi).1;simpa using this
    have ev:v=.ref (A2 i):=by rw [bu] at hi;simp [a_] at hi;exact hi.symm
    subst ev;obtain ⟨h1,h2,⟨ws,oK,iw,rQ⟩,h4⟩:=qm.rows i a_;have w0:0<ws.length:=by lia
    have p0:0<(f3 i).length:=by lia
    have aw0:dF ws 0=some ws[0]:=by exact cK (j:=0) (by simp [w0])
    have z0:=rQ 0 ws[0] (f3 i)[0] (by simp [w0]) (by simp [p0])
    refine fc (xs:=us) (λR h=>(nw _ rfl tb _ _ _ rfl rfl (.of (sc _ _ qm.at')) L9 (am (A2 0) rfl ⟨_,.of (sc _ _ CF)⟩ (h _ _ (ag.refl _) (eR (.of (sc _ _ CF))))))) (by rw [TV,q4];exact cR ⋯) (λD j y Hx=>∃p:Int×Int,cH (10 ^ 60) Hx q y p.1 p.2/\(q=0->∀X Dd:Int,a8 0 (aW [(f3 i).getD 0 o1] [(f3 0).getD j o1] (0,1)) (X,Dd)->1<=Dd->p.1*Dd=X*p.2)) (λD j y Ha Hb ys ⟨p,h0,h1⟩ e ff=>(ad p (h0.cC e ff) h1)) ?_ ?_
    ·intro D' j v hj Hd R' sd _ kd
     have j1:j<us.length:=(aL.mp hj).1;have j2:j<(f3 0).length:=by lia
     have z1:=L_ j v (f3 0)[j] hj (by simp [j2])
     have vN:=sc.trans sd;refine (db _ rfl _ rfl (u8 (A2 i) ws _ _ rfl rfl (.of (vN _ _ oK)) aw0 (by show 1<=sizeLine;decide) (λl1 nl1=>?_)))
     have TY:ag Hd (upd Hd l1 (.lst [ws[0]])):=a9 nl1;have jj:upd Hd l1 (.lst [ws[0]]) l1=some (.lst [ws[0]]):=aK;generalize upd Hd l1 (.lst [ws[0]])=He at TY jj ⊢;refine (am _ rfl (by show 1<=sizeLine;decide) (λl2 GZ=>?_))
     have Ma:ag He (upd He l2 (.lst [v])):=a9 GZ;have Cn:upd He l2 (.lst [v]) l2=some (.lst [v]):=aK;generalize upd He l2 (.lst [v])=Hf at Ma Cn ⊢;have jU:=TY.trans Ma;have r1:aM (10 ^ 150) Hf q l1 [(f3 i)[0]]:=by
      refine (am [ws[0]] (Ma _ _ jj) rfl (λi' v' p h1 h2=>?_));have w1:=((z0.mono vN).mono jU).weak (show 10 ^ 60<=10 ^ 150 by decide +kernel)
      match i',h1,h2 with
      | 0,h1,h2=>cases h1;cases h2;exact w1
     have r2:aM (10 ^ 150) Hf q l2 [(f3 0)[j]]:=by
      refine (am [v] Cn rfl (λi' v' p h1 h2=>?_));have w1:=((z1.mono vN).mono jU).weak (show 10 ^ 60<=10 ^ 150 by decide +kernel)
      match i',h1,h2 with
      | 0,h1,h2=>cases h1;cases h2;exact w1
     have TZ:pU q 1:=⟨∅,λ_=>by decide⟩
     refine (xL q l1 (wP l2 _ _ rfl hq r1 r2 TZ TZ (λv' H' s' hN=>?_)));obtain ⟨p,hp,Ad⟩:=JN hq hN λz=>by
      have:=Zr (Hu z i a_) (Hu z 0 n0) p0 j2 (by decide +kernel) ∅
      rw [getD_at p0,getD_at j2] at this;exact this
     refine kd v' H' (jU.trans s') (ad p hp ?_);rw [getD_at p0,getD_at j2];exact Ad
    ·intro D' ys Hd CD sd dN hP qg
     obtain ⟨ps,lp,hp⟩:=pick (R:=λj y p=>cH (10 ^ 60) Hd q y (Prod.fst p) (Prod.snd p)/\(q=0->∀X Dd:Int,a8 0 (aW [(f3 i).getD 0 o1] [(f3 0).getD j o1] (0,1)) (X,Dd)->1<=Dd->(Prod.fst p)*Dd=X*(Prod.snd p))) hP;have CG:ps.length=m:=by lia
     refine kc D' Hd sd CD ⟨_,qg⟩ (ii ps (none_of (I8.same.trans sc) CD) (am ys qg lp.symm (λj v p h1 h2=>(hp j v p h1 h2).1)) CG (λz=>?_));refine (Zq (Hu z i a_) (Hu z 0 n0) p0 q4 CG λj hj X Dd w d1=>?_).weak ∅ ∅
     have j1:j<ys.length:=by lia
     have j2:j<ps.length:=by lia
     rw [getD_at j2];exact (hp j ys[j] ps[j] (by simp [j1]) (by simp [j2])).2 z X Dd w d1
   ·intro L7 A5 mD L8 jc inj hA z_
    have Aa:=λi hi=>(hA i hi).1;obtain ⟨f5,hf⟩:=m8 (n:=n) (α:=List (Int×Int)) (R:=λi ps=>H (A5 i)=none/\aM (10 ^ 60) mD q (A5 i) ps/\ps.length=m/\(q=0->de (10 ^ 24) (10 ^ 12) ps)) Aa;refine TR L7 A5 f5 mD (I8.same.trans jc) ⟨z_,none_of I8.same L8,inj,λi hi=>?_⟩ λz=>.inr ⟨⋯,λi hi=>(hf i hi).2.2.2 z⟩
    obtain ⟨h1,h2,h3,_⟩:=hf i hi;exact ⟨(hA i hi).2,h1,h2,h3⟩)
  refine Ho (decide (way=2) || decide (way=5)) (λQ h=>TF rfl h) (λhw=>?_) (λhw=>fin2 f2 none none H7 I7 λz=>(b7 z).two);have T1:way≠3/\way≠4:=by
   constructor;·intro e;rw [e] at hw;simp at hw
   ·intro e;rw [e] at hw;simp at hw
  have q'71:=L5 (rest / 3);intros am0 q'71 cc ccm ecc;have q'72:=L5 (rest / 18);intros am0 q'72 dd ddm edd;have q'73:=L5 (rest / 108);intros am0 q'73 ee eem eee;refine (ad _ rfl (ii (n:Int) rfl ⋯ ⋯ ?_))
  rw [dr];refine lZ (λi σ Hc=>∃(f3:Nat->List (Int×Int)) (v10 v11:Option V),σ=[some (.ref sa),some (.int q),some (.int (n:Int)),some (.int (m:Int)),some (.int (jd:Int)),some (.ref tb),some (.int way),some (.int rest),some (.ref yb),v9,v10,v11]/\Hq H Hc q tb yb n m A2 f3 [(x0,m0),(x1,rO)]/\(q=0->∀i',i'<n->(i'<i->de (if i'=kk then 10 ^ 36 else 10 ^ 18) (if i'=kk then 4*10 ^ 18 else 2*10 ^ 12) (f3 i'))/\(i<=i'->de (if i'=kk then 10 ^ 30 else 10 ^ 12) (if i'=kk then 2*10 ^ 12 else 10 ^ 6) (f3 i')))) (Exists.intro f2 (ce none none rfl I7 (λz i' a_=>⟨λh=>by lia,λ_=>(b7 z).up i' a_⟩))) ?_ ?_
  ·intro i σ Hc hi;intros am18 _ f3 v10 v11 rfl I b
   rw [show (0:Int)+(i:Int)=(i:Int) by lia]
   dsimp only [aN];simp only [aX,aY];have Ac:dF ((List.range n).map λi=>V.ref (A2 i)) (i:Int)=some (.ref (A2 i)):=cK (by simp [hi])
   refine (ad _ rfl (nw _ rfl tb _ _ _ rfl rfl (.of I.dt.at') Ac ?_));dsimp only [aN];simp only [aX,aY];obtain ⟨h1,h2,⟨ws,oK,iw,rQ⟩,h4⟩:=id (I.dt.rows i hi);have d1:dd<ws.length:=by lia
   have e1:ee<ws.length:=by lia
   have d2:dd<(f3 i).length:=by lia
   have e2:ee<(f3 i).length:=by lia
   have z1:=rQ dd ws[dd] (f3 i)[dd] (by simp [d1]) (by simp [d2])
   have z2:=rQ ee ws[ee] (f3 i)[ee] (by simp [e1]) (by simp [e2])
   have atd:dF ws (rest / 18 % (m:Int))=some ws[dd]:=by rw [edd];exact cK (by simp [d1])
   have ate:dF ws (rest / 108 % (m:Int))=some ws[ee]:=by rw [eee];exact cK (by simp [e1])
   refine (db _ rfl _ rfl (ms _ rfl _ rfl _ _ rfl rfl (vM 18 ∅ ∅) (on _ rfl _ _ rfl rfl mp (sB (A2 i) ws _ _ rfl rfl (.of oK) atd ?_))))
   refine (ms _ rfl _ rfl _ _ rfl rfl (vM 108 ∅ ∅) (on _ rfl _ _ rfl rfl mp (u8 (A2 i) ws _ _ rfl rfl (.of oK) ate (by show 2<=sizeLine;decide) (λl nl=>?_))))
   have sl:ag Hc (upd Hc l (.lst [ws[dd],ws[ee]])):=a9 nl;have el:upd Hc l (.lst [ws[dd],ws[ee]]) l=some (.lst [ws[dd],ws[ee]]):=aK;generalize upd Hc l (.lst [ws[dd],ws[ee]])=Hd at sl el ⊢;have hl:aM (10 ^ 150) Hd q l [(f3 i)[dd],(f3 i)[ee]]:=by
    refine (am [ws[dd],ws[ee]] el rfl (λi v p h1 h2=>?_));have w0:=(z1.mono sl).weak (show 10 ^ 60<=10 ^ 150 by decide +kernel)
    have w1:=(z2.mono sl).weak (show 10 ^ 60<=10 ^ 150 by decide +kernel)
    match i,h1,h2 with
    | 0,h1,h2=>cases h1;cases h2;exact w0
    | 1,h1,h2=>cases h1;cases h2;exact w1
   have l2:pU q 2:=⟨∅,λ_=>by decide⟩
   refine (xL q yb (wP l _ _ rfl hq (I.hy.mono sl) hl l2 l2 (λv' H' s' hN=>?_)));obtain ⟨p,hp,Ad⟩:=JN hq hN λz=>by
    have bi:=(b z i hi).2 (aP _);have bi:de (10 ^ 30) (2*10 ^ 12) (f3 i):=by
     by_cases y:i=kk;·rw [ao y,ao y] at bi;exact bi
     ·rw [aq y,aq y] at bi;exact bi.weak ∅ ∅
    have:=Zs (Hs z) bi d2 e2 (by decide +kernel) ∅
    rw [getD_at d2,getD_at e2] at this;exact this
   have Hv:=sl.trans s';have Mb:=Hv _ _ oK;have dt':=I.dt.mono Hv;refine (ms _ rfl _ rfl _ _ rfl rfl (vM 3 ∅ ∅) (on _ rfl _ _ rfl rfl mp (sB (A2 i) ws _ cc rfl rfl Mb ?_ ?_)))
   ·rw [ecc]
    unfold ie;rw [ao ⋯,ao ⋯,dr]
   ·refine (Exists.intro _ (ce _ _ rfl ⟨e_ (I.same.trans Hv) h2,dt'.cell hi Mb hp ccm,mq (I.hy.mono Hv) (Ne.symm (I.ay i hi)) Mb kn,I.ty,I.ay⟩ (λz i' a_=>⟨λh=>?_,λh=>?_⟩)))
    ·by_cases y:i'=i
     ·subst y
      have bi:=(b z i' hi).2 (aP _);rw [<-getD_at d2 (d:=o1),<-getD_at e2 (d:=o1)] at Ad;have:=Zp (c:=cc) (Hs z) bi d2 e2 (Ad z);rw [ao rfl];refine this.weak ?_ ?_;·split <;> decide
      ·split <;> decide
     ·rw [aq y]
      exact (b z i' a_).1 ⋯
    ·have ne:¬i'=i:=by lia
     rw [aq ne];exact (b z i' a_).2 ⋯
  ·intro σ Hc;intros am18 _ f3 v10 v11 rfl I b
   exact fin2 f3 v10 v11 Hc I λz=>.inr ⟨T1.1,T1.2,λi hi=>(b z i hi).1 hi⟩)
 refine Ho (decide (way=1) || decide (way=5)) (λQ h=>TF rfl h) (λhw=>?_) (λhw=>Cq A1 f none H6 I6 λz=>.inl (bv z));have q'75:=modn (rest / 6);intros am0 q'75 u un eu;have q'76:=modn (rest / 36);intros am0 q'76 v vn ev;have Ac:∀j:Nat,j<n->dF ((List.range n).map λi=>V.ref (A1 i)) (j:Int)=some (.ref (A1 j)):=λj hj=>cK (by simp [hj])
 refine (ms _ rfl _ rfl _ _ rfl rfl (vM 6 ∅ ∅) (on _ rfl _ _ rfl rfl np (sB tb _ _ _ rfl rfl (.of Ht.at') (by rw [eu];exact Ac u un) ?_)))
 refine (ms _ rfl _ rfl _ _ rfl rfl (vM 36 ∅ ∅) (on _ rfl _ _ rfl rfl np (sB tb _ _ _ rfl rfl (.of Ht.at') (by rw [ev];exact Ac v vn) ?_)))
 refine ⟨by show 2<=sizeLine;decide,λtw ntw=>?_⟩
 have s7:ag H6 (upd H6 tw (.lst [.ref (A1 u),.ref (A1 v)])):=a9 ntw;have Mc:upd H6 tw (.lst [.ref (A1 u),.ref (A1 v)]) tw=some (.lst [.ref (A1 u),.ref (A1 v)]):=aK;generalize upd H6 tw (.lst [.ref (A1 u),.ref (A1 v)])=H7 at s7 Mc ⊢;have CH:=Ht.mono s7;have Md:=TM.mono s7;dsimp only [aN];simp only [aX,aY];obtain ⟨ru1,ru2,⟨us,CF,TV,L_⟩,ru3⟩:=id (CH.rows u un);obtain ⟨rv1,rv2,⟨ws,oK,iw,rQ⟩,rv3⟩:=id (CH.rows v vn);have L9:dF [V.ref (A1 u),V.ref (A1 v)] 0=some (.ref (A1 u)):=by exact cK (j:=0) rfl
 have aeu:dF [V.ref (A1 u),V.ref (A1 v)] 1=some (.ref (A1 v)):=by exact cK (j:=1) rfl
 refine gx (xo (Z:=λzs Hx=>zs=us.zip ws/\Hx=H7) (λR h=>(nw _ rfl tw _ _ _ rfl rfl (.of Mc) L9 (nw _ rfl tw _ _ _ rfl rfl (.of Mc) aeu (gl (A1 u) (A1 v) rfl ⟨_,.of CF⟩ ⟨_,.of oK⟩ (h _ _ _ (ag.refl _) (m6 (.of CF) (.of oK)) (cR (by rw [jX];lia)) ⟨rfl,rfl⟩))))) (λD j y Hx=>∃p:Int×Int,cH (10 ^ 60) Hx q y p.1 p.2/\(q=0->∀X Dd:Int,a8 0 (aW [(x0,m0),(x1,rO)] [(f u).getD j o1,(f v).getD j o1] (0,1)) (X,Dd)->1<=Dd->p.1*Dd=X*p.2)) (λD j y Ha Hb ys ⟨p,h0,h1⟩ e ff=>(ad p (h0.cC e ff) h1)) ?_ ?_)
 ·rintro zs Hx ⟨rfl,rfl⟩ _ D j x y fS Hc R sc _ kc
  obtain ⟨h1,h2⟩:=lR.mp fS;have j1:j<us.length:=(aL.mp h1).1;have j2:j<ws.length:=(aL.mp h2).1;have j3:j<(f u).length:=by lia
  have j4:j<(f v).length:=by lia
  have z1:=(L_ j x (f u)[j] h1 (by simp [j3])).mono sc
  have z2:=(rQ j y (f v)[j] h2 (by simp [j4])).mono sc
  refine (sK _ rfl _ rfl _ rfl (am _ rfl (by show 2<=sizeLine;decide) (λl nl=>?_)))
  have sl:ag Hc (upd Hc l (.lst [x,y])):=a9 nl;have el:upd Hc l (.lst [x,y]) l=some (.lst [x,y]):=aK;generalize upd Hc l (.lst [x,y])=Hd at sl el ⊢;have hl:aM (10 ^ 150) Hd q l [(f u)[j],(f v)[j]]:=by
   refine (am [x,y] el rfl (λi v p h1 h2=>?_));have w0:=(z1.mono sl).weak (show 10 ^ 60<=10 ^ 150 by decide +kernel)
   have w1:=(z2.mono sl).weak (show 10 ^ 60<=10 ^ 150 by decide +kernel)
   match i,h1,h2 with
   | 0,h1,h2=>cases h1;cases h2;exact w0
   | 1,h1,h2=>cases h1;cases h2;exact w1
  have l2:pU q 2:=⟨∅,λ_=>by decide⟩
  refine (xL q yb (wP l _ _ rfl hq ((Md.mono sc).mono sl) hl l2 l2 (λv' H' s' hN=>?_)));obtain ⟨p,hp,Ad⟩:=JN hq hN λz=>by
   have:=Zo (Hs z) (bv z u un) (bv z v vn) j3 j4 (by decide +kernel) ∅
   rw [getD_at j3,getD_at j4] at this;exact this
  refine kc v' H' (sl.trans s') (ad p hp ?_);rw [getD_at j3,getD_at j4];exact Ad
 ·rintro zs Hx ⟨rfl,rfl⟩ _ D ys H8 nD s8 dN hP eD
  obtain ⟨ps,lp,hp⟩:=pick (R:=λj y p=>cH (10 ^ 60) H8 q y (Prod.fst p) (Prod.snd p)/\(q=0->∀X Dd:Int,a8 0 (aW [(x0,m0),(x1,rO)] [(f u).getD j o1,(f v).getD j o1] (0,1)) (X,Dd)->1<=Dd->(Prod.fst p)*Dd=X*(Prod.snd p))) hP;have LD:ys.length=m:=by rw [dN,jX];lia
  have CG:ps.length=m:=by lia
  have qm:=CH.mono s8;have mX:aM (10 ^ 60) H8 q D ps:=(am ys eD lp.symm (λj v p h1 h2=>(hp j v p h1 h2).1));have Dtb:D≠tb:=λe=>by rw [e,CH.at'] at nD;cases nD
  have nA:∀i,i<n->A1 i≠D:=λi hi e=>by obtain ⟨_,_,⟨vs,e',_⟩,_⟩:=CH.rows i hi;rw [e,nD] at e';cases e'
  have Dyb:D≠yb:=λe=>by intros am0 Md vs e' _;rw [<-e,nD] at e';cases e'
  have sH8:=L4.trans (s7.trans s8);have lI:=qm.put L6 mX CG (none_of (L4.trans s7) nD) Dtb nA;refine (ad _ rfl (ms _ rfl _ rfl _ _ rfl rfl np (sB tb _ _ kk rfl rfl qm.at' ?_ ?_)))
  ·rw [TN]
   unfold ie;rw [ao ⋯,ao (by simp;exact L6),dr]
  ·refine Cq _ _ _ _ ⟨e_ sH8 TK,lI,mq (Md.mono s8) (Ne.symm LZ) qm.at' kn,LZ,λi hi=>?_⟩ λz=>.inr ⟨?_,?_,λi hi=>?_⟩
   ·by_cases y:i=kk
    ·rw [ao y];exact Dyb
    ·rw [aq y];exact TQ i hi
   ·intro e;rw [e] at hw;simp at hw
   ·intro e;rw [e] at hw;simp at hw
   ·dsimp only
    by_cases y:i=kk
    ·rw [ao y,ao y,ao y]
     refine (Zn (Hs z) (bv z u un) (bv z v vn) ru3 rv3 CG λj hj X Dd w d1=>?_).weak ∅ ∅
     have j1:j<ys.length:=by lia
     have j2:j<ps.length:=by lia
     rw [getD_at j2];exact (hp j ys[j] ps[j] (by simp [j1]) (by simp [j2])).2 z X Dd w d1
    ·rw [aq y,aq y,aq y]
     exact bv z i hi
theorem aey:bw ["places","many"] ["places","many"] (aR Gs):=bH
theorem Me{L:List Nat}(hi:i<L.length):dF (a7 L) (i:Int)=some (.int ((L.getD i 0:Nat):Int)):=cK (by unfold a7;rw [bu,bu,getD_at hi];simp [hi])
theorem T2(T:Txt K mg t):aO P w K mg base bO 1 t.u7 t.yO ["places","many"] aaq:=by
 have S:=aey;refine T.vC.bV S (λ_ _ _ _ H _ _ _ hr h=>?_);intros am29 h l L b rfl el GX up hL k;refine (ad _ (ar (aJ (aZ (pC (K:=K) rfl) rfl T.oF boot_all (ae (dA (N:=["k","places","many"]) (ρ:=(λσ=>[σ[0]?.join,σ[1]?.join])) (cP [0,1] rfl) rfl (gF rfl T.fg (ae (aZ cm rfl T.b5 b6 (ae (pv 0) af)) af)) (λ_ _ _=>.nil) (λ_ _ _=>(iF (DH wM jg aj (aA (ip (K:=K)) (pv 1) (pv 0)) (pv 2)) (jE (U1 (e8 eE (pv 0) aj) (jE (e8 jg (aA (ip (K:=K)) (pv 1) (az jI (pv 0) aj)) (aA (ip (K:=K)) (pv 1) (pv 0))))))))) af)))) ?_);refine gy (m7 (qF (xs:=(List.range L.length).map λi:Nat=>V.int (0+(i:Int))) (λR h=>(dL _ rfl l (a7 L) rfl (.inl (.of el)) (ii (L.length:Int) (by rw [gk]) ⋯ ⋯ (h _ _ (ag.refl _) (by rw [dr];exact mi))))) (by rw [aV,gc];exact cR ⋯) (λ_ i y _=>y=.bl true) (λ_ _ _ _ _ _ h _ _=>h) ?_ ?_))
 ·intro D i v hi Hc R sc _ kc
  obtain ⟨a_,rfl⟩:=pR hi;have lb:=hL _ (by rw [getD_at a_];exact aG _:L.getD i 0∈L)
  have ix:dF (a7 L) (i:Int)=some (.int ((L.getD i 0:Nat):Int)):=Me a_;refine (ad _ rfl (nw _ rfl l (a7 L) _ _ rfl rfl (.of (sc _ _ el)) ix (pi _ _ rfl rfl true (by (dsimp only;rw [cF ⋯])) (dW ?_))))
  refine (io _ rfl _ _ rfl rfl true (by (dsimp only;rw [cF ⋯])) (dW ?_))
  refine (gt _ rfl rfl _ rfl (cM (λ_=>kc _ Hc (ag.refl _) rfl) (λne=>?_)));have i0:i≠0:=λe=>by subst e;simp at ne
  have CI:dF (a7 L) ((i:Int)-1)=some (.int ((L.getD (i-1) 0:Nat):Int)):=by rw [show (i:Int)-1=((i-1:Nat):Int) by lia];exact Me ⋯
  have lt:=xv up (show i-1<i by lia) a_
  refine (tz _ rfl _ rfl _ _ rfl rfl (wE l (a7 L) _ _ rfl rfl (.of (sc _ _ el)) CI _ rfl (nw _ rfl l (a7 L) _ _ rfl rfl (.of (sc _ _ el)) ix (ce _ _ rfl rfl ?_))));refine kc _ Hc (ag.refl _) ?_;dsimp only;rw [cF ⋯]
 ·intro D ys Hc sc d_ hP eD
  refine ⟨D,List.replicate ys.length true,rfl,.of (by rw [eD];exact eW _ (eW _ (pQ hP))),?_⟩
  rw [qJ];exact k Hc sc
theorem aez:bw ["p","table","paper","n","m","left","right","rows","columns_v","back","places","many","i","j","due"] ["p","table","paper"] (aR Gu):=bH
theorem aeA(T:Txt K mg t):aO P w K mg base bO 5 t.u9 t.yP ["p","table","paper"] aar:=by
 have S:=aez;refine T.zH.bV S (λ_ _ _ _ H vs _ _ hr h=>?_);intros am1 h q a am34 p lf rt dn ac bk B Bx By m am27 aa ai cU L D rfl hq hT am32 ep nG mE vO oM oN b1 b2 x1 x2 am32 y1 y2 n1 Ci wp Cj upL Ae Mf lD am32 CJ rW lr wr T3 wf aeC aeD prod inv k;have hu:=hr.DK
 refine (ad _ (ak (putL 3 S.nd (aZ cm rfl T.b5 b6 (ae (pv 1) af)))
  (ak (putL 4 S.nd (aZ cm rfl T.b5 b6 (ae (aA dh (pv 1) aj) af)))
  (ak (bC (PW.pt (pw_or (e7 (d7 (aZ (ma (K:=K)) rfl T.lF boot_isinstance (ae (pv 2) (ae (lX (v:=.ty "tuple") rfl T.zL boot_tuple rfl) af))))) (pw_or1 (bK fX (aZ cm rfl T.b5 b6 (ae (pv 2) af)) aj)))) (ar (aJ dM)) bG)
  (ak (@j6 _ _ _ _ _ _ (pv 2) (wH rfl (jF (dE (i:=5) S.nd rfl (Or.inl rfl)) (jF (dE (i:=6) S.nd rfl (Or.inl rfl)) (jF (dE (i:=7) S.nd rfl (Or.inr rfl)) (jF (dE (i:=8) S.nd rfl (Or.inl rfl)) (jF (dE (i:=9) S.nd rfl (Or.inl rfl)) wG)))))) (by rfl) (by rfl) (by rfl))
  (ak (gG fJ rfl (cY (eY (ae (pv 7) (ae (pv 8) af)))) (dE (i:=10) S.nd rfl (Or.inl rfl))
   (ar (bC (PW.pt (pw_or (e7 (d7 (aZ (ma (K:=K)) rfl T.lF boot_isinstance (ae (pv 10) (ae (lX (v:=.ty "list") rfl T.nB boot_list rfl) af))))) (pw_or1 (e7 (d7 (aZ (pC (K:=K) rfl) rfl T.oF boot_all (ae (dA (N:=["place"]) (ρ:=(λσ=>[])) (cP [] rfl) rfl (cY (pv 10)) (λ_ _ _=>.nil) (λ_ _ _=>(aw (Cs T) hr T.zB T.oC.kp T.zA aF (ae (pv 0) af)))) af))))))) (ar (aJ dM)) bG)))
  (ak (putL 11 S.nd (aZ cm rfl T.b5 b6 (ae (pv 7) af)))
  (ak (bC (PW.pt (pw_or (bK fX (aZ cm rfl T.b5 b6 (ae (pv 8) af)) (pv 11)) (pw_or (e7 (d7 (aw (T2 T) hr T.KP T.vC.kp T.KO aF (ae (pv 7) (ae (pv 3) af))))) (pw_or1 (e7 (d7 (aw (T2 T) hr T.KP T.vC.kp T.KO aF (ae (pv 8) (ae (pv 4) af))))))))) (ar (aJ dM)) bG)
  (ak (bC (PW.pt (pw_or (e7 (d7 (aw (Hi T) hr T.BY T.qb.kp T.BX aF (ae (pv 0) (ae (pv 5) (ae (pv 3) (ae (pv 11) af))))))) (pw_or1 (e7 (d7 (aw (Hi T) hr T.BY T.qb.kp T.BX aF (ae (pv 0) (ae (pv 6) (ae (pv 11) (ae (pv 4) af)))))))))) (ar (aJ dM)) bG)
  (ak (bC (e7 (d7 (aw (Hi T) hr T.BY T.qb.kp T.BX aF (ae (pv 0) (ae (pv 9) (ae (pv 11) (ae (pv 11) af))))))) (ar (aJ dM)) bG)
  (ak (gG fJ rfl (gF rfl T.fg (ae (pv 3) af)) (dE (i:=12) S.nd rfl (Or.inr rfl))
   (ar (gG fJ rfl (gF rfl T.fg (ae (pv 4) af)) (dE (i:=13) S.nd rfl (Or.inr rfl))
   (ar (bC (bK (D_ hu) (aw (rN T) hr T.nj T.jQ.kp T.nh aF (ae (pv 0) (ae (aA dh (pv 5) (pv 12)) (ae (dA (N:=["row","j"]) (ρ:=(λσ=>[σ[13]?.join])) (cP [13] rfl) rfl (cY (pv 6)) (λ_ _ _=>.nil) (λ_ _ _=>(aA (ip (K:=K)) (pv 0) (pv 1)))) af)))) (aA dh (aA dh (pv 1) (pv 12)) (pv 13))) (ar (aJ dM)) bG)))))
  (ak (gG fJ rfl (gF rfl T.fg (ae (pv 11) af)) (dE (i:=12) S.nd rfl (Or.inr rfl))
   (ar (gG fJ rfl (gF rfl T.fg (ae (pv 11) af)) (dE (i:=13) S.nd rfl (Or.inr rfl))
   (ak (putL 14 S.nd (o6 (kK (pv 0) (λ_=>rfl)) (mU NP rfl T.B5 boot_int (ae (e8 eE (pv 12) (pv 13)) af)) (gw (ae (mU NP rfl T.B5 boot_int (ae (e8 eE (pv 12) (pv 13)) af)) (ae aj af)))))
  (ar (bC (bK (D_ hu) (aw (rN T) hr T.nj T.jQ.kp T.nh aF (ae (pv 0) (ae (dA (N:=["k","table","rows","i"]) (ρ:=(λσ=>[σ[1]?.join,σ[7]?.join,σ[12]?.join])) (cP [1,7,12] rfl) rfl (cY (pv 8)) (λ_ _ _=>.nil) (λ_ _ _=>(aA (ip (K:=K)) (aA (ip (K:=K)) (pv 1) (aA (ip (K:=K)) (pv 2) (pv 3))) (pv 0)))) (ae (dA (N:=["row","j"]) (ρ:=(λσ=>[σ[13]?.join])) (cP [13] rfl) rfl (cY (pv 9)) (λ_ _ _=>.nil) (λ_ _ _=>(aA (ip (K:=K)) (pv 0) (pv 1)))) af)))) (pv 14)) (ar (aJ dM)) bG))))))
  (ar (aJ dM))))))))))))) ?_)
 have q'79:=id hT;intros am7 q'79 vs ea lv fv;have v0:0<vs.length:=by lia
 have p0:0<aa.length:=by lia
 have q'80:=(fv 0 vs[0] aa[0] (by simp [v0]) (by simp [p0]));intros am16 q'80 r0 CK vP CL CM _
 have jd:dF vs 0=some (.ref r0):=by exact cK (j:=0) (by rw [<-CK];simp [v0])
 refine (dL _ rfl a vs rfl (.inl (.of ea)) ?_);rw [show (vs.length:Int)=(aa.length:Int) by lia]
 dsimp only [aN];simp only [L2.start,df,iD,gE,gZ,List.replicate,g_,gM,aX,aY];refine (nw _ rfl a vs _ (.ref r0) rfl rfl (.of ea) jd (ce r0 vP rfl (.inl (.of CL)) ?_));rw [show (vP.length:Int)=(m:Int) by rw [CM,wp _ (aG p0)]]
 dsimp only [aN];simp only [aX,aY];refine (ad _ rfl (wE _ _ _ true rfl rfl (.of (.tup ep)) sU true rfl (bQ ?_)));refine (f8 _ rfl p _ rfl (.inr (.of ep)) rfl false rfl (bQ ?_));dsimp only [eO];refine (dL _ rfl p _ rfl (.of ep) (re rfl _ (xz _ rfl _ (xz _ rfl _ (xz _ rfl _ (dL _ rfl _ _ rfl rfl ?_))))));dsimp only [aN];simp only [aX,aY];refine (ad _ rfl (am _ rfl (by show 2<=sizeLine;decide) (λl nl=>(am l rfl ⟨_,.of aK⟩ ?_))))
 have s1:ag H (upd H l (.lst [.ref dn,.ref ac])):=a9 nl;have el:upd H l (.lst [.ref dn,.ref ac]) l=some (.lst [.ref dn,.ref ac]):=aK;generalize upd H l (.lst [.ref dn,.ref ac])=H1 at s1 el ⊢;refine wK (K:=K) (a:=l) (xs:=[.ref dn,.ref ac]) (λi σ Hc=>ag H1 Hc/\∃v10:Option V,σ=[some (.int q),some (.ref a),some (.ref p),some (.int (aa.length:Int)),some (.int (m:Int)),some (.ref lf),some (.ref rt),some (.ref dn),some (.ref ac),some (.ref bk),v10,none,none,none,none]) (re (ag.refl _) none rfl) (λi σ Hc _ ⟨sc,_⟩=>.of (sc _ _ el)) ?_ ?_
 ·intro i v σ Hc hv;intros am2 _ sc v10 rfl
  obtain ⟨pl,M,rfl,Mg,M40⟩:∃(pl:Addr) (M:List Nat),v=.ref pl/\Hc pl=some (.lst (a7 M))/\M.length<=40:=by
   match i,hv with
   | 0,hv=>cases hv;exact ⟨dn,D,rfl,sc _ _ (s1 _ _ mE),⋯⟩
   | 1,hv=>cases hv;exact ⟨ac,L,rfl,sc _ _ (s1 _ _ nG),⋯⟩
  dsimp only [aN];simp only [aX,aY];refine (ad _ rfl (wE _ _ _ true rfl rfl (.of (.lst Mg)) sU true rfl (bQ ?_)));refine m7 (qF (xs:=a7 M) (λR h=>(ad _ rfl (am pl rfl ⟨_,.of Mg⟩ (h _ _ (ag.refl _) (eR (.of Mg)))))) (by rw [gk];exact cR ⋯) (λ_ i y _=>y=.bl true) (λ_ _ _ _ _ _ h _ _=>h) ?_ ?_)
  ·intro D i v hi Hd R sd _ kd
   obtain ⟨c,rfl⟩:∃c:Int,v=.int c:=by have:=jA hi;unfold a7 at this;obtain ⟨c,_,e⟩:=fI.mp this;exact ⟨c,e.symm⟩
   exact ⟨_,rfl,_,rfl,.int _,kd _ Hd (ag.refl _) rfl⟩
  ·intro D ys Hd sd d_ hP eD
   refine (ce D (List.replicate ys.length true) rfl (.of (by rw [eD];exact eW _ (eW _ (pQ hP)))) ?_)
   rw [qJ];exact (ad true rfl (bQ (re (sc.trans sd) _ rfl)))
 intro σ H2;intros am2 _ s2 v10 rfl;have dD:=s1.trans s2;dsimp only;refine (dL _ rfl dn (a7 D) rfl (.inl (.of (dD _ _ mE))) ?_);rw [show ((a7 D).length:Int)=(L.length:Int) by rw [gk,lD]]
 dsimp only [aN];simp only [aX,aY];refine (dL _ rfl ac (a7 L) rfl (.inl (.of (dD _ _ nG))) (gt _ rfl rfl false (by rw [eZ,cF (by rw [gk])];rfl) (bQ ?_)))
 refine (SB _ rfl _ rfl dn D (ww aa.length rfl (dD _ _ mE) ⋯ CJ rW (λH3 s3=>(ad true rfl (bQ ?_)))))
 refine (SB _ rfl _ rfl ac L (ww m rfl (s3 _ _ (dD _ _ nG)) ⋯ upL Ae (λH4 s4=>(ad true rfl (bQ ?_)))))
 dsimp only [eO];have iP:=dD.trans (s3.trans s4);have wT:=qT (L:=L) (aa:=aa);have lT:=ng (L:=L) (aa:=aa);have fT:=(vO.mono iP).f hq wT;rw [lT] at fT;have fR:=(oM.mono iP).f hq wr;rw [lr] at fR;refine (db _ rfl _ rfl (SB _ rfl _ rfl q _ (u8 lf aa.length L.length _ rfl fT ⋯ ⋯ (vO.mid hq lT wT b1 b2) (λH5 s5=>(ad true rfl (bQ ?_))))))
 refine (db _ rfl _ rfl (SB _ rfl _ rfl q _ (u8 rt L.length m _ rfl (fR.mono s5) ⋯ ⋯ (oM.mid hq lr wr x1 x2) (λH6 s6=>(ad true rfl (bQ ?_))))))
 dsimp only [eO];have nH:=iP.trans (s5.trans s6);have fF:=(oN.mono nH).f hq wf;rw [T3] at fF;refine (db _ rfl _ rfl (SB _ rfl _ rfl q _ (u8 bk L.length L.length _ rfl fF ⋯ ⋯ (oN.mid hq T3 wf y1 y2) (λH7 s7=>(ad true rfl (bQ ?_))))))
 dsimp only [eO];have oI:=nH.trans s7;clear s1 s2 dD s3 s4 iP fT fR s5 s6 nH fF s7;have q'81:=id vO;intros am7 q'81 ls els lls fls;refine (ad _ rfl (ii (aa.length:Int) rfl ⋯ ⋯ ?_))
 rw [dr];refine lZ (λi σ Hc=>ag H Hc/\∃gX eS:Option V,σ=[some (.int q),some (.ref a),some (.ref p),some (.int (aa.length:Int)),some (.int (m:Int)),some (.ref lf),some (.ref rt),some (.ref dn),some (.ref ac),some (.ref bk),v10,some (.int (L.length:Int)),gX,eS,none]) (ul oI none none rfl) ?_ ?_
 ·intro i σ Hc hi;intros am5 _ sc gX eS rfl
  rw [show (0:Int)+(i:Int)=(i:Int) by lia]
  dsimp only [aN];simp only [aX,aY];refine (ad _ rfl (ii (m:Int) rfl ⋯ ⋯ ?_))
  rw [dr];refine lZ (λj σ Hc=>ag H Hc/\∃eS:Option V,σ=[some (.int q),some (.ref a),some (.ref p),some (.int (aa.length:Int)),some (.int (m:Int)),some (.ref lf),some (.ref rt),some (.ref dn),some (.ref ac),some (.ref bk),v10,some (.int (L.length:Int)),some (.int (i:Int)),eS,none]) (re sc eS rfl) ?_ ?_
  ·intro j σ Hd hj;intros am2 _ sd eS rfl
   rw [show (0:Int)+(j:Int)=(j:Int) by lia]
   dsimp only [aN];simp only [aX,aY];have hv:i<vs.length:=by lia
   have hl:i<ls.length:=by lia
   have a_:i<(bW L aa).length:=by lia
   obtain ⟨rx,erx,hrx⟩:=fls i ls[i] (bW L aa)[i] (by simp [hl]) (by simp [a_])
   have q'83:=(fv i vs[i] aa[i] (by simp [hv]) (by simp [hi]));intros am16 q'83 ry Mh wy Mi T4 Mj
   have jy:j<wy.length:=by rw [T4,wp _ (aG hi)];exact hj
   have jp:j<aa[i].length:=by lia
   have ny:=Mj j wy[j] aa[i][j] (by simp [jy]) (by simp [jp])
   refine (db _ rfl _ rfl (nw _ rfl lf ls _ (.ref rx) rfl rfl (.of (sd _ _ els)) (cK (by rw [<-erx];simp [hl])) ?_))
   refine Kb rfl rfl (oM.mono sd) wr hj ⋯ λDc He nD se CN=>?_
   have vQ:=sd.trans se;have lx:=qT (L:=L) _ (aG a_);refine (Re q rx Dc B Bx ((bW L aa)[i]) (SL _ rfl hq (hrx.mono vQ) CN ⋯ ⋯ ⋯ (by rw [aV];lia) (λz=>by rw [lx];exact aeC z) (λv H' s' hN=>?_)))
   have w:=prod i j hi hj;rw [getD_at a_] at w;have vR:=hN.i6 w (YA (λps h1 p h2=>(hT.nums hq ps h1 p h2).2.1) i j);have jU:=vQ.trans s';refine (ad _ rfl (nw _ rfl a vs _ (.ref ry) rfl rfl (.of (jU _ _ ea)) (cK (by rw [<-Mh];simp [hv])) (nw _ rfl ry wy _ (wy[j]) rfl rfl (.of (jU _ _ Mi)) (cK (by simp [jy])) ?_)))
   have T5:=(ny.mono jU).jk hq;have e:atT aa i j=aa[i][j]:=by unfold atT;rw [getD_at hi,getD_at jp]
   rw [<-e] at T5;refine Eb vR T5 rfl (ad _ rfl (bQ ?_));exact (re jU _ rfl)
  ·intro σ Hd;intros am2 _ sd eS rfl
   exact (ul sd _ _ rfl)
 intro σ H8;intros am5 _ s8 gX eS rfl;dsimp only;refine (ad _ rfl (ii (L.length:Int) rfl ⋯ ⋯ ?_))
 rw [dr];refine lZ (λi σ Hc=>ag H Hc/\∃gX eS mF:Option V,σ=[some (.int q),some (.ref a),some (.ref p),some (.int (aa.length:Int)),some (.int (m:Int)),some (.ref lf),some (.ref rt),some (.ref dn),some (.ref ac),some (.ref bk),v10,some (.int (L.length:Int)),gX,eS,mF]) (re s8 gX (xL eS none rfl)) ?_ ?_
 ·intro i σ Hc hi;intros am12 _ sc gX eS mF rfl
  rw [show (0:Int)+(i:Int)=(i:Int) by lia]
  dsimp only [aN];simp only [aX,aY];refine (ad _ rfl (ii (L.length:Int) rfl ⋯ ⋯ ?_))
  rw [dr];refine lZ (λj σ Hc=>ag H Hc/\∃eS mF:Option V,σ=[some (.int q),some (.ref a),some (.ref p),some (.int (aa.length:Int)),some (.int (m:Int)),some (.ref lf),some (.ref rt),some (.ref dn),some (.ref ac),some (.ref bk),v10,some (.int (L.length:Int)),some (.int (i:Int)),eS,mF]) (ul sc eS mF rfl) ?_ ?_
  ·intro j σ Hd hj;intros am5 _ sd eS mF rfl
   rw [show (0:Int)+(j:Int)=(j:Int) by lia]
   dsimp only [aN];simp only [aX,aY];refine fY (gx (Zi (λu He=>ag Hd He/\cN He q u (if i=j then 1 else 0) 1) (λQ' kq=>?_) (λu He hse=>?_)))
   ·refine (db _ rfl _ rfl (cM (λhp=>?_) (λhp=>?_)))
    ·have hp:q≠0:=by simpa using hp
     refine (ad _ rfl (am _ rfl rfl (.inr (ad _ rfl ?_))));rw [P5];exact kq _ _ ⟨ag.refl _,P6 hq hp (by split <;> simp)⟩
    ·have hp:q=0:=by simpa using hp
     refine (ad _ rfl (am _ rfl rfl (.inr (am _ rfl (by show 2<=sizeLine;decide) (λr nr=>?_)))))
     rw [P5];refine kq _ _ ⟨a9 nr,?_⟩;subst hp;exact .cq aK ⟨∅,nM ..⟩ ∅ rfl
   obtain ⟨se,Ed⟩:=hse;dsimp only [aN];simp only [aX,aY];have vQ:=sd.trans se;have T6:=vQ _ _ nG;have Ml:i<D.length:=by lia
   have Hw:=rW _ (by rw [getD_at Ml];exact aG _:D.getD i 0∈D)
   have hv:D.getD i 0<vs.length:=by lia
   have q'84:=(fv (D.getD i 0) vs[D.getD i 0] aa[D.getD i 0] (by simp [hv]) (by simp [Hw]));intros am16 q'84 ry Mh wy Mi T4 Mj
   have lw:=wp _ (aG Hw);refine (ad _ rfl ?_);refine fc (xs:=a7 L) (λR h=>(ad _ rfl (am ac rfl ⟨_,.of T6⟩ (h _ _ (ag.refl _) (eR (.of T6)))))) (by rw [gk];exact cR ⋯) (λ_ c y Hx=>cH B Hx q y (aa[D.getD i 0].getD (L.getD c 0) o1).1 (aa[D.getD i 0].getD (L.getD c 0) o1).2) (λD l y Ha Hb ys h e f=>h.cC e f) ?_ ?_
   ·intro Dc c v hc Hf R sf _ kf
    have c1:c<L.length:=by rw [<-gk];exact (aL.mp hc).1
    have ev:v=.int ((L.getD c 0:Nat):Int):=by unfold a7 at hc;rw [bu,bu] at hc;simp [c1] at hc;rw [getD_at c1];exact hc.symm
    subst ev;have lc:=Ae _ (by rw [getD_at c1];exact aG _:L.getD c 0∈L)
    have cw:L.getD c 0<wy.length:=by lia
    have cp:L.getD c 0<aa[D.getD i 0].length:=by lia
    have jU:=vQ.trans sf;have nn:=(Mj (L.getD c 0) wy[L.getD c 0] aa[D.getD i 0][L.getD c 0] (by simp [cw]) (by simp [cp])).mono jU
    refine (db _ rfl _ rfl (nw _ rfl dn (a7 D) _ _ rfl rfl (.of (jU _ _ mE)) (Me Ml) (sB a vs _ (.ref ry) rfl rfl (.of (jU _ _ ea)) (cK (by rw [<-Mh];simp [hv])) (nw _ rfl ry wy _ (wy[L.getD c 0]) rfl rfl (.of (jU _ _ Mi)) (cK (by simp [cw])) ?_))))
    refine kf _ Hf (ag.refl _) ?_;rw [getD_at cp];exact nn
   ·intro Dc ys Hf nD sf dN hP eD
    have T7:(d9 D (bW L aa)).getD i []=L.map λc=>aa[D.getD i 0].getD c o1:=by rw [E3 Ml,BE Hw,getD_at Hw]
    have ju:aM B Hf q Dc ((d9 D (bW L aa)).getD i []):=by
     rw [T7];refine (am ys eD (by rw [dN,gk,aV]) (λc v p h1 h2=>?_))
     have c1:c<L.length:=by have:=(aL.mp h2).1;rw [aV] at this;exact this
     have z:=hP c v h1;rw [bu] at h2;simp [c1] at h2;rw [getD_at c1] at z;simp only [cb] at z;rw [<-h2];exact z
    have jU:=vQ.trans sf;refine Kb rfl rfl (oN.mono jU) wf hj ⋯ λDd Hg nD se CN=>?_
    have lx:((d9 D (bW L aa)).getD i []).length=L.length:=by rw [T7,aV]
    refine (Re q Dc Dd B By _ (SL _ rfl hq (ju.mono se) CN ⋯ ⋯ ⋯ (by rw [aV];lia) (λz=>by rw [lx];exact aeD z) (λv H' s' hN=>?_)))
    have w:=inv i j hi hj;have vR:cN H' q v (if i=j then 1 else 0) 1:=by
     by_cases z:i=j
     ·rw [ao z] at w ⊢
      exact hN.i6 w aC.one
     ·rw [aq z] at w ⊢
      exact hN.i6 w aC.one
    have sx:=sf.trans (se.trans s');refine (ad _ rfl (Eb vR (Ed.mono sx) rfl (ad _ rfl (bQ ?_))));exact (ul (vQ.trans sx) _ _ rfl)
  ·intro σ Hd;intros am5 _ sd eS mF rfl
   exact (re sd _ (xL _ _ rfl))
 intro σ H9;intros am12 _ s9 gX eS mF rfl;exact k H9 s9
theorem aeJ:bw ["p","world","table","aim","found","nought","j"] ["p","world","table","aim","found"] (aR Gv):=bH
theorem aeK(T:Txt K mg t):aO P w K mg base bO 9 t.u_ t.yQ ["p","world","table","aim","found"] (aas t.bP t.fz):=by
 have S:=aeJ;refine T.zI.bV S (λ_ _ _ _ H vs _ _ hr h=>?_);intros amE h z am34 a b p r q Ba Bo E' F m am29 aa as xs rfl ep hz hq hT am32 hb hx sz la lx eX eC eA bar fit k;have hu:=hr.DK
 refine (ad _ (ak (putL 5 S.nd (o6 (kK (pv 0) (λ_=>rfl)) aj (gw (ae aj (ae aj af)))))
  (ak (bC (PW.pt (pw_or (bK fX (aZ cm rfl T.b5 b6 (ae (pv 4) af)) aj) (pw_or1 (e7 (d7 (aw (LM T) hr T.GL T.rz.kp T.GK aF (ae (pv 0) (ae (aA bE (pv 4) aj) (ae (aZ cm rfl T.b5 b6 (ae (pv 2) af)) af))))))))) (ar (aJ dM)) bG)
  (ak (gG fJ rfl (gF rfl T.fg (ae (aZ cm rfl T.b5 b6 (ae (aA dh (pv 2) aj) af)) af)) (dE (i:=6) S.nd rfl (Or.inr rfl))
   (ar (bC (bK (D_ hu) (aw (rN T) hr T.nj T.jQ.kp T.nh aF (ae (pv 0) (ae (aA bE (pv 4) aj) (ae (dA (N:=["row","j"]) (ρ:=(λσ=>[σ[6]?.join])) (cP [6] rfl) rfl (cY (pv 2)) (λ_ _ _=>.nil) (λ_ _ _=>(aA (ip (K:=K)) (pv 0) (pv 1)))) af)))) (pv 5)) (ar (aJ dM)) bG)))
  (ak (bC (bK (D_ hu) (aw (rN T) hr T.nj T.jQ.kp T.nh aF (ae (pv 0) (ae (aA bE (pv 4) aj) (ae (pv 3) af)))) (o6 (kK (pv 0) (λ_=>rfl)) aj (gw (ae aj (ae aj af))))) (ar (aJ dM)) bG)
  (ar (aJ (e8 Ji (aw (acG T) hr T.RG T.zm.kp T.RF aF (ae (pv 1) (ae (pv 2) (ae (pv 3) (ae (aA bE (pv 4) aj) af))))) dM))))))) ?_)
 have q'85:=id hT;intros am7 q'85 vs ea lv fv;have n1:=sz.n1;have cO:=sz.cO;have fL:=sz.fL;have v0:0<vs.length:=by lia
 have p0:0<aa.length:=by lia
 have q'86:=(fv 0 vs[0] aa[0] (by simp [v0]) (by simp [p0]));intros am16 q'86 r0 CK vP CL CM _
 have jd:dF vs 0=some (.ref r0):=by exact cK (j:=0) (by rw [<-CK];simp [v0])
 have e1:∀{H'},ag H H'->dF [V.str (Str.ofString "barred"),.ref r] 1=some (.ref r):=λ_=>by exact cK (j:=1) rfl
 have rT:=hT.rep hq rfl sz.bY;have xb:∀p∈xs,aC q p.2:=λp hp=>(hx.nums hq p hp).2.1;obtain ⟨bc,ba⟩:=Qw hq rfl sz.bY la lx rT (λp hp=>(hb.nums hq p hp).2.1) xb bar;refine fY (gx (E_ hq (.inl rfl) (λQ' h=>(db _ rfl _ rfl h)) (λQ' h=>h) (λQ' h=>⟨by show 2<=sizeLine;decide,h⟩) λu H1 s1 hu1=>?_))
 dsimp only [aN];simp only [L2.start,df,iD,gE,gZ,List.replicate,g_,gM,aX,aY];refine (f8 _ rfl p _ rfl (.inr (.of (s1 _ _ ep))) rfl false rfl (bQ ?_));have nx:iJ H1 q r xs:=by obtain ⟨ws,e,l,f⟩:=hx.mono s1;exact (am ws e l (λi v p h1 h2=>(f i v p h1 h2).jk hq))
 refine (ad _ rfl (nw _ rfl p _ _ _ rfl rfl (.of (s1 _ _ ep)) (e1 s1) (dL _ rfl a vs rfl (.inl (.of (s1 _ _ ea))) (u8 q r xs _ rfl nx ⋯ ⋯ ?_ (λH2 s2=>(ad true rfl (bQ ?_)))))))
 ·intro p hp
  obtain ⟨_,_,v,hv⟩:=hx.nums hq p hp;exact bT (hv.both sz.a1).2 sz.a2
 dsimp only [eO];have dD:=s1.trans s2;refine (nw _ rfl a vs _ (.ref r0) rfl rfl (.of (dD _ _ ea)) jd (ce r0 vP rfl (.inl (.of (dD _ _ CL))) (ii (m:Int) (by rw [CM,sz.bY _ (aG p0)]) ⋯ ⋯ ?_)))
 rw [dr];refine lZ (λj σ Hc=>ag H1 Hc/\∃v6:Option V,σ=[some (.int q),some (.ref z),some (.ref a),some (.ref b),some (.ref p),some u,v6]) (re s2 none rfl) ?_ ?_
 ·intro j σ Hc hj;intros am2 _ sc v6 rfl
  rw [show (0:Int)+(j:Int)=(j:Int) by lia]
  dsimp only [aN];simp only [aX,aY];have qk:=s1.trans sc;refine (ad _ rfl (nw _ rfl p _ _ _ rfl rfl (.of (qk _ _ ep)) (e1 s1) ?_));refine Kb rfl rfl (hT.mono qk) sz.bY hj ⋯ λDc He nD se CN=>?_
  refine (Re q r Dc Ba Bo xs (SL _ rfl hq ((hx.mono qk).mono se) CN (by have:=sz.a1;lia) (by have:=sz.o1;lia) ⋯ (by rw [aV];lia) (λz=>by rw [lx];exact fit z) (λv H' s' hN=>?_)))
  have w:=bc j hj;rw [k_ hj,Er] at w;have vR:=hN.i6 w aC.one;have ss:=sc.trans (se.trans s');exact (ad _ rfl (Eb vR (hu1.mono ss) rfl (ad _ rfl (bQ (re ss _ rfl)))))
 intro σ H3;intros am2 _ s3 v6 rfl;dsimp only;have gY:=s1.trans s3;refine (db _ rfl _ rfl (wE p _ _ _ rfl rfl (.of (gY _ _ ep)) (e1 s1) _ rfl (Re q r b Ba Bo xs (SL as rfl hq (hx.mono gY) (hb.mono gY) (by have:=sz.a1;lia) (by have:=sz.o1;lia) ⋯ ⋯ (λz=>by rw [lx];exact fit z) (λv H4 s4 hN=>?_)))))
 have vR:=hN.i6 ba aC.one;refine E_ hq (.inr rfl) (λQ' h=>(db _ rfl _ rfl h)) (λQ' h=>h) (λQ' h=>⟨by show 2<=sizeLine;decide,h⟩) λu5 H5 s5 hu5=>?_
 refine Eb (vR.mono s5) hu5 rfl (ad _ rfl (bQ ?_));dsimp only [eO];have gK:=gY.trans (s4.trans s5);refine (sK _ rfl _ rfl _ rfl (nw _ rfl p _ _ _ rfl rfl (.of (gK _ _ ep)) (e1 s1) (SC z a b r q (zn Ba Bo E' F m aa as (SL xs rfl (hz.mono gK) hq (hT.mono gK) (hb.mono gK) (hx.mono gK) sz la lx ⟨eX,eC,eA,bar,λH6 s6=>(ce true true rfl rfl (k H6 (gK.trans s6)))⟩)))))
theorem aeN:bw ["p","world","table","aim","found","free","n","m","noughts","move"] ["p","world","table","aim","found","free"] (aR Gw):=bH
theorem aeO(T:Txt K mg t):aO P w K mg base bO 10 t.vc t.yR ["p","world","table","aim","found","free"] (aav t.bP t.fz):=by
 have S:=aeN;refine T.zJ.bV S (λ_ _ _ _ H vs _ E hr h=>?_);intros am34 h z a b p q Bo F P' m aa am24 as L G f rfl hz hq am28 hT hb jw la hF hL ef h3 k;have hu:=hr.DK;have gD:=hr.units
 refine (ad _ (ak (putL 6 S.nd (aZ cm rfl T.b5 b6 (ae (pv 2) af)))
  (ak (putL 7 S.nd (aZ cm rfl T.b5 b6 (ae (aA dh (pv 2) aj) af)))
  (ak (bC (PW.pt (pw_or (e7 (d7 (aZ (ma (K:=K)) rfl T.lF boot_isinstance (ae (pv 4) (ae (lX (v:=.ty "tuple") rfl T.zL boot_tuple rfl) af))))) (pw_or (bK jg (aZ cm rfl T.b5 b6 (ae (pv 4) af)) aj) (pw_or1 (DG Oh (aA bE (pv 4) aj) (eY (ae gd (ae gd (ae gd af)))) rfl))))) (ar (aJ dM)) bG)
  (ak (bC (bK eE (aA bE (pv 4) aj) gd) (ar (aJ (aw (aeK T) hr T.Sd T.zI.kp T.Sb aF (ae (pv 0) (ae (pv 1) (ae (pv 2) (ae (pv 3) (ae (pv 4) af)))))))) bG)
  (ak (bC (PW.pt (pw_or (e7 (d7 (aw (LM T) hr T.GL T.rz.kp T.GK aF (ae (pv 0) (ae (aA bE (pv 4) aj) (ae (pv 7) af)))))) (pw_or1 (bK (El (n:=1) gD) (dA (N:=["row","p","found"]) (ρ:=(λσ=>[σ[0]?.join,σ[4]?.join])) (cP [0,4] rfl) rfl (cY (pv 2)) (λ_ _ _=>.nil) (λ_ _ _=>(aw (rN T) hr T.nj T.jQ.kp T.nh aF (ae (pv 1) (ae (pv 0) (ae (aA (qH (K:=K)) (pv 2) aj) af)))))) (pv 3))))) (ar (aJ dM)) bG)
  (ak (bC (bK OV (aw (acB T) hr T.RE T.zl.kp T.RD aF (ae (pv 1) (ae (pv 2) (ae (pv 3) (ae (aA bE (pv 4) aj) af))))) dM) (ar (aJ dM)) bG)
  (ak (bC (bK eE (aA bE (pv 4) aj) gd) (ar (aJ (iF (e8 eE (aZ cm rfl T.b5 b6 (ae (pv 4) af)) aj) (iF (e8 eE (pv 5) aj) (jE (e8 Ji (aw (S6 T) hr T.KJ T.vA.kp T.KI aF (ae (pv 1) (ae (pv 2) (ae (eY af) af)))) dM)))))) bG)
  (ak (bC (PW.pt (pw_or (bK fX (aZ cm rfl T.b5 b6 (ae (pv 4) af)) aj) (pw_or (bK eE (pv 5) aj) (pw_or1 (e7 (d7 (aw (Hi T) hr T.BY T.qb.kp T.BX aF (ae (pv 0) (ae (aA bE (pv 4) aj) (ae (pv 5) (ae (pv 7) af))))))))))) (ar (aJ dM)) bG)
  (ak (putL 8 S.nd (az sO (eY (ae (o6 (kK (pv 0) (λ_=>rfl)) aj (gw (ae aj (ae aj af)))) af)) (pv 6)))
  (ak (gG fJ rfl (cY (aA bE (pv 4) aj)) (dE (i:=9) S.nd rfl (Or.inr rfl))
   (ar (bC (bK (El (n:=1) gD) (dA (N:=["row","p","move"]) (ρ:=(λσ=>[σ[0]?.join,σ[9]?.join])) (cP [0,9] rfl) rfl (cY (pv 2)) (λ_ _ _=>.nil) (λ_ _ _=>(aw (rN T) hr T.nj T.jQ.kp T.nh aF (ae (pv 1) (ae (pv 0) (ae (pv 2) af)))))) (pv 8)) (ar (aJ dM)) bG)))
  (ar (aJ (iF (e8 eE (aw (adW T) hr T.R7 T.zF.kp T.R6 aF (ae (pv 0) (ae (aA bE (pv 4) aj) (ae (pv 7) af)))) (pv 5)) (jE (e8 Ji (aw (S6 T) hr T.KJ T.vA.kp T.KI aF (ae (pv 1) (ae (pv 2) (ae (aA bE (pv 4) aj) af)))) dM))))))))))))))) ?_)
 have q'89:=id hT;intros am7 q'89 vs ea lv fv;have n1:=jw.n1;have cO:=jw.cO;have fL:=jw.m_;have bY:=jw.bY;have v0:0<vs.length:=by lia
 have p0:0<aa.length:=by lia
 have q'90:=(fv 0 vs[0] aa[0] (by simp [v0]) (by simp [p0]));intros am16 q'90 r0 CK vP CL CM _
 have jd:dF vs 0=some (.ref r0):=by exact cK (j:=0) (by rw [<-CK];simp [v0])
 refine (dL _ rfl a vs rfl (.inl (.of ea)) ?_);rw [show (vs.length:Int)=(aa.length:Int) by lia]
 dsimp only [aN];simp only [L2.start,df,iD,gE,gZ,List.replicate,g_,gM,aX,aY];refine (nw _ rfl a vs _ (.ref r0) rfl rfl (.of ea) jd (ce r0 vP rfl (.inl (.of CL)) ?_));rw [show (vP.length:Int)=(m:Int) by rw [CM,bY _ (aG p0)]]
 dsimp only [aN];simp only [aX,aY];obtain ⟨nm,r,rest,ep,hnm⟩:∃(nm:Str) (r:Addr) (rest:List V),H p=some (.tup (.str nm::.ref r::rest))/\A7 (.str nm) [.str (Str.ofString "one"),.str (Str.ofString "many"),.str (Str.ofString "barred")]=true:=by
  rcases h3 with ⟨r,_,_,_,_,e,_⟩ | ⟨r,_,_,e,_⟩ | ⟨r,t,_,_,_,_,_,e,_⟩;·exact ⟨_,r,[],e,rfl⟩
  ·exact ⟨_,r,[],e,rfl⟩
  ·exact ⟨_,r,[.ref t],e,rfl⟩
 have Af:dF (V.str nm::.ref r::rest) 0=some (.str nm):=by exact cK (j:=0) rfl
 refine (ad _ rfl (wE _ _ _ true rfl rfl (.of (.tup ep)) sU true rfl (bQ ?_)));refine (dL _ rfl p _ rfl (.inr (.of ep)) (pi _ _ rfl rfl false (by (dsimp only;rw [fD (by simp;lia)])) (bQ ?_)))
 refine (ad _ rfl (u8 p _ _ _ rfl rfl (.of ep) Af (by show 3<=sizeLine;decide) (λl nl=>(gl l _ rfl (.inl (.of aK)) rfl (sw rfl false (by (rw [ao rfl,hnm];rfl)) (bQ ?_))))))
 dsimp only [eO];have s1:ag H (upd H l (.lst [.str (Str.ofString "one"),.str (Str.ofString "many"),.str (Str.ofString "barred")])):=a9 nl;generalize upd H l (.lst [.str (Str.ofString "one"),.str (Str.ofString "many"),.str (Str.ofString "barred")])=H1 at s1 ⊢;clear Af;have hT1:=hT.mono s1;have gC:=hb.mono s1;rcases h3 with ⟨r,Ba,E',F',xs,e,hx,sz,lx,eX,eC,eA,bar,fit⟩ | h3
 ·rw [e] at ep
  cases ep;have e1:=s1 _ _ e;refine (nw _ rfl p _ _ _ rfl rfl (.of e1) (by exact cK (j:=0) rfl) (sw rfl true rfl (dW ?_)))
  exact (db _ rfl _ rfl (sK _ rfl _ rfl _ rfl (Re z a b p _ q (zn Ba Bo E' F' m aa as (SL xs rfl e1 (hz.mono s1) hq hT1 gC (hx.mono s1) sz la ⟨lx,eX,eC,eA,bar,fit,λH' s'=>k H' (s1.trans s')⟩)))))
 obtain ⟨r',X,xs,e,hx,sz,lx,sol,eX,fit,h3⟩:∃(r':Addr) (X:Nat) (xs:aI),r'=r/\aM X H q r' xs/\ou q X Bo X F m aa/\xs.length=m/\pZ q aa.length m aa as xs/\bj q X xs/\(q=0->40*(Bo*X) ^ m<2 ^ 8192)/\((nm=Str.ofString "one"/\rest=[]/\L.length=m)\/∃(t:Addr) (P2:Nat) (bz:aH) (G2:Nat->Nat),nm=Str.ofString "many"/\rest=[.ref t]/\L.length≠m/\aU X H q t bz/\tL q aa.length m X aa L bz/\qR q X P2 m bz G2/\(q=0->(2*X ^ (m+1)) ^ (2 ^ (bz.length-2))<2 ^ 8192)):=by
  rcases h3 with ⟨r',X,xs,e,hx,sz,lx,sol,eX,fit,lL⟩ | ⟨r',t,X,P2,xs,bz,G2,e,hx,sz,lx,sol,eX,fit,lL,ht,mv,CO,Mm⟩
  ·rw [e] at ep
   cases ep;exact (wP _ X xs rfl hx sz lx sol eX ⟨fit,.inl ⟨rfl,rfl,lL⟩⟩)
  ·rw [e] at ep
   cases ep;exact (wP _ X xs rfl hx sz lx sol eX ⟨fit,.inr (Exists.intro t (wP P2 bz G2 rfl rfl lL ht mv CO Mm))⟩)
 subst e;have Cv:=s1 _ _ ep;have nb:decide (V.str nm=V.str (Str.ofString "barred"))=false:=by rcases h3 with ⟨h,_⟩ | ⟨_,_,_,_,h,_⟩ <;> (rw [h];rfl)
 have Af:dF (V.str nm::.ref r'::rest) 0=some (.str nm):=by exact cK (j:=0) rfl
 have CI:dF (V.str nm::.ref r'::rest) 1=some (.ref r'):=by exact cK (j:=1) rfl
 refine (nw _ rfl p _ _ _ rfl rfl (.of Cv) Af (sw rfl false (nb▸rfl) (bQ ?_)));dsimp only [eO];have hx1:=hx.mono s1;have xb:∀p∈xs,aC q p.2:=λp hp=>(hx.nums hq p hp).2.1;have ab:∀p∈as,aC q p.2:=λp hp=>(hb.nums hq p hp).2.1;have rT:=hT.rep hq rfl bY;have nx:iJ H1 q r' xs:=by intros am7 hx1 ws e l f;exact (am ws e l (λi v p h1 h2=>(f i v p h1 h2).jk hq))
 refine (db _ rfl _ rfl (wE p _ _ _ rfl rfl (.of Cv) CI _ rfl (u8 q r' xs _ rfl nx ⋯ ⋯ ?_ (λH2 s2=>(ad true rfl (bQ ?_))))))
 ·intro p hp
  obtain ⟨_,_,v,hv⟩:=hx.nums hq p hp;exact bT (hv.both sz.a1).2 sz.a2
 have dD:=s1.trans s2;refine QQ (Bn (Kc (E:=E0) rfl hq (hT.mono dD) (hx.mono dD) bY cO fL ⋯ (by have:=sz.o1;lia) (by have:=sz.a1;lia) fit (λr Hc R sc h=>(db _ rfl _ rfl (nw _ rfl p _ _ _ rfl rfl (.of (sc _ _ (dD _ _ ep))) CI h))) λD H3 nD s3 hN=>?_))
 have gY:=dD.trans s3;intros am7 hN ws ec lw fw;have q'92:=hb.mono gY;intros am7 q'92 vb eb zW fb;rw [aV] at lw;refine (xz _ rfl D (wP b ws vb rfl rfl (.of ec) (.of eb) ⋯ (λj x y h1 h2=>?_) (ad false rfl (bQ ?_))))
 ·have j1:j<ws.length:=(aL.mp h1).1
  have j2:j<aa.length:=by lia
  have j3:j<as.length:=by lia
  have jG:=fw j x _ h1 (by rw [bu,d5 j2];rfl)
  have w:=Qu hq rfl bY la lx rT ab xb sol j2;rw [getD_at j2,getD_at j3] at w;have hy:=fb j y as[j] h2 (by simp [j3])
  exact td (jG.i6 w (ab _ (aG _))) (hy.jk hq) rfl 0
 dsimp only [eO];refine (sK _ rfl _ rfl _ rfl (nw _ rfl p _ _ _ rfl rfl (.of (gY _ _ ep)) CI (SC z a b r' q (zn X Bo X F m aa as (SL xs rfl (hz.mono gY) hq (hT.mono gY) (hb.mono gY) (hx.mono gY) sz la lx ⟨eX,hF,sol,λH4 s4=>(pi true true rfl rfl false rfl (bQ ?_))⟩)))));dsimp only [eO];have iP:=gY.trans s4;have fl:=xC hL.1 hL.2.1;rcases h3 with ⟨rfl,rfl,lL⟩ | ⟨t',P2,bz,G2,rfl,rfl,lL,ht,mv,CO,Mm⟩
 ·refine (nw _ rfl p _ _ _ rfl rfl (.of (iP _ _ ep)) Af (sw rfl true rfl (dW ?_)))
  refine (f8 _ rfl p _ rfl (.inr (.of (iP _ _ ep))) rfl true rfl (dW ?_));refine (gt _ rfl rfl true (by rw [eZ,cF ⋯]) (dW ?_))
  refine (ad _ rfl (am _ rfl (by show 0<=sizeLine;decide) (λl5 nl5=>?_)))
  have s5:ag H4 (upd H4 l5 (.lst [])):=a9 nl5;have gK:=iP.trans s5;have h0:aU X (upd H4 l5 (.lst [])) q l5 []:=(am [] aK rfl (λi v ps h=>by simp at h))
  exact (Re z a l5 q X Bo (zn X F P' m aa [] G (SL L rfl (hz.mono gK) hq (hT.mono gK) h0 sz jw hF hL ⟨.inl ⟨rfl,lL⟩,λH6 s6=>(ce true true rfl rfl (k H6 (gK.trans s6)))⟩)))
 ·refine (nw _ rfl p _ _ _ rfl rfl (.of (iP _ _ ep)) Af (sw rfl false rfl (bQ ?_)))
  dsimp only [eO];have Hy:dF [V.str (Str.ofString "many"),.ref r',.ref t'] 2=some (.ref t'):=by exact cK (j:=2) rfl
  have vl:=mv.len;have Bv:f=(bz.length:Int):=by lia
  subst Bv;refine (f8 _ rfl p _ rfl (.inr (.of (iP _ _ ep))) rfl false rfl (bQ ?_));refine (gt _ rfl rfl false (by rw [eZ,fD ⋯]) (bQ ?_))
  refine (ad _ rfl (nw _ rfl p _ _ _ rfl rfl (.of (iP _ _ ep)) Hy (SB _ rfl _ rfl q _ (u8 t' bz.length m (atT bz) rfl ((ht.mono iP).f hq mv.bY) CO.cO fL (ht.mid hq rfl mv.bY sz.a1 sz.a2) (λH5 s5=>(ad true rfl (bQ ?_)))))));dsimp only [eO];have gK:=iP.trans s5;refine fY (gx (Bn (Jq (E_ hq (.inl rfl) (λQ' h=>(db _ rfl _ rfl h)) (λQ' h=>h) (λQ' h=>⟨by show 2<=sizeLine;decide,h⟩) λu H6 s6 hu6=>⟨by show 1<=sizeLine;decide,λl7 CP=>?_⟩))))
  have s7:ag H6 (upd H6 l7 (.lst [u])):=a9 CP;refine (ad _ rfl (wP l7 (aa.length:Int) [u] rfl rfl aK ⋯ ⋯ (au (show [u].length*(aa.length:Int).toNat<=40 by simp;lia) ∅) (λl8 Mn=>?_)))
  generalize upd H6 l7 (.lst [u])=H7 at s7 Mn ⊢;have s8:ag H7 (upd H7 l8 (.lst (List.replicate (aa.length:Int).toNat [u]).flatten)):=a9 Mn;have T8:iJ (upd H7 l8 (.lst (List.replicate (aa.length:Int).toNat [u]).flatten)) q l8 (aa.map λ_=>(0,1)):=by
   refine (am _ aK (by rw [len_rep,aV];simp) (λi v p h1 h2=>?_))
   have hy:v=u:=by have:=jA h1;obtain ⟨l',mZ,rK⟩:=AF.mp this;rw [(AI.mp mZ).2] at rK;exact iC.mp rK
   have hp:p=(0,1):=by have:=jA h2;obtain ⟨_,_,e⟩:=fI.mp this;exact e.symm
   rw [hy,hp];exact (hu6.mono s7).mono s8
  generalize upd H7 l8 (.lst (List.replicate (aa.length:Int).toNat [u]).flatten)=H8 at s8 T8 ⊢;have oO:=gK.trans (s6.trans (s7.trans s8));clear s2 dD gY iP gK s3 s4 s5 s6 s7 s8 ec lw fw eb zW fb CP Mn;dsimp only [aN];simp only [aX,aY];have q'94:=id ht;intros am7 q'94 ts et lt ft;refine (nw _ rfl p _ _ _ rfl rfl (.of (oO _ _ ep)) Hy (am t' rfl ⟨_,.of (oO _ _ et)⟩ ?_));refine wK (K:=K) (a:=t') (xs:=ts) (λi σ Hc=>ag H8 Hc/\∃v9:Option V,σ=[some (.int q),some (.ref z),some (.ref a),some (.ref b),some (.ref p),some (.int (bz.length:Int)),some (.int (aa.length:Int)),some (.int (m:Int)),some (.ref l8),v9]) (re (ag.refl _) none rfl) (λi σ Hc _ ⟨sc,_⟩=>.of (sc _ _ (oO _ _ et))) ?_ ?_
  ·intro i v σ Hc hv;intros am2 _ sc v9 rfl
   have i1:i<ts.length:=(aL.mp hv).1;have i2:i<bz.length:=by lia
   obtain ⟨mo,rfl,hmo⟩:=ft i v bz[i] hv (by simp [i2])
   dsimp only [aN];simp only [aX,aY];have qk:=oO.trans sc;have lmo:=mv.bY _ (aG i2);refine Pg (QQ (Bn (Kc (E:=E0) rfl hq (hT.mono qk) (hmo.mono qk) bY cO fL ⋯ (by have:=sz.o1;lia) (by have:=sz.a1;lia) fit (λr Hd R sd h=>(sK _ rfl _ rfl _ rfl h)) λD Hd nD sd hN=>?_)))
   intros am7 hN ws ec lw fw;have q'96:=iJ.mono T8 (sc.trans sd);intros am7 q'96 vb eb zW fb;rw [aV] at lw zW;refine (xz _ rfl D (wP l8 ws vb rfl rfl (.of ec) (.of eb) ⋯ (λj x y h1 h2=>?_) (ad false rfl (bQ ?_))))
   ·have j1:j<ws.length:=(aL.mp h1).1
    have j2:j<aa.length:=by lia
    have jG:=fw j x _ h1 (by rw [bu,d5 j2];rfl)
    have w:=Qv hq rfl bY lmo rT (λp hp=>(ht.nums hq _ (aG i2) p hp).2.1) (mv.xA _ (aG i2)) j2;rw [getD_at j2] at w;have hy:=fb j y (0,1) h2 (by rw [bu,d5 j2];rfl)
    exact td (jG.i6 w aC.one) hy rfl 0
   exact (re (sc.trans sd) _ rfl)
  intro σ H9;intros am2 _ s9 v9 rfl;dsimp only;have rZ:=oO.trans s9;refine (ad _ rfl (nw _ rfl p _ _ _ rfl rfl (.of (rZ _ _ ep)) Hy (Rs _ rfl q t' (wP X m bz rfl hq (ht.mono rZ) CO.cO mv.bY fL ⟨sz.a1,Mm,λL2 mD jc hL2=>?_⟩))));have eL2:=mv.rank hq (λps h1 p h2=>(ht.nums hq ps h1 p h2).2.1) hL2;have CQ:=rZ.trans jc;refine (gt _ rfl rfl true (by rw [eZ,cF ⋯]) (dW ?_))
  exact (db _ rfl _ rfl (nw _ rfl p _ _ _ rfl rfl (.of (CQ _ _ ep)) Hy (Re z a t' q X Bo (zn X F P' m aa bz G (SL L rfl (hz.mono CQ) hq (hT.mono CQ) (ht.mono CQ) sz jw hF hL ⟨.inr ⟨mv,lL,P2,G2,CO⟩,λG0 rJ=>(ce true true rfl rfl (k G0 (CQ.trans rJ)))⟩)))))
theorem aeX{t:TE}{Q:VK}(P:V->Hp->Prop)(h:∀Q':VK,(∀v H',P v H'->Q' v H')->t σ H Q')(k:∀v H',P v H'->Q v H'):t σ H Q:=h Q k
theorem aeY{K1 K2:aQ}{a:Addr}{aa:aH}{Q:VK}(e:σ[i]?=some (some (.ref a)))(h:aU B H q a aa)(cO:aa.length<=40)(k:∀D H',H D=none->ag H H'->aU B H' q D aa->Q (.ref D) H'):jL (wJ K1 (jD i)) (λ_=>[]) (λ_ H Q=>Q true H) (AY (Pd K2) (mS (jD 0) wQ)) σ H Q:=by
 obtain ⟨vs,ea,lv,fv⟩:=id h;refine fc (xs:=vs) (λR h=>⟨_,e,a,rfl,⟨_,.of ea⟩,h _ _ (ag.refl _) (eR (.of ea))⟩) (by rw [lv];exact cR ⋯) (λD i y Hx=>∃x:Addr,y=.ref x/\x≠D/\aM B Hx q x (aa.getD i [])) (λD i y Ha Hb ys ⟨x,h1,h2,h3⟩ e f=>(am x h1 h2 (mq h3 h2 e f))) ?_ ?_
 ·intro D i v hi Hc R sc ⟨zs,eD⟩ kc
  have i1:i<vs.length:=(aL.mp hi).1;have i2:i<aa.length:=by lia
  obtain ⟨r,rfl,ws,ew,lw,fw⟩:=fv i v aa[i] hi (by simp [i2])
  refine (dL _ rfl r ws rfl (.inl (.of (sc _ _ ew))) (λb nb=>?_));have sb:ag Hc (upd Hc b (.lst ws)):=a9 nb;refine kc _ _ sb (am b rfl (λe=>by rw [e,eD] at nb;cases nb) ?_)
  rw [getD_at i2];exact (am ws aK lw (λj v p h1 h2=>((fw j v p h1 h2).mono sc).mono sb))
 ·intro D ys Hc nD sc dN hP eD
  refine k D Hc nD sc (am ys eD ⋯ (λi v ps h1 h2=>?_))
  obtain ⟨x,e1,_,e3⟩:=hP i v h1;have i2:i<aa.length:=(aL.mp h2).1;rw [getD_at i2] at e3;have:ps=aa[i]:=by simpa [i2] using h2.symm
  rw [this];exact (ad x e1 e3)
theorem aeZ:bw ["script","p","world","draw","n","m","table","handed","paper","many","row","aims","k","aim","copy","found"] ["script"] (aR Gx):=bH
theorem ae0(T:Txt K mg t):aO P w K mg base bO 12 t.q_ t.vd ["script"] (D4 K):=by
 have S:=aeZ;refine T.zK.bV S (λ_ _ _ _ H _ _ E hr h=>?_);intros am15 h a ns rfl hS hlen kQ;have gD:=hr.units
 refine (ad _ (ak (d4 1 S.nd (aw (adB T) hr T.RW T.zx.kp T.RV aF (ae (aw (vJ T) hr T.rq T.mw.kp T.rp aF (ae (pv 0) (ae aj af))) af)))
  (ak (putL 2 S.nd (aw (adF T) hr T.RY T.zy.kp T.RX aF (ae (pv 1) af)))
  (ak (putL 3 S.nd (aw (vJ T) hr T.rq T.mw.kp T.rp aF (ae (pv 0) (ae aj af))))
  (ak (putL 4 S.nd (az gQ aj (az dy (pv 3) (o6 (kK (pv 1) (λ_=>rfl)) aj aj))))
  (ak (putL 5 S.nd (az gQ aj (az dy (az i4 (pv 3) aj) (o6 (kK (pv 1) (λ_=>rfl)) aj aj))))
  (ak (putL 6 S.nd (aw (aea T) hr T.R9 T.zG.kp T.R8 aF (ae (pv 0) (ae (pv 1) (ae (pv 4) (ae (pv 5) (ae aj af)))))))
  (ak (pK (i0:=7) (N:=["row"]) (ρ:=(λσ=>[])) (cP [] rfl) rfl S.nd rfl (Or.inl rfl) (cY (pv 6)) (λ_ _ _=>.nil) (λ_ _ _=>(mU (Pe (K:=K)) rfl T.nB boot_list (ae (pv 0) af))))
  (ak (putL 8 S.nd (aw (acT T) hr T.RO T.zr.kp T.RN aF (ae (pv 2) (ae (pv 7) af))))
  (ak (bC (PW.pt (pw_or (e7 (d7 (aw (aeA T) hr T.Sa T.zH.kp T.R_ aF (ae (pv 1) (ae (pv 6) (ae (pv 8) af)))))) (pw_or1 (bK OV (aw (adg T) hr T.RS T.zu.kp T.RR aF (ae (pv 2) (ae (pv 6) (ae (pv 8) af)))) dM)))) (ar (aJ dM)) bG)
  (ak (putL 9 S.nd (aw (acM T) hr T.RM T.zq.kp T.RL aF (ae (pv 2) (ae (pv 7) af))))
  (ak (bC (PW.pt (pw_or (e7 (d7 (aw (Cs T) hr T.zB T.oC.kp T.zA aF (ae (pv 9) af)))) (pw_or1 (bK fX (pv 9) (aZ cm rfl T.b5 b6 (ae (aA bE (pv 8) aj) af)))))) (ar (aJ dM)) bG)
  (ak (d4 10 S.nd (dA (N:=["j","p","script"]) (ρ:=(λσ=>[σ[1]?.join,σ[0]?.join])) (cP [1,0] rfl) rfl (gF rfl T.fg (ae (pv 5) af)) (λ_ _ _=>.nil) (λ_ _ _=>(aw (Ct T) hr T.zE T.oE.kp T.zD aF (ae (pv 1) (ae (aw (vJ T) hr T.rq T.mw.kp T.rp aF (ae (pv 2) (ae (az gQ aj (pv 0)) af))) af))))))
  (ak (putL 11 S.nd (eY (ae (dA (N:=["i","p","script"]) (ρ:=(λσ=>[σ[1]?.join,σ[0]?.join])) (cP [1,0] rfl) rfl (gF rfl T.fg (ae (pv 4) af)) (λ_ _ _=>.nil) (λ_ _ _=>(aw (Ct T) hr T.zE T.oE.kp T.zD aF (ae (pv 1) (ae (aw (vJ T) hr T.rq T.mw.kp T.rp aF (ae (pv 2) (ae (az gQ aj (pv 0)) af))) af))))) af)))
  (ak (wF (A8 AJ AK AL nY (pv 11) (ae (dA (N:=["some","p","row"]) (ρ:=(λσ=>[σ[1]?.join,σ[10]?.join])) (cP [1,10] rfl) rfl (cY (pv 6)) (λ_ _ _=>.nil) (λ_ _ _=>(aw (rN T) hr T.nj T.jQ.kp T.nh aF (ae (pv 1) (ae (pv 0) (ae (pv 2) af)))))) af)))
  (ak (wF (A8 AJ AK AL nY (pv 11) (ae (az sO (eY (ae (o6 (kK (pv 1) (λ_=>rfl)) aj (gw (ae aj (ae aj af)))) af)) (pv 4)) af)))
  (ak (gG fJ rfl (gF rfl T.fg (ae aj af)) (dE (i:=12) S.nd rfl (Or.inl rfl))
   (ak (putL 13 S.nd (aA dh (pv 11) (az dy (az gQ (pv 12) (az i4 (pv 3) aj)) aj)))
  (ak (putL 14 S.nd (mU DO rfl T.nB boot_list (ae (pv 13) af)))
  (ak (putL 15 S.nd (aw (abZ T) hr T.RA T.zk.kp T.Rz e9 (ae (pv 2) (ae (pv 7) (ae (pv 14) af)))))
  (ar (bC (PW.pt (pw_or (e7 (d7 (aw (aeO T) hr T.Sf T.zJ.kp T.Se aF (ae (pv 1) (ae (pv 2) (ae (pv 6) (ae (pv 13) (ae (pv 15) (ae (az jI (pv 5) (pv 9)) af))))))))) (pw_or (bK (El (n:=1) gD) (pv 14) (pv 13)) (pw_or1 (bK (El (n:=2) gD) (pv 7) (pv 6)))))) (ar (aJ dM)) bG))))))
  (ar (aJ dM)))))))))))))))))) ?_)
 refine (ad _ rfl (o0 a ns 0 rfl hS ⋯ ⋯ (λH1 s1=>(ad _ rfl (λq H2 s2 hq=>?_)))))
 dsimp only [aN];simp only [L2.start,df,iD,gE,gZ,List.replicate,g_,gM,aX,aY];refine (ad _ rfl (am q rfl hq (λz H3 s3 hz=>?_)));have gh:cG K H3 a (ns.map V.int):=(s1.trans (s2.trans s3)).seq hS;dsimp only [aN];simp only [aX,aY];refine (ad _ rfl (o0 a ns 1 rfl gh ⋯ ⋯ (λH4 s4=>?_)))
 have hz:=hz.mono s4;have Mo:=s4.seq gh;clear gh hS s1 s2 s3 s4;have d0:=Bh ns 1;have d1:=OP ns 1;generalize mY ns 1=d at d0 d1;dsimp only [aN];simp only [aX,aY];have wide:∀(σ:St) (Q':VK),σ[1]?=some (some (.int q))->(∀w:Nat,1<=w->w<=5->(q=0->w<=3)->Q' (.int (w:Int)) H4)->∀(c:TT) (ta tb:TE),(∀R:Bool->Hp->Prop,R (q != 0) H4->c σ H4 R)->(∀R:VK,R (.int 5) H4->ta σ H4 R)->(∀R:VK,R (.int 3) H4->tb σ H4 R)->AO c ta tb σ H4 Q':=λσ Q' _ k c ta tb hc ha hb=>hc _ (by
  by_cases hp:q=0
  ·subst hp
   exact bQ (hb _ (k 3 ∅ ∅ λ_=>by decide))
  ·rw [show (q != 0)=true by simpa using hp]
   exact dW (ha _ (k 5 ∅ ∅ λz=>absurd z hp)))
 have num:∀(e:Int) (w:Nat),0<=e->1<=w->w<=5->(q=0->w<=3)->∃n:Nat,1+e % (w:Int)=(n:Int)/\1<=n/\n<=5/\(q=0->n<=3):=λe w e0 w1 w5 w3=>by
  have h1:=fi e (show (w:Int)≠0 by lia)
  have h2:=fH e (show (0:Int)<(w:Int) by lia)
  exact ⟨(1+e % (w:Int)).toNat,⋯,⋯,⋯,λz=>by have:=w3 z;lia⟩
 refine (ad _ rfl (wide _ _ rfl (λw w1 w5 w3=>?_) _ _ _ (λR h=>(db _ rfl _ rfl h)) (λR h=>h) (λR h=>h)));have q'3:=num d w d0 w1 w5 w3;intros am9 q'3 n en n1 n5 n3;refine (pc _ _ rfl rfl (show (0:Int)<(w:Int) by lia) _ _ rfl rfl ?_)
 dsimp only [aN];rw [en];simp only [aX,aY];clear en w1 w5 w3 w;refine (on _ rfl _ _ rfl rfl ⟨∅,b_.of_lt ∅ ∅⟩ (wide _ _ rfl (λw w1 w5 w3=>?_) _ _ _ (λR h=>(db _ rfl _ rfl h)) (λR h=>h) (λR h=>h)))
 have q'4:=(num (d / 5) w ⋯ w1 w5 w3);intros am9 q'4 m em m1 m5 m3
 refine (pc _ _ rfl rfl (show (0:Int)<(w:Int) by lia) _ _ rfl rfl ?_)
 dsimp only [aN];rw [em];simp only [aX,aY];clear em w1 w5 w3 w wide num;have hn:pU q n:=⟨⋯,λz=>by have:=n3 z;lia⟩
 have hm:pU q m:=⟨⋯,λz=>by have:=m3 z;lia⟩
 refine (ad _ rfl (S' _ rfl _ rfl _ rfl a ns q (wP n m 3 rfl Mo hq n1 hn m1 ⟨hm,∅,λtb H5 aa G Dl s5 tf ln wd hG gP gW hE dP dV=>?_⟩)))
 dsimp only [aN];simp only [aX,aY];have hT:=tf.b;have T9:=hz.mono s5;have T_:=s5.seq Mo;refine fY (gx (aeY rfl hT ⋯ λhd H6 nhd s6 hH=>?_))
 dsimp only [aN];simp only [aX,aY];have Hz:=hT.mono s6;have CS:=T9.mono s6;have Ua:=s6.seq T_;have vS:∀ps∈aa,∀p∈ps,Canon q p:=λps h1 p h2=>(hT.nums hq ps h1 p h2).1;have Mp:=hT.rep hq ln wd;clear hz T9 Mo T_ s5 s6;have HA:∀ps∈aa,bj q (10 ^ 60) ps:=λps hp=>by
  obtain ⟨i,hi,e⟩:=eJ.mp hp;have:=hE i ⋯
  rw [getD_at hi,e] at this;exact pY this (hG i).2
 have Ub:∀ps∈bL m aa,bj q (10 ^ 91) ps:=λps hp=>by
  by_cases y:q=0
  ·subst y
   obtain ⟨D,x,tv⟩:=Fc ln wd (dV rfl);exact pY (tv.col ln wd vS (dP rfl (n3 rfl)) ∅ ps hp) (by decide +kernel)
  ·refine pY (tG hq y λp h2=>?_) (by decide +kernel)
   obtain ⟨rs,h3,h4⟩:=EW wd hp h2;exact vS rs h3 p h4
 have G7:∀{k:Nat},k<=5->UB k (10 ^ 60):=λh=>QS h ∅ (by decide +kernel)
 have LA:∀{k:Nat},k<=5->UB k (10 ^ 91):=λh=>QS h ∅ (by decide +kernel)
 refine (db _ rfl _ rfl (zn z hd q (10 ^ 60) (10 ^ 60) (10 ^ 91) m (SL aa rfl CS hq hH (aP _) (by decide +kernel) ⋯ ⋯ wd ⟨⋯,HA,Ub,by decide +kernel,by decide +kernel,by decide +kernel,by decide +kernel,G7 ⋯,LA m5,G7 m5,λpp lf rt dn ac bk L D ai cU H7 s7 ep nG mE vO oM oN hL Mf lD CJ rW lr wr nF wf rM inv rE fE HB HC=>?_⟩)))
 have zZ:aa.length*(br aa.length*(10 ^ 60) ^ aa.length)<=10 ^ 303:=au (xG ⋯) (au (fq _ (dR ∅ (show aa.length<=5 by lia))) (by decide +kernel))
 have Mq:L.length*(br L.length*(10 ^ 60) ^ L.length)<=10 ^ 303:=au (xG ⋯) (au (fq _ (dR ∅ (show L.length<=5 by lia))) (by decide +kernel))
 have oM:=oM.weak zZ;have oN:=oN.weak Mq;have HB:∀ps∈bL m ai,bj q (10 ^ 303) ps:=λps h=>pY (HB ps h) zZ;have HC:∀ps∈bL L.length cU,bj q (10 ^ 303) ps:=λps h=>pY (HC ps h) Mq;clear rE fE zZ Mq;dsimp only [aN];simp only [aX,aY];have Uc:=Hz.mono s7;have Mr:q=0->40*(10 ^ 60*10 ^ 303) ^ L.length<2 ^ 8192:=λy=>bT (fq 40 (dR (by decide +kernel) (show L.length<=3 by have:=n3 y;lia))) (by decide +kernel)
 have Ae:=hL.2.1;refine (S' _ rfl _ rfl _ rfl q tb pp (Re lf rt dn ac bk (10 ^ 60) (zn (10 ^ 303) (10 ^ 303) m aa ai cU L (SL D rfl hq Uc ep nG mE vO oM oN ⟨∅,by decide +kernel,by decide +kernel,by decide +kernel,by decide +kernel,by decide +kernel,⋯,⋯,wd,⋯,hL.1,Ae,Mf,lD,CJ,rW,lr,wr,nF,wf,Mr,Mr,λt k ht hk=>?_,λt k ht hk=>?_,λH8 s8=>(ad true rfl (bQ ?_))⟩))))
 ·have w:=QI hq wd Ae lr wr (by rw [ln];exact Mp) (oM.rep hq lr wr) rM ht hk
  rw [k_ hk,Er] at w;exact w
 ·intros am1 Mp T' F' r'
  have rS:=QB (D:=D) (n:=n) (by rw [<-ln];exact rW) (E4 (n:=n) (m:=m) ln Ae r')
  rw [lD] at rS;have w:=QJ hq (S:=d9 D (bW L aa)) (r:=L.length) (by rw [xD,lD]) (J4 qT (by rw [ng];exact rW)) nF (xL _ _ rS) (oN.rep hq nF wf) (inv ⋯) ht hk
  rw [k_ hk,Er] at w;exact w
 have HE:=s7.trans s8;refine (sK _ rfl _ rfl _ rfl (Re z tb pp lf rt dn (zn ac bk q (10 ^ 60) (10 ^ 303) (10 ^ 303) (10 ^ 60) (zn (10 ^ 303) (10 ^ 303) m aa ai cU L (SL D rfl (CS.mono HE) hq (Hz.mono HE) (s8 _ _ ep) (s8 _ _ nG) (s8 _ _ mE) (vO.mono s8) (oM.mono s8) ⟨oN.mono s8,∅,by decide +kernel,by decide +kernel,by decide +kernel,by decide +kernel,by decide +kernel,by decide +kernel,by decide +kernel,by decide +kernel,by decide +kernel,by decide +kernel,⋯,⋯,wd,⋯,HA,hL,Mf,lD,CJ,rW,lr,wr,nF,wf,rM,inv,HB,HC,λH9 s9=>(pi true true rfl rfl false rfl (bQ ?_))⟩)))))
 dsimp only [eO];have HF:=HE.trans s9;have jw:qR q (10 ^ 60) (10 ^ 300) m aa (λ_=>10 ^ 60):=⟨∅,by decide +kernel,⋯,⋯,wd,⋯,λi hi=>by rw [getD_at hi];exact HA _ (aG _),λ_=>⟨show 1000<=10 ^ 60 by decide,show 10 ^ 60<2 ^ 2048 by decide +kernel⟩,by rw [m9];exact au (dR ∅ (show aa.length<=5 by lia)) (by decide +kernel),bT (xG ⋯) (by decide +kernel)⟩
 refine (db _ rfl _ rfl (zn z hd q (10 ^ 60) (10 ^ 300) m aa (ww _ rfl (CS.mono HF) hq (hH.mono HF) jw (λL' mD jc tQ _=>?_))));have eL:=tQ.uniq hL (by rw [ln];exact Mp)
 subst eL;have CT:=HF.trans jc;dsimp only [aN];simp only [aX,aY];refine (ad _ rfl (gt _ rfl (.int _) true rfl (bQ ?_)));have Ud:=jc _ _ (s9 _ _ (s8 _ _ ep));have Ue:=jc _ _ (s9 _ _ (s8 _ _ mE));refine (ad _ rfl (nw _ rfl pp _ _ (.ref dn) rfl rfl (.of Ud) (by exact cK (j:=2) rfl) (ce dn (a7 D) rfl (.inl (.of Ue)) (sw rfl false (by rw [eZ,cF (by rw [gk,lD])];rfl) (bQ ?_)))))
 dsimp only [eO];have hT:=Hz.mono CT;have hH:=hH.mono CT;have hz:=CS.mono CT;have hS:=CT.seq Ua;rw [ln] at hL;clear Hz CS Ua s7 s8 HE s9 HF jc CT vO oM oN rM inv HB HC Uc Mr ep nG Ud Ue CJ rW wr wf lr nF;refine fY (gx (QU (q:=q) (N:=m) ⋯ (λR h=>⟨_,rfl,(m:Int),rfl,⋯,⋯,h _ _ (ag.refl _) (by rw [dr];exact mi)⟩) (λi hi Hc R sc h=>(ad _ rfl (tz _ rfl _ rfl _ _ rfl rfl (o0 a ns _ rfl (sc.seq hS) ⋯ ⋯ (λH3 s3=>(gl q _ rfl hq (Bh ..) (λv x mm H4 s4 hN hb=>h v x mm H4 (s3.trans s4) hN hb))))))) λsG G0 rs nrw rJ zU lrs Ug=>?_))
 dsimp only [aN];simp only [aX,aY];have Uh:=rJ.seq hS;refine fY (gx (Jq (QU (q:=q) (N:=n) ⋯ (λR h=>⟨_,rfl,(n:Int),rfl,⋯,⋯,h _ _ (ag.refl _) (by rw [dr];exact mi)⟩) (λi hi Hc R sc h=>(ad _ rfl (tz _ rfl _ rfl _ _ rfl rfl (o0 a ns _ rfl (sc.seq Uh) ⋯ ⋯ (λH3 s3=>(gl q _ rfl hq (Bh ..) (λv x mm H4 s4 hN hb=>h v x mm H4 (s3.trans s4) hN hb))))))) λa1 vT Ui na1 dD Ag Ms Uj=>⟨by show 1<=sizeLine;decide,λal HG=>?_⟩)))
 have ok1:tP q n m aa Ui:=by
  by_cases y:q=0
  ·subst y
   obtain ⟨D',x',tv⟩:=Fc ln wd (dV rfl);exact Ki tv ln wd (n3 rfl) (dP rfl (n3 rfl)) Ms vS (λp hp=>(Ag.nums hq p hp).1) (aaD (aa:=aa) (m:=m) (λp hp=>⟨(Ag.nums hq p hp).1,(Ag.nums hq p hp).2.1⟩) Uj Ms tv.one)
  ·exact Kh hq y ln n5 Ms vS λp hp=>(Ag.nums hq p hp).1
 have gY:ag vT (upd vT al (.lst [.ref a1])):=a9 HG;have CU:upd vT al (.lst [.ref a1]) al=some (.lst [.ref a1]):=aK;generalize upd vT al (.lst [.ref a1])=H13 at gY CU ⊢;dsimp only [aN];simp only [aX,aY];have Uk:=rJ.trans (dD.trans gY);have Ul:=dD.trans gY;have Um:q=0->40*(10 ^ 60*10 ^ 6) ^ m<2 ^ 8192:=λy=>bT (fq 40 (dR (by decide +kernel) (m3 y))) (by decide +kernel)
 refine (am _ rfl (.inl (re rfl _ (.of CU))) ?_);refine Kc (E:=E0) rfl hq (hT.mono Uk) (zU.mono Ul) wd ⋯ ⋯ ⋯ ∅ ∅ Um (λr Hc R sc h=>(sK _ rfl _ rfl _ rfl h)) λa2 HH HI iP Uo=>?_
 have Mt:=iP _ _ CU;have Mu:a2≠al:=λe=>by rw [e,CU] at HI;cases HI
 have q'7:=(aaE hq Uo ln wd n5 n3 m3 vS (λy=>dP y (n3 y)) dV (λp hp=>(zU.nums hq p hp).2.1) Ug lrs);intros am0 q'7 Mv Up vK;refine (o0 al _ _ rfl rfl Mt (bT (show 1<=100 by decide) ∅) ?_)
 have gK:ag vT (upd HH al (.lst ([.ref a1]++[.ref a2]))):=e_ (gY.trans iP) HG;have CV:upd HH al (.lst ([.ref a1]++[.ref a2])) al=some (.lst [.ref a1,.ref a2]):=aK;have Mw:aM (10 ^ 125) (upd HH al (.lst ([.ref a1]++[.ref a2]))) q a2 Mv:=mq Up Mu Mt kn;have ae5:vT a2=none:=none_of gY HI;generalize upd HH al (.lst ([.ref a1]++[.ref a2]))=H15 at gK CV Mw ⊢;dsimp only;refine (am _ rfl (.inl (re rfl _ (.of CV))) ?_);refine Bn (Jq (E_ hq (.inl rfl) (λQ' h=>(db _ rfl _ rfl h)) (λQ' h=>h) (λQ' h=>⟨by show 2<=sizeLine;decide,h⟩) λu HJ nH Uq=>⟨by show 1<=sizeLine;decide,λl7 CP=>?_⟩))
 have oI:ag HJ (upd HJ l7 (.lst [u])):=a9 CP;refine (ad _ rfl (wP l7 (n:Int) [u] rfl rfl aK ⋯ ⋯ (au (show [u].length*(n:Int).toNat<=40 by simp;lia) ∅) (λa3 CW=>?_)))
 generalize upd HJ l7 (.lst [u])=HK at oI CW ⊢;have oO:ag HK (upd HK a3 (.lst (List.replicate (n:Int).toNat [u]).flatten)):=a9 CW;obtain ⟨p0,B8⟩:∃p0:Int×Int,cH (10 ^ 125) HJ q u p0.1 p0.2/\(q=0->p0.1=0):=by
  obtain ⟨p,h1,h2⟩:=Eu (B:=10 ^ 125) Uq hq ∅ ∅
  exact ⟨p,h1,λy=>by subst y;have:=kD.mp h2;dsimp only at this;lia⟩
 have CY:aM (10 ^ 125) (upd HK a3 (.lst (List.replicate (n:Int).toNat [u]).flatten)) q a3 (List.replicate n p0):=by
  refine (am _ aK (by rw [len_rep];simp) (λi v p h1 h2=>?_))
  have hy:v=u:=by have:=jA h1;obtain ⟨l',mZ,rK⟩:=AF.mp this;rw [(AI.mp mZ).2] at rK;exact iC.mp rK
  have hp:p=p0:=(AI.mp (jA h2)).2;rw [hy,hp];exact (B8.1.mono oI).mono oO
 generalize upd HK a3 (.lst (List.replicate (n:Int).toNat [u]).flatten)=CZ at oO CY ⊢;have ok3:tP q n m aa (List.replicate n p0):=by
  have Ur:∀p∈List.replicate n p0,Canon q p/\aC q p.2:=λp hp=>⟨(CY.nums hq p hp).1,(CY.nums hq p hp).2.1⟩;by_cases y:q=0
  ·subst y
   obtain ⟨D',x',tv⟩:=Fc ln wd (dV rfl);refine Ki tv ln wd (n3 rfl) (dP rfl (n3 rfl)) (by simp) vS (λp hp=>(Ur p hp).1) λi hi=>(gl 1 0 ∅ ∅ ?_ (by simp))
   rw [getD_at (by simpa using hi),List.getElem_replicate,B8.2 rfl]
   simp
  ·exact Kh hq y ln n5 (by simp) vS λp hp=>(Ur p hp).1
 have HL:=nH.trans (oI.trans oO);have HM:=HL _ _ CV;have Us:a3≠al:=λe=>by rw [e,(nH.trans oI) _ _ CV] at CW;cases CW
 refine (o0 al _ _ rfl rfl HM (bT (show 2<=100 by decide) ∅) ?_)
 have rZ:ag vT (upd CZ al (.lst ([.ref a1,.ref a2]++[.ref a3]))):=e_ (gK.trans HL) HG;have Ut:upd CZ al (.lst ([.ref a1,.ref a2]++[.ref a3])) al=some (.lst [.ref a1,.ref a2,.ref a3]):=aK;have Uu:aM (10 ^ 125) (upd CZ al (.lst ([.ref a1,.ref a2]++[.ref a3]))) q a3 (List.replicate n p0):=mq CY Us HM kn;have Uv:aM (10 ^ 125) (upd CZ al (.lst ([.ref a1,.ref a2]++[.ref a3]))) q a2 Mv:=mq (Mw.mono HL) Mu HM kn;generalize upd CZ al (.lst ([.ref a1,.ref a2]++[.ref a3]))=Uw at rZ Ut Uu Uv ⊢;have HN:=rJ.trans (dD.trans rZ);have hT:=hT.mono HN;have hH:=hH.mono HN;have hz:=hz.mono HN;have ae7:=(Ag.mono rZ).weak (show 10 ^ 6<=10 ^ 125 by decide +kernel)
 clear rJ dD gY iP gK nH oI oO rZ Uk Ul HN HL CU Mt CV HM Uo Up Mw CY Ag zU HG CW CP Uq B8 HI Mu Us ae5 nrw na1 Uj hS Uh Ug Um;dsimp only [aN];have DT:=hT.weak (show 10 ^ 60<=10 ^ 125 by decide +kernel)
 have hH5:=hH.weak (show 10 ^ 60<=10 ^ 125 by decide +kernel)
 refine (ii 3 rfl ∅ ∅ ?_)
 refine lZ (n:=3) (λk σ Hc=>ag Uw Hc/\∃gX eS mF Mx:Option V,σ=[some (.ref a),some (.int q),some (.ref z),some (.int d),some (.int (n:Int)),some (.int (m:Int)),some (.ref tb),some (.ref hd),some (.ref pp),some (.int (L'.length:Int)),some (.ref sG),some (.ref al),gX,eS,mF,Mx]) (ul (ag.refl _) _ _ (xL _ _ rfl)) ?_ ?_
 ·intro k σ Hc hk;intros am17 _ sc gX eS mF Mx rfl
  rw [show (0:Int)+(k:Int)=(k:Int) by lia]
  dsimp only [aN];simp only [aX,aY];obtain ⟨ra,as,era,hA,bV⟩:∃(ra:Addr) (as:aI),dF [V.ref a1,.ref a2,.ref a3] (((k:Int)+d / 36) % 3)=some (.ref ra)/\aM (10 ^ 125) Uw q ra as/\tP q n m aa as:=by
   have h1:=fi ((k:Int)+d / 36) (show (3:Int)≠0 by decide)
   have h2:=fH ((k:Int)+d / 36) (show (0:Int)<3 by decide)
   generalize ((k:Int)+d / 36) % 3=c at h1 h2;have:c=0\/c=1\/c=2:=by lia
   rcases this with rfl | rfl | rfl;·exact (ce a1 Ui (by exact cK (j:=0) rfl) ae7 ok1)
   ·exact (ce a2 Mv (by exact cK (j:=1) rfl) Uv vK)
   ·exact (ce a3 _ (by exact cK (j:=2) rfl) Uu ok3)
  refine (sK _ rfl _ rfl _ rfl (pc _ _ rfl rfl ⟨∅,b_.of_lt ∅ ∅⟩ _ _ rfl rfl (gl _ _ rfl rfl (by show (0:Int)<3;decide) (sB al _ _ (.ref ra) rfl rfl (.of (sc _ _ Ut)) era ?_))))
  dsimp only [aN];simp only [aX,aY];have q'10:=hA.mono sc;intros am7 q'10 ws ew lw fw;refine (dL _ rfl ra ws rfl (.inl (.of ew)) (λcp ncp=>?_));have s1:ag Hc (upd Hc cp (.lst ws)):=a9 ncp;have Mz:aM (10 ^ 125) (upd Hc cp (.lst ws)) q cp as:=(am ws aK lw (λi v p h1 h2=>(fw i v p h1 h2).mono s1));generalize upd Hc cp (.lst ws)=Hd at s1 Mz ⊢;have vN:=sc.trans s1;dsimp only [aN];simp only [aX,aY];refine fY (gx (aeX (λv He=>∃fp,v=.ref fp/\ag Hd He/\Kd q (10 ^ 125) (10 ^ 60) m aa as L' He fp) (λQ' kq=>(sK _ rfl _ rfl _ rfl (aax (N:=t.fz) (E:=λ_ _ _=>False) (hz.mono vN) hq (hH5.mono vN) Mz ln wd n1 n5 m5 n3 m3 bV Ub hL λfp He se alt=>kq _ _ (am fp rfl se alt)))) (λv He hv=>?_)));intros am7 hv fp rfl se alt;have vL:=vN.trans se;dsimp only [aN];simp only [aX,aY];have ae_:qR q (10 ^ 125) (10 ^ 300) m aa (λ_=>10 ^ 60):=⟨by decide +kernel,by decide +kernel,jw.n1,jw.cO,jw.bY,jw.m_,jw.row,jw.g,jw.pr,jw.mid⟩
  refine (db _ rfl _ rfl (sK _ rfl _ rfl _ rfl (tz _ rfl _ rfl _ _ rfl rfl (Re z tb ra fp q (10 ^ 125) (zn (10 ^ 60) (10 ^ 300) m aa as L' _ (SL _ rfl (hz.mono vL) hq (DT.mono vL) (hA.mono vL) ae_ (by rw [bV.len,ln]) HA (by rw [ln];exact hL) ⟨rfl,alt,λHf sf=>(ad true rfl (bQ ?_))⟩))))))
  have HP:=vL.trans sf;refine (db _ rfl _ rfl (Yv hq (Mz.mono (se.trans sf)) (hA.mono HP) (ad _ rfl (bQ ?_))));refine (db _ rfl _ rfl (Zv hq (hH.mono HP) (hT.mono HP) (ad _ rfl (bQ ?_))));exact (ul HP _ _ (xL _ _ rfl))
 intro σ H20;intros am17 _ s20 gX eS mF Mx rfl;exact kQ H20
theorem afb{l:PySem.W.OpenLaw}(T:Txt K mg t):∃fd:FuncData,(∀(s:Shared) (v:Value),BindsTo s fd ⟨[v],[]⟩ [("script",v)])/\∀base:Heap,K.In base->base.Ns mainGlobals mg->aO l.prog w K mg base bO 12 t.q_ fd ["script"] (D4 K):=by have q'11:=T.zK.ex;intros am21 q'11 oc od kV doc pm an am18 bN ct ib e lk hJ;refine ⟨t.vd,λs v=>?_,λbase _ _=>ae0 T⟩;rw [e];exact .of_eq rfl
end
theorem walk{l:PySem.W.OpenLaw}{q:Program}{loose:List Str}{XP:(Str->Option Value)->Heap->Prop}{YP:World->Heap->Prop}{d:DefRec}{K:Params->PySem.W.Frag}(hn:l.most=some 63)(A9:d.params.defaults=[])
  (hY:∀(w:World) (h:Heap),YP w h->(K w.params).In h)
  (F:∀(w:World) (mg:eK) (fa:Addr) (h:Heap),(K w.params).In h->h.Ns mainGlobals mg->mg d.name=some (.ref fa)->
   ∃fd:FuncData,(∀(s:Shared) (u:Value),BindsTo s fd ⟨[u],[]⟩ [("script",u)])/\∀base:Heap,(K w.params).In base->base.Ns mainGlobals mg->aO l.prog w (K w.params) mg base bO 12 fa fd ["script"] (D4 (K w.params))) :
  PySem.W.WalkO q loose XP YP l.row.toRowW d [] (λf vs=>PySem.call f vs):=
 L2.WB (n:=63) (k:=12) (x:="script") (CX:=λ_=>bO) (sp:=λw=>D4 (K w.params)) hn ∅ A9 ⟨rfl,∅,∅⟩ hY F (λ_ _ a ns hl _ hS=>(gl a ns rfl hS hl (λ_=>rfl))) λ_ _ _ _ _ z=>z
theorem afc{K:aQ}{h:Heap}{mg:eK}(X:K.In h)(G:h.Ns mainGlobals mg)
  {bP:Addr}
  {vi:Addr}
  {ox:Addr}
  {fz:Addr}
  {yV:Addr}
  {p6:Addr} {afd Ux:Option Addr} {afe:Array (Option Value)} {aff Uy Uz UA MA UC:Value}
  {MD:Addr} {afg:Tok} {afh:Value} {afi:Option Addr} {afj:Nat} {afk:Array (Option Value)}
  {afl:Tok}
  {afm:Tok}
  {tR tS tT tU tV tW tX tY tZ t4 t5 qV qW t8 t9 t_ qX ub uc ud ue uf ug uh ui uj uk um uo uq ur qY uv uw ux uy uz qZ q5 uC uD uE uF uH uI uJ uK uM uN uO uP uQ uR uS uT uU uV uW uX q8 uZ u3 u4 u6 u7 u9 u_ vc q_ ve vg vh:Addr} {xI xJ xK xM xN xO xP xQ xR xS xT t6 t7 xU xV xW ua xX xY xZ x4 x5 x6 x8 x9 x_ ya yc yd ye yf uu yg yh yi yj yk uA uB ym yn yo yp yq yr yt yu yv yw yy yz yA yB yC yF yG yH yI yJ uY yK yL yM yN yO yP yQ yR vd yS yT yU:FuncData}
  (ME:PySem.W.nsIn K mainGlobals "World"=some (some (.ref bP)))
  (MF:PySem.W.nsIn K mainGlobals "NoWorld"=some (some (.ref vi)))
  (MG:PySem.W.nsIn K mainGlobals "NoOver"=some (some (.ref ox)))
  (MH:PySem.W.nsIn K mainGlobals "NoFit"=some (some (.ref fz)))
  (MI:PySem.W.nsIn K mainGlobals "WrightError"=some (some (.ref yV)))
  (afn:mg "is_whole"=some (.ref tR))
  (yW:aB K "is_whole" Fe tR xI)
  (afo:mg "common_divisor"=some (.ref tS))
  (p7:aB K "common_divisor" Ff tS xJ)
  (afp:mg "is_prime"=some (.ref tT))
  (yX:aB K "is_prime" Fg tT xK)
  (afq:mg "ratio"=some (.ref tU))
  (yY:aB K "ratio" Fh tU xM)
  (afr:mg "ratio_plus"=some (.ref tV))
  (yZ:aB K "ratio_plus" Fi tV xN)
  (afs:mg "ratio_minus"=some (.ref tW))
  (y3:aB K "ratio_minus" Fj tW xO)
  (aft:mg "one_bottom"=some (.ref tX))
  (y4:aB K "one_bottom" Fl tX xP)
  (afu:mg "remainder_back"=some (.ref tY))
  (y6:aB K "remainder_back" Fm tY xQ)
  (afv:mg "remainder_over"=some (.ref tZ))
  (y7:aB K "remainder_over" Fn tZ xR)
  (afw:mg "is_fractions"=some (.ref t4))
  (y8:aB K "is_fractions" Fo t4 xS)
  (afx:mg "is_wheel"=some (.ref t5))
  (y_:aB K "is_wheel" Fp t5 xT)
  (afy:mg "width"=some (.ref qV))
  (iN:aB K "width" Fq qV t6)
  (afz:mg "square_size"=some (.ref qW))
  (oy:aB K "square_size" Fs qW t7)
  (afA:mg "has_size"=some (.ref t8))
  (p8:aB K "has_size" Ft t8 xU)
  (afB:mg "check_aim"=some (.ref t9))
  (za:aB K "check_aim" Fu t9 xV)
  (afC:mg "column"=some (.ref t_))
  (rf:aB K "column" Fv t_ xW)
  (afD:mg "columns"=some (.ref qX))
  (oz:aB K "columns" Fw qX ua)
  (afE:mg "sum_of_wholes"=some (.ref ub))
  (vj:aB K "sum_of_wholes" Fz ub xX)
  (afF:mg "sums_of_wholes"=some (.ref uc))
  (zb:aB K "sums_of_wholes" FA uc xY)
  (afG:mg "all_as_wholes"=some (.ref ud))
  (zc:aB K "all_as_wholes" FC ud xZ)
  (afH:mg "paired_sum"=some (.ref ue))
  (zd:aB K "paired_sum" FD ue x4)
  (afI:mg "paired_sums"=some (.ref uf))
  (p9:aB K "paired_sums" FE uf x5)
  (afJ:mg "carried"=some (.ref ug))
  (vk:aB K "carried" FF ug x6)
  (afK:mg "through"=some (.ref uh))
  (ze:aB K "through" FG uh x8)
  (afL:mg "product"=some (.ref ui))
  (zg:aB K "product" FH ui x9)
  (afM:mg "one_table_row"=some (.ref uj))
  (zh:aB K "one_table_row" FI uj x_)
  (afN:mg "one_table"=some (.ref uk))
  (rg:aB K "one_table" FJ uk ya)
  (afO:mg "cleared"=some (.ref um))
  (vm:aB K "cleared" FK um yc)
  (afP:mg "first_filled"=some (.ref uo))
  (vp:aB K "first_filled" FL uo yd)
  (afQ:mg "swapped"=some (.ref uq))
  (vq:aB K "swapped" FN uq ye)
  (afR:mg "row_over"=some (.ref ur))
  (vv:aB K "row_over" FO ur yf)
  (afS:mg "reduced"=some (.ref qY))
  (jP:aB K "reduced" FP qY uu)
  (afT:mg "beside"=some (.ref uv))
  (p_:aB K "beside" FQ uv yg)
  (afU:mg "answer_of"=some (.ref uw))
  (vw:aB K "answer_of" FR uw yh)
  (afV:mg "move_of"=some (.ref ux))
  (zi:aB K "move_of" FT ux yi)
  (afW:mg "bar_of"=some (.ref uy))
  (zj:aB K "bar_of" FU uy yj)
  (afX:mg "undone"=some (.ref uz))
  (zk:aB K "undone" FV uz yk)
  (afY:mg "back_times"=some (.ref qZ))
  (rh:aB K "back_times" FW qZ uA)
  (afZ:mg "back_of"=some (.ref q5))
  (vy:aB K "back_of" FX q5 uB)
  (af0:mg "is_nought_row"=some (.ref uC))
  (vz:aB K "is_nought_row" FY uC ym)
  (af1:mg "is_answer"=some (.ref uD))
  (zl:aB K "is_answer" FZ uD yn)
  (af2:mg "is_bar"=some (.ref uE))
  (zm:aB K "is_bar" F3 uE yo)
  (af3:mg "is_move"=some (.ref uF))
  (zo:aB K "is_move" F4 uF yp)
  (af4:mg "are_moves"=some (.ref uH))
  (vA:aB K "are_moves" F5 uH yq)
  (af5:mg "is_rising"=some (.ref uI))
  (zp:aB K "is_rising" F6 uI yr)
  (af6:mg "rank"=some (.ref uJ))
  (zq:aB K "rank" F7 uJ yt)
  (af7:mg "picked"=some (.ref uK))
  (rj:aB K "picked" F8 uK yu)
  (af8:mg "rank_paper"=some (.ref uM))
  (zr:aB K "rank_paper" F9 uM yv)
  (af9:mg "put_back"=some (.ref uN))
  (zt:aB K "put_back" F_ uN yw)
  (af_:mg "are_picks"=some (.ref uO))
  (vB:aB K "are_picks" Ga uO yy)
  (aga:mg "is_rank_paper"=some (.ref uP))
  (zu:aB K "is_rank_paper" Gb uP yz)
  (agb:mg "_law_b_draw"=some (.ref uQ))
  (mw:aB K "_law_b_draw" Gd uQ yA)
  (agc:mg "_law_b_low"=some (.ref uR))
  (qa:aB K "_law_b_low" Ge uR yB)
  (agd:mg "_law_b_prime"=some (.ref uS))
  (zw:aB K "_law_b_prime" Gf uS yC)
  (age:mg "_law_b_wheel"=some (.ref uT))
  (zx:aB K "_law_b_wheel" Gg uT yF)
  (agf:mg "_law_b_world"=some (.ref uU))
  (zy:aB K "_law_b_world" Gh uU yG)
  (agg:mg "_law_b_whole"=some (.ref uV))
  (oC:aB K "_law_b_whole" Gi uV yH)
  (agh:mg "_law_b_is"=some (.ref uW))
  (zC:aB K "_law_b_is" Gj uW yI)
  (agi:mg "_law_b_number"=some (.ref uX))
  (oE:aB K "_law_b_number" Gk uX yJ)
  (agj:mg "_law_b_dot"=some (.ref q8))
  (jQ:aB K "_law_b_dot" Gm q8 uY)
  (agk:mg "_law_b_is_row"=some (.ref uZ))
  (rz:aB K "_law_b_is_row" Gn uZ yK)
  (agl:mg "_law_b_is_table"=some (.ref u3))
  (qb:aB K "_law_b_is_table" Gp u3 yL)
  (agm:mg "_law_b_rank"=some (.ref u4))
  (zF:aB K "_law_b_rank" Gq u4 yM)
  (agn:mg "_law_b_drawn"=some (.ref u6))
  (zG:aB K "_law_b_drawn" Gr u6 yN)
  (ago:mg "_law_b_rising"=some (.ref u7))
  (vC:aB K "_law_b_rising" Gs u7 yO)
  (agp:mg "_law_b_shown"=some (.ref u9))
  (zH:aB K "_law_b_shown" Gu u9 yP)
  (agq:mg "_law_b_barred"=some (.ref u_))
  (zI:aB K "_law_b_barred" Gv u_ yQ)
  (agr:mg "_law_b_right"=some (.ref vc))
  (zJ:aB K "_law_b_right" Gw vc yR)
  (ags:mg "law"=some (.ref q_))
  (zK:aB K "law" Gx q_ vd)
  (B0:Mk K bP ve)
  (BZ:gS K "__init__" "World.__init__" Gy ve yS)
  (MJ:PySem.W.findIn K (.ref bP) "of"=some (some (.ref p6)))
  (MK:PySem.W.isFn K (.ref p6)=true)
  (Ah:K.lookup p6=some ⟨aff,afd,.func (PySem.W.fnOf "of" "World.of" (kS mr) (iH mr) (aR mr) (.ref MD) Uy Uz UA Ux MA UC),afe⟩)
  (Ai:PySem.W.codeIn K MA "World.of"=true)
  (vU:PySem.W.keepIn K (.ref p6)=true)
  (Aj:K.lookup MD=some ⟨afh,afi,.seq #[.int 1 afg] afj,afk⟩)
  (GN:Meth K bP "minus" vg)
  (B3:gS K "minus" "World.minus" Gz vg yT)
  (qc:Meth K bP "as_wholes" vh)
  (B4:gS K "as_wholes" "World.as_wholes" GB vh yU)
  (ML:PySem.W.plainGet K bP Str.empty=true)
  (MM:PySem.W.hasDictIn K bP=true)
  (MN:PySem.W.plainOver K bP=true)
  (MO:PySem.W.findIn K (.ref bP) "__setattr__"=some (some (.builtin "object.__setattr__")))
  (MP:PySem.W.findIn K (.ref bP) "prime"=some none)
  (MQ:PySem.W.nsIn K mainGlobals "len"=some none)
  (MR:PySem.W.nsIn K mainGlobals "isinstance"=some none)
  (MS:PySem.W.nsIn K mainGlobals "int"=some none)
  (MT:PySem.W.nsIn K mainGlobals "bool"=some none)
  (MU:PySem.W.nsIn K mainGlobals "tuple"=some none)
  (MV:PySem.W.nsIn K mainGlobals "list"=some none)
  (MW:PySem.W.nsIn K mainGlobals "range"=some none)
  (MX:PySem.W.nsIn K mainGlobals "abs"=some none)
  (MY:PySem.W.nsIn K mainGlobals "all"=some none)
  (MZ:PySem.W.nsIn K mainGlobals "any"=some none)
  (M3:PySem.W.nsIn K mainGlobals "sum"=some none)
  (M4:PySem.W.nsIn K mainGlobals "zip"=some none)
  (M5:PySem.W.nsIn K mainGlobals "min"=some none)
  (M6:PySem.W.nsIn K mainGlobals "GREATEST_PRIME"=some (some (.int 997 afl)))
  (M7:PySem.W.nsIn K mainGlobals "LONG"=some (some (.int 2048 afm)))
  (M8:PySem.W.excIn K vi [.type "ValueError",.type "Exception",.type "BaseException",.type "object"] "ValueError.__new__"=true)
  (M9:PySem.W.excIn K ox [.type "ValueError",.type "Exception",.type "BaseException",.type "object"] "ValueError.__new__"=true)
  (M_:PySem.W.excIn K fz [.type "ValueError",.type "Exception",.type "BaseException",.type "object"] "ValueError.__new__"=true)
  (Na:PySem.W.excIn K yV [.type "ValueError",.type "Exception",.type "BaseException",.type "object"] "ValueError.__new__"=true)
  : ∃t:Km,Txt K mg t:=by
 refine ⟨⟨tR,xI,tS,xJ,tT,xK,tU,xM,tV,xN,tW,xO,tX,xP,tY,xQ,tZ,xR,t4,xS,t5,xT,qV,t6,qW,t7,t8,xU,t9,xV,t_,xW,qX,ua,ub,xX,uc,xY,ud,xZ,ue,x4,uf,x5,ug,x6,uh,x8,ui,x9,uj,x_,uk,ya,um,yc,uo,yd,uq,ye,ur,yf,qY,uu,uv,yg,uw,yh,ux,yi,uy,yj,uz,yk,qZ,uA,q5,uB,uC,ym,uD,yn,uE,yo,uF,yp,uH,yq,uI,yr,uJ,yt,uK,yu,uM,yv,uN,yw,uO,yy,uP,yz,uQ,yA,uR,yB,uS,yC,uT,yF,uU,yG,uV,yH,uW,yI,uX,yJ,q8,uY,uZ,yK,u3,yL,u4,yM,u6,yN,u7,yO,u9,yP,u_,yQ,vc,yR,q_,vd,ve,yS,p6,PySem.W.fnOf "of" "World.of" (kS mr) (iH mr) (aR mr) (.ref MD) Uy Uz UA Ux MA UC,vg,yT,vh,yU,bP,vi,ox,fz,yV⟩,?_⟩
 exact {
  yW:=yW
  QV:=yW.bI
  QW:=afn
  p7:=p7
  BI:=p7.bI
  BJ:=afo
  yX:=yX
  QX:=yX.bI
  QY:=afp
  yY:=yY
  QZ:=yY.bI
  Q0:=afq
  yZ:=yZ
  Q1:=yZ.bI
  Q2:=afr
  y3:=y3
  Q3:=y3.bI
  Q4:=afs
  y4:=y4
  Q5:=y4.bI
  Q6:=aft
  y6:=y6
  Q7:=y6.bI
  Q8:=afu
  y7:=y7
  Q9:=y7.bI
  Q_:=afv
  y8:=y8
  Ra:=y8.bI
  Rb:=afw
  y_:=y_
  Rc:=y_.bI
  Rf:=afx
  iN:=iN
  lg:=iN.bI
  lh:=afy
  oy:=oy
  BK:=oy.bI
  BL:=afz
  p8:=p8
  BM:=p8.bI
  BN:=afA
  za:=za
  Rg:=za.bI
  Rh:=afB
  rf:=rf
  GD:=rf.bI
  GF:=afC
  oz:=oz
  BO:=oz.bI
  BP:=afD
  vj:=vj
  Kn:=vj.bI
  Ko:=afE
  zb:=zb
  Ri:=zb.bI
  Rj:=afF
  zc:=zc
  Rk:=zc.bI
  Rl:=afG
  zd:=zd
  Rm:=zd.bI
  Rn:=afH
  p9:=p9
  BQ:=p9.bI
  BR:=afI
  vk:=vk
  Kp:=vk.bI
  Kq:=afJ
  ze:=ze
  Ro:=ze.bI
  Rp:=afK
  zg:=zg
  Rq:=zg.bI
  Rr:=afL
  zh:=zh
  Rt:=zh.bI
  Ru:=afM
  rg:=rg
  GG:=rg.bI
  GH:=afN
  vm:=vm
  Kr:=vm.bI
  Ks:=afO
  vp:=vp
  Kt:=vp.bI
  Ku:=afP
  vq:=vq
  Kv:=vq.bI
  Kw:=afQ
  vv:=vv
  Kx:=vv.bI
  Ky:=afR
  jP:=jP
  oA:=jP.bI
  oB:=afS
  p_:=p_
  BS:=p_.bI
  BU:=afT
  vw:=vw
  Kz:=vw.bI
  KA:=afU
  zi:=zi
  Rv:=zi.bI
  Rw:=afV
  zj:=zj
  Rx:=zj.bI
  Ry:=afW
  zk:=zk
  Rz:=zk.bI
  RA:=afX
  rh:=rh
  KC:=rh.bI
  KD:=afY
  vy:=vy
  RB:=vy.bI
  RC:=afZ
  vz:=vz
  KG:=vz.bI
  KH:=af0
  zl:=zl
  RD:=zl.bI
  RE:=af1
  zm:=zm
  RF:=zm.bI
  RG:=af2
  zo:=zo
  RH:=zo.bI
  RI:=af3
  vA:=vA
  KI:=vA.bI
  KJ:=af4
  zp:=zp
  RJ:=zp.bI
  RK:=af5
  zq:=zq
  RL:=zq.bI
  RM:=af6
  rj:=rj
  GI:=rj.bI
  GJ:=af7
  zr:=zr
  RN:=zr.bI
  RO:=af8
  zt:=zt
  RP:=zt.bI
  RQ:=af9
  vB:=vB
  KL:=vB.bI
  KN:=af_
  zu:=zu
  RR:=zu.bI
  RS:=aga
  mw:=mw
  rp:=mw.bI
  rq:=agb
  qa:=qa
  BV:=qa.bI
  BW:=agc
  zw:=zw
  RT:=zw.bI
  RU:=agd
  zx:=zx
  RV:=zx.bI
  RW:=age
  zy:=zy
  RX:=zy.bI
  RY:=agf
  oC:=oC
  zA:=oC.bI
  zB:=agg
  zC:=zC
  RZ:=zC.bI
  R5:=agh
  oE:=oE
  zD:=oE.bI
  zE:=agi
  jQ:=jQ
  nh:=jQ.bI
  nj:=agj
  rz:=rz
  GK:=rz.bI
  GL:=agk
  qb:=qb
  BX:=qb.bI
  BY:=agl
  zF:=zF
  R6:=zF.bI
  R7:=agm
  zG:=zG
  R8:=zG.bI
  R9:=agn
  vC:=vC
  KO:=vC.bI
  KP:=ago
  zH:=zH
  R_:=zH.bI
  Sa:=agp
  zI:=zI
  Sb:=zI.bI
  Sd:=agq
  zJ:=zJ
  Se:=zJ.bI
  Sf:=agr
  zK:=zK
  aaH:=zK.bI
  Sg:=ags
  BZ:=BZ
  KQ:=BZ.bI
  B0:=B0
  Sh:=(D9 (st:=mr) (i:=1) Ah Ai vU Aj)
  KR:=kU.binds (ps:=["self","top","bottom"]) (D9 (st:=mr) (i:=1) Ah Ai vU Aj) λs dT kV doc pm an bN ct tk o n us ho hd hl=>match us,hl with | [_,_,_],_=>.of_defaults rfl ho hd rfl rfl
  vD:=kU.XM (ps:=["self","top","bottom"]) (D9 (st:=mr) (i:=1) Ah Ai vU Aj) λs dT kV doc pm an bN ct tk o n us ho hd hl=>match us,hl with | [_,_],_=>.of_defaults rfl ho hd rfl rfl
  aaI:=kU.XN (ps:=["self","top","bottom"]) (y:="bottom") (D9 (st:=mr) (i:=1) Ah Ai vU Aj) λs dT kV doc pm an bN ct tk o n us ws ho hd hw hl=>match ws,us,hw,hl with | [_],[_,_],_,_=>.of_defaults rfl ho hd rfl rfl
  lE:=⟨MJ,MK,vU⟩
  B3:=B3
  Si:=B3.bI
  GN:=GN
  B4:=B4
  vE:=B4.bI
  qc:=qc
  eI:=⟨ML,MM,MN,MO⟩
  KS:=bB X G ME
  mB:=MP
  Sj:=bB X G MF
  KU:=bB X G MG
  qd:=bB X G MH
  aaJ:=bB X G MI
  b5:=kF X G MQ
  lF:=kF X G MR
  B5:=kF X G MS
  KW:=kF X G MT
  zL:=kF X G MU
  nB:=kF X G MV
  fg:=kF X G MW
  B6:=kF X G MX
  oF:=kF X G MY
  KY:=kF X G MZ
  KZ:=kF X G M3
  ku:=kF X G M4
  Sk:=kF X G M5
  Sl:=⟨_,bB X G M6,_,rfl⟩
  Sm:=⟨_,bB X G M7,_,rfl⟩
  Sn:=M8
  K0:=M9
  qe:=M_
  aaK:=Na
 }
end My
inductive PySem.W.Fast|tw12937329416748562742|tw17464358639660402594|tw4385995033589572686|tw15236892569685905784|tw4360739234387023239|tw5929720968890371739|tw12955040429833828063|tw12297738584470821581|tw14528026820251714213|tw14772853422719857497|tw17036477443379384779|tw16054416855908247963|tw7424959322321764817|tw3932373411734538496|tw7274864290070736621|tw13788932131599419739|tw1185844917985031563|tw1622178175666387353|tw851779692416920642|tw7524519194631858075|tw7429944909248851025|tw9229988308930500537|tw4178750653877919145|tw10519784638719498306|tw6187127379558447958|tw12433476378054332092|tw12197113345246681676|tw12554305939485716207|tw129051919053752453|tw14277393804082219304|tw8032330273798069225|tw7950477240264889553|tw10250020304875022252|tw1998552084429886000|tw9724904176626798977|tw17569275146824074975|tw16348678246725308078|tw3999672657591807701|tw6657633590684678082|tw114692670312159367|tw9879168580336348704|tw3845169188938528442|tw2158781409442524951|tw1445782314409117388|tw4763606618769190679|tw10315884063279926885|tw8232654862632483915|tw11313656477282700600|tw3557659584440301160|tw2399314778358018697|tw8890221843256602915|tw1668540442707878465|tw15771153828173784874|tw16789995448583832876|tw14691292474192784873|tw7201385766389606980|tw13376284548090002088|tw11565825624782023933|tw12374965484888872720|tw11534266765075016913|tw10975971557069983076|tw12815904464051510327|tw16054664952088834148|tw7072059988342481239|tw4350961387294112304|tw7576397260306028899|tw4847012576605521687|tw12225735277300435528|tw4914213963226711519|tw10965189450171952|tw13705865306463993803|tw1916881131265564224|tw14599542805563164610|tw14629127648856810910|tw15367229104206816233|tw8394003582573185040|tw10642537779990172188|tw2170718950108077864|tw751060217397732236|tw17235859464993441806|tw6622890487636073354|tw11025103582444774537|tw15538391089389351942|tw17653643510143535224|tw3632048277236084403|tw4290781404158264794|tw14072714996875264459|tw12304301686390467094|tw9224669933351053602|tw14092904181952835036|tw14864911095245415791|tw2113995283451047738|tw421116961112549274|tw1197090788920388766|tw230697655937979917|tw9728711396826409595|tw5871182841108230357|tw7683309525345190442|tw8396409889739374512|tw2896727045988358073|tw4430949599583616584|tw16900860657180930930|tw10161458551609392170|tw11839559701524235592|tw8578991166401130743|tw4339887022691933817|tw14076683499443741443|tw15792557367561061807|tw944327266176380116|tw5261446168175944777|tw15187419421991980763|tw15788104017399379330|tw8194813035740021374|tw11279685137493296822|tw360638710205211660|tw4429243868349036683|tw10855379163378269014|tw4868271265553055039|tw18374848210434943186|tw4149705727934125480|tw16249826053218164640|tw18206627578137470011|tw4939463065401013469|tw1958276072493052471|tw1975312573185359292|tw16718806030923334926|tw17093390398552069698|tw8495527300032295904|tw5504106351589998888|tw11487130197724509698|tw9245152461269877098|tw495539891749163267|tw12478307035005232560|tw14292120417420745969|tw15853468737463909158|tw18348676084978229178|tw6736823734191034559|tw13104824990969609169|tw9107155987068924189|tw6230377934604221592|tw13734343501274981414|tw337257169440641439|tw9812533684679248282|tw11018919857658102846|tw16624790525575723414|tw12839099571804308175|tw8628024109661412665|tw14501380849349231562|tw14846501539157167730|tw17108865472238613476|tw1383712966155955784|tw8040114697361055047|tw9892597170646343958|tw14936582102624023145|tw8150412537489056944|tw13820035156501336221|tw5502770440433426191|tw14574827876876478992|tw1656881436924107143|tw11262251433222525429|tw9658914819371380020|tw18392225994265861834|tw5297634509844039834|tw10291514088154483277|tw13118563618229826152|tw9955871817817462703|tw13484146615595724373|tw8698168870473659829|tw12729184096303006627|tw4523523044602020302|tw18424931792136161637|tw17838438428832552992|tw13714516176621374945|tw5087781633821010950|tw2217927580192632742|tw7811398988598860908|tw16612198134013560146|tw4172928705118652102|tw5152484776054427477|tw11491808182686025874|tw9992516022129571083|tw13953871468503645679|tw17600558326554649942|tw11358853708916521466|tw12398239564001546326|tw10557825154097812095|tw16915945017165614783|tw18315155492728866573|tw3982053241895362231|tw1928526280335698669|tw4428184652111756569|tw1140371052804289239|tw9538770150864977888|tw2473421609098934573|tw17928989804546688855|tw16517922609293025647|tw5513571957921409899|tw3583058241993808659|tw17301217696547532576|tw1949581372409842722
open PySem PySem.W PyProof.Rows
set_option maxRecDepth 100000 in
set_option maxHeartbeats 0 in
theorem PySem.Challenge.cw_bandwright_k14_whole_undone_plainly_holds : PySem.Challenge.rw_bandwright_k14_whole_undone_plainly.Holds := by
 w_on;o_law;k_head;(case hw=>w_witness2)
 k_fill
 refine My.walk (l:=PySem.Challenge.rw_bandwright_k14_whole_undone_plainly) rfl rfl (λw h Y=>PySem.W.kIn_of Y) ?F
 case F=>
  intro w mg fa h KX G A_
  have T:∃t,My.Txt (L2.Ox KX) mg t:=by
   dsimp only [L2.Ox]
   refine' My.afc KX G ?ME ?MF ?MG ?MH ?MI (bB KX G ?agt) (L2.bJ (st:=My.Fe) ?agu ?agv ?agw) (bB KX G ?agx) (L2.bJ (st:=My.Ff) ?agy ?agz ?agA) (bB KX G ?agB) (L2.bJ (st:=My.Fg) ?agC ?agD ?agE) (bB KX G ?agF) (L2.bJ (st:=My.Fh) ?agG ?agH ?agI) (bB KX G ?agJ) (L2.bJ (st:=My.Fi) ?agK ?agL ?agM) (bB KX G ?agN) (L2.bJ (st:=My.Fj) ?agO ?agP ?agQ) (bB KX G ?agR) (L2.bJ (st:=My.Fl) ?agS ?agT ?agU) (bB KX G ?agV) (L2.bJ (st:=My.Fm) ?agW ?agX ?agY) (bB KX G ?agZ) (L2.bJ (st:=My.Fn) ?ag0 ?ag1 ?ag2) (bB KX G ?ag3) (L2.bJ (st:=My.Fo) ?ag4 ?ag5 ?ag6) (bB KX G ?ag7) (L2.bJ (st:=My.Fp) ?ag8 ?ag9 ?ag_) (bB KX G ?aha) (L2.bJ (st:=My.Fq) ?ahb ?ahc ?ahd) (bB KX G ?ahe) (L2.bJ (st:=My.Fs) ?ahf ?ahg ?ahh) (bB KX G ?ahi) (L2.bJ (st:=My.Ft) ?ahj ?ahk ?ahl) (bB KX G ?ahm) (L2.bJ (st:=My.Fu) ?ahn ?aho ?ahp) (bB KX G ?ahq) (L2.bJ (st:=My.Fv) ?ahr ?ahs ?aht) (bB KX G ?ahu) (L2.bJ (st:=My.Fw) ?ahv ?ahw ?ahx) (bB KX G ?ahy) (L2.bJ (st:=My.Fz) ?ahz ?ahA ?ahB) (bB KX G ?ahC) (L2.bJ (st:=My.FA) ?ahD ?ahE ?ahF) (bB KX G ?ahG) (L2.bJ (st:=My.FC) ?ahH ?ahI ?ahJ) (bB KX G ?ahK) (L2.bJ (st:=My.FD) ?ahL ?ahM ?ahN) (bB KX G ?ahO) (L2.bJ (st:=My.FE) ?ahP ?ahQ ?ahR) (bB KX G ?ahS) (L2.bJ (st:=My.FF) ?ahT ?ahU ?ahV) (bB KX G ?ahW) (L2.bJ (st:=My.FG) ?ahX ?ahY ?ahZ) (bB KX G ?ah0) (L2.bJ (st:=My.FH) ?ah1 ?ah2 ?ah3) (bB KX G ?ah4) (L2.bJ (st:=My.FI) ?ah5 ?ah6 ?ah7) (bB KX G ?ah8) (L2.bJ (st:=My.FJ) ?ah9 ?ah_ ?aia) (bB KX G ?aib) (L2.bJ (st:=My.FK) ?aic ?aid ?aie) (bB KX G ?aif) (L2.bJ (st:=My.FL) ?aih ?aii ?aij) (bB KX G ?aik) (L2.bJ (st:=My.FN) ?ail ?aim ?ain) (bB KX G ?aio) (L2.bJ (st:=My.FO) ?aip ?aiq ?air) (bB KX G ?ais) (L2.bJ (st:=My.FP) ?ait ?aiu ?aiv) (bB KX G ?aiw) (L2.bJ (st:=My.FQ) ?aix ?aiy ?aiz) (bB KX G ?aiA) (L2.bJ (st:=My.FR) ?aiB ?aiC ?aiD) (bB KX G ?aiE) (L2.bJ (st:=My.FT) ?aiF ?aiG ?aiH) (bB KX G ?aiI) (L2.bJ (st:=My.FU) ?aiJ ?aiK ?aiL) (bB KX G ?aiM) (L2.bJ (st:=My.FV) ?aiN ?aiO ?aiP) (bB KX G ?aiQ) (L2.bJ (st:=My.FW) ?aiR ?aiS ?aiT) (bB KX G ?aiU) (L2.bJ (st:=My.FX) ?aiV ?aiW ?aiX) (bB KX G ?aiY) (L2.bJ (st:=My.FY) ?aiZ ?ai0 ?ai1) (bB KX G ?ai2) (L2.bJ (st:=My.FZ) ?ai3 ?ai4 ?ai5) (bB KX G ?ai6) (L2.bJ (st:=My.F3) ?ai7 ?ai8 ?ai9) (bB KX G ?ai_) (L2.bJ (st:=My.F4) ?aja ?ajb ?ajc) (bB KX G ?ajd) (L2.bJ (st:=My.F5) ?aje ?ajf ?ajg) (bB KX G ?ajh) (L2.bJ (st:=My.F6) ?aji ?ajj ?ajk) (bB KX G ?ajl) (L2.bJ (st:=My.F7) ?ajm ?ajn ?ajo) (bB KX G ?ajp) (L2.bJ (st:=My.F8) ?ajq ?ajr ?ajs) (bB KX G ?ajt) (L2.bJ (st:=My.F9) ?aju ?ajv ?ajw) (bB KX G ?ajx) (L2.bJ (st:=My.F_) ?ajy ?ajz ?ajA) (bB KX G ?ajB) (L2.bJ (st:=My.Ga) ?ajC ?ajD ?ajE) (bB KX G ?ajF) (L2.bJ (st:=My.Gb) ?ajG ?ajH ?ajI) (bB KX G ?ajJ) (L2.bJ (st:=My.Gd) ?ajK ?ajL ?ajM) (bB KX G ?ajN) (L2.bJ (st:=My.Ge) ?ajO ?ajP ?ajQ) (bB KX G ?ajR) (L2.bJ (st:=My.Gf) ?ajS ?ajT ?ajU) (bB KX G ?ajV) (L2.bJ (st:=My.Gg) ?ajW ?ajX ?ajY) (bB KX G ?ajZ) (L2.bJ (st:=My.Gh) ?aj0 ?aj1 ?aj2) (bB KX G ?aj3) (L2.bJ (st:=My.Gi) ?aj4 ?aj5 ?aj6) (bB KX G ?aj7) (L2.bJ (st:=My.Gj) ?aj8 ?aj9 ?aj_) (bB KX G ?aka) (L2.bJ (st:=My.Gk) ?akb ?akc ?akd) (bB KX G ?ake) (L2.bJ (st:=My.Gm) ?akf ?akg ?akh) (bB KX G ?aki) (L2.bJ (st:=My.Gn) ?akj ?akk ?akl) (bB KX G ?akm) (L2.bJ (st:=My.Gp) ?akn ?ako ?akp) (bB KX G ?akq) (L2.bJ (st:=My.Gq) ?akr ?aks ?akt) (bB KX G ?aku) (L2.bJ (st:=My.Gr) ?akv ?akw ?akx) (bB KX G ?aky) (L2.bJ (st:=My.Gs) ?akz ?akA ?akB) (bB KX G ?akC) (L2.bJ (st:=My.Gu) ?akD ?akE ?akF) (bB KX G ?akG) (L2.bJ (st:=My.Gv) ?akH ?akI ?akJ) (bB KX G ?akK) (L2.bJ (st:=My.Gw) ?akL ?akM ?akN) (bB KX G ?akO) (L2.bJ (st:=My.Gx) ?akP ?akQ ?akR) ⟨?akS,?akT,?akU,?akV⟩ (L2.bJ (st:=My.Gy) ?akW ?akX ?akY) ?MJ ?MK ?Ah ?Ai ?vU ?Aj ⟨?akZ,?ak0,?ak1⟩ (L2.bJ (st:=My.Gz) ?ak2 ?ak3 ?ak4) ⟨?ak5,?ak6,?ak7⟩ (L2.bJ (st:=My.GB) ?ak8 ?ak9 ?ak_) ?ML ?MM ?MN ?MO ?MP ?MQ ?MR ?MS ?MT ?MU ?MV ?MW ?MX ?MY ?MZ ?M3 ?M4 ?M5 ?M6 ?M7 ?M8 ?M9 ?M_ ?Na
   (case ME|MF|MG|MH|MI|agt|agu|agv|agw|agx|agy|agz|agA|agB|agC|agD|agE|agF|agG|agH|agI|agJ|agK|agL|agM|agN|agO|agP|agQ|agR|agS|agT|agU|agV|agW|agX|agY|agZ|ag0|ag1|ag2|ag3|ag4|ag5|ag6|ag7|ag8|ag9|ag_|aha|ahb|ahc|ahd|ahe|ahf|ahg|ahh|ahi|ahj|ahk|ahl|ahm|ahn|aho|ahp|ahq|ahr|ahs|aht|ahu|ahv|ahw|ahx|ahy|ahz|ahA|ahB|ahC|ahD|ahE|ahF|ahG|ahH|ahI|ahJ|ahK|ahL|ahM|ahN|ahO|ahP|ahQ|ahR|ahS|ahT|ahU|ahV|ahW|ahX|ahY|ahZ|ah0|ah1|ah2|ah3|ah4|ah5|ah6|ah7|ah8|ah9|ah_|aia|aib|aic|aid|aie|aif|aih|aii|aij|aik|ail|aim|ain|aio|aip|aiq|air|ais|ait|aiu|aiv|aiw|aix|aiy|aiz|aiA|aiB|aiC|aiD|aiE|aiF|aiG|aiH|aiI|aiJ|aiK|aiL|aiM|aiN|aiO|aiP|aiQ|aiR|aiS|aiT|aiU|aiV|aiW|aiX|aiY|aiZ|ai0|ai1|ai2|ai3|ai4|ai5|ai6|ai7|ai8|ai9|ai_|aja|ajb|ajc|ajd|aje|ajf|ajg|ajh|aji|ajj|ajk|ajl|ajm|ajn|ajo|ajp|ajq|ajr|ajs|ajt|aju|ajv|ajw|ajx|ajy|ajz|ajA|ajB|ajC|ajD|ajE|ajF|ajG|ajH|ajI|ajJ|ajK|ajL|ajM|ajN|ajO|ajP|ajQ|ajR|ajS|ajT|ajU|ajV|ajW|ajX|ajY|ajZ|aj0|aj1|aj2|aj3|aj4|aj5|aj6|aj7|aj8|aj9|aj_|aka|akb|akc|akd|ake|akf|akg|akh|aki|akj|akk|akl|akm|akn|ako|akp|akq|akr|aks|akt|aku|akv|akw|akx|aky|akz|akA|akB|akC|akD|akE|akF|akG|akH|akI|akJ|akK|akL|akM|akN|akO|akP|akQ|akR|akS|akT|akU|akV|akW|akX|akY|MJ|MK|Ah|Ai|vU|Aj|akZ|ak0|ak1|ak2|ak3|ak4|ak5|ak6|ak7|ak8|ak9|ak_|ML|MM|MN|MO|MP|MQ|MR|MS|MT|MU|MV|MW|MX|MY|MZ|M3|M4|M5|M6|M7=>k_is)
   (case M8|M9|M_|Na=>k_exc)
  obtain ⟨t,T⟩:=T
  have e0:=A_.symm.trans T.Sg
  cases e0
  exact My.afb T
#print axioms PySem.Challenge.cw_bandwright_k14_whole_undone_plainly_holds
