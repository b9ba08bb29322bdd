import PyProof.Rows.All
import Wide.All
import OpenK.AllK
import Wide.FinOn
import Lean
import PyProof.EqAt
import PyProof.EqKinds
import PyProof.TupleCall
import PySem.Challenge.RW_bandwright_k53_rows_parted
set_option Elab.async false
set_option linter.all false
set_option maxRecDepth 100000
/-! THE HAND LAYER, for ints, bools, texts, own classes, LISTS and tuples (index, slices, in, append, pop ..), calls, loops. Paste it whole ahead of your own text; what your proof does not reach may be deleted. -/
namespace L2
open PySem PySem.Spec PyProof.Rows

/-- a key: an int or a str -/
abbrev Key := Sum Int Str
def keyIs : Key → Value → Bool
  | .inl k, v => Value.isInt k v
  | .inr x, v => Value.isStrOf x v
def keyH (w : World) : Key → Int
  | .inl k => hashInt k
  | .inr x => hashStr w x
theorem keyIs_shape : ∀ {k : Key} {v : Value}, keyIs k v = true → (∃ i t, k = Sum.inl i ∧ v = Value.int i t) ∨ (∃ x t, k = Sum.inr x ∧ v = Value.str x t)
  | .inl i, v, h => by
    obtain ⟨t, e⟩ := Value.isInt_shape (k := i) (v := v) h
    exact .inl ⟨i, t, rfl, e⟩
  | .inr x, v, h => by
    obtain ⟨t, e⟩ := Value.isStrOf_shape (x := x) (v := v) h
    exact .inr ⟨x, t, rfl, e⟩
theorem key_ll (a b : Int) : decide ((Sum.inl a : Key) = Sum.inl b) = (a == b) := by
  by_cases e : a = b
  · subst e; simp
  · have h : ¬ (Sum.inl a : Key) = Sum.inl b := fun q => e (Sum.inl.inj q)
    rw [decide_eq_false h]
    exact (beq_eq_false_iff_ne.mpr e).symm
theorem key_rr (a b : Str) : decide ((Sum.inr a : Key) = Sum.inr b) = decide (a = b) := by
  by_cases e : a = b
  · subst e; simp
  · have h : ¬ (Sum.inr a : Key) = Sum.inr b := fun q => e (Sum.inr.inj q)
    rw [decide_eq_false h, decide_eq_false e]
theorem key_lr (a : Int) (b : Str) : decide ((Sum.inl a : Key) = Sum.inr b) = false := decide_eq_false (fun q => nomatch q)
theorem key_rl (a : Str) (b : Int) : decide ((Sum.inr a : Key) = Sum.inl b) = false := decide_eq_false (fun q => nomatch q)

def mixKind (prog : Program) (w : World) : PySem.KeyKind prog w Key where
  is := keyIs
  hash := keyH w
  inj := fun v a b ha hb => by
    rcases keyIs_shape ha with ⟨i, t, rfl, rfl⟩ | ⟨x, t, rfl, rfl⟩
    · rcases keyIs_shape hb with ⟨j, u, rfl, e⟩ | ⟨y, u, rfl, e⟩
      · injection e with e1 _; rw [e1]
      · exact nomatch e
    · rcases keyIs_shape hb with ⟨j, u, rfl, e⟩ | ⟨y, u, rfl, e⟩
      · exact nomatch e
      · injection e with e1 _; rw [e1]
  byValue := fun k v h => by
    rcases keyIs_shape h with ⟨i, t, rfl, rfl⟩ | ⟨x, t, rfl, rfl⟩ <;> rfl
  pyHash := fun hv h => by
    rcases keyIs_shape hv with ⟨i, t, rfl, rfl⟩ | ⟨x, t, rfl, rfl⟩
    · exact wpAny_pyHash_int h
    · exact wpAny_pyHash_str h
  eqBool := fun hu hv h => by
    rcases keyIs_shape hu with ⟨i, t, rfl, rfl⟩ | ⟨x, t, rfl, rfl⟩
    · rcases keyIs_shape hv with ⟨j, u, rfl, rfl⟩ | ⟨y, u, rfl, rfl⟩
      · rw [key_ll] at h; exact wpAny_eqBool_int h
      · rw [key_lr] at h; exact SeqAt.EqAt.int_str i t y u _ _ _ _ h
    · rcases keyIs_shape hv with ⟨j, u, rfl, rfl⟩ | ⟨y, u, rfl, rfl⟩
      · rw [key_rl] at h; exact SeqAt.EqAt.str_int x t j u _ _ _ _ h
      · rw [key_rr] at h; exact wpAny_eqBool_str h
  «strs» := fun k x t v h => by
    rcases keyIs_shape h with ⟨i, u, rfl, e⟩ | ⟨y, u, rfl, e⟩
    · exact nomatch e
    · injection e with e1 _
      subst e1
      cases v <;> rfl

end L2

namespace L2
open PySem PySem.Spec PyProof.Rows

/-- a value, without the heap -/
inductive V where
  | non | bl (b : Bool) | int (i : Int) | str (x : Str) | byt (b : Array UInt8) | flt (b : UInt64) | ref (a : Addr) | ty (n : String)
  deriving DecidableEq

def RelV : V → Value → Prop
  | .non, u => u = Value.none
  | .bl b, u => u = Value.bool b
  | .int i, u => ∃ t, u = Value.int i t
  | .str x, u => ∃ t, u = Value.str x t
  | .byt b, u => ∃ t, u = Value.bytes b t
  | .flt b, u => ∃ t, u = Value.float b t
  | .ref a, u => u = Value.ref a
  | .ty n, u => u = Value.type n

abbrev Vals : List V → List Value → Prop := Paired RelV
theorem Vals.length {xs : List V} {us : List Value} (r : Vals xs us) : xs.length = us.length := Paired.length r
theorem Vals.get : ∀ {xs : List V} {us : List Value} {i : Nat} {x : V}, Vals xs us → xs[i]? = some x → ∃ u, us[i]? = some u ∧ RelV x u
  | _, _, _, _, .nil, e => by simp at e
  | _, _, 0, _, .cons r _, e => by simp at e; subst e; exact ⟨_, rfl, r⟩
  | _, _, i + 1, x, .cons _ t, e => by
    obtain ⟨u, h1, h2⟩ := Vals.get (i := i) (x := x) t (by simpa using e)
    exact ⟨u, by simpa using h1, h2⟩
theorem Vals.set {x : V} {u : Value} (r : RelV x u) : ∀ {xs : List V} {us : List Value} (i : Nat), Vals xs us → Vals (xs.set i x) (us.set i u)
  | _, _, _, .nil => .nil
  | _, _, 0, .cons _ t => .cons r t
  | _, _, i + 1, .cons q t => .cons q (Vals.set r i t)
theorem Vals.append : ∀ {xs ys : List V} {us ws : List Value}, Vals xs us → Vals ys ws → Vals (xs ++ ys) (us ++ ws)
  | _, _, _, _, .nil, s => s
  | _, _, _, _, .cons r t, s => .cons r (Vals.append t s)
theorem Vals.take : ∀ {xs : List V} {us : List Value} (n : Nat), Vals xs us → Vals (xs.take n) (us.take n)
  | _, _, 0, _ => .nil
  | _, _, _ + 1, .nil => .nil
  | _, _, n + 1, .cons r t => .cons r (Vals.take n t)
theorem Vals.drop : ∀ {xs : List V} {us : List Value} (n : Nat), Vals xs us → Vals (xs.drop n) (us.drop n)
  | _, _, 0, r => r
  | _, _, _ + 1, .nil => .nil
  | _, _, n + 1, .cons _ t => Vals.drop n t
theorem Vals.none_of : ∀ {xs : List V} {us : List Value} {i : Nat}, Vals xs us → xs[i]? = none → us[i]? = none := fun {xs us i} r e => by
  have h1 := r.length
  have h2 : xs.length ≤ i := List.getElem?_eq_none_iff.mp e
  exact List.getElem?_eq_none_iff.mpr (by omega)

def RelO : Option V → Option Value → Prop
  | some v, some u => RelV v u
  | none, none => True
  | _, _ => False
def KV {κ : Type} : List (κ × V) → List (κ × Value) → Prop := Paired fun (p : κ × V) (q : κ × Value) => p.1 = q.1 ∧ RelV p.2 q.2

/-- a key of a dict (00_mix): an int or a text -/
def kV : Key → V
  | .inl i => .int i
  | .inr x => .str x

/-- what stands at a tracked address -/
inductive HO where
  /-- a list -/
  | lst (xs : List V)
  /-- a tuple (never changes) -/
  | tup (xs : List V)
  /-- a dict whose keys are ints and texts; one whose keys are tuples of ints and texts (the empty one is both) -/
  | dK (kvs : List (Key × V)) | dT (kvs : List (List Key × V))
  /-- a set of ints: its members, its size -/
  | set (S : Int → Bool) (n : Nat)
  /-- an instance of the class at C, its dict at dx, its attributes -/
  | ins (C dx : Addr) (fs : List (Str × V))
  /-- the dict of the instance at x -/
  | own (x : Addr)
  /-- the dict of an exception -/
  | xd (fs : List (Str × V))
  /-- a bound method, f of x -/
  | met (f x : Addr)
  /-- a range object lo, lo + 1, .. below hi -/
  | rng (lo hi : Int)
  /-- a thing that is known to the object (the script; a dict while a loop walks it): read, never written while it is so -/
  | frz (o : Obj) (u : HO)
  /-- a code object's table -/
  | tbl (ps : Array Value)
  /-- any other thing, by what is true of its one object (a def of one's own: SetO a S n := HO.ext fun h => ..) -/
  | ext (φ : Heap → Prop)

abbrev Hp := Addr → Option HO
def upd (H : Hp) (a : Addr) (o : HO) : Hp := fun b => if b = a then some o else H b
theorem upd_same {H : Hp} {a : Addr} {o : HO} : upd H a o a = some o := by unfold upd; rw [if_pos rfl]
theorem upd_ne {H : Hp} {a b : Addr} {o : HO} (h : b ≠ a) : upd H a o b = H b := by unfold upd; rw [if_neg h]
theorem ne_of_none {H : Hp} {a b : Addr} {o : HO} (h : H a = some o) (h' : H b = none) : a ≠ b := by
  intro e; subst e; rw [h] at h'; cases h'

section
variable (P : Program) (w : World)
def ObjOk (H : Hp) (h : Heap) (a : Addr) : HO → Prop
  | .lst xs => xs.length ≤ sizeLine ∧ ∃ (its : List Value) (n : Nat), Vals xs its ∧ h.get? a = some { cls := .type "list", data := .seq its.toArray n }
  | .tup xs => xs.length ≤ sizeLine ∧ ∃ its : List Value, Vals xs its ∧ IsTup h a its.toArray
  | .dK kvs => kvs.length ≤ sizeLine ∧ (a == sysModules) = false ∧ ∃ vs, KV kvs vs ∧ h.DictOf (mixKind P w) a vs
  | .dT kvs => kvs.length ≤ sizeLine ∧ (a == sysModules) = false ∧ ∃ xs : List (List Key × Addr × Value),
      Paired (fun (p : List Key × V) (q : List Key × Addr × Value) => p.1 = q.1 ∧ H q.2.1 = some (.tup (p.1.map kV)) ∧ RelV p.2 q.2.2) kvs xs ∧
      ∃ o es ep, h.get? a = some o ∧ o.ExactDict ∧ o.data = .dict es ep ∧ es.toList = xs.map (entryOfKey (tupleKind (mixKind P w))) ∧ (xs.map (·.1)).Nodup
  | .set S n => h.SetOf (intKind P w) a S n
  | .ins C dx fs => H dx = some (.own a) ∧ fs.length ≤ 1000 ∧ dx ≠ a ∧ h.get? a = some (PySem.W.instObj C dx) ∧
      ∃ mA, h.Ns1 dx mA ∧ (∀ f, RelO (fs.lookup f) (mA f)) ∧ PySem.Within mA (fs.map (·.1))
  | .own _ => ∃ o, h.get? a = some o
  | .xd fs => ∃ mA, h.Ns1 a mA ∧ ∀ f, RelO (fs.lookup f) (mA f)
  | .rng lo hi => ∃ t u v, h.get? a = some { cls := .type "range", data := .fields #[.int lo t, .int hi u, .int 1 v] }
  | .frz o u => h.get? a = some o ∧ ObjOk H h a u
  | .tbl ps => h.get? a = some { cls := .none, data := .fields ps }
  | .met f x => h.get? a = some (PySem.W.methodObj (.ref f) (.ref x))
  | .ext φ => φ h ∧ (∃ o, h.get? a = some o) ∧ ∀ h1 h2 : Heap, φ h1 → (∀ o, h1.get? a = some o → h2.get? a = some o) → φ h2
/-- the abstract heap is held -/
def HOk (H : Hp) (h : Heap) : Prop := ∀ a o, H a = some o → ObjOk P w H h a o
end

section
variable {P : Program} {w : World} {H H' : Hp} {h h' : Heap} {a : Addr} {o : HO}
theorem ObjOk.lt (x : ObjOk P w H h a o) : a < h.objs.size := by
  cases o with
  | lst xs => obtain ⟨_, _, _, _, e⟩ := x; exact Heap.lt_size e
  | tup xs => obtain ⟨_, _, _, p⟩ := x; exact p.lt
  | dK kvs => obtain ⟨_, _, _, _, o, _, _, e, _⟩ := x; exact Heap.lt_size e
  | dT kvs => obtain ⟨_, _, _, _, o, _, _, e, _⟩ := x; exact Heap.lt_size e
  | set S n => obtain ⟨o, _, _, _, e, _⟩ := x; exact Heap.lt_size e
  | ins C dx fs => obtain ⟨_, _, _, e, _⟩ := x; exact Heap.lt_size e
  | own y => obtain ⟨_, e⟩ := x; exact Heap.lt_size e
  | xd fs => obtain ⟨_, ⟨_, _, _, e, _⟩, _⟩ := x; exact Heap.lt_size e
  | rng lo hi => obtain ⟨_, _, _, e⟩ := x; exact Heap.lt_size e
  | frz ob u => obtain ⟨e, _⟩ := x; exact Heap.lt_size e
  | tbl ps => exact Heap.lt_size (show h.get? a = some _ from x)
  | met f y => exact Heap.lt_size (show h.get? a = some _ from x)
  | ext φ => obtain ⟨_, ⟨_, e⟩, _⟩ := x; exact Heap.lt_size e
theorem Paired.mapP {α β : Type} {F G : α → β → Prop} : ∀ {l₁ : List α} {l₂ : List β}, Paired F l₁ l₂ → (∀ a b, F a b → G a b) → Paired G l₁ l₂
  | _, _, .nil, _ => .nil
  | _, _, .cons r t, f => .cons (f _ _ r) (Paired.mapP t f)
/-- what an object's description leans on: its own object, its own dict, the tuples -/
theorem ObjOk.stay (x : ObjOk P w H h a o) (k : ∀ b u, (b = a ∨ H b = some (.own a)) → h.get? b = some u → h'.get? b = some u)
    (ho : ∀ b, H b = some (.own a) → H' b = some (.own a)) (ht : ∀ b xs, H b = some (.tup xs) → H' b = some (.tup xs)) : ObjOk P w H' h' a o := by
  induction o with
  | lst xs => obtain ⟨z, its, n, r, e⟩ := x; exact ⟨z, its, n, r, k _ _ (.inl rfl) e⟩
  | tup xs => obtain ⟨z, its, r, ob, e, c⟩ := x; exact ⟨z, its, r, ob, k _ _ (.inl rfl) e, c⟩
  | dK kvs => obtain ⟨z, y, vs, r, ob, es, ep, e, c⟩ := x; exact ⟨z, y, vs, r, ob, es, ep, k _ _ (.inl rfl) e, c⟩
  | dT kvs =>
    obtain ⟨z, y, xs, r, ob, es, ep, e, c⟩ := x
    exact ⟨z, y, xs, Paired.mapP r fun p q z => ⟨z.1, ht _ _ z.2.1, z.2.2⟩, ob, es, ep, k _ _ (.inl rfl) e, c⟩
  | set S n => obtain ⟨ob, es, ep, t, e, c⟩ := x; exact ⟨ob, es, ep, t, k _ _ (.inl rfl) e, c⟩
  | ins C dx fs =>
    obtain ⟨d, z, ne, e, mA, ⟨od, es, ep, e2, c⟩, r⟩ := x
    exact ⟨ho _ d, z, ne, k _ _ (.inl rfl) e, mA, ⟨od, es, ep, k _ _ (.inr d) e2, c⟩, r⟩
  | own y => obtain ⟨ob, e⟩ := x; exact ⟨ob, k _ _ (.inl rfl) e⟩
  | xd fs => obtain ⟨mA, ⟨od, es, ep, e, c⟩, r⟩ := x; exact ⟨mA, ⟨od, es, ep, k _ _ (.inl rfl) e, c⟩, r⟩
  | rng lo hi => obtain ⟨t, u, v, e⟩ := x; exact ⟨t, u, v, k _ _ (.inl rfl) e⟩
  | frz ob u ih => obtain ⟨e, q⟩ := x; exact ⟨k _ _ (.inl rfl) e, ih q⟩
  | tbl ps =>
    have e : h.get? a = some { cls := .none, data := .fields ps } := x
    show h'.get? a = some { cls := .none, data := .fields ps }
    exact k a _ (.inl rfl) e
  | met f y =>
    have e : h.get? a = some (PySem.W.methodObj (.ref f) (.ref y)) := x
    show h'.get? a = some (PySem.W.methodObj (.ref f) (.ref y))
    exact k a _ (.inl rfl) e
  | ext φ => obtain ⟨p, ⟨o, e⟩, st⟩ := x; exact ⟨st _ _ p fun o q => k _ _ (.inl rfl) q, ⟨o, k _ _ (.inl rfl) e⟩, st⟩
theorem HOk.lt (x : HOk P w H h) (e : H a = some o) : a < h.objs.size := (x a o e).lt
theorem HOk.fresh (x : HOk P w H h) (e : h.objs.size ≤ a) : H a = none := by
  cases q : H a with
  | none => rfl
  | some u => exact absurd (Nat.lt_of_lt_of_le (x.lt q) e) (Nat.lt_irrefl _)
/-- every object of the heap is kept -/
theorem HOk.kept (x : HOk P w H h) (k : ∀ b u, h.get? b = some u → h'.get? b = some u) : HOk P w H h' := fun a o e =>
  (x a o e).stay (fun b u _ q => k b u q) (fun _ q => q) fun _ _ q => q
/-- a new object is laid and tracked -/
theorem HOk.laid (x : HOk P w H h) (k : ∀ b u, h.get? b = some u → h'.get? b = some u) (hp : h.objs.size ≤ a) (new : ObjOk P w (upd H a o) h' a o) : HOk P w (upd H a o) h' := fun b u e => by
  have hn := x.fresh hp
  by_cases hb : b = a
  · subst hb; rw [upd_same] at e; cases e; exact new
  · rw [upd_ne hb] at e
    exact (x b u e).stay (fun c v _ q => k c v q) (fun c q => by rw [upd_ne (ne_of_none q hn)]; exact q) fun c xs q => by rw [upd_ne (ne_of_none q hn)]; exact q
end

/-- what may be read as u: it is u, or a known u -/
def Rd (H : Hp) (a : Addr) (u : HO) : Prop := H a = some u ∨ ∃ o, H a = some (.frz o u)
theorem Rd.of {H : Hp} {a : Addr} {u : HO} (h : H a = some u) : Rd H a u := .inl h
theorem Rd.ok {P : Program} {w : World} {H : Hp} {h : Heap} {a : Addr} {u : HO} (r : Rd H a u) (x : HOk P w H h) : ObjOk P w H h a u := by
  rcases r with r | ⟨o, r⟩
  · exact x a u r
  · obtain ⟨_, q⟩ := x a _ r
    exact q
/-- what may be written -/
def Mut : Option HO → Prop
  | some (.lst _) => True
  | some (.dK _) => True
  | some (.dT _) => True
  | some (.set _ _) => True
  | some (.ins _ _ _) => True
  | some (.ext _) => True
  | _ => False
section
variable {P : Program} {w : World} {H : Hp} {h h' : Heap} {x e : Addr} {o' : HO}
/-- the object at e is changed: x itself, or the dict of the instance x -/
theorem HOk.write (ok : HOk P w H h) (mu : Mut (H x)) (he : e = x ∨ H e = some (.own x)) (k : ∀ b u, b ≠ e → h.get? b = some u → h'.get? b = some u) (heo : ∃ u, h'.get? e = some u)
    (new : ObjOk P w (upd H x o') h' x o') : HOk P w (upd H x o') h' := fun b u q => by
  have nown : ∀ c y, H c = some (.own y) → c ≠ x := fun c y r z => by subst z; rw [r] at mu; exact mu
  have ntup : ∀ c xs, H c = some (.tup xs) → c ≠ x := fun c xs r z => by subst z; rw [r] at mu; exact mu
  by_cases hb : b = x
  · subst hb; rw [upd_same] at q; cases q; exact new
  · rw [upd_ne hb] at q
    by_cases hbe : b = e
    · have q' : H b = some (.own x) := by
        rcases he with z | z
        · exact absurd (hbe.trans z) hb
        · rw [hbe]; exact z
      rw [q] at q'; cases q'
      obtain ⟨v, hv⟩ := heo
      exact ⟨v, by rw [hbe]; exact hv⟩
    · refine (ok b u q).stay (fun c v hc r => k c v ?_ r) (fun c r => by rw [upd_ne (nown c b r)]; exact r) fun c xs r => by rw [upd_ne (ntup c xs r)]; exact r
      rcases hc with rfl | hc
      · exact hbe
      · rintro rfl
        rcases he with z | z
        · exact nown c b hc z
        · rw [hc] at z; cases z; exact hb rfl
end

/-! ### kept unless tracked; of the frames at fs (the callers') the slots may change (an exception that passes writes there); of the records at ex (iterators) nothing is said -/
structure Un (fs ex : List Addr) (H H' : Hp) (h h' : Heap) : Prop where
  keep : ∀ b o, h.get? b = some o → H b = none → b ∉ fs → b ∉ ex → h'.get? b = some o
  slot : ∀ b o, h.get? b = some o → H b = none → b ∈ fs → b ∉ ex → ∃ sl, h'.get? b = some { o with slots := sl }
  free : ∀ b o, h.get? b = some o → H b = none → b ∉ ex → H' b = none
  there : ∀ b o, h.get? b = some o → b ∉ ex → ∃ o', h'.get? b = some o'
  tups : ∀ b xs, H b = some (.tup xs) → H' b = some (.tup xs)
  frzs : ∀ b o u, H b = some (.frz o u) → H' b = some (.frz o u)
  tbls : ∀ b ps, H b = some (.tbl ps) → ∃ more, H' b = some (.tbl (ps ++ more))
section
variable {fs fs' ex ex' : List Addr} {H H1 H2 : Hp} {h h1 h2 h' : Heap} {a x e : Addr} {o : HO}
theorem Un.any (u : Un fs ex H H1 h h1) {b : Addr} {ob : Obj} (q : h.get? b = some ob) (n : H b = none) (hx : b ∉ ex) : ∃ sl, h1.get? b = some { ob with slots := sl } := by
  by_cases hb : b ∈ fs
  · exact u.slot b ob q n hb hx
  · exact ⟨ob.slots, u.keep b ob q n hb hx⟩
theorem Un.trans (a : Un fs ex H H1 h h1) (b : Un fs ex H1 H2 h1 h2) : Un fs ex H H2 h h2 where
  keep := fun c ob q n hc hx => b.keep c ob (a.keep c ob q n hc hx) (a.free c ob q n hx) hc hx
  slot := fun c ob q n hc hx => by
    obtain ⟨sl, e1⟩ := a.slot c ob q n hc hx
    obtain ⟨sl', e2⟩ := b.slot c _ e1 (a.free c ob q n hx) hc hx
    exact ⟨sl', e2⟩
  free := fun c ob q n hx => by
    obtain ⟨o', e1⟩ := a.there c ob q hx
    exact b.free c o' e1 (a.free c ob q n hx) hx
  there := fun c ob q hx => by
    obtain ⟨o', e1⟩ := a.there c ob q hx
    exact b.there c o' e1 hx
  tups := fun c xs q => b.tups c xs (a.tups c xs q)
  frzs := fun c ob xs q => b.frzs c ob xs (a.frzs c ob xs q)
  tbls := fun c ps q => by
    obtain ⟨m1, e1⟩ := a.tbls c ps q
    obtain ⟨m2, e2⟩ := b.tbls c _ e1
    exact ⟨m1 ++ m2, by rw [e2, Array.append_assoc]⟩
theorem Un.kept (k : ∀ b u, h.get? b = some u → h'.get? b = some u) : Un fs ex H H h h' :=
  ⟨fun b ob q _ _ _ => k b ob q, fun b ob q _ _ _ => ⟨ob.slots, k b ob q⟩, fun _ _ _ n _ => n, fun b ob q _ => ⟨ob, k b ob q⟩, fun _ _ q => q, fun _ _ _ q => q, fun _ ps q => ⟨#[], by rw [q]; simp⟩⟩
theorem Un.refl : Un fs ex H H h h := Un.kept fun _ _ q => q
theorem Un.laid (k : ∀ b u, h.get? b = some u → h'.get? b = some u) (hp : h.objs.size ≤ a) (hn : H a = none) : Un fs ex H (upd H a o) h h' where
  keep := fun b u q _ _ _ => k b u q
  slot := fun b u q _ _ _ => ⟨u.slots, k b u q⟩
  free := fun b u q n _ => by rw [upd_ne (Nat.ne_of_lt (Nat.lt_of_lt_of_le (Heap.lt_size q) hp))]; exact n
  there := fun b u q _ => ⟨u, k b u q⟩
  tups := fun b xs q => by rw [upd_ne (ne_of_none q hn)]; exact q
  frzs := fun b u xs q => by rw [upd_ne (ne_of_none q hn)]; exact q
  tbls := fun b ps q => ⟨#[], by rw [upd_ne (ne_of_none q hn), q]; simp⟩
theorem Un.write (mu : Mut (H x)) (he : e = x ∨ H e = some (.own x)) (k : ∀ b u, b ≠ e → h.get? b = some u → h'.get? b = some u) (heo : ∃ u, h'.get? e = some u) : Un fs ex H (upd H x o) h h' := by
  have hx : ∀ b, H b = none → b ≠ x := fun b n z => by subst z; rw [n] at mu; exact mu
  have hb : ∀ b, H b = none → b ≠ e := fun b n z => by
    subst z
    rcases he with r | r
    · exact hx b n r
    · rw [n] at r; cases r
  have hm : ∀ b u, H b = some u → ¬ Mut (some u) → b ≠ x := fun b u q nm z => by subst z; rw [q] at mu; exact nm mu
  refine ⟨fun b u q n _ _ => k b u (hb b n) q, fun b u q n _ _ => ⟨u.slots, k b u (hb b n) q⟩, fun b u q n _ => by rw [upd_ne (hx b n)]; exact n, fun b u q _ => ?_,
    fun b xs q => by rw [upd_ne (hm b _ q fun z => z)]; exact q, fun b u xs q => by rw [upd_ne (hm b _ q fun z => z)]; exact q, fun b ps q => ⟨#[], by rw [upd_ne (hm b _ q fun z => z), q]; simp⟩⟩
  by_cases hbe : b = e
  · subst hbe; exact heo
  · exact ⟨u, k b u hbe q⟩
theorem Un.mono (u : Un fs ex H H1 h h1) (hs : ∀ b ∈ fs, b ∈ fs') (hx : ∀ b ∈ ex, b ∈ ex') : Un fs' ex' H H1 h h1 :=
  ⟨fun b ob q n hb he => u.keep b ob q n (fun z => hb (hs b z)) fun z => he (hx b z), fun _ _ q n _ he => u.any q n fun z => he (hx _ z), fun b ob q n he => u.free b ob q n fun z => he (hx b z), fun b ob q he => u.there b ob q fun z => he (hx b z), u.tups, u.frzs, u.tbls⟩
end

/-! ### the heap without what is tracked -/
def trk (h : Heap) (H : Hp) : List Addr := (List.range h.objs.size).filter fun a => (H a).isSome
def hidT (h : Heap) (H : Hp) : Heap := PySem.W.hideAll h (trk h H)
theorem hidT_size (h : Heap) (H : Hp) : (hidT h H).objs.size = h.objs.size := PySem.W.hideAll_size _ _
theorem hidT_get {h : Heap} {H : Hp} {b : Addr} {o : Obj} (e : h.get? b = some o) (n : H b = none) : (hidT h H).get? b = some o :=
  PySem.W.hideAll_get _ e fun hm => by
    have q : (H b).isSome = true := (List.mem_filter.mp hm).2
    rw [n] at q; simp at q
theorem of_hidT {h : Heap} {H : Hp} {b : Addr} {o : Obj} (e : (hidT h H).get? b = some o) : h.get? b = some o ∧ H b = none := by
  have e' : h.get? b = some o := PySem.W.of_hideAll (trk h H) e
  refine ⟨e', ?_⟩
  cases q : H b with
  | none => rfl
  | some x =>
    have hm : b ∈ trk h H := List.mem_filter.mpr ⟨List.mem_range.mpr (Heap.lt_size e'), by simp [q]⟩
    have z : (hidT h H).get? b = none := PySem.W.hideAll_none (trk h H) hm
    rw [z] at e; cases e

/-! ### OpenK's ledger, filled with every new object but one -/
def allNews (g h : Heap) (L : Addr) : List (Addr × Obj) := (List.range h.objs.size).filterMap fun a => if a = L ∨ (g.get? a).isSome = true then none else (h.get? a).map fun o => (a, o)
def rest (g h : Heap) (L d : Addr) : List (Addr × Obj) := (allNews g h L).filter fun p => decide (p.1 ≠ d)
end L2

namespace L2
open PySem PySem.Spec PyProof.Rows

/-- the module's facts, over the base: the heap at the law's entry without what is tracked there -/
structure Mod (K : PySem.W.Frag) (mg : Str → Option Value) (base : Heap) : Prop where
  kin : K.In base
  glob : base.Ns mainGlobals mg
  blt : ∃ mb, base.Ns builtinsNs mb ∧ ∀ x : Str, x ≠ "__name__" → mb x = bootBuiltins x
  nolimit : base.NoLimit

/-- the context: a def's body (or a comprehension's block) running. base: fixed through the whole law; s₀, H₀: the entry; outer: the frames whose slots others may change (a def's callers); stack: all frames that run;
   ex: iterators that were made ahead of the entry and are walked here (a comprehension's); fn: the names whose cells were made at the entry (a def: all; a comprehension's block: its own); calm: not within an except suite; pn: pins that every state bears; xe: what is wanted of an exception that leaves the code -/
structure Cx where
  prog : Program
  w : World
  K : PySem.W.Frag
  mg : Str → Option Value
  base : Heap
  A : Around
  N : List Str
  s₀ : Shared
  H₀ : Hp
  env : Env
  outer : List Env
  stack : List Env
  ex : List Addr
  fn : Str → Bool
  calm : Bool
  pn : List (Addr × Obj)
  xe : Value → Shared → Prop
/-- the callers' frames -/
def frs (l : List Env) : List Addr := l.filterMap (·.frame)
abbrev Cx.fs (X : Cx) : List Addr := frs X.outer

def Vis (sc : Scope) (x : Str) : Prop := sc.names.lookup x = some .local ∨ sc.names.lookup x = some .cell ∨ sc.names.lookup x = some .free
def Loc (sc : Scope) (x : Str) : Prop := sc.names.lookup x = some .local ∨ sc.names.lookup x = some .cell
def Look (env : Env) (h : Heap) (m : Str → Option Value) (x : Str) (u : Value) : Prop :=
  (env.kindOf x = some .local ∧ m x = some u) ∨ ((env.kindOf x = some .cell ∨ env.kindOf x = some .free) ∧ ∃ c, env.cells.lookup x = some c ∧ h.IsCell c (some u))

structure Cx.Ok (X : Cx) : Prop where
  mod : Mod X.K X.mg X.base
  kind : X.env.scope.kind = .function
  glob : X.env.globals = mainGlobals
  blt : X.env.builtins = builtinsNs
  above : X.s₀.heap.objs.size ≤ X.env.locals
  inj : ∀ x y c, X.env.cells.lookup x = some c → X.env.cells.lookup y = some c → x = y
  has : ∀ x, (X.env.kindOf x = some .cell ∨ X.env.kindOf x = some .free) → ∃ c, X.env.cells.lookup x = some c
  cab : ∀ x c, X.fn x = true → X.env.cells.lookup x = some c → X.s₀.heap.objs.size ≤ c
  hd : X.calm = true → X.A.handled = none
  frames : X.A.frames = some X.stack
  stk : X.stack = X.outer ∨ (X.stack = X.env :: X.outer ∧ X.env.frame = some X.env.locals)
  exf : ∀ b ∈ X.ex, b ≠ X.env.locals ∧ ∀ x c, X.env.cells.lookup x = some c → c ≠ b
  bs : ∀ b o, X.base.get? b = some o → X.s₀.heap.get? b = some o ∧ X.H₀ b = none
  bsz : X.base.objs.size ≤ X.s₀.heap.objs.size
  noex : ∀ b o, X.base.get? b = some o → b ∉ X.ex
  exfs : ∀ b ∈ X.ex, b ∉ X.fs
  funs : X.s₀.heap.FunFrames X.base X.outer
  frf : ∀ b ∈ X.fs, X.H₀ b = none

structure Inv (X : Cx) (pins : List (Addr × Obj)) (σ : List (Option V)) (H : Hp) (s : Shared) : Prop where
  ok : X.Ok
  os : s.os = X.s₀.os
  bare : AllBare s.gens
  base : Un X.fs X.ex X.H₀ H X.s₀.heap s.heap
  loc : ∃ m, s.heap.Ns X.env.locals m ∧ ∀ (i : Nat) (x : Str) (v : V), X.N[i]? = some x → σ[i]? = some (some v) → Vis X.env.scope x → ∃ u, RelV v u ∧ Look X.env s.heap m x u
  cell : ∀ x c, X.env.cells.lookup x = some c → ∃ v, s.heap.IsCell c v
  free : H X.env.locals = none
  freeC : ∀ x c, X.env.cells.lookup x = some c → H c = none
  pin : ∀ p ∈ X.pn ++ pins, s.heap.get? p.1 = some p.2 ∧ H p.1 = none ∧ p.1 ≠ X.env.locals ∧ p.1 ∉ X.fs ∧ ∀ v, p.2.data ≠ .cell v
  hok : HOk X.prog X.w H s.heap
  len : σ.length = X.N.length

section
variable {X : Cx} {pins : List (Addr × Obj)} {σ : List (Option V)} {H H' : Hp} {s : Shared} {h' : Heap}

theorem Cx.Ok.nofr (ok : X.Ok) {b : Addr} {o : Obj} (e : X.base.get? b = some o) : b ∉ X.fs := fun hb => by
  have := (ok.funs.mem hb).1
  rw [e] at this; cases this
theorem Inv.bs (I : Inv X pins σ H s) : ∀ b o, X.base.get? b = some o → s.heap.get? b = some o ∧ H b = none := fun b o e =>
  ⟨I.base.keep b o (I.ok.bs b o e).1 (I.ok.bs b o e).2 (I.ok.nofr e) (I.ok.noex b o e), I.base.free b o (I.ok.bs b o e).1 (I.ok.bs b o e).2 (I.ok.noex b o e)⟩
theorem Inv.bk (I : Inv X pins σ H s) : ∀ b o, X.base.get? b = some o → s.heap.get? b = some o := fun b o e => (I.bs b o e).1
theorem Inv.mod (I : Inv X pins σ H s) : Mod X.K X.mg X.base := I.ok.mod
theorem Inv.kIn (I : Inv X pins σ H s) : X.K.In s.heap := I.ok.mod.kin.keeps I.bk
theorem Inv.nolimit (I : Inv X pins σ H s) : s.heap.NoLimit := I.ok.mod.nolimit.keeps I.bk
/-- the frame over the base: for OpenK's rules (K.In X.base is I.mod.kin) -/
theorem Inv.fr (I : Inv X pins σ H s) : ∃ m, Fr X.base X.env.locals s.heap m :=
  let ⟨m, hn, _⟩ := I.loc
  ⟨m, hn, I.bk, Nat.le_trans I.ok.bsz I.ok.above⟩
theorem Inv.lt (I : Inv X pins σ H s) : X.env.locals < s.heap.objs.size := let ⟨_, hn, _⟩ := I.loc; hn.lt
theorem Inv.sz (I : Inv X pins σ H s) : X.s₀.heap.objs.size ≤ s.heap.objs.size := Nat.le_trans I.ok.above (Nat.le_of_lt I.lt)
theorem Inv.nofs (I : Inv X pins σ H s) {a : Addr} (h : s.heap.objs.size ≤ a) : a ∉ X.fs := fun hb => by
  obtain ⟨_, o, ho, _⟩ := I.ok.funs.mem hb
  exact absurd (Nat.lt_of_lt_of_le (Heap.lt_size ho) (Nat.le_trans I.sz h)) (Nat.lt_irrefl _)
theorem Inv.cne (I : Inv X pins σ H s) : ∀ x c, X.env.cells.lookup x = some c → c ≠ X.env.locals := fun x c e z => by
  obtain ⟨v, o, ho, hd⟩ := I.cell x c e
  obtain ⟨m, ⟨o', es, ep, ho', hd', _⟩, _⟩ := I.loc
  rw [z, ho'] at ho; cases ho; rw [hd'] at hd; cases hd
theorem Inv.funs (I : Inv X pins σ H s) : s.heap.FunFrames X.base X.outer := by
  have all : ∀ (l : List Env), (∀ b ∈ frs l, b ∈ X.fs) → X.s₀.heap.FunFrames X.base l → s.heap.FunFrames X.base l := by
    intro l
    induction l with
    | nil => intro _ _; trivial
    | cons env r ih =>
      intro hs hl
      obtain ⟨hk, ⟨L, o, hf, hn, ho, hd⟩, hr⟩ := hl
      have hL : L ∈ X.fs := hs L (by unfold frs; rw [List.filterMap_cons, hf]; exact List.mem_cons_self)
      obtain ⟨sl, e⟩ := I.base.slot L o ho (I.ok.frf L hL) hL fun z => I.ok.exfs L z hL
      exact ⟨hk, ⟨L, _, hf, hn, e, hd⟩, ih (fun b hb => hs b (by unfold frs; rw [List.filterMap_cons, hf]; exact List.mem_cons_of_mem _ hb)) hr⟩
  exact all X.outer (fun _ hb => hb) I.ok.funs

/-- the frames that run, for a call -/
theorem Inv.stack (I : Inv X pins σ H s) : s.heap.FunFrames X.base X.stack := by
  rcases I.ok.stk with e | ⟨e, hf⟩
  · rw [e]; exact I.funs
  · rw [e]
    obtain ⟨m, hn, _⟩ := I.loc
    refine .cons (by rw [I.ok.kind]; decide) hf hn ?_ I.funs
    exact Heap.get?_none_of_le (Nat.le_trans I.ok.bsz I.ok.above)
theorem Inv.stkSub (I : Inv X pins σ H s) : ∀ b ∈ frs X.stack, b ∈ X.env.locals :: X.fs := fun b hb => by
  rcases I.ok.stk with e | ⟨e, hf⟩
  · rw [e] at hb; exact List.mem_cons_of_mem _ hb
  · rw [e] at hb
    unfold frs at hb
    rw [List.filterMap_cons, hf] at hb
    exact hb
theorem Inv.stkFree (I : Inv X pins σ H s) : ∀ b ∈ frs X.stack, H b = none := fun b hb => by
  rcases List.mem_cons.mp (I.stkSub b hb) with e | hb
  · rw [e]; exact I.free
  · obtain ⟨_, o, ho, _⟩ := I.ok.funs.mem hb
    exact I.base.free b o ho (I.ok.frf b hb) fun z => I.ok.exfs b z hb

/-- THE STEP: the untracked objects but the frame and the records at ch are kept (the callers' frames up to slots), the frame's map is kept, the new abstract heap is held -/
theorem Inv.step {g' : Array GenState} {t' : Nat} {d' : Drawn} {ch : List Addr} (I : Inv X pins σ H s)
    (hch : ∀ b ∈ ch, (b ∈ X.ex ∨ X.s₀.heap.objs.size ≤ b) ∧ b ≠ X.env.locals ∧ (∀ x c, X.env.cells.lookup x = some c → c ≠ b) ∧ ∀ p ∈ X.pn ++ pins, p.1 ≠ b)
    (keep : ∀ b o, b ≠ X.env.locals → b ∉ X.fs → b ∉ ch → s.heap.get? b = some o → H b = none → h'.get? b = some o)
    (slot : ∀ b o, b ≠ X.env.locals → b ∈ X.fs → b ∉ ch → s.heap.get? b = some o → H b = none → ∃ sl, h'.get? b = some { o with slots := sl }) (free : ∀ b o, b ∉ ch → s.heap.get? b = some o → H b = none → H' b = none)
    (there : ∀ b o, b ∉ ch → s.heap.get? b = some o → ∃ o', h'.get? b = some o')
    (tups : ∀ b xs, H b = some (.tup xs) → H' b = some (.tup xs)) (frzs : ∀ b o u, H b = some (.frz o u) → H' b = some (.frz o u)) (tbls : ∀ b ps, H b = some (.tbl ps) → ∃ more, H' b = some (.tbl (ps ++ more)))
    (ns : ∀ m, s.heap.Ns X.env.locals m → h'.Ns X.env.locals m) (hok : HOk X.prog X.w H' h') (hg : AllBare g') :
    Inv X pins σ H' { s with heap := h', gens := g', drawn := d', toks := t' } := by
  have neL : ∀ b o, X.s₀.heap.get? b = some o → b ≠ X.env.locals := fun b o e => Nat.ne_of_lt (Nat.lt_of_lt_of_le (Heap.lt_size e) I.ok.above)
  have neC : ∀ b o, X.s₀.heap.get? b = some o → b ∉ X.ex → b ∉ ch := fun b o e hx hb => by
    rcases (hch b hb).1 with z | z
    · exact hx z
    · exact absurd (Nat.lt_of_lt_of_le (Heap.lt_size e) z) (Nat.lt_irrefl _)
  have cellK : ∀ x c, X.env.cells.lookup x = some c → ∀ v, s.heap.IsCell c v → h'.IsCell c v := fun x c e v ⟨o, ho, hd⟩ => by
    have nch : c ∉ ch := fun z => (hch c z).2.2.1 x c e rfl
    by_cases hc : c ∈ X.fs
    · obtain ⟨sl, q⟩ := slot c o (I.cne x c e) hc nch ho (I.freeC x c e)
      exact ⟨_, q, hd⟩
    · exact ⟨o, keep c o (I.cne x c e) hc nch ho (I.freeC x c e), hd⟩
  refine ⟨I.ok, I.os, hg, ⟨fun b o e n hb hx => ?_, fun b o e n hb hx => ?_, fun b o e n hx => ?_, fun b o e hx => ?_, fun b xs e => tups b xs (I.base.tups b xs e), fun b o xs e => frzs b o xs (I.base.frzs b o xs e), fun b ps e => ?_⟩, ?_, fun x c e => ?_, ?_, fun x c e => ?_, fun p hp => ?_, hok, I.len⟩
  · exact keep b o (neL b o e) hb (neC b o e hx) (I.base.keep b o e n hb hx) (I.base.free b o e n hx)
  · obtain ⟨sl, e1⟩ := I.base.slot b o e n hb hx
    obtain ⟨sl', e2⟩ := slot b _ (neL b o e) hb (neC b o e hx) e1 (I.base.free b o e n hx)
    exact ⟨sl', e2⟩
  · obtain ⟨o', e1⟩ := I.base.there b o e hx
    exact free b o' (neC b o e hx) e1 (I.base.free b o e n hx)
  · obtain ⟨o', e1⟩ := I.base.there b o e hx
    exact there b o' (neC b o e hx) e1
  · obtain ⟨m1, e1⟩ := I.base.tbls b ps e
    obtain ⟨m2, e2⟩ := tbls b _ e1
    exact ⟨m1 ++ m2, by rw [e2, Array.append_assoc]⟩
  · obtain ⟨m, hn, hl⟩ := I.loc
    refine ⟨m, ns m hn, fun i x v e1 e2 e3 => ?_⟩
    obtain ⟨u, r, l⟩ := hl i x v e1 e2 e3
    refine ⟨u, r, ?_⟩
    rcases l with l | ⟨k, c, e, z⟩
    · exact .inl l
    · exact .inr ⟨k, c, e, cellK x c e _ z⟩
  · obtain ⟨v, z⟩ := I.cell x c e
    exact ⟨v, cellK x c e v z⟩
  · obtain ⟨m, ⟨o, _, _, ho, _⟩, _⟩ := I.loc
    exact free _ o (fun z => (hch _ z).2.1 rfl) ho I.free
  · obtain ⟨v, o, ho, hd⟩ := I.cell x c e
    exact free c o (fun z => (hch c z).2.2.1 x c e rfl) ho (I.freeC x c e)
  · obtain ⟨e, n, ne, nf, d⟩ := I.pin p hp
    have nch : p.1 ∉ ch := fun z => (hch p.1 z).2.2.2 p hp rfl
    exact ⟨keep p.1 p.2 ne nf nch e n, free p.1 p.2 nch e n, ne, nf, d⟩
/-- .. where the frame's own object is kept too -/
theorem Inv.un {t' : Nat} (I : Inv X pins σ H s) (u : Un X.fs [] H H' s.heap h') (hok : HOk X.prog X.w H' h') : Inv X pins σ H' { s with heap := h', toks := t' } := by
  obtain ⟨m, ⟨o, es, ep, ho, r⟩, _⟩ := id I.loc
  obtain ⟨sl, hL⟩ := u.any ho I.free (by simp)
  exact I.step (g' := s.gens) (d' := s.drawn) (ch := []) (fun _ z => nomatch z) (fun b o _ hb _ e n => u.keep b o e n hb (by simp)) (fun b o _ hb _ e n => u.slot b o e n hb (by simp)) (fun b o _ e n => u.free b o e n (by simp)) (fun b o _ e => u.there b o e (by simp)) u.tups u.frzs u.tbls (fun m' hm => by
    obtain ⟨o', es', ep', ho', r'⟩ := hm
    rw [ho] at ho'; cases ho'
    exact ⟨_, es', ep', hL, r'⟩) hok I.bare
/-- behind a call (or a comprehension's block): the slots of this frame may have changed too, the records at ch may have turned -/
theorem Inv.call {g' : Array GenState} {t' : Nat} {d' : Drawn} {ch : List Addr} (I : Inv X pins σ H s) (u : Un (frs X.stack) ch H H' s.heap h') (hok : HOk X.prog X.w H' h') (hg : AllBare g')
    (hch : ∀ b ∈ ch, (b ∈ X.ex ∨ X.s₀.heap.objs.size ≤ b) ∧ b ≠ X.env.locals ∧ (∀ x c, X.env.cells.lookup x = some c → c ≠ b) ∧ ∀ p ∈ X.pn ++ pins, p.1 ≠ b) :
    Inv X pins σ H' { s with heap := h', gens := g', drawn := d', toks := t' } := by
  obtain ⟨m, ⟨o, es, ep, ho, r⟩, _⟩ := id I.loc
  obtain ⟨sl, hL⟩ := u.any ho I.free fun z => (hch _ z).2.1 rfl
  exact I.step (ch := ch) hch (fun b o hL hb hc e n => u.keep b o e n (fun z => (List.mem_cons.mp (I.stkSub b z)).elim hL hb) hc) (fun b o _ _ hc e n => u.any e n hc) (fun b o hc e n => u.free b o e n hc) (fun b o hc e => u.there b o e hc) u.tups u.frzs u.tbls (fun m' hm => by
    obtain ⟨o', es', ep', ho', r'⟩ := hm
    rw [ho] at ho'; cases ho'
    exact ⟨_, es', ep', hL, r'⟩) hok hg
/-- an untracked record of ours (an iterator) has turned -/
theorem Inv.turned {t' : Nat} {it : Addr} (I : Inv X pins σ H s) (k : ∀ b o, b ≠ it → s.heap.get? b = some o → h'.get? b = some o) (hn : H it = none) (hL : it ≠ X.env.locals)
    (h1 : it ∈ X.ex ∨ X.s₀.heap.objs.size ≤ it) (h2 : ∀ x c, X.env.cells.lookup x = some c → c ≠ it) (h3 : ∀ p ∈ X.pn ++ pins, p.1 ≠ it) : Inv X pins σ H { s with heap := h', toks := t' } := by
  have nit : ∀ b u, H b = some u → b ≠ it := fun b u e z => by rw [z, hn] at e; cases e
  refine I.step (g' := s.gens) (d' := s.drawn) (ch := [it]) (fun b hb => ?_) (fun b o _ _ hc e _ => k b o (fun z => hc (by simp [z])) e) (fun b o _ _ hc e _ => ⟨o.slots, k b o (fun z => hc (by simp [z])) e⟩) (fun _ _ _ _ n => n)
    (fun b o hc e => ⟨o, k b o (fun z => hc (by simp [z])) e⟩) (fun _ _ e => e) (fun _ _ _ e => e) (fun b ps e => ⟨#[], by rw [e]; simp⟩) (fun m hm => ?_) (fun b u e => ?_) I.bare
  · have e : b = it := by simpa using hb
    subst e
    exact ⟨h1, hL, h2, h3⟩
  · obtain ⟨o, es, ep, ho, r⟩ := hm
    exact ⟨o, es, ep, k _ o (Ne.symm hL) ho, r⟩
  · refine (I.hok b u e).stay (fun c v hc q => k c v ?_ q) (fun _ q => q) fun _ _ q => q
    rcases hc with z | z
    · rw [z]; exact nit b u e
    · exact nit c _ z
theorem Inv.tok (I : Inv X pins σ H s) (t : Nat) : Inv X pins σ H { s with toks := t } := I.un (h' := s.heap) (t' := t) Un.refl I.hok
/-- all objects kept -/
theorem Inv.kept {t' : Nat} (I : Inv X pins σ H s) (k : ∀ b u, s.heap.get? b = some u → h'.get? b = some u) : Inv X pins σ H { s with heap := h', toks := t' } := I.un (Un.kept k) (I.hok.kept k)
/-- a new object laid and tracked -/
theorem Inv.laid {a : Addr} {o : HO} {t' : Nat} (I : Inv X pins σ H s) (k : ∀ b u, s.heap.get? b = some u → h'.get? b = some u) (hp : s.heap.objs.size ≤ a) (new : ObjOk X.prog X.w (upd H a o) h' a o) :
    Inv X pins σ (upd H a o) { s with heap := h', toks := t' } := I.un (Un.laid k hp (I.hok.fresh hp)) (I.hok.laid k hp new)
/-- an object written -/
theorem Inv.write {x e : Addr} {o : HO} {t' : Nat} (I : Inv X pins σ H s) (mu : Mut (H x)) (he : e = x ∨ H e = some (.own x)) (k : ∀ b u, b ≠ e → s.heap.get? b = some u → h'.get? b = some u) (heo : ∃ u, h'.get? e = some u)
    (new : ObjOk X.prog X.w (upd H x o) h' x o) : Inv X pins σ (upd H x o) { s with heap := h', toks := t' } := I.un (Un.write mu he k heo) (I.hok.write mu he k heo new)
/-- forgetting slots, pins -/
theorem Inv.weak {σ' : List (Option V)} (I : Inv X pins σ H s) (hl : σ'.length = σ.length) (w : ∀ (i : Nat) v, σ'[i]? = some (some v) → σ[i]? = some (some v)) : Inv X pins σ' H s :=
  ⟨I.ok, I.os, I.bare, I.base, let ⟨m, hn, hl'⟩ := I.loc; ⟨m, hn, fun i x v e1 e2 e3 => hl' i x v e1 (w i v e2) e3⟩, I.cell, I.free, I.freeC, I.pin, I.hok, hl.trans I.len⟩
theorem Inv.pins_of {pins' : List (Addr × Obj)} (I : Inv X pins σ H s) (h : ∀ p ∈ pins', s.heap.get? p.1 = some p.2 ∧ H p.1 = none ∧ p.1 ≠ X.env.locals ∧ p.1 ∉ X.fs ∧ ∀ v, p.2.data ≠ .cell v) : Inv X pins' σ H s :=
  ⟨I.ok, I.os, I.bare, I.base, I.loc, I.cell, I.free, I.freeC, fun p hp => (List.mem_append.mp hp).elim (fun z => I.pin p (List.mem_append_left _ z)) (h p), I.hok, I.len⟩

theorem nodup_ix {N : List Str} (hN : N.Nodup) {i j : Nat} {x : Str} (a : N[i]? = some x) (b : N[j]? = some x) : i = j := by
  obtain ⟨h1, e1⟩ := List.getElem?_eq_some_iff.mp a
  obtain ⟨h2, e2⟩ := List.getElem?_eq_some_iff.mp b
  exact (List.getElem_inj hN).mp (e1.trans e2.symm)

/-- a name is stored; what changed -/
theorem store_ok2 {M : Model} {A : Around} {E : Value → Shared → Prop} {i : Nat} {x : Str} {v : V} {u : Value} {Q : Unit → Shared → Prop} (I : Inv X pins σ H s) (hN : X.N.Nodup) (hi : X.N[i]? = some x) (hx : Loc X.env.scope x) (r : RelV v u)
    (h : ∀ s', Inv X pins (σ.set i (some v)) H s' → (∃ a, Heap.SameBut a s.heap s'.heap ∧ (a = X.env.locals ∨ X.env.cells.lookup x = some a)) → Q () s') (hf : X.fn x = true ∨ X.env.scope.names.lookup x = some .local := by first | exact .inl rfl | exact .inr rfl | assumption) : wpAny M A (storeName X.env x u) Q E s := by
  obtain ⟨m, hn, hl⟩ := id I.loc
  have hcls : (X.env.scope.kind == .class || (X.env.scope.kind == .module && X.env.locals != X.env.globals)) = false := by rw [I.ok.kind]; rfl
  have hiσ : i < σ.length := by rw [I.len]; exact (List.getElem?_eq_some_iff.mp hi).1
  have cne := I.cne
  have tracked : ∀ {a : Addr} {h' : Heap}, (∃ o, s.heap.get? a = some o ∧ H a = none) → Heap.SameBut a s.heap h' → HOk X.prog X.w H h' := fun {a h'} ha hs b ob e => by
    obtain ⟨_, _, hfree⟩ := ha
    refine (I.hok b ob e).stay (fun c w' hc q => (hs.2 c ?_).trans q) (fun _ q => q) fun _ _ q => q
    rintro rfl
    rcases hc with rfl | hc
    · rw [hfree] at e; cases e
    · rw [hfree] at hc; cases hc
  rcases hx with hk | hk
  · refine wpAny_storeName_local hk hn (fun h' hn' hs => ?_) hcls
    obtain ⟨oL, _, _, hoL, _⟩ := id hn
    refine h _ ⟨I.ok, I.os, I.bare, ⟨fun b o e n hb hx => ?_, fun b o e n hb hx => ?_, I.base.free, fun b o e hx => ?_, I.base.tups, I.base.frzs, I.base.tbls⟩, ⟨_, hn', fun j y v' e1 e2 e3 => ?_⟩, fun y c e => ?_, I.free, I.freeC, fun p hp => ?_, tracked ⟨oL, hoL, I.free⟩ hs, by simpa using I.len⟩ ⟨_, hs, .inl rfl⟩
    · exact (hs.2 b (Nat.ne_of_lt (Nat.lt_of_lt_of_le (Heap.lt_size e) I.ok.above))).trans (I.base.keep b o e n hb hx)
    · obtain ⟨sl, e1⟩ := I.base.slot b o e n hb hx
      exact ⟨sl, (hs.2 b (Nat.ne_of_lt (Nat.lt_of_lt_of_le (Heap.lt_size e) I.ok.above))).trans e1⟩
    · obtain ⟨o', e1⟩ := I.base.there b o e hx
      exact ⟨o', (hs.2 b (Nat.ne_of_lt (Nat.lt_of_lt_of_le (Heap.lt_size e) I.ok.above))).trans e1⟩
    · by_cases hj : j = i
      · subst hj
        rw [hi] at e1; cases e1
        rw [List.getElem?_set_self hiσ] at e2
        cases e2
        exact ⟨u, r, .inl ⟨hk, by simp⟩⟩
      · rw [List.getElem?_set_ne (Ne.symm hj)] at e2
        obtain ⟨u', r', q⟩ := hl j y v' e1 e2 e3
        refine ⟨u', r', ?_⟩
        rcases q with ⟨k, e⟩ | ⟨k, c, e, z⟩
        · refine .inl ⟨k, ?_⟩
          have : y ≠ x := fun e => hj (nodup_ix hN e1 (e ▸ hi))
          simp [this, e]
        · exact .inr ⟨k, c, e, z.sameBut hs (cne y c e)⟩
    · obtain ⟨w', z⟩ := I.cell y c e
      exact ⟨w', z.sameBut hs (cne y c e)⟩
    · obtain ⟨e, n, ne, nf, d⟩ := I.pin p hp
      exact ⟨(hs.2 p.1 ne).trans e, n, ne, nf, d⟩
  · have hfn : X.fn x = true := by
      rcases hf with z | z
      · exact z
      · rw [z] at hk; cases hk
    obtain ⟨c, hc⟩ := I.ok.has x (.inl hk)
    obtain ⟨w', z⟩ := I.cell x c hc
    refine wpAny_storeName_cell I.ok.kind hk hc z (fun h' hc' hs => ?_)
    obtain ⟨oc, hoc, hocd⟩ := id z
    refine h { s with heap := h' } ⟨I.ok, I.os, I.bare, ⟨fun b o e n hb hx => ?_, fun b o e n hb hx => ?_, I.base.free, fun b o e hx => ?_, I.base.tups, I.base.frzs, I.base.tbls⟩, ⟨m, hn.sameBut hs (Ne.symm (cne x c hc)), fun j y v' e1 e2 e3 => ?_⟩, fun y c' e => ?_, I.free, I.freeC, fun p hp => ?_, tracked ⟨oc, hoc, I.freeC x c hc⟩ hs, by simpa using I.len⟩ ⟨c, hs, .inr hc⟩
    · exact (hs.2 b (Nat.ne_of_lt (Nat.lt_of_lt_of_le (Heap.lt_size e) (I.ok.cab x c hfn hc)))).trans (I.base.keep b o e n hb hx)
    · obtain ⟨sl, e1⟩ := I.base.slot b o e n hb hx
      exact ⟨sl, (hs.2 b (Nat.ne_of_lt (Nat.lt_of_lt_of_le (Heap.lt_size e) (I.ok.cab x c hfn hc)))).trans e1⟩
    · obtain ⟨o', e1⟩ := I.base.there b o e hx
      exact ⟨o', (hs.2 b (Nat.ne_of_lt (Nat.lt_of_lt_of_le (Heap.lt_size e) (I.ok.cab x c hfn hc)))).trans e1⟩
    · by_cases hj : j = i
      · subst hj
        rw [hi] at e1; cases e1
        rw [List.getElem?_set_self hiσ] at e2
        cases e2
        exact ⟨u, r, .inr ⟨.inl hk, c, hc, hc'⟩⟩
      · rw [List.getElem?_set_ne (Ne.symm hj)] at e2
        obtain ⟨u', r', q⟩ := hl j y v' e1 e2 e3
        refine ⟨u', r', ?_⟩
        rcases q with q | ⟨k, c', e, z'⟩
        · exact .inl q
        · refine .inr ⟨k, c', e, z'.sameBut hs ?_⟩
          rintro rfl
          exact hj (nodup_ix hN e1 (I.ok.inj _ _ _ e hc ▸ hi))
    · by_cases hcc : c' = c
      · subst hcc; exact ⟨_, hc'⟩
      · obtain ⟨w2, z2⟩ := I.cell y c' e
        exact ⟨w2, z2.sameBut hs hcc⟩
    · obtain ⟨e, n, ne, nf, d⟩ := I.pin p hp
      refine ⟨(hs.2 p.1 ?_).trans e, n, ne, nf, d⟩
      intro q
      rw [q, hoc] at e
      have q' : oc = p.2 := Option.some.inj e
      exact d w' (by rw [← q']; exact hocd)
theorem store_ok {M : Model} {A : Around} {E : Value → Shared → Prop} {i : Nat} {x : Str} {v : V} {u : Value} {Q : Unit → Shared → Prop} (I : Inv X pins σ H s) (hN : X.N.Nodup) (hi : X.N[i]? = some x) (hx : Loc X.env.scope x) (r : RelV v u)
    (h : ∀ s', Inv X pins (σ.set i (some v)) H s' → Q () s') (hf : X.fn x = true ∨ X.env.scope.names.lookup x = some .local := by first | exact .inl rfl | exact .inr rfl | assumption) : wpAny M A (storeName X.env x u) Q E s :=
  store_ok2 I hN hi hx r (fun s' I' _ => h s' I') hf
/-- behind a call or a block, the state as it is -/
theorem Inv.call' {s' : Shared} {ch : List Addr} (I : Inv X pins σ H s) (ho : s'.os = s.os) (u : Un (frs X.stack) ch H H' s.heap s'.heap) (hok : HOk X.prog X.w H' s'.heap) (hg : AllBare s'.gens)
    (hch : ∀ b ∈ ch, (b ∈ X.ex ∨ X.s₀.heap.objs.size ≤ b) ∧ b ≠ X.env.locals ∧ (∀ x c, X.env.cells.lookup x = some c → c ≠ b) ∧ ∀ p ∈ X.pn ++ pins, p.1 ≠ b) : Inv X pins σ H' s' := by
  obtain ⟨h', g', d', t', o'⟩ := s'
  have e : o' = s.os := ho
  subst e
  exact I.call (g' := g') (t' := t') (d' := d') u hok hg hch
end

/-! ### the judgements -/
/-- an exception: its class, its own dict's address (where it has one), the abstract heap behind it -/
abbrev XK := Value → Option Addr → Hp → Prop
abbrev St := List (Option V)
abbrev VK := V → Hp → Prop
/-- an expression's reading; a test's; an argument list's -/
abbrev TE := St → Hp → VK → Prop
abbrev TT := St → Hp → (Bool → Hp → Prop) → Prop
abbrev TA := St → Hp → (List V → Hp → Prop) → Prop
/-- what is wanted behind a statement -/
structure Ends where
  nx : St → Hp → Prop
  rt : VK
  bk : St → Hp → Prop := fun _ _ => False
  ct : St → Hp → Prop := fun _ _ => False
abbrev TS := Ends → St → Hp → Prop

def EP (X : Cx) (pins : List (Addr × Obj)) (σ : St) (Q : VK) (u : Value) (s' : Shared) : Prop := ∃ v H', Inv X pins σ H' s' ∧ RelV v u ∧ Q v H'
def TP (X : Cx) (pins : List (Addr × Obj)) (σ : St) (Q : Bool → Hp → Prop) (b : Bool) (s' : Shared) : Prop := ∃ H', Inv X pins σ H' s' ∧ Q b H'
def AP (X : Cx) (pins : List (Addr × Obj)) (σ : St) (Q : List V → Hp → Prop) (us : List Value) (s' : Shared) : Prop := ∃ vs H', Inv X pins σ H' s' ∧ Vals vs us ∧ Q vs H'
def SP (X : Cx) (pins : List (Addr × Obj)) (D : Ends) (f : Flow) (s' : Shared) : Prop :=
  match f with
  | .next => ∃ σ' H', Inv X pins σ' H' s' ∧ D.nx σ' H'
  | .brk => ∃ σ' H', Inv X pins σ' H' s' ∧ D.bk σ' H'
  | .cont => ∃ σ' H', Inv X pins σ' H' s' ∧ D.ct σ' H'
  | .ret u => ∃ v σ' H', Inv X pins σ' H' s' ∧ RelV v u ∧ D.rt v H'

def PE (X : Cx) (e : Expr) (t : TE) : Prop :=
  ∀ (pins : List (Addr × Obj)) (s : Shared) (σ : St) (H : Hp) (Q : VK), Inv X pins σ H s → t σ H Q → wpAny (model X.prog X.w) X.A (eval e X.env) (EP X pins σ Q) X.xe s
def PT (X : Cx) (e : Expr) (t : TT) : Prop :=
  ∀ (pins : List (Addr × Obj)) (s : Shared) (σ : St) (H : Hp) (Q : Bool → Hp → Prop), Inv X pins σ H s → t σ H Q → wpAny (model X.prog X.w) X.A (isTrue e X.env (eval e X.env)) (TP X pins σ Q) X.xe s
/-- a test whatever its 'whole' is (and, or) -/
def PW (X : Cx) (e : Expr) (t : TT) : Prop :=
  ∀ (whole : Sem Value) (pins : List (Addr × Obj)) (s : Shared) (σ : St) (H : Hp) (Q : Bool → Hp → Prop), Inv X pins σ H s → t σ H Q → wpAny (model X.prog X.w) X.A (isTrue e X.env whole) (TP X pins σ Q) X.xe s
theorem PW.pt {X : Cx} {e : Expr} {t : TT} (h : PW X e t) : PT X e t := h _
/-- an argument list (no star), from the left -/
def PA (X : Cx) (es : List Expr) (t : TA) : Prop :=
  ∀ (pos : Pos) (pins : List (Addr × Obj)) (s : Shared) (σ : St) (H : Hp) (Q : List V → Hp → Prop), Inv X pins σ H s → t σ H Q → wpAny (model X.prog X.w) X.A (spliced (backTo pos (starEach es X.env))) (AP X pins σ Q) X.xe s
def PS (X : Cx) (st : Stmt) (t : TS) : Prop :=
  ∀ (pins : List (Addr × Obj)) (s : Shared) (σ : St) (H : Hp) (D : Ends), Inv X pins σ H s → t D σ H → wpAny (model X.prog X.w) X.A (exec st X.env) (SP X pins D) X.xe s
def PSs (X : Cx) (st : List Stmt) (t : TS) : Prop :=
  ∀ (pins : List (Addr × Obj)) (s : Shared) (σ : St) (H : Hp) (D : Ends), Inv X pins σ H s → t D σ H → wpAny (model X.prog X.w) X.A (execs st X.env) (SP X pins D) X.xe s
/-- weaken the end -/
theorem thn {α : Type} {t : Sem α} {Q Q' : α → Shared → Prop} {M : Model} {A : Around} {E : Value → Shared → Prop} {s : Shared} (h : wpAny M A t Q E s) (hQ : ∀ a s, Q a s → Q' a s) : wpAny M A t Q' E s := wpAny_mono h hQ fun _ _ x => x
end L2

namespace L2
open PySem PySem.Spec PyProof.Rows
section
variable {X : Cx}

/-! ### names and constants -/
def tVar (i : Nat) : TE := fun σ H Q => ∃ v, σ[i]? = some (some v) ∧ Q v H
def tC (v : V) : TE := fun _ H Q => Q v H
theorem pe_var {i : Nat} {x : Str} {pos : Pos} (hN : X.N[i]? = some x) (hv : Vis X.env.scope x) (hd : (x == ("__debug__" : Str)) = false := by decide) (hcd : (x == ("__classdict__" : Str)) = false := by decide) : PE X (.Name x pos) (tVar i) := by
  intro pins s σ H Q I h
  obtain ⟨v, e, h⟩ := h
  obtain ⟨m, hn, hl⟩ := I.loc
  obtain ⟨u, r, l⟩ := hl i x v hN e hv
  have fin : EP X pins σ Q u s := ⟨v, H, I, r, h⟩
  rcases l with ⟨hk, hm⟩ | ⟨hk, c, hc, hcell⟩
  · exact wpAny_Name (wpAny_loadName_local I.ok.kind hk hn hm fin) hd
  · rcases hk with hk | hk
    · exact wpAny_Name (wpAny_loadName_cell I.ok.kind hk hc hcell fin) hd
    · exact wpAny_Name (wpAny_loadName_free I.ok.kind hk hc hcell fin hcd) hd
theorem pe_int {i j pos} : PE X (.Constant (.int i) j pos) (tC (.int i)) := fun _ _ _ H _ I h => wpAny_Constant_int ⟨.int i, H, I.tok _, ⟨_, rfl⟩, h⟩
theorem pe_bl {b j pos} : PE X (.Constant (.bool b) j pos) (tC (.bl b)) := fun _ _ _ H _ I h => Constant_bool ⟨.bl b, H, I, rfl, h⟩
theorem pe_non {j pos} : PE X (.Constant .none j pos) (tC .non) := fun _ _ _ H _ I h => Constant_none ⟨.non, H, I, rfl, h⟩
theorem pe_str {x j pos} : PE X (.Constant (.str x) j pos) (tC (.str x)) := fun _ _ _ H _ I h => Calls.Constant_str ⟨.str x, H, I.tok _, ⟨_, rfl⟩, h⟩

/-- a global name of the def -/
def Gl (X : Cx) (x : Str) : Prop := X.env.kindOf x = some .globalImplicit
theorem ld_glob {E : Value → Shared → Prop} {pins : List (Addr × Obj)} {s : Shared} {σ : St} {H : Hp} {x : Str} {u : Value} {pos : Pos} {Q : Value → Shared → Prop} (I : Inv X pins σ H s) (hg : Gl X x) (hm : X.mg x = some u) (h : Q u s)
    (hd : (x == ("__debug__" : Str)) = false := by decide) : wpAny (model X.prog X.w) X.A (eval (.Name x pos) X.env) Q E s :=
  Calls.Name_function_global I.ok.kind hg (Calls.loadGlobal_global (by rw [I.ok.glob]; exact I.mod.glob.keeps I.bk) hm h) hd
theorem ld_blt {E : Value → Shared → Prop} {pins : List (Addr × Obj)} {s : Shared} {σ : St} {H : Hp} {x : Str} {u : Value} {pos : Pos} {Q : Value → Shared → Prop} (I : Inv X pins σ H s) (hg : Gl X x) (hm : X.mg x = none) (hv : bootBuiltins x = some u) (h : Q u s)
    (hn : x ≠ "__name__" := by decide) (hd : (x == ("__debug__" : Str)) = false := by decide) : wpAny (model X.prog X.w) X.A (eval (.Name x pos) X.env) Q E s := by
  obtain ⟨mb, h1, h2⟩ := I.mod.blt
  exact Calls.Name_function_global I.ok.kind hg (Calls.loadGlobal_builtin (by rw [I.ok.glob]; exact I.mod.glob.keeps I.bk) hm (by rw [I.ok.blt]; exact h1.keeps I.bk) ((h2 x hn).trans hv) h) hd
/-- a module's constant, a class, a function, as a value -/
theorem pe_glob {x : Str} {v : V} {u : Value} {pos : Pos} (hg : Gl X x) (hm : X.mg x = some u) (r : RelV v u) (hd : (x == ("__debug__" : Str)) = false := by decide) : PE X (.Name x pos) (tC v) :=
  fun _ _ _ H _ I h => ld_glob I hg hm ⟨v, H, I, r, h⟩ hd
theorem pe_bltn {x : Str} {v : V} {u : Value} {pos : Pos} (hg : Gl X x) (hm : X.mg x = none) (hv : bootBuiltins x = some u) (r : RelV v u) (hn : x ≠ "__name__" := by decide) (hd : (x == ("__debug__" : Str)) = false := by decide) : PE X (.Name x pos) (tC v) :=
  fun _ _ _ H _ I h => ld_blt I hg hm hv ⟨v, H, I, r, h⟩ hn hd

/-! ### arithmetic -/
variable {a b : Expr} {ta tb : TE} {pos : Pos}
/-! ### comparisons -/
/-- a comparison as a value, as a test -/
def tB (t : TE) : TT := fun σ H Q => t σ H fun x H1 => ∃ c, x = .bl c ∧ Q c H1
/-- an expression whose value is a bool, as a test -/
theorem pt_val {e : Expr} {t : TE} (h : PE X e t) (he : ∀ whole, isTrue e X.env whole = (do let v ← whole; standAt e.pos; holding [v] (truthy v)) := by intro _; rfl) : PT X e (tB t) := by
  intro pins s σ H Q I hw
  refine isTrue_plain (thn (h pins s σ H _ I hw) fun v s1 ⟨x, H1, I1, r1, q1⟩ => ?_) (he _)
  obtain ⟨d, rfl, q⟩ := q1
  cases r1
  exact wpAny_truthy_bool ⟨H1, I1, q⟩

/-! ### and, or, not -/
variable {tA tB' : TT} {rest : List Expr}
def tAnd (t u : TT) : TT := fun σ H Q => t σ H fun c H1 => if c = true then u σ H1 Q else Q false H1
def tOr (t u : TT) : TT := fun σ H Q => t σ H fun c H1 => if c = true then Q true H1 else u σ H1 Q
def tNot (t : TT) : TT := fun σ H Q => t σ H fun c H1 => Q (!c) H1
theorem pw_and1 (ha : PT X a tA) : PW X (.BoolOp .And [a] pos) tA := by
  intro wh pins s σ H Q I h
  refine isTrue_and (thn (ha pins s σ H Q I h) fun c s1 e => ?_)
  cases c with
  | true => exact isTrue_and_nil e
  | false => exact e
theorem pw_or1 (ha : PT X a tA) : PW X (.BoolOp .Or [a] pos) tA := by
  intro wh pins s σ H Q I h
  refine isTrue_or (thn (ha pins s σ H Q I h) fun c s1 e => ?_)
  cases c with
  | false => exact isTrue_or_nil e
  | true => exact e
theorem pw_and (ha : PT X a tA) (hb : PW X (.BoolOp .And (b :: rest) pos) tB') : PW X (.BoolOp .And (a :: b :: rest) pos) (tAnd tA tB') := by
  intro wh pins s σ H Q I h
  refine isTrue_and (thn (ha pins s σ H _ I h) fun c s1 ⟨H1, I1, q1⟩ => ?_)
  cases c with
  | true => exact hb wh pins s1 σ H1 Q I1 q1
  | false => exact ⟨H1, I1, q1⟩
theorem pw_or (ha : PT X a tA) (hb : PW X (.BoolOp .Or (b :: rest) pos) tB') : PW X (.BoolOp .Or (a :: b :: rest) pos) (tOr tA tB') := by
  intro wh pins s σ H Q I h
  refine isTrue_or (thn (ha pins s σ H _ I h) fun c s1 ⟨H1, I1, q1⟩ => ?_)
  cases c with
  | true => exact ⟨H1, I1, q1⟩
  | false => exact hb wh pins s1 σ H1 Q I1 q1
theorem pt_not (ha : PT X a tA) : PT X (.UnaryOp .Not a pos) (tNot tA) := by
  intro pins s σ H Q I h
  exact isTrue_not (ha pins s σ H (fun c H1 => Q (!c) H1) I h)
/-- .. as values (bools) -/
def tAndV (ta tb : TE) : TE := fun σ H Q => ta σ H fun x H1 => ∃ c, x = .bl c ∧ if c = true then tb σ H1 Q else Q (.bl false) H1
def tNotV (ta : TE) : TE := fun σ H Q => ta σ H fun x H1 => ∃ c, x = .bl c ∧ Q (.bl (!c)) H1
theorem pe_one {op} {t : TE} (h : PE X a t) : PE X (.BoolOp op [a] pos) t := fun pins s σ H Q I hw => BoolOp_one (h pins s σ H Q I hw)
theorem pe_and (ha : PE X a ta) (hb : PE X (.BoolOp .And (b :: rest) pos) tb) : PE X (.BoolOp .And (a :: b :: rest) pos) (tAndV ta tb) := by
  intro pins s σ H Q I h
  refine BoolOp_and (thn (ha pins s σ H _ I h) fun v s1 ⟨x, H1, I1, r1, q1⟩ => ?_)
  obtain ⟨c, rfl, q1⟩ := q1
  cases r1
  refine wpAny_truthy_bool ?_
  cases c with
  | true => exact hb pins s1 σ H1 Q I1 q1
  | false => exact ⟨.bl false, H1, I1, rfl, q1⟩
theorem pe_not (ha : PE X a ta) : PE X (.UnaryOp .Not a pos) (tNotV ta) := by
  intro pins s σ H Q I h
  refine UnaryOp_ (thn (ha pins s σ H _ I h) fun v s1 ⟨x, H1, I1, r1, q1⟩ => ?_)
  obtain ⟨c, rfl, q1⟩ := q1
  cases r1
  exact not_of (wpAny_truthy_bool ⟨.bl (!c), H1, I1, rfl, q1⟩)
end
end L2

namespace L2
open PySem PySem.Spec PyProof.Rows

/-! ### a list, a tuple that is read: tracked, frozen, or an object of the module -/
def SqL (K : PySem.W.Frag) (H : Hp) (a : Addr) (xs : List V) : Prop :=
  Rd H a (.lst xs) ∨
    ∃ (o : Obj) (its : Array Value) (n : Nat), K.lookup a = some o ∧ o.cls = .type "list" ∧ o.dict = none ∧ o.data = .seq its n ∧ its.size ≤ sizeLine ∧ Vals xs its.toList
def SqT (K : PySem.W.Frag) (H : Hp) (a : Addr) (xs : List V) : Prop :=
  Rd H a (.tup xs) ∨
    ∃ (o : Obj) (its : Array Value) (n : Nat), K.lookup a = some o ∧ o.cls = .type "tuple" ∧ o.data = .seq its n ∧ its.size ≤ sizeLine ∧ Vals xs its.toList
def absV : Value → Option V
  | .none => some .non
  | .bool b => some (.bl b)
  | .int i _ => some (.int i)
  | .str x _ => some (.str x)
  | .bytes b _ => some (.byt b)
  | .float b _ => some (.flt b)
  | .ref a => some (.ref a)
  | .type n => some (.ty n)
  | _ => none
theorem RelV.abs {x : V} {u : Value} (r : RelV x u) : absV u = some x := by
  cases x with
  | non => cases r; rfl
  | bl _ => cases r; rfl
  | int _ => obtain ⟨t, rfl⟩ := r; rfl
  | str _ => obtain ⟨t, rfl⟩ := r; rfl
  | byt _ => obtain ⟨t, rfl⟩ := r; rfl
  | flt _ => obtain ⟨t, rfl⟩ := r; rfl
  | ref _ => cases r; rfl
  | ty _ => cases r; rfl
theorem RelV.inj {x y : V} {u : Value} (r : RelV x u) (q : RelV y u) : x = y := Option.some.inj (r.abs.symm.trans q.abs)
theorem Vals.inj : ∀ {xs ys : List V} {us : List Value}, Vals xs us → Vals ys us → xs = ys
  | _, _, _, .nil, .nil => rfl
  | _, _, _, .cons r t, .cons r' t' => by rw [r.inj r', Vals.inj t t']
section
variable {X : Cx} {pins : List (Addr × Obj)} {σ : St} {H : Hp} {s : Shared} {a : Addr} {xs ys : List V}
theorem SqL.of {K : PySem.W.Frag} (h : H a = some (.lst xs)) : SqL K H a xs := .inl (.inl h)
theorem SqT.of {K : PySem.W.Frag} (h : H a = some (.tup xs)) : SqT K H a xs := .inl (.inl h)
theorem Inv.list (I : Inv X pins σ H s) (h : SqL X.K H a xs) : ∃ its : List Value, Vals xs its ∧ PlainL s.heap a its.toArray ∧ xs.length ≤ sizeLine := by
  rcases h with h | ⟨o, its, n, hk, hc, hd, hs, hz, r⟩
  · obtain ⟨z, its, n, r, e⟩ := h.ok I.hok
    exact ⟨its, r, ⟨_, n, e, rfl, rfl, rfl⟩, z⟩
  · refine ⟨its.toList, r, ⟨o, n, I.kIn a o hk, hc, hd, by simpa using hs⟩, ?_⟩
    have e := r.length
    simp only [Array.length_toList] at e
    omega
theorem Inv.tuple (I : Inv X pins σ H s) (h : SqT X.K H a xs) : ∃ its : List Value, Vals xs its ∧ IsTup s.heap a its.toArray ∧ xs.length ≤ sizeLine := by
  rcases h with h | ⟨o, its, n, hk, hc, hs, hz, r⟩
  · obtain ⟨z, its, r, p⟩ := h.ok I.hok
    exact ⟨its, r, p, z⟩
  · refine ⟨its.toList, r, ⟨o, I.kIn a o hk, hc, n, by simpa using hs⟩, ?_⟩
    have e := r.length
    simp only [Array.length_toList] at e
    omega
theorem Inv.list_inj (I : Inv X pins σ H s) (h : SqL X.K H a xs) (h' : SqL X.K H a ys) : xs = ys := by
  obtain ⟨its, r, ⟨o, n, e, _, _, d⟩, _⟩ := I.list h
  obtain ⟨its', r', ⟨o', n', e', _, _, d'⟩, _⟩ := I.list h'
  rw [e] at e'; cases e'
  rw [d] at d'
  injection d' with d1 _
  have : its = its' := by simpa using congrArg Array.toList d1
  subst this
  exact r.inj r'
theorem Inv.tuple_inj (I : Inv X pins σ H s) (h : SqT X.K H a xs) (h' : SqT X.K H a ys) : xs = ys := by
  obtain ⟨its, r, ⟨o, e, _, n, d⟩, _⟩ := I.tuple h
  obtain ⟨its', r', ⟨o', e', _, n', d'⟩, _⟩ := I.tuple h'
  rw [e] at e'; cases e'
  rw [d] at d'
  injection d' with d1 _
  have : its = its' := by simpa using congrArg Array.toList d1
  subst this
  exact r.inj r'
end

/-! ### another wish about exceptions -/
abbrev Cx.wish (X : Cx) (E : Value → Shared → Prop) : Cx := { X with xe := E }
/-- no exception leaves -/
abbrev Cx.nox (X : Cx) : Cx := X.wish fun _ _ => False
theorem Cx.Ok.wish {X : Cx} (ok : X.Ok) (E : Value → Shared → Prop) : (X.wish E).Ok :=
  ⟨ok.mod, ok.kind, ok.glob, ok.blt, ok.above, ok.inj, ok.has, ok.cab, ok.hd, ok.frames, ok.stk, ok.exf, ok.bs, ok.bsz, ok.noex, ok.exfs, ok.funs, ok.frf⟩
theorem Cx.Ok.unwish {X : Cx} {E : Value → Shared → Prop} (ok : (X.wish E).Ok) : X.Ok :=
  ⟨ok.mod, ok.kind, ok.glob, ok.blt, ok.above, ok.inj, ok.has, ok.cab, ok.hd, ok.frames, ok.stk, ok.exf, ok.bs, ok.bsz, ok.noex, ok.exfs, ok.funs, ok.frf⟩
section
variable {X : Cx} {pins : List (Addr × Obj)} {σ : St} {H : Hp} {s : Shared} {E : Value → Shared → Prop}
theorem Inv.wish (I : Inv X pins σ H s) (E : Value → Shared → Prop) : Inv (X.wish E) pins σ H s := ⟨I.ok.wish E, I.os, I.bare, I.base, I.loc, I.cell, I.free, I.freeC, I.pin, I.hok, I.len⟩
theorem Inv.unwish (I : Inv (X.wish E) pins σ H s) : Inv X pins σ H s := ⟨I.ok.unwish, I.os, I.bare, I.base, I.loc, I.cell, I.free, I.freeC, I.pin, I.hok, I.len⟩
theorem SP.unwish {D : Ends} {f : Flow} {s' : Shared} (h : SP (X.wish E) pins D f s') : SP X pins D f s' := by
  cases f with
  | next => obtain ⟨σ', H', I, q⟩ := h; exact ⟨σ', H', I.unwish, q⟩
  | brk => obtain ⟨σ', H', I, q⟩ := h; exact ⟨σ', H', I.unwish, q⟩
  | cont => obtain ⟨σ', H', I, q⟩ := h; exact ⟨σ', H', I.unwish, q⟩
  | ret u => obtain ⟨v, σ', H', I, r, q⟩ := h; exact ⟨v, σ', H', I.unwish, r, q⟩
theorem PE.nox {e : Expr} {t : TE} (h : PE X.nox e t) : PE X e t := fun pins s σ H Q I hw =>
  wpAny_mono (h pins s σ H Q (I.wish _) hw) (fun _ _ ⟨v, H', I', r, q⟩ => ⟨v, H', I'.unwish, r, q⟩) fun _ _ z => False.elim z
theorem PT.nox {e : Expr} {t : TT} (h : PT X.nox e t) : PT X e t := fun pins s σ H Q I hw =>
  wpAny_mono (h pins s σ H Q (I.wish _) hw) (fun _ _ ⟨H', I', q⟩ => ⟨H', I'.unwish, q⟩) fun _ _ z => False.elim z
theorem PSs.nox {st : List Stmt} {t : TS} (h : PSs X.nox st t) : PSs X st t := fun pins s σ H D I hw =>
  wpAny_mono (h pins s σ H D (I.wish _) hw) (fun _ _ q => q.unwish) fun _ _ z => False.elim z
end

/-! ### blocks and small statements -/
section
variable {X : Cx} {st : Stmt} {rest : List Stmt} {t u : TS} {e : Expr} {te : TE} {pos : Pos}
def tNext : TS := fun D σ H => D.nx σ H
def tSeq (t u : TS) : TS := fun D σ H => t { D with nx := u D } σ H
theorem pss_nil : PSs X [] tNext := fun _ _ σ H _ I h => wpAny_execs_nil ⟨σ, H, I, h⟩
theorem pss_cons (h1 : PS X st t) (h2 : PSs X rest u) : PSs X (st :: rest) (tSeq t u) := by
  intro pins s σ H D I h
  refine wpAny_execs_cons (thn (h1 pins s σ H { D with nx := u D } I h) fun f s1 q => ?_)
  cases f with
  | next =>
    obtain ⟨σ', H', I', q⟩ := q
    exact h2 pins s1 σ' H' D I' q
  | ret v => exact q
  | brk => exact q
  | cont => exact q
theorem pss_one (h1 : PS X st t) : PSs X [st] t := by
  intro pins s σ H D I h
  refine wpAny_execs_cons (thn (h1 pins s σ H D I h) fun f s1 q => ?_)
  cases f with
  | next => exact wpAny_execs_nil q
  | ret v => exact q
  | brk => exact q
  | cont => exact q
def tBreak : TS := fun D σ H => D.bk σ H
theorem ps_break : PS X (.Break pos) tBreak := fun _ _ σ H _ I h => wpAny_Break ⟨σ, H, I, h⟩
/-- in a def's body nothing is shown -/
theorem Inv.quiet {pins : List (Addr × Obj)} {σ : St} {H : Hp} {s : Shared} (I : Inv X pins σ H s) : interactive X.env = false := by simp [interactive, I.ok.kind]
/-- an expression whose value is dropped -/
def tDrop (te : TE) : TS := fun D σ H => te σ H fun _ H1 => D.nx σ H1
theorem ps_expr (he : PE X e te) (hs : swapsWith e none pos.line X.env = pure false := by rfl) : PS X (.Expr e pos) (tDrop te) := by
  intro pins s σ H D I h
  exact wpAny_Expr_any (thn (he pins s σ H _ I h) fun v s1 ⟨x, H1, I1, r1, q1⟩ => ⟨σ, H1, I1, q1⟩) I.quiet hs
def tRet (te : TE) : TS := fun D σ H => te σ H D.rt
theorem ps_ret (he : PE X e te) : PS X (.Return (some e) pos) (tRet te) := by
  intro pins s σ H D I h
  exact wpAny_Return_some (thn (he pins s σ H _ I h) fun v s1 ⟨x, H1, I1, r1, q1⟩ => ⟨x, σ, H1, I1, r1, q1⟩)
def tIfS (c : TT) (t u : TS) : TS := fun D σ H => c σ H fun b H1 => if b = true then t D σ H1 else u D σ H1
theorem ps_if {c : Expr} {a b : List Stmt} {tc : TT} (hc : PT X c tc) (ha : PSs X a t) (hb : PSs X b u) : PS X (.If c a b pos) (tIfS tc t u) := by
  intro pins s σ H D I h
  refine wpAny_If (thn (hc pins s σ H _ I h) fun d s1 ⟨H1, I1, q1⟩ => ?_)
  cases d with
  | true => exact ha pins s1 σ H1 D I1 q1
  | false => exact hb pins s1 σ H1 D I1 q1
/-- code that the proof never comes to -/
def tNever : TS := fun _ _ _ => False
theorem pss_never {sts : List Stmt} : PSs X sts tNever := fun _ _ _ _ _ _ h => h.elim
end

/-! ### targets -/
abbrev TG := V → St → Hp → (St → Hp → Prop) → Prop
abbrev TGs := List V → St → Hp → (St → Hp → Prop) → Prop
def PG (X : Cx) (target : Expr) (t : TG) : Prop :=
  ∀ (pins : List (Addr × Obj)) (s : Shared) (σ : St) (H : Hp) (v : V) (u : Value) (Q : St → Hp → Prop), Inv X pins σ H s → RelV v u → t v σ H Q →
    wpAny (model X.prog X.w) X.A (assign target X.env u) (fun _ s' => ∃ σ' H', Inv X pins σ' H' s' ∧ Q σ' H') X.xe s
/-- several targets, one after another -/
def PGs (X : Cx) (ts : List Expr) (t : TGs) : Prop :=
  ∀ (pins : List (Addr × Obj)) (s : Shared) (σ : St) (H : Hp) (vs : List V) (us : List Value) (Q : St → Hp → Prop), Inv X pins σ H s → Vals vs us → t vs σ H Q →
    wpAny (model X.prog X.w) X.A (assignInOrder ((assignEach ts X.env).map (·.2)) us) (fun _ s' => ∃ σ' H', Inv X pins σ' H' s' ∧ Q σ' H') X.xe s
/-- o[i] = v, by values -/
abbrev TSet := V → V → V → Hp → (Hp → Prop) → Prop
def PSet (X : Cx) (t : TSet) : Prop :=
  ∀ (pins : List (Addr × Obj)) (s : Shared) (σ : St) (H : Hp) (o i v : V) (ov iv u : Value) (Q : Hp → Prop), Inv X pins σ H s → RelV o ov → RelV i iv → RelV v u → t o i v H Q →
    wpAny (model X.prog X.w) X.A (setItem ov iv u) (fun _ s' => ∃ H', Inv X pins σ H' s' ∧ Q H') X.xe s
/-- a op= b, by values -/
abbrev TIp := V → V → Hp → VK → Prop
def PIp (X : Cx) (op : Operator) (t : TIp) : Prop :=
  ∀ (pins : List (Addr × Obj)) (s : Shared) (σ : St) (H : Hp) (x y : V) (v u : Value) (Q : VK), Inv X pins σ H s → RelV x v → RelV y u → t x y H Q →
    wpAny (model X.prog X.w) X.A (inplaceOp op v u) (EP X pins σ Q) X.xe s
section
variable {X : Cx} {pos : Pos}
def gName (i : Nat) : TG := fun v σ H Q => Q (σ.set i (some v)) H
theorem pg_name {i : Nat} {x : Str} (hN : X.N.Nodup) (hi : X.N[i]? = some x) (hx : Loc X.env.scope x) (hf : X.fn x = true ∨ X.env.scope.names.lookup x = some .local := by first | exact .inl rfl | exact .inr rfl | assumption) : PG X (.Name x pos) (gName i) := by
  intro pins s σ H v u Q I r h
  exact wpAny_assign_Name (store_ok I hN hi hx r (fun s' I' => ⟨_, H, I', h⟩) hf)
def gNil : TGs := fun vs σ H Q => vs = [] ∧ Q σ H
def gCons (t : TG) (u : TGs) : TGs := fun vs σ H Q => ∃ v r, vs = v :: r ∧ t v σ H fun σ' H' => u r σ' H' Q
theorem pgs_nil : PGs X [] gNil := by
  intro pins s σ H vs us Q I r h
  obtain ⟨e, h⟩ := h
  subst e
  cases r
  exact assignInOrder_nil ⟨σ, H, I, h⟩
theorem pgs_cons {e : Expr} {es : List Expr} {t : TG} {u : TGs} (h1 : PG X e t) (h2 : PGs X es u)
    (hs : (assignEach (e :: es) X.env).map (·.2) = assign e X.env :: (assignEach es X.env).map (·.2) := by rfl) : PGs X (e :: es) (gCons t u) := by
  intro pins s σ H vs us Q I r h
  obtain ⟨v, vr, e1, h⟩ := h
  subst e1
  cases r with
  | cons r rr =>
    rw [hs]
    refine assignInOrder_cons (thn (h1 pins s σ H _ _ _ I r h) fun _ s1 ⟨σ1, H1, I1, q1⟩ => ?_)
    exact h2 pins s1 σ1 H1 _ _ Q I1 rr q1
/-- (a, b, ..) = a tuple of that length -/
def gTup (K : PySem.W.Frag) (n : Nat) (t : TGs) : TG := fun v σ H Q => ∃ a xs, v = .ref a ∧ SqT K H a xs ∧ xs.length = n ∧ t xs σ H Q
theorem pg_tup {es : List Expr} {k : Nat} {t : TGs} {n : Nat} (hc : X.calm = true) (h : PGs X es t)
    (hn : (assignEach es X.env).length = n := by rfl) (hst : (assignEach es X.env).findIdx? (·.1) = none := by rfl) : PG X (.Tuple es k pos) (gTup X.K n t) := by
  intro pins s σ H v u Q I r hw
  obtain ⟨a, xs, e1, hq, hl, hw⟩ := hw
  subst e1
  cases r
  obtain ⟨its, rv, ht, hz⟩ := I.tuple hq
  refine assign_Tuple_tuple (I.ok.hd hc) ht (by simp [hn, ← hl, rv.length]) hst fun h' hx => ?_
  have I1 : Inv X pins σ H { s with heap := h' } := I.kept (t' := s.toks) fun b o e => hx b o (Nat.ne_of_lt (Heap.lt_size e)) e
  exact h pins _ σ H xs _ Q I1 (by simpa using rv) hw
/-- o[i] = .. -/
def gSub (to ti : TE) (t : TSet) : TG := fun v σ H Q => to σ H fun o H1 => ti σ H1 fun i H2 => t o i v H2 fun H3 => Q σ H3
theorem pg_sub {o i : Expr} {to ti : TE} {t : TSet} (ho : PE X o to) (hi : PE X i ti) (hs : PSet X t)
    (ha : ∀ v, assign (.Subscript o i pos) X.env v = (do
      let ov ← holding [v] (eval o X.env)
      let iv ← holding [v, ov] (eval i X.env)
      standAt pos
      holding [v, ov, iv] (setItem ov iv v)
      release [v, ov, iv] []) := by intro _; rfl) : PG X (.Subscript o i pos) (gSub to ti t) := by
  intro pins s σ H v u Q I r h
  rw [ha]
  refine wpAny_bind (wpAny_holding (thn (ho pins s σ H _ I h) fun ov s1 ⟨x, H1, I1, r1, q1⟩ => ?_))
  refine wpAny_bind (wpAny_holding (thn (hi pins s1 σ H1 _ I1 q1) fun iv s2 ⟨y, H2, I2, r2, q2⟩ => ?_))
  refine wpAny_bind (wpAny_standAt (wpAny_bind (wpAny_holding (thn (hs pins s2 σ H2 x y v ov iv u _ I2 r1 r2 r q2) fun _ s3 ⟨H3, I3, q3⟩ => ?_))))
  exact wpAny_release ⟨σ, H3, I3, q3⟩
/-- target = value -/
def tAsg (te : TE) (g : TG) : TS := fun D σ H => te σ H fun x H1 => g x σ H1 D.nx
theorem ps_asg {tg e : Expr} {te : TE} {g : TG} (he : PE X e te) (hg : PG X tg g) (hs : swapsWithSole [tg] e pos.line X.env = pure false := by rfl) (hw : swappedStores [tg] e X.env = pure none := by rfl)
    (h1 : (assignEach [tg] X.env).map (·.2) = [assign tg X.env] := by rfl) : PS X (.Assign [tg] e pos) (tAsg te g) := by
  intro pins s σ H D I h
  refine wpAny_Assign_stores (thn (he pins s σ H _ I h) fun v s1 ⟨x, H1, I1, r1, q1⟩ => ?_) hs hw
  rw [h1]
  exact thn (hg pins s1 σ H1 x v _ I1 r1 q1) fun _ s2 q => q
/-- name = value -/
theorem ps_set {i : Nat} {x : Str} {e : Expr} {te : TE} {pos' : Pos} (hN : X.N.Nodup) (hi : X.N[i]? = some x) (hx : Loc X.env.scope x) (he : PE X e te) (hs : swapsWith e (some (.Name x pos')) pos.line X.env = pure false := by rfl) (hf : X.fn x = true ∨ X.env.scope.names.lookup x = some .local := by first | exact .inl rfl | exact .inr rfl | assumption) :
    PS X (.Assign [.Name x pos'] e pos) (tAsg te (gName i)) := by
  intro pins s σ H D I h
  refine wpAny_Assign_Name (thn (he pins s σ H _ I h) fun v s1 ⟨y, H1, I1, r1, q1⟩ => ?_) hs
  exact store_ok I1 hN hi hx r1 (fun s2 I2 => ⟨_, H1, I2, q1⟩) hf
/-- a, b = x, y with plain local names: stored from the right; the pair itself is not tracked (the opening rows as in PyProof/Rows/TupAssign.lean:23) -/
def tPar (i j : Nat) (ta : TA) : TS := fun D σ H => ta σ H fun vs H1 => ∃ v w, vs = [v, w] ∧ D.nx ((σ.set i (some v)).set j (some w)) H1
theorem ps_par {i j : Nat} {x y : Str} {a b : Expr} {ta : TA} {px py pt : Pos} {kt k2 pt2} (hc : X.calm = true) (hN : X.N.Nodup) (hi : X.N[i]? = some x) (hj : X.N[j]? = some y) (hij : i ≠ j)
    (hx : X.env.scope.names.lookup x = some .local) (hy : X.env.scope.names.lookup y = some .local) (ha : PA X [a, b] ta)
    (hw : swappedStores [.Tuple [.Name x px, .Name y py] kt pt] (.Tuple [a, b] k2 pt2) X.env = pure (some [x, y]))
    (hs : swapsWithSole [.Tuple [.Name x px, .Name y py] kt pt] (.Tuple [a, b] k2 pt2) pos.line X.env = pure false := by rfl) :
    PS X (.Assign [.Tuple [.Name x px, .Name y py] kt pt] (.Tuple [a, b] k2 pt2) pos) (tPar i j ta) := by
  intro pins s σ H D I h
  rw [exec_Assign_arm]
  refine wpAny_bind (wpAny_standAt ?_)
  rw [hs]
  refine wpAny_bind (wpAny_pure ?_)
  rw [if_neg (by decide)]
  refine wpAny_bind (Tuple_ (thn (ha _ pins s σ H _ I h) fun us s1 ⟨vs, H1, I1, r1, q1⟩ => ?_))
  obtain ⟨v, w, e1, q1⟩ := q1
  subst e1
  obtain ⟨u1, u2, rfl, rv, rw'⟩ : ∃ u1 u2, us = [u1, u2] ∧ RelV v u1 ∧ RelV w u2 := by
    cases r1 with
    | cons p q =>
      cases q with
      | cons p' q' =>
        cases q'
        exact ⟨_, _, rfl, p, p'⟩
  refine wpAny_newObj_type ?_ (by show 2 ≤ sizeLine; decide)
  have I2 : Inv X pins σ H1 { s1 with heap := s1.heap.push { cls := .type "tuple", data := .seq [u1, u2].toArray } } := I1.kept (t' := s1.toks) fun b o e => Heap.get?_push_of_some _ e
  rw [hw]
  refine wpAny_bind (wpAny_pure ?_)
  show wpAny (model X.prog X.w) X.A (do rule "assign.swapped-stores"; let items ← unpackItems (.ref s1.heap.objs.size) 2 none; assignInOrder [fun v => bindName X.env y v, fun v => bindName X.env x v] items.reverse; pure Flow.next) _ _ _
  refine wpAny_bind (wpAny_rule (wpAny_bind (unpackItems_tuple (items := #[u1, u2]) (I.ok.hd hc) (IsTup.new s1.heap _) fun h' hx' => ?_)))
  have I3 := I2.kept (h' := h') (t' := s1.toks) fun b o e => hx' b o (Nat.ne_of_lt (Heap.lt_size e)) e
  show wpAny _ _ (assignInOrder [fun v => bindName X.env y v, fun v => bindName X.env x v] [u2, u1] >>= fun _ => pure Flow.next) _ _ _
  refine wpAny_bind (assignInOrder_cons (wpAny_bindName (store_ok I3 hN hj (.inl hy) rw' (fun s2 I4 => ?_) (.inr hy))))
  refine assignInOrder_cons (wpAny_bindName (store_ok I4 hN hi (.inl hx) rv (fun s3 I5 => assignInOrder_nil (wpAny_pure ?_)) (.inr hx)))
  rw [List.set_comm _ _ (Ne.symm hij)] at I5
  exact ⟨_, H1, I5, q1⟩
/-- name op= e -/
def tAug (i : Nat) (te : TE) (ti : TIp) : TS := fun D σ H => ∃ x, σ[i]? = some (some x) ∧ te σ H fun y H1 => ti x y H1 fun z H2 => D.nx (σ.set i (some z)) H2
theorem ps_aug {i : Nat} {x : Str} {e : Expr} {te : TE} {op : Operator} {ti : TIp} {pos' : Pos} (hN : X.N.Nodup) (hi : X.N[i]? = some x) (hx : Loc X.env.scope x) (he : PE X e te) (ho : PIp X op ti) (hf : X.fn x = true ∨ X.env.scope.names.lookup x = some .local := by first | exact .inl rfl | exact .inr rfl | assumption) :
    PS X (.AugAssign (.Name x pos') op e pos) (tAug i te ti) := by
  intro pins s σ H D I h
  obtain ⟨v, e1, h⟩ := h
  obtain ⟨m, hn, hl⟩ := I.loc
  have vis : Vis X.env.scope x := by rcases hx with k | k; exact .inl k; exact .inr (.inl k)
  obtain ⟨u, r, l⟩ := hl i x v hi e1 vis
  refine wpAny_AugAssign_Name ?_
  have go : wpAny (model X.prog X.w) X.A (eval e X.env) (fun w s₂ => wpAny (model X.prog X.w) X.A (inplaceOp op u w) (fun r s₃ => wpAny (model X.prog X.w) X.A (storeName X.env x r) (fun _ => SP X pins D .next) X.xe s₃) X.xe s₂) X.xe s := by
    refine thn (he pins s σ H _ I h) fun w s1 ⟨y, H1, I1, r1, q1⟩ => ?_
    refine thn (ho pins s1 σ H1 v y u w _ I1 r r1 q1) fun z s2 ⟨zv, H2, I2, r2, q2⟩ => ?_
    exact store_ok I2 hN hi hx r2 (fun s3 I3 => ⟨_, H2, I3, q2⟩) hf
  rcases l with ⟨hk, hm⟩ | ⟨hk, c, hc, hcell⟩
  · exact wpAny_loadName_local I.ok.kind hk hn hm go
  · rcases hk with hk | hk
    · exact wpAny_loadName_cell I.ok.kind hk hc hcell go
    · rcases hx with k | k
      · have : X.env.scope.names.lookup x = some .free := hk
        rw [k] at this; cases this
      · have : X.env.scope.names.lookup x = some .free := hk
        rw [k] at this; cases this
/-- ints -/
def ipI (f : Int → Int → Int) : TIp := fun x y H Q => ∃ i j, x = .int i ∧ y = .int j ∧ Q (.int (f i j)) H
theorem ip_add : PIp X .Add (ipI fun i j => i + j) := by
  intro pins s σ H x y v u Q I r1 r2 h
  obtain ⟨i, j, e1, e2, q⟩ := h
  subst e1; subst e2
  obtain ⟨t, rfl⟩ := r1
  obtain ⟨t', rfl⟩ := r2
  exact iadd_int ⟨.int _, H, I.tok _, ⟨_, rfl⟩, q⟩
theorem ip_sub : PIp X .Sub (ipI fun i j => i - j) := by
  intro pins s σ H x y v u Q I r1 r2 h
  obtain ⟨i, j, e1, e2, q⟩ := h
  subst e1; subst e2
  obtain ⟨t, rfl⟩ := r1
  obtain ⟨t', rfl⟩ := r2
  exact isub_int ⟨.int _, H, I.tok _, ⟨_, rfl⟩, q⟩
end

/-! ### while -/
section
variable {X : Cx} {pos : Pos}
/-- the invariant W with its measure -/
def tWhile (c : TT) (tb : TS) : TS := fun D σ H => ∃ W : Nat → St → Hp → Prop, (∃ m, W m σ H) ∧ ∀ m σ H, W m σ H →
  c σ H fun b H1 => if b = true then ∃ N : St → Hp → Prop, (∀ σ' H', N σ' H' → ∃ m', m' < m ∧ W m' σ' H') ∧ tb { D with nx := N, ct := N, bk := D.nx } σ H1 else D.nx σ H1
theorem ps_while {c : Expr} {body : List Stmt} {tc : TT} {tb : TS} (hp : PassesOwn (model X.prog X.w) X.A X.env X.xe) (hc : PT X c tc) (hb : PSs X body tb) : PS X (.While c body [] pos) (tWhile tc tb) := by
  intro pins s σ H D I h
  obtain ⟨W, ⟨m0, w0⟩, turn⟩ := h
  refine wpAny_While (codeAny_whileLoop (fun n s' => ∃ σ' H', Inv X pins σ' H' s' ∧ W n σ' H') ?_ m0 ⟨σ, H, I, w0⟩)
  rintro n s1 ⟨σ1, H1, I1, w1⟩
  refine wpAny_passesOwn hp (thn (hc pins s1 σ1 H1 _ I1 (turn n σ1 H1 w1)) fun b s2 ⟨H2, I2, q2⟩ => ?_)
  cases b with
  | true =>
    obtain ⟨N, hN, q2⟩ := q2
    rw [if_pos rfl]
    refine wpAny_passesOwn hp (thn (hb pins s2 σ1 H2 _ I2 q2) fun f s3 q3 => ?_)
    cases f with
    | next =>
      obtain ⟨σ3, H3, I3, n3⟩ := q3
      obtain ⟨m', hm, w3⟩ := hN σ3 H3 n3
      exact ⟨m', hm, σ3, H3, I3, w3⟩
    | cont =>
      obtain ⟨σ3, H3, I3, n3⟩ := q3
      obtain ⟨m', hm, w3⟩ := hN σ3 H3 n3
      exact ⟨m', hm, σ3, H3, I3, w3⟩
    | brk => exact q3
    | ret v => exact q3
  | false =>
    rw [if_neg Bool.false_ne_true]
    exact wpAny_execs_nil ⟨σ1, H2, I2, q2⟩
end

/-! ### what a loop or a comprehension walks -/
/-- at turn i: it yields x (the heap may grow), or it stops -/
structure It where
  go : Nat → Hp → Prop
  yld : Nat → Hp → V → Hp → Prop
  stop : Nat → Hp → Prop
/-- the iterator's own objects may turn: they are not the frame's, not pinned, younger than the entry (or a comprehension's own) -/
def FpOk (X : Cx) (pins : List (Addr × Obj)) (H : Hp) (b : Addr) : Prop :=
  H b = none ∧ b ≠ X.env.locals ∧ b ∉ X.fs ∧ (b ∈ X.ex ∨ X.s₀.heap.objs.size ≤ b) ∧ (∀ x c, X.env.cells.lookup x = some c → c ≠ b) ∧ ∀ p ∈ X.pn ++ pins, p.1 ≠ b
theorem Inv.fpOk {X : Cx} {pins : List (Addr × Obj)} {σ : St} {H H' : Hp} {s : Shared} {b : Addr} (I : Inv X pins σ H s) (hb : s.heap.objs.size ≤ b) (hn : H' b = none) : FpOk X pins H' b := by
  refine ⟨hn, Nat.ne_of_gt (Nat.lt_of_lt_of_le I.lt hb), I.nofs hb, .inr (Nat.le_trans I.sz hb), fun x c e z => ?_, fun p hp z => ?_⟩
  · obtain ⟨v, q⟩ := I.cell x c e
    exact absurd (Nat.lt_of_lt_of_le q.lt (by rw [z]; exact hb)) (Nat.lt_irrefl _)
  · exact absurd (Nat.lt_of_lt_of_le (Heap.lt_size (I.pin p hp).1) (by rw [z]; exact hb)) (Nat.lt_irrefl _)
structure Turn (P : Program) (w : World) (K : PySem.W.Frag) (tg : Expr) (J : It) (fp : List Addr) (it : Addr) (tn : Nat → Heap → Prop) : Prop where
  mem : it ∈ fp
  obj : ∀ i h, tn i h → ∀ b ∈ fp, ∃ o, h.get? b = some o ∧ ∀ v, o.data ≠ .cell v
  keep : ∀ i h h', tn i h → (∀ b ∈ fp, ∀ o, h.get? b = some o → h'.get? b = some o) → tn i h'
  item : ∀ (X : Cx), X.prog = P → X.w = w → X.K = K → X.calm = true → ∀ (i : Nat) (pins : List (Addr × Obj)) (s : Shared) (σ : St) (H : Hp) (E : Value → Shared → Prop), Inv X pins σ H s → (∀ b ∈ fp, FpOk X pins H b) → tn i s.heap → J.go i H →
    wpAny (model P w) X.A (pyNext (.ref it)) (fun r s1 => ∃ u, r = some u ∧
      wpAny (model P w) X.A (letOwnedTupleGo tg (.ref it) u) (fun _ s2 => ∃ x H', Inv X pins σ H' s2 ∧ RelV x u ∧ J.yld i H x H' ∧ tn (i + 1) s2.heap ∧ ∀ b ∈ fp, H' b = none) E s1) E s
  done : ∀ (X : Cx), X.prog = P → X.w = w → X.K = K → X.calm = true → ∀ (i : Nat) (pins : List (Addr × Obj)) (s : Shared) (σ : St) (H : Hp) (E : Value → Shared → Prop), Inv X pins σ H s → (∀ b ∈ fp, FpOk X pins H b) → tn i s.heap → J.stop i H →
    wpAny (model P w) X.A (pyNext (.ref it)) (fun r s1 => r = none ∧ Inv X pins σ H s1) E s
  self : ∀ (A : Around) (i : Nat) (s : Shared) (Q : Value → Shared → Prop) (E : Value → Shared → Prop), tn i s.heap → Q (.ref it) s → wpAny (model P w) A (pyIter (.ref it)) Q E s
abbrev TI := St → Hp → (It → Hp → Prop) → Prop
/-- an iterator has come -/
def PIE (X : Cx) (pins : List (Addr × Obj)) (σ : St) (tg : Expr) (R : It → Hp → Prop) (itv : Value) (s2 : Shared) : Prop :=
  ∃ (it : Addr) (fp : List Addr) (tn : Nat → Heap → Prop) (J : It) (H' : Hp), itv = .ref it ∧ Inv X pins σ H' s2 ∧ Turn X.prog X.w X.K tg J fp it tn ∧ tn 0 s2.heap ∧ (∀ b ∈ fp, FpOk X pins H' b) ∧ R J H'
def PI (X : Cx) (tg iter : Expr) (wi : TI) : Prop :=
  ∀ (pins : List (Addr × Obj)) (s : Shared) (σ : St) (H : Hp) (R : It → Hp → Prop), Inv X pins σ H s → wi σ H R →
    wpAny (model X.prog X.w) X.A (eval iter X.env) (fun v s1 => wpAny (model X.prog X.w) X.A (pyIter v) (PIE X pins σ tg R) X.xe s1) X.xe s

/-- the step ahead of the store is nothing for an iterator that keeps no tuple -/
theorem go_of {M : Model} {A : Around} {E : Value → Shared → Prop} {s : Shared} {tg : Expr} {it : Addr} {u : Value} {o : Obj} {n : String} {vs : Array Value} {Q : Unit → Shared → Prop} (ho : s.heap.get? it = some o) (hc : o.cls = .type n) (hd : o.data = .fields vs)
    (hn : ["enumerate", "zip", "dict_itemiterator", "dict_reverseitemiterator", "odict_iterator", "itertools.zip_longest", "itertools.pairwise"].contains n = false) (hQ : Q () s) : wpAny M A (letOwnedTupleGo tg (.ref it) u) Q E s := by
  unfold letOwnedTupleGo
  cases tg <;> first
    | exact wpAny_pure hQ
    | (cases u <;> first
        | exact wpAny_pure hQ
        | (refine wpAny_bind (wpAny_load ho ?_)
           rw [hc, hd]
           show wpAny M A (if (["enumerate", "zip", "dict_itemiterator", "dict_reverseitemiterator", "odict_iterator", "itertools.zip_longest", "itertools.pairwise"].contains n && vs[0]? == some (rawInt _)) = true then _ else _) Q E s
           rw [if_neg (by intro h; rw [hn, Bool.false_and] at h; cases h)]
           exact wpAny_pure hQ))

/-- the list at a, as it stands at each turn (a loop may append to it) -/
def Itl (K : PySem.W.Frag) (a : Addr) : It :=
  ⟨fun i H => ∃ xs x, SqL K H a xs ∧ xs[i]? = some x, fun i H x H' => H' = H ∧ ∀ xs, SqL K H a xs → xs[i]? = some x, fun i H => ∃ xs, SqL K H a xs ∧ xs.length ≤ i⟩
def Itt (K : PySem.W.Frag) (a : Addr) : It :=
  ⟨fun i H => ∃ xs x, SqT K H a xs ∧ xs[i]? = some x, fun i H x H' => H' = H ∧ ∀ xs, SqT K H a xs → xs[i]? = some x, fun i H => ∃ xs, SqT K H a xs ∧ xs.length ≤ i⟩
/-- lo, lo + 1, .. (n of them) -/
def Itr (lo : Int) (n : Nat) : It := ⟨fun i _ => i < n, fun i H x H' => H' = H ∧ x = .int (lo + i), fun i _ => n ≤ i⟩
theorem turn_list {P : Program} {w : World} {K : PySem.W.Frag} {tg : Expr} (a it : Addr) : Turn P w K tg (Itl K a) [it] it (fun i h => h.IsListIter it a i) where
  mem := by simp
  obj := fun i h st b hb => by
    have e : b = it := by simpa using hb
    subst e
    obtain ⟨o, e, c, d⟩ := st
    exact ⟨o, e, fun v z => by rw [d] at z; cases z⟩
  keep := fun i h h' st k => st.at fun o e => k it (by simp) o e
  item := by
    intro X hP hw hK hc i pins s σ H E I hf st hg
    subst hP hw hK
    obtain ⟨xs, x, hq, hx⟩ := hg
    obtain ⟨its, rv, p, hz⟩ := I.list hq
    obtain ⟨u, hu, ru⟩ := rv.get hx
    obtain ⟨f0, f1, f2, f3, f4, f5⟩ := hf it (by simp)
    refine wpAny_pyNext_list_item st p.isList (x := u) (by simpa using hu) fun h' st' sb => ?_
    have I1 : Inv X pins σ H { s with heap := h' } := I.turned (t' := s.toks) (fun b o hb e => (sb.2 b hb).trans e) f0 f1 f3 f4 f5
    obtain ⟨o, e, c, d⟩ := id st'
    exact ⟨u, rfl, go_of (s := { s with heap := h' }) e c d (by decide) ⟨x, H, I1, ru, ⟨rfl, fun ys hy => by rw [I.list_inj hy hq]; exact hx⟩, st', fun b hb => (hf b hb).1⟩⟩
  done := by
    intro X hP hw hK hc i pins s σ H E I hf st hg
    subst hP hw hK
    obtain ⟨xs, hq, hx⟩ := hg
    obtain ⟨its, rv, p, hz⟩ := I.list hq
    obtain ⟨f0, f1, f2, f3, f4, f5⟩ := hf it (by simp)
    have hl := rv.length
    exact wpAny_pyNext_list_end (I.ok.hd hc) st p.isList (by simp; omega) fun h' eb => ⟨rfl, I.turned (t' := s.toks) (fun b o hb e => eb b o hb e) f0 f1 f3 f4 f5⟩
  self := fun _ _ _ _ _ st h => wpAny_pyIter_listiter st h
theorem turn_tuple {P : Program} {w : World} {K : PySem.W.Frag} {tg : Expr} (a it : Addr) : Turn P w K tg (Itt K a) [it] it (fun i h => h.IsTupleIter it a i) where
  mem := by simp
  obj := fun i h st b hb => by
    have e : b = it := by simpa using hb
    subst e
    obtain ⟨o, e, c, d⟩ := st
    exact ⟨o, e, fun v z => by rw [d] at z; cases z⟩
  keep := fun i h h' st k => st.at fun o e => k it (by simp) o e
  item := by
    intro X hP hw hK hc i pins s σ H E I hf st hg
    subst hP hw hK
    obtain ⟨xs, x, hq, hx⟩ := hg
    obtain ⟨its, rv, p, hz⟩ := I.tuple hq
    obtain ⟨u, hu, ru⟩ := rv.get hx
    obtain ⟨f0, f1, f2, f3, f4, f5⟩ := hf it (by simp)
    refine wpAny_pyNext_tuple_item st (show s.heap.IsTuple a its.toArray from p) (x := u) (by simpa using hu) fun h' st' sb => ?_
    have I1 : Inv X pins σ H { s with heap := h' } := I.turned (t' := s.toks) (fun b o hb e => (sb.2 b hb).trans e) f0 f1 f3 f4 f5
    obtain ⟨o, e, c, d⟩ := id st'
    exact ⟨u, rfl, go_of (s := { s with heap := h' }) e c d (by decide) ⟨x, H, I1, ru, ⟨rfl, fun ys hy => by rw [I.tuple_inj hy hq]; exact hx⟩, st', fun b hb => (hf b hb).1⟩⟩
  done := by
    intro X hP hw hK hc i pins s σ H E I hf st hg
    subst hP hw hK
    obtain ⟨xs, hq, hx⟩ := hg
    obtain ⟨its, rv, p, hz⟩ := I.tuple hq
    obtain ⟨f0, f1, f2, f3, f4, f5⟩ := hf it (by simp)
    have hl := rv.length
    exact wpAny_pyNext_tuple_end (I.ok.hd hc) st (show s.heap.IsTuple a its.toArray from p) (by simp; omega) fun h' eb => ⟨rfl, I.turned (t' := s.toks) (fun b o hb e => eb b o hb e) f0 f1 f3 f4 f5⟩
  self := fun _ _ _ _ _ st h => wpAny_pyIter_tupleiter st h
theorem turn_range {P : Program} {w : World} {K : PySem.W.Frag} {tg : Expr} (it : Addr) (lo : Int) (n : Nat) : Turn P w K tg (Itr lo n) [it] it (fun i h => IsRangeIter h it (lo + (i : Nat) * 1) ((n : Int) - (i : Nat)) 1) where
  mem := by simp
  obj := fun i h st b hb => by
    have e : b = it := by simpa using hb
    subst e
    exact ⟨_, st, fun v z => by
      have z' : Data.fields _ = Data.cell v := z
      cases z'⟩
  keep := fun i h h' st k => k it (by simp) _ st
  item := by
    intro X hP hw hK hc i pins s σ H E I hf st hg
    subst hP hw hK
    obtain ⟨f0, f1, f2, f3, f4, f5⟩ := hf it (by simp)
    have W := Walks.range (prog := X.prog) (w := X.w) (I.ok.hd hc) it lo 1 n
    refine W.item i s _ _ hg st fun v h' tk hv st' kk => ?_
    obtain ⟨t, rfl⟩ := hv
    have I1 : Inv X pins σ H { s with heap := h', toks := tk } := I.turned (fun b o hb e => kk b o (by simpa using hb) e) f0 f1 f3 f4 f5
    refine ⟨_, rfl, go_of (s := { s with heap := h', toks := tk }) (n := "range_iterator") st' rfl rfl (by decide) ⟨.int (lo + i), H, I1, ⟨t, ?_⟩, ⟨rfl, rfl⟩, st', fun b hb => (hf b hb).1⟩⟩
    rw [Int.mul_one]
  done := by
    intro X hP hw hK hc i pins s σ H E I hf st hg
    subst hP hw hK
    obtain ⟨f0, f1, f2, f3, f4, f5⟩ := hf it (by simp)
    exact wpAny_pyNext_range_end (I.ok.hd hc) st (by have : n ≤ i := hg; omega) fun h' eb => ⟨rfl, I.turned (t' := s.toks) (fun b o hb e => eb b o hb e) f0 f1 f3 f4 f5⟩
  self := fun _ _ _ _ _ st h => wpAny_pyIter_rangeiter st h
end L2

namespace L2
open PySem PySem.Spec PyProof.Rows
section
variable {X : Cx} {tg : Expr}
def iList (K : PySem.W.Frag) (tl : TE) : TI := fun σ H R => tl σ H fun x H1 => ∃ a, x = .ref a ∧ (∃ xs, SqL K H1 a xs) ∧ R (Itl K a) H1
def iTup (K : PySem.W.Frag) (tl : TE) : TI := fun σ H R => tl σ H fun x H1 => ∃ a, x = .ref a ∧ (∃ xs, SqT K H1 a xs) ∧ R (Itt K a) H1
theorem pi_list {l : Expr} {tl : TE} (hl : PE X l tl) : PI X tg l (iList X.K tl) := by
  intro pins s σ H R I h
  refine thn (hl pins s σ H _ I h) fun v s1 ⟨x, H1, I1, r1, q1⟩ => ?_
  obtain ⟨a, e, ⟨xs, hq⟩, q⟩ := q1
  subst e
  cases r1
  obtain ⟨its, rv, p, hz⟩ := I1.list hq
  refine wpAny_pyIter_list p.isList ?_
  refine ⟨s1.heap.objs.size, [s1.heap.objs.size], _, _, H1, rfl, I1.kept (t' := s1.toks) fun b o e => Heap.get?_push_of_some _ e, turn_list a _, ⟨_, Heap.get?_push_size _ rfl, rfl, rfl⟩, fun b hb => ?_, q⟩
  have e : b = s1.heap.objs.size := by simpa using hb
  subst e
  exact I1.fpOk (Nat.le_refl _) (I1.hok.fresh (Nat.le_refl _))
theorem pi_tup {l : Expr} {tl : TE} (hl : PE X l tl) : PI X tg l (iTup X.K tl) := by
  intro pins s σ H R I h
  refine thn (hl pins s σ H _ I h) fun v s1 ⟨x, H1, I1, r1, q1⟩ => ?_
  obtain ⟨a, e, ⟨xs, hq⟩, q⟩ := q1
  subst e
  cases r1
  obtain ⟨its, rv, p, hz⟩ := I1.tuple hq
  refine wpAny_pyIter_tuple (show s1.heap.IsTuple a its.toArray from p) ?_
  refine ⟨s1.heap.objs.size, [s1.heap.objs.size], _, _, H1, rfl, I1.kept (t' := s1.toks) fun b o e => Heap.get?_push_of_some _ e, turn_tuple a _, ⟨_, Heap.get?_push_size _ rfl, rfl, rfl⟩, fun b hb => ?_, q⟩
  have e : b = s1.heap.objs.size := by simpa using hb
  subst e
  exact I1.fpOk (Nat.le_refl _) (I1.hok.fresh (Nat.le_refl _))
/-- a range object just made, walked -/
theorem range_it {pins : List (Addr × Obj)} {σ : St} {H : Hp} {s : Shared} {R : It → Hp → Prop} {E : Value → Shared → Prop} {lo hi : Int} {t u v : Tok} {tk : Nat} (I : Inv X pins σ H s) (h1 : -(2 ^ 62) ≤ lo) (h2 : lo < 2 ^ 62) (h3 : -(2 ^ 62) ≤ hi) (h4 : hi < 2 ^ 62)
    (q : R (Itr lo (hi - lo).toNat) H) : wpAny (model X.prog X.w) X.A (pyIter (.ref s.heap.objs.size)) (PIE X pins σ tg R) E { s with heap := s.heap.push { cls := .type "range", data := .fields #[.int lo t, .int hi u, .int 1 v] }, toks := tk } := by
  refine wpAny_pyIter_range (IsRange.new ..) (small_one h1 h2 h3 h4) ?_
  have I1 : Inv X pins σ H { s with heap := s.heap.push { cls := .type "range", data := .fields #[.int lo t, .int hi u, .int 1 v] }, toks := tk } := I.kept fun b o e => Heap.get?_push_of_some _ e
  refine ⟨(s.heap.push { cls := .type "range", data := .fields #[.int lo t, .int hi u, .int 1 v] }).objs.size, [(s.heap.push { cls := .type "range", data := .fields #[.int lo t, .int hi u, .int 1 v] }).objs.size], _, _, H, rfl,
    I1.kept (t' := tk) fun b o e => Heap.get?_push_of_some _ e, turn_range _ lo (hi - lo).toNat, ?_, fun b hb => ?_, q⟩
  · have e1 : lo + ((0 : Nat) : Int) * 1 = lo := by simp
    have e2 : (((hi - lo).toNat : Nat) : Int) - ((0 : Nat) : Int) = Builtin.Range.rangeSize lo hi 1 := by rw [rangeSize_one]; split <;> omega
    show IsRangeIter _ _ (lo + ((0 : Nat) : Int) * 1) ((((hi - lo).toNat : Nat) : Int) - ((0 : Nat) : Int)) 1
    rw [e1, e2]
    exact Heap.get?_push_size _ rfl
  · have e : b = (s.heap.push { cls := .type "range", data := .fields #[.int lo t, .int hi u, .int 1 v] }).objs.size := by simpa using hb
    subst e
    exact I1.fpOk (Nat.le_refl _) (I1.hok.fresh (Nat.le_refl _))
def iRng1 (ta : TA) : TI := fun σ H R => ta σ H fun vs H1 => ∃ j : Int, vs = [.int j] ∧ -(2 ^ 62) ≤ j ∧ j < 2 ^ 62 ∧ R (Itr 0 j.toNat) H1
theorem pi_range1 {a : Expr} {ta : TA} {p pos : Pos} (hg : Gl X "range") (hm : X.mg "range" = none) (ha : PA X [a] ta) (hs : starEach [a] X.env = [(false, eval a X.env)] := by rfl) : PI X tg (.Call (.Name "range" p) [a] [] pos) (iRng1 ta) := by
  intro pins s σ H R I h
  refine Call_ (ld_blt I hg hm boot_range (PyProof.Rows.callWith_type1 (thn (ha pos pins s σ H _ I h) fun us s1 ⟨vs, H1, I1, r1, q1⟩ => ?_) hs rfl))
  obtain ⟨j, e, q1, q2, q⟩ := q1
  subst e
  cases r1 with
  | cons r rr =>
    cases rr
    obtain ⟨t, rfl⟩ := r
    exact call_range_1 (range_it I1 (by omega) (by omega) q1 q2 (by simpa using q))
/-! ### for -/
/-- W: the invariant by the turn and a measure; N: what the body is to reach -/
def tFor (wi : TI) (g : TG) (tb : TS) : TS := fun D σ H => wi σ H fun J H1 => ∃ W : Nat → Nat → St → Hp → Prop, (∃ m, W 0 m σ H1) ∧ ∀ i m σ H, W i m σ H →
  (J.stop i H ∧ D.nx σ H) ∨ (J.go i H ∧ ∃ N : St → Hp → Prop, (∀ σ' H', N σ' H' → ∃ m', m' < m ∧ W (i + 1) m' σ' H') ∧ ∀ x H', J.yld i H x H' → g x σ H' fun σ2 H2 => tb { D with nx := N, ct := N, bk := D.nx } σ2 H2)
/-- the records at fp as they stand -/
def pinsAt (fp : List Addr) (h : Heap) : List (Addr × Obj) := fp.filterMap fun b => (h.get? b).map fun o => (b, o)
theorem mem_pinsAt {fp : List Addr} {h : Heap} {b : Addr} {o : Obj} (hb : b ∈ fp) (e : h.get? b = some o) : (b, o) ∈ pinsAt fp h := List.mem_filterMap.mpr ⟨b, hb, by rw [e]; rfl⟩
theorem of_pinsAt {fp : List Addr} {h : Heap} {p : Addr × Obj} (hp : p ∈ pinsAt fp h) : p.1 ∈ fp ∧ h.get? p.1 = some p.2 := by
  obtain ⟨b, hb, e⟩ := List.mem_filterMap.mp hp
  cases q : h.get? b with
  | none => rw [q] at e; cases e
  | some o =>
    rw [q] at e
    have e' : (b, o) = p := Option.some.inj e
    subst e'
    exact ⟨hb, q⟩
theorem Inv.pinned {pins : List (Addr × Obj)} {σ : St} {H : Hp} {s : Shared} {fp : List Addr} (I : Inv X pins σ H s) (hf : ∀ b ∈ fp, FpOk X pins H b) (ho : ∀ b ∈ fp, ∃ o, s.heap.get? b = some o ∧ ∀ v, o.data ≠ .cell v) : Inv X (pins ++ pinsAt fp s.heap) σ H s :=
  I.pins_of fun p hp => (List.mem_append.mp hp).elim (fun z => I.pin p (List.mem_append_right _ z)) fun z => by
    obtain ⟨hb, e⟩ := of_pinsAt z
    obtain ⟨f0, f1, f2, _⟩ := hf p.1 hb
    obtain ⟨o, e', d⟩ := ho p.1 hb
    rw [e] at e'; cases e'
    exact ⟨e, f0, f1, f2, d⟩
theorem Inv.unpinned {pins pl : List (Addr × Obj)} {σ : St} {H : Hp} {s : Shared} (I : Inv X (pins ++ pl) σ H s) : Inv X pins σ H s := I.pins_of fun p hp => I.pin p (List.mem_append_right _ (List.mem_append_left _ hp))
theorem ps_for {iter : Expr} {body : List Stmt} {wi : TI} {g : TG} {tb : TS} {pos : Pos} (hp : PassesOwn (model X.prog X.w) X.A X.env X.xe) (hc : X.calm = true) (hi : PI X tg iter wi) (hg : PG X tg g) (hb : PSs X body tb)
    (hs : ∀ x, foldedSetIterable iter X.env x = pure x := by intro _; rfl) : PS X (.For tg iter body [] pos) (tFor wi g tb) := by
  intro pins s σ H D I h
  refine wpAny_For (thn (hi pins s σ H _ I h) fun v s1 h1 => thn h1 fun itv s2 h2 => ?_) hs
  obtain ⟨it, fp, tn, J, H2, e, I2, T, st2, f2, W, ⟨m0, w0⟩, turn⟩ := h2
  subst e
  -- what stays true of the iterator's objects through the loop
  have stat : ∀ {H' : Hp}, (∀ b ∈ fp, H' b = none) → ∀ b ∈ fp, FpOk X pins H' b := fun hn b hb => ⟨hn b hb, (f2 b hb).2⟩
  refine codeAny_forLoop_any (fun n s' => ∃ i σ' H', Inv X pins σ' H' s' ∧ tn i s'.heap ∧ (∀ b ∈ fp, H' b = none) ∧ W i n σ' H') ?_ m0 ⟨0, σ, H2, I2, st2, fun b hb => (f2 b hb).1, w0⟩
  rintro n s3 ⟨i, σ3, H3, I3, st3, fr3, w3⟩
  rcases turn i n σ3 H3 w3 with ⟨stop, qn⟩ | ⟨go, N, hN, step⟩
  · refine wpAny_passesOwn hp (thn (T.done X rfl rfl rfl hc i pins s3 σ3 H3 X.xe I3 (stat fr3) st3 stop) fun r s4 ⟨hr, I4⟩ => ?_)
    subst hr
    exact wpAny_execs_nil ⟨σ3, H3, I4, qn⟩
  · refine wpAny_passesOwn hp (thn (T.item X rfl rfl rfl hc i pins s3 σ3 H3 X.xe I3 (stat fr3) st3 go) fun r s4 ⟨u, hr, h4⟩ => ?_)
    subst hr
    refine wpAny_passesOwn hp (thn h4 fun _ s5 ⟨x, H5, I5, r5, y5, st5, fr5⟩ => ?_)
    have I5' := I5.pinned (stat fr5) (T.obj _ _ st5)
    refine wpAny_passesOwn hp (thn (hg _ s5 σ3 H5 x u _ I5' r5 (step x H5 y5)) fun _ s6 ⟨σ6, H6, I6, q6⟩ => ?_)
    refine wpAny_passesOwn hp (thn (hb _ s6 σ6 H6 _ I6 q6) fun f s7 q7 => ?_)
    have again : ∀ {σ7 : St} {H7 : Hp}, Inv X (pins ++ pinsAt fp s5.heap) σ7 H7 s7 → N σ7 H7 → ∃ m, m < n ∧ ∃ i σ' H', Inv X pins σ' H' s7 ∧ tn i s7.heap ∧ (∀ b ∈ fp, H' b = none) ∧ W i m σ' H' := fun {σ7 H7} I7 n7 => by
      obtain ⟨m', hm, w7⟩ := hN σ7 H7 n7
      refine ⟨m', hm, i + 1, σ7, H7, I7.unpinned, T.keep _ _ _ st5 fun b hb o e => (I7.pin (b, o) (List.mem_append_right _ (List.mem_append_right _ (mem_pinsAt hb e)))).1, fun b hb => ?_, w7⟩
      obtain ⟨o, e, d⟩ := T.obj _ _ st5 b hb
      exact (I7.pin (b, o) (List.mem_append_right _ (List.mem_append_right _ (mem_pinsAt hb e)))).2.1
    cases f with
    | next => obtain ⟨σ7, H7, I7, n7⟩ := q7; exact again I7 n7
    | cont => obtain ⟨σ7, H7, I7, n7⟩ := q7; exact again I7 n7
    | brk => obtain ⟨σ7, H7, I7, q7⟩ := q7; exact ⟨σ7, H7, I7.unpinned, q7⟩
    | ret v => obtain ⟨x7, σ7, H7, I7, r7, q7⟩ := q7; exact ⟨x7, σ7, H7, I7.unpinned, r7, q7⟩
end

/-! ### the forms one uses -/
/-- over a list that the body leaves as it is -/
theorem for_list {K : PySem.W.Frag} {a : Addr} {xs : List V} {g : TG} {tb : TS} {D : Ends} {σ : St} {H : Hp} (Pv : Nat → St → Hp → Prop) (h0 : Pv 0 σ H) (hl : ∀ i σ H, i ≤ xs.length → Pv i σ H → SqL K H a xs)
    (hs : ∀ i x σ H, xs[i]? = some x → Pv i σ H → g x σ H fun σ2 H2 => tb { D with nx := Pv (i + 1), ct := Pv (i + 1), bk := D.nx } σ2 H2) (hd : ∀ σ H, Pv xs.length σ H → D.nx σ H) :
    ∃ W : Nat → Nat → St → Hp → Prop, (∃ m, W 0 m σ H) ∧ ∀ i m σ H, W i m σ H →
      ((Itl K a).stop i H ∧ D.nx σ H) ∨ ((Itl K a).go i H ∧ ∃ N : St → Hp → Prop, (∀ σ' H', N σ' H' → ∃ m', m' < m ∧ W (i + 1) m' σ' H') ∧ ∀ x H', (Itl K a).yld i H x H' → g x σ H' fun σ2 H2 => tb { D with nx := N, ct := N, bk := D.nx } σ2 H2) := by
  refine ⟨fun i m σ H => m = xs.length - i ∧ i ≤ xs.length ∧ Pv i σ H, ⟨xs.length, by simp, Nat.zero_le _, h0⟩, ?_⟩
  rintro i m σ H ⟨rfl, hi, p⟩
  have q := hl i σ H hi p
  by_cases hlt : i < xs.length
  · refine .inr ⟨⟨xs, xs[i], q, by simp [hlt]⟩, Pv (i + 1), fun σ' H' p' => ⟨xs.length - (i + 1), by omega, rfl, hlt, p'⟩, fun x H' y => ?_⟩
    obtain ⟨e, y⟩ := y
    subst e
    exact hs i x σ _ (y xs q) p
  · have e : i = xs.length := by omega
    subst e
    exact .inl ⟨⟨xs, q, Nat.le_refl _⟩, hd σ H p⟩
theorem for_tup {K : PySem.W.Frag} {a : Addr} {xs : List V} {g : TG} {tb : TS} {D : Ends} {σ : St} {H : Hp} (Pv : Nat → St → Hp → Prop) (h0 : Pv 0 σ H) (hl : ∀ i σ H, i ≤ xs.length → Pv i σ H → SqT K H a xs)
    (hs : ∀ i x σ H, xs[i]? = some x → Pv i σ H → g x σ H fun σ2 H2 => tb { D with nx := Pv (i + 1), ct := Pv (i + 1), bk := D.nx } σ2 H2) (hd : ∀ σ H, Pv xs.length σ H → D.nx σ H) :
    ∃ W : Nat → Nat → St → Hp → Prop, (∃ m, W 0 m σ H) ∧ ∀ i m σ H, W i m σ H →
      ((Itt K a).stop i H ∧ D.nx σ H) ∨ ((Itt K a).go i H ∧ ∃ N : St → Hp → Prop, (∀ σ' H', N σ' H' → ∃ m', m' < m ∧ W (i + 1) m' σ' H') ∧ ∀ x H', (Itt K a).yld i H x H' → g x σ H' fun σ2 H2 => tb { D with nx := N, ct := N, bk := D.nx } σ2 H2) := by
  refine ⟨fun i m σ H => m = xs.length - i ∧ i ≤ xs.length ∧ Pv i σ H, ⟨xs.length, by simp, Nat.zero_le _, h0⟩, ?_⟩
  rintro i m σ H ⟨rfl, hi, p⟩
  have q := hl i σ H hi p
  by_cases hlt : i < xs.length
  · refine .inr ⟨⟨xs, xs[i], q, by simp [hlt]⟩, Pv (i + 1), fun σ' H' p' => ⟨xs.length - (i + 1), by omega, rfl, hlt, p'⟩, fun x H' y => ?_⟩
    obtain ⟨e, y⟩ := y
    subst e
    exact hs i x σ _ (y xs q) p
  · have e : i = xs.length := by omega
    subst e
    exact .inl ⟨⟨xs, q, Nat.le_refl _⟩, hd σ H p⟩
theorem for_range {lo : Int} {n : Nat} {g : TG} {tb : TS} {D : Ends} {σ : St} {H : Hp} (Pv : Nat → St → Hp → Prop) (h0 : Pv 0 σ H)
    (hs : ∀ i σ H, i < n → Pv i σ H → g (.int (lo + i)) σ H fun σ2 H2 => tb { D with nx := Pv (i + 1), ct := Pv (i + 1), bk := D.nx } σ2 H2) (hd : ∀ σ H, Pv n σ H → D.nx σ H) :
    ∃ W : Nat → Nat → St → Hp → Prop, (∃ m, W 0 m σ H) ∧ ∀ i m σ H, W i m σ H →
      ((Itr lo n).stop i H ∧ D.nx σ H) ∨ ((Itr lo n).go i H ∧ ∃ N : St → Hp → Prop, (∀ σ' H', N σ' H' → ∃ m', m' < m ∧ W (i + 1) m' σ' H') ∧ ∀ x H', (Itr lo n).yld i H x H' → g x σ H' fun σ2 H2 => tb { D with nx := N, ct := N, bk := D.nx } σ2 H2) := by
  refine ⟨fun i m σ H => m = n - i ∧ i ≤ n ∧ Pv i σ H, ⟨n, by simp, Nat.zero_le _, h0⟩, ?_⟩
  rintro i m σ H ⟨rfl, hi, p⟩
  by_cases hlt : i < n
  · refine .inr ⟨hlt, Pv (i + 1), fun σ' H' p' => ⟨n - (i + 1), by omega, rfl, hlt, p'⟩, fun x H' y => ?_⟩
    obtain ⟨e, y⟩ := y
    subst e y
    exact hs i σ _ hlt p
  · have e : i = n := by omega
    subst e
    exact .inl ⟨Nat.le_refl _, hd σ H p⟩
end L2

namespace L2
open PySem PySem.Spec PyProof.Rows

abbrev R2 := V → V → Hp → VK → Prop
/-- a two-place operation on values: f is binaryOp op, inplaceOp op or compareOp op -/
def OpR (X : Cx) (f : Value → Value → Sem Value) (r : R2) : Prop :=
  ∀ (pins : List (Addr × Obj)) (s : Shared) (σ : St) (H : Hp) (x y : V) (v u : Value) (Q : VK), Inv X pins σ H s → RelV x v → RelV y u → r x y H Q →
    wpAny (model X.prog X.w) X.A (f v u) (EP X pins σ Q) X.xe s
/-- a one-place operation -/
def UnR (X : Cx) (f : Value → Sem Value) (r : V → Hp → VK → Prop) : Prop :=
  ∀ (pins : List (Addr × Obj)) (s : Shared) (σ : St) (H : Hp) (x : V) (v : Value) (Q : VK), Inv X pins σ H s → RelV x v → r x H Q →
    wpAny (model X.prog X.w) X.A (f v) (EP X pins σ Q) X.xe s
/-- a call of a value that is known (a builtin, a type) with values -/
def CallR (X : Cx) (f : Value) (r : List V → Hp → VK → Prop) : Prop :=
  ∀ (pins : List (Addr × Obj)) (s : Shared) (σ : St) (H : Hp) (xs : List V) (us : List Value) (Q : VK), Inv X pins σ H s → Vals xs us → r xs H Q →
    wpAny (model X.prog X.w) X.A (call f us) (EP X pins σ Q) X.xe s
def tOp (r : R2) (ta tb : TE) : TE := fun σ H Q => ta σ H fun x H1 => tb σ H1 fun y H2 => r x y H2 Q
def tUn (r : V → Hp → VK → Prop) (ta : TE) : TE := fun σ H Q => ta σ H fun x H1 => r x H1 Q
/-- ints in, under C, and a value out -/
def rI (C : Int → Int → Prop) (g : Int → Int → V) : R2 := fun x y H Q => ∃ i j, x = .int i ∧ y = .int j ∧ C i j ∧ Q (g i j) H
def rI0 (g : Int → Int → V) : R2 := fun x y H Q => ∃ i j, x = .int i ∧ y = .int j ∧ Q (g i j) H
def rU (g : Int → V) : V → Hp → VK → Prop := fun x H Q => ∃ i, x = .int i ∧ Q (g i) H

section
variable {X : Cx} {a b c : Expr} {ta tb tc : TE} {pos : Pos}

theorem binT (ha : PE X a ta) (hb : PE X b tb) {pins : List (Addr × Obj)} {s : Shared} {σ : St} {H : Hp} {R : V → V → Hp → Prop} (I : Inv X pins σ H s)
    (h : ta σ H fun x H1 => tb σ H1 fun y H2 => R x y H2) {Q : Value → Shared → Prop} {f : Value → Value → Sem Value}
    (hf : ∀ v u s2 x y H2, Inv X pins σ H2 s2 → RelV x v → RelV y u → R x y H2 → wpAny (model X.prog X.w) X.A (f v u) Q X.xe s2) :
    wpAny (model X.prog X.w) X.A (eval a X.env) (fun v s₁ => wpAny (model X.prog X.w) X.A (eval b X.env) (fun u s₂ => wpAny (model X.prog X.w) X.A (f v u) Q X.xe s₂) X.xe s₁) X.xe s := by
  refine thn (ha pins s σ H _ I h) fun v s1 ⟨x, H1, I1, r1, q1⟩ => ?_
  refine thn (hb pins s1 σ H1 _ I1 q1) fun u s2 ⟨y, H2, I2, r2, q2⟩ => ?_
  exact hf v u s2 x y H2 I2 r1 r2 q2

theorem pe_op {op : Operator} {r : R2} (ho : OpR X (binaryOp op) r) (ha : PE X a ta) (hb : PE X b tb) : PE X (.BinOp a op b pos) (tOp r ta tb) := by
  intro pins s σ H Q I h
  exact wpAny_BinOp (binT ha hb I h fun v u s2 x y H2 I2 rx ry q => ho pins s2 σ H2 x y v u Q I2 rx ry q)
theorem pe_un {op : UnaryOp} {r : V → Hp → VK → Prop} (ho : UnR X (unaryOp op) r) (ha : PE X a ta) : PE X (.UnaryOp op a pos) (tUn r ta) := by
  intro pins s σ H Q I h
  exact UnaryOp_ (thn (ha pins s σ H _ I h) fun v s1 ⟨x, H1, I1, r1, q1⟩ => ho pins s1 σ H1 x v Q I1 r1 q1)
/-! ### ints -/
theorem opI {f : Value → Value → Sem Value} {C : Int → Int → Prop} {g : Int → Int → Int}
    (rule : ∀ (i j : Int) (t u : Tok) (s : Shared) (Q : Value → Shared → Prop) (E : Value → Shared → Prop), C i j → Q (.int (g i j) s.toks) { s with toks := s.toks + 1 } → wpAny (model X.prog X.w) X.A (f (.int i t) (.int j u)) Q E s) :
    OpR X f (rI C fun i j => .int (g i j)) := by
  intro pins s σ H x y v u Q I rx ry h
  obtain ⟨i, j, rfl, rfl, hc, q⟩ := h
  obtain ⟨t, rfl⟩ := rx
  obtain ⟨t', rfl⟩ := ry
  exact rule i j t t' s _ _ hc ⟨.int (g i j), H, I.tok _, ⟨_, rfl⟩, q⟩
theorem opI0 {f : Value → Value → Sem Value} {g : Int → Int → Int}
    (rule : ∀ (i j : Int) (t u : Tok) (s : Shared) (Q : Value → Shared → Prop) (E : Value → Shared → Prop), Q (.int (g i j) s.toks) { s with toks := s.toks + 1 } → wpAny (model X.prog X.w) X.A (f (.int i t) (.int j u)) Q E s) :
    OpR X f (rI0 fun i j => .int (g i j)) := by
  intro pins s σ H x y v u Q I rx ry h
  obtain ⟨i, j, rfl, rfl, q⟩ := h
  obtain ⟨t, rfl⟩ := rx
  obtain ⟨t', rfl⟩ := ry
  exact rule i j t t' s _ _ ⟨.int (g i j), H, I.tok _, ⟨_, rfl⟩, q⟩
theorem opB0 {f : Value → Value → Sem Value} {g : Int → Int → Bool}
    (rule : ∀ (i j : Int) (t u : Tok) (s : Shared) (Q : Value → Shared → Prop) (E : Value → Shared → Prop), Q (.bool (g i j)) s → wpAny (model X.prog X.w) X.A (f (.int i t) (.int j u)) Q E s) :
    OpR X f (rI0 fun i j => .bl (g i j)) := by
  intro pins s σ H x y v u Q I rx ry h
  obtain ⟨i, j, rfl, rfl, q⟩ := h
  obtain ⟨t, rfl⟩ := rx
  obtain ⟨t', rfl⟩ := ry
  exact rule i j t t' s _ _ ⟨.bl (g i j), H, I, rfl, q⟩

def CDiv (i j : Int) : Prop := 0 < j ∧ j < 1073741824
def CPow (i j : Int) : Prop := 0 ≤ j ∧ j ≤ 1000000 ∧ i.natAbs < 2 ^ 64
def CMul (i j : Int) : Prop := (-(2 ^ 64) < i ∧ i < 2 ^ 64) ∨ (-(2 ^ 64) < j ∧ j < 2 ^ 64)
theorem CMul.ok {i j : Int} (h : CMul i j) : IntMulOk i j := by
  rcases h with ⟨h1, h2⟩ | ⟨h1, h2⟩
  · exact .of_left (intBits_le_64 h1 h2)
  · exact .of_right (intBits_le_64 h1 h2)
theorem op_add : OpR X (binaryOp .Add) (rI0 fun i j => .int (i + j)) := opI0 fun _ _ _ _ _ _ _ q => add_int q
theorem op_sub : OpR X (binaryOp .Sub) (rI0 fun i j => .int (i - j)) := opI0 fun _ _ _ _ _ _ _ q => sub_int q
theorem op_mul : OpR X (binaryOp .Mult) (rI CMul fun i j => .int (i * j)) := opI fun _ _ _ _ _ _ _ hc q => mul_int q hc.ok
/-- // by a positive divisor -/
theorem op_fdiv : OpR X (binaryOp .FloorDiv) (rI CDiv fun i j => .int (i / j)) := opI fun i j _ _ _ _ _ hc q => by
  have h1 : (0 : Int) < j := hc.1
  have h2 : j < 1073741824 := hc.2
  exact floordiv_int (by omega) (by rw [Int.fdiv_eq_ediv_of_nonneg i (by omega)]; exact q) (.inl (PyProof.noPylong_small (by omega)))
/-- % by a positive divisor of any size -/
theorem op_mod : OpR X (binaryOp .Mod) (rI (fun _ j => 0 < j) fun i j => .int (i % j)) := opI fun i j _ _ _ _ _ hc q => by
  have h1 : (0 : Int) < j := hc
  exact mod_int' (by omega) (by rw [Int.fmod_eq_emod_of_nonneg i (by omega)]; exact q)
theorem op_pow : OpR X (binaryOp .Pow) (rI CPow fun i j => .int (i ^ j.toNat)) := opI fun _ _ _ _ _ _ _ hc q => pow_int_small hc.1 hc.2.1 hc.2.2 q
theorem unI {f : Value → Sem Value} {g : Int → Int}
    (rule : ∀ (i : Int) (t : Tok) (s : Shared) (Q : Value → Shared → Prop) (E : Value → Shared → Prop), Q (.int (g i) s.toks) { s with toks := s.toks + 1 } → wpAny (model X.prog X.w) X.A (f (.int i t)) Q E s) :
    UnR X f (rU fun i => .int (g i)) := by
  intro pins s σ H x v Q I rx h
  obtain ⟨i, rfl, q⟩ := h
  obtain ⟨t, rfl⟩ := rx
  exact rule i t s _ _ ⟨.int (g i), H, I.tok _, ⟨_, rfl⟩, q⟩
theorem un_neg : UnR X (unaryOp .USub) (rU fun i => .int (-i)) := unI fun _ _ _ _ _ q => neg_int q
/-! ### bools among ints: n += (a < b) -/
end

/-! ### comparisons -/
/-- the scalars that == tells apart as data does -/
def scal : V → V → Bool
  | .non, .non => true | .non, .int _ => true | .int _, .non => true | .non, .bl _ => true | .bl _, .non => true | .non, .str _ => true | .str _, .non => true
  | .int _, .int _ => true | .bl _, .bl _ => true | .str _, .str _ => true | .byt _, .byt _ => true
  | .int _, .str _ => true | .str _, .int _ => true | .bl _, .str _ => true | .str _, .bl _ => true
  | _, _ => false
def rEq : R2 := fun x y H Q => scal x y = true ∧ Q (.bl (decide (x = y))) H
def rNe : R2 := fun x y H Q => scal x y = true ∧ Q (.bl (!decide (x = y))) H

theorem dec_int {i j : Int} : decide (V.int i = V.int j) = (i == j) := by
  rw [Bool.eq_iff_iff]
  simp
theorem dec_bl {i j : Bool} : decide (V.bl i = V.bl j) = (i == j) := by
  rw [Bool.eq_iff_iff]
  simp
theorem dec_str {i j : Str} : decide (V.str i = V.str j) = (i == j) := by
  rw [Bool.eq_iff_iff]
  simp
theorem dec_byt {i j : Array UInt8} : decide (V.byt i = V.byt j) = (i.toList == j.toList) := by
  rw [Bool.eq_iff_iff]
  cases i
  cases j
  simp

section
variable {X : Cx} {a b c : Expr} {ta tb tc : TE} {pos : Pos}
theorem fin_bl {pins : List (Addr × Obj)} {σ : St} {H : Hp} {s : Shared} {Q : VK} {k k' : Bool} (I : Inv X pins σ H s) (q : Q (.bl k) H) (e : k = k') : EP X pins σ Q (.bool k') s := by
  subst e
  exact ⟨.bl k, H, I, rfl, q⟩
theorem op_eq : OpR X (compareOp .Eq) rEq := by
  intro pins s σ H x y v u Q I rx ry h
  obtain ⟨hs, q⟩ := h
  cases x with
  | non =>
    cases rx
    cases y with
    | non => cases ry; exact PySem.EqNone.eq_none_none (fin_bl I q (by simp))
    | bl j => cases ry; exact PySem.EqNone.eq_none_bool (fin_bl I q (by simp))
    | int j => obtain ⟨t', rfl⟩ := ry; exact PySem.EqNone.eq_none_int (fin_bl I q (by simp))
    | str j => obtain ⟨t', rfl⟩ := ry; exact PySem.EqNone.eq_none_str (fin_bl I q (by simp))
    | _ => exact absurd (show false = true from hs) Bool.false_ne_true
  | bl i =>
    cases rx
    cases y with
    | non => cases ry; exact PySem.EqNone.eq_bool_none (fin_bl I q (by simp))
    | bl j => cases ry; exact eq_bool (fin_bl I q dec_bl)
    | str j => obtain ⟨t', rfl⟩ := ry; exact PySem.EqMixed.eq_bool_str (fin_bl I q (by simp))
    | _ => exact absurd (show false = true from hs) Bool.false_ne_true
  | int i =>
    obtain ⟨t, rfl⟩ := rx
    cases y with
    | non => cases ry; exact PySem.EqNone.eq_int_none (fin_bl I q (by simp))
    | int j => obtain ⟨t', rfl⟩ := ry; exact eq_int (fin_bl I q dec_int)
    | str j => obtain ⟨t', rfl⟩ := ry; exact PySem.EqMixed.eq_int_str (fin_bl I q (by simp))
    | _ => exact absurd (show false = true from hs) Bool.false_ne_true
  | str i =>
    obtain ⟨t, rfl⟩ := rx
    cases y with
    | non => cases ry; exact PySem.EqNone.eq_str_none (fin_bl I q (by simp))
    | bl j => cases ry; exact PySem.EqMixed.eq_str_bool (fin_bl I q (by simp))
    | int j => obtain ⟨t', rfl⟩ := ry; exact PySem.EqMixed.eq_str_int (fin_bl I q (by simp))
    | str j => obtain ⟨t', rfl⟩ := ry; exact eq_str (fin_bl I q dec_str)
    | _ => exact absurd (show false = true from hs) Bool.false_ne_true
  | byt i =>
    obtain ⟨t, rfl⟩ := rx
    cases y with
    | byt j => obtain ⟨t', rfl⟩ := ry; exact PySem.W.eq_bytes (fin_bl I q dec_byt)
    | _ => exact absurd (show false = true from hs) Bool.false_ne_true
  | _ => cases y <;> exact absurd (show false = true from hs) Bool.false_ne_true
theorem op_ne : OpR X (compareOp .NotEq) rNe := by
  intro pins s σ H x y v u Q I rx ry h
  obtain ⟨hs, q⟩ := h
  cases x with
  | non =>
    cases rx
    cases y with
    | non => cases ry; exact PySem.EqNone.ne_none_none (fin_bl I q (by simp))
    | bl j => cases ry; exact PySem.EqNone.ne_none_bool (fin_bl I q (by simp))
    | int j => obtain ⟨t', rfl⟩ := ry; exact PySem.EqNone.ne_none_int (fin_bl I q (by simp))
    | str j => obtain ⟨t', rfl⟩ := ry; exact PySem.EqNone.ne_none_str (fin_bl I q (by simp))
    | _ => exact absurd (show false = true from hs) Bool.false_ne_true
  | bl i =>
    cases rx
    cases y with
    | non => cases ry; exact PySem.EqNone.ne_bool_none (fin_bl I q (by simp))
    | bl j => cases ry; exact ne_bool (fin_bl I q (congrArg not dec_bl))
    | str j => obtain ⟨t', rfl⟩ := ry; exact PySem.EqMixed.ne_bool_str (fin_bl I q (by simp))
    | _ => exact absurd (show false = true from hs) Bool.false_ne_true
  | int i =>
    obtain ⟨t, rfl⟩ := rx
    cases y with
    | non => cases ry; exact PySem.EqNone.ne_int_none (fin_bl I q (by simp))
    | int j => obtain ⟨t', rfl⟩ := ry; exact ne_int (fin_bl I q (congrArg not dec_int))
    | str j => obtain ⟨t', rfl⟩ := ry; exact PySem.EqMixed.ne_int_str (fin_bl I q (by simp))
    | _ => exact absurd (show false = true from hs) Bool.false_ne_true
  | str i =>
    obtain ⟨t, rfl⟩ := rx
    cases y with
    | non => cases ry; exact PySem.EqNone.ne_str_none (fin_bl I q (by simp))
    | bl j => cases ry; exact PySem.EqMixed.ne_str_bool (fin_bl I q (by simp))
    | int j => obtain ⟨t', rfl⟩ := ry; exact PySem.EqMixed.ne_str_int (fin_bl I q (by simp))
    | str j => obtain ⟨t', rfl⟩ := ry; exact ne_str (fin_bl I q (congrArg not dec_str))
    | _ => exact absurd (show false = true from hs) Bool.false_ne_true
  | byt i =>
    obtain ⟨t, rfl⟩ := rx
    cases y with
    | byt j => obtain ⟨t', rfl⟩ := ry; exact PySem.W.ne_bytes (fin_bl I q (congrArg not dec_byt))
    | _ => exact absurd (show false = true from hs) Bool.false_ne_true
  | _ => cases y <;> exact absurd (show false = true from hs) Bool.false_ne_true

theorem op_lt : OpR X (compareOp .Lt) (rI0 fun i j => .bl (decide (i < j))) := opB0 fun _ _ _ _ _ _ _ q => lt_int q
theorem op_le : OpR X (compareOp .LtE) (rI0 fun i j => .bl (decide (i ≤ j))) := opB0 fun _ _ _ _ _ _ _ q => le_int q
theorem op_gt : OpR X (compareOp .Gt) (rI0 fun i j => .bl (decide (j < i))) := opB0 fun _ _ _ _ _ _ _ q => gt_int q
theorem op_ge : OpR X (compareOp .GtE) (rI0 fun i j => .bl (decide (j ≤ i))) := opB0 fun _ _ _ _ _ _ _ q => ge_int q
/-- is None, is not None: the right side a value none -/
theorem op_isN : OpR X (compareOp .Is) (fun x y H Q => y = .non ∧ Q (.bl (decide (x = .non))) H) := by
  intro pins s σ H x y v u Q I rx ry h
  obtain ⟨rfl, q⟩ := h
  cases ry
  refine is_none_gen (fin_bl I q ?_)
  cases x <;> first
    | (cases rx; rfl)
    | (obtain ⟨t, rfl⟩ := rx; rfl)
/-- two rules for one operation: by cases -/
theorem OpR.or {f : Value → Value → Sem Value} {r r' : R2} (h : OpR X f r) (h' : OpR X f r') : OpR X f (fun x y H Q => r x y H Q ∨ r' x y H Q) := by
  intro pins s σ H x y v u Q I rx ry q
  rcases q with q | q
  · exact h pins s σ H x y v u Q I rx ry q
  · exact h' pins s σ H x y v u Q I rx ry q

theorem nomark (b : Expr) {op : CmpOp} (h : op ≠ .In := by decide) (h2 : op ≠ .NotIn := by decide) : behindInMarks op b = false := by
  have e1 : (op == CmpOp.In) = false := by cases op <;> first | rfl | exact absurd rfl h
  have e2 : (op == CmpOp.NotIn) = false := by cases op <;> first | rfl | exact absurd rfl h2
  cases b <;> simp [behindInMarks, e1, e2]
/-- a comparison as a value; hm: nomark b, or (for in, not in) by with_unfolding_all rfl -/
theorem pe_cmpR {op : CmpOp} {r : R2} (ho : OpR X (compareOp op) r) (ha : PE X a ta) (hb : PE X b tb) (hm : behindInMarks op b = false) : PE X (.Compare a [op] [b] pos) (tOp r ta tb) := by
  intro pins s σ H Q I h
  exact wpAny_Compare1 (binT ha hb I h fun v u s2 x y H2 I2 rx ry q => ho pins s2 σ H2 x y v u Q I2 rx ry q) hm
/-- a reading of a value as a test -/
def tTest (t : TE) : TT := fun σ H Q => t σ H fun x H' => ∃ k, x = .bl k ∧ Q k H'
theorem pt_cmpR {op : CmpOp} {r : R2} (ho : OpR X (compareOp op) r) (ha : PE X a ta) (hb : PE X b tb) (hm : behindInMarks op b = false) : PT X (.Compare a [op] [b] pos) (tTest (tOp r ta tb)) := by
  intro pins s σ H Q I h
  refine wpAny_isTrue_Compare1 (thn (ha pins s σ H _ I h) fun v s1 ⟨x, H1, I1, r1, q1⟩ => thn (hb pins s1 σ H1 _ I1 q1) fun u s2 ⟨y, H2, I2, r2, q2⟩ =>
    thn (ho pins s2 σ H2 x y v u _ I2 r1 r2 q2) fun c s3 ⟨z, H3, I3, r3, k, e, q3⟩ => ?_) hm
  subst e
  cases r3
  exact wpAny_truthy_bool ⟨H3, I3, q3⟩
/-- a op1 b op2 c -/
def tChain (r r' : R2) (ta tb tc : TE) : TE := fun σ H Q => ta σ H fun x H1 => tb σ H1 fun y H2 => r x y H2 fun z H3 => ∃ k, z = .bl k ∧
  (if k = true then tc σ H3 fun w' H4 => r' y w' H4 Q else Q (.bl false) H3)
theorem pe_chain {op op' : CmpOp} {r r' : R2} (ho : OpR X (compareOp op) r) (ho' : OpR X (compareOp op') r') (ha : PE X a ta) (hb : PE X b tb) (hc : PE X c tc)
    (hm : lastMarks [op, op'] [b, c] = false := by with_unfolding_all rfl) : PE X (.Compare a [op, op'] [b, c] pos) (tChain r r' ta tb tc) := by
  intro pins s σ H Q I h
  refine Compare_chain (thn (ha pins s σ H _ I h) fun v s1 ⟨x, H1, I1, r1, q1⟩ => chain_link (thn (hb pins s1 σ H1 _ I1 q1) fun u s2 ⟨y, H2, I2, r2, q2⟩ =>
    thn (ho pins s2 σ H2 x y v u _ I2 r1 r2 q2) fun d s3 ⟨z, H3, I3, r3, k, e, q3⟩ => ?_)) hm
  subst e
  cases r3
  refine wpAny_truthy_bool ?_
  cases k with
  | false => exact ite_ff ⟨.bl false, H3, I3, rfl, q3⟩
  | true => exact ite_tt (chain_last (thn (hc pins s3 σ H3 _ I3 q3) fun w' s4 ⟨z', H4, I4, r4, q4⟩ => ho' pins s4 σ H4 y z' u w' Q I4 r2 r4 q4))
/-! ### truth -/
theorem line63 : (sizeLine : Nat) < 2 ^ 63 := by rw [sizeLine_eq]; decide
/-! ### strs and bytes -/
/-! ### scalar builtins, by CallR -/
theorem vals1 {x : V} {us : List Value} (r : Vals [x] us) : ∃ u, us = [u] ∧ RelV x u := by
  cases r with
  | cons r1 r2 => cases r2; exact ⟨_, rfl, r1⟩
theorem vals2 {x y : V} {us : List Value} (r : Vals [x, y] us) : ∃ u w', us = [u, w'] ∧ RelV x u ∧ RelV y w' := by
  cases r with
  | cons r1 r2 =>
    cases r2 with
    | cons r3 r4 => cases r4; exact ⟨_, _, rfl, r1, r3⟩
theorem call_abs : CallR X (.builtin "abs") (fun xs H Q => ∃ i, xs = [.int i] ∧ Q (.int (if i < 0 then -i else i)) H) := by
  intro pins s σ H xs us Q I r h
  obtain ⟨i, rfl, q⟩ := h
  obtain ⟨u, rfl, t, rfl⟩ := vals1 r
  exact call_abs_int fun u tk => ⟨.int (if i < 0 then -i else i), H, I.tok _, ⟨_, rfl⟩, q⟩
end
end L2

namespace L2
open PySem PySem.Spec PyProof.Rows

/-! ### an instance, its attributes a map -/
structure ObjM (h : Heap) (x dx C : Addr) (mA : Str → Option Value) : Prop where
  obj : h.get? x = some (PySem.W.instObj C dx)
  ns : h.Ns1 dx mA
  ne : dx ≠ x

theorem lookIn_ns {h : Heap} {dx : Addr} {mA : Str → Option Value} (n : h.Ns1 dx mA) : ∃ od, h.get? dx = some od ∧ ∀ name, PySem.W.lookIn name od = some (mA name) := by
  obtain ⟨o, es, ep, ho, hd, hk, _, hm⟩ := n
  refine ⟨o, ho, fun name => ?_⟩
  have e := hm name
  unfold nsFind findBy at e
  rw [← Array.find?_toList] at e
  unfold PySem.W.lookIn
  rw [hd]
  dsimp only
  split
  · rename_i y q
    rw [q] at e
    exact congrArg some e
  · rename_i q
    rw [q] at e
    have a : es.toList.any (·.refKey) = false := by
      rw [List.any_eq_false]
      intro y hy
      obtain ⟨z, t, hkey⟩ := hk y (Array.mem_toList_iff.mp hy)
      simp [DictEntry.refKey, hkey]
    have a' : ¬ es.toList.any (·.refKey) = true := by rw [a]; exact Bool.false_ne_true
    rw [if_neg a']
    exact congrArg some e

theorem ObjM.look {h : Heap} {x dx C : Addr} {mA : Str → Option Value} (I : ObjM h x dx C mA) : ∃ od, PySem.W.InstAt h x (PySem.W.instObj C dx) C (some od) ∧ ∀ name, PySem.W.lookIn name od = some (mA name) :=
  let ⟨od, ho, hl⟩ := lookIn_ns I.ns
  ⟨od, ⟨I.obj, rfl, rfl, ho⟩, hl⟩

section
variable {prog : Program} {w : World} {A : Around} {E : Value → Shared → Prop} {s : Shared} {K : PySem.W.Frag} {x dx C f : Addr} {mA : Str → Option Value} {name : Str} {v : Value}

theorem get_map {expr : Bool} {Q : Value → Shared → Prop} (X : K.In s.heap) (I : ObjM s.heap x dx C mA) (hg : PySem.W.plainGet K C name = true) (hh : PySem.W.hasDictIn K C = true)
    (ha : PySem.W.findIn K (.ref C) name = some none) (hv : mA name = some v) (hv' : PySem.W.handedIn v = true) (h : Q v { s with toks := s.toks + 1 }) :
    wpAny (model prog w) A (getAttr (.ref x) name expr) Q E s := by
  obtain ⟨od, J, hl⟩ := I.look
  exact PySem.W.get_value X J (PySem.W.plainGet_of hg).1 (PySem.W.findObj_own hh ha rfl (by rw [hl, hv])) hv' h

theorem get_meth {pl : Sem Bool} {Q : Value × List Value → Shared → Prop} (X : K.In s.heap) (I : ObjM s.heap x dx C mA) (hg : PySem.W.plainGet K C name = true)
    (hf : PySem.W.findIn K (.ref C) name = some (some (.ref f))) (ht : PySem.W.isFn K (.ref f) = true) (hv : mA name = none) (h : Q (.ref f, [.ref x]) s) :
    wpAny (model prog w) A (getMethod (.ref x) name pl) Q E s := by
  obtain ⟨od, J, hl⟩ := I.look
  exact PySem.W.method_fn X J (PySem.W.plainGet_of hg).1 (PySem.W.plainGet_of hg).2 hf (beq_iff_eq.mp ht) (by show (PySem.W.lookIn name od).map (·.isSome) = some false; rw [hl, hv]; rfl) h

theorem set_map {ns : List Str} {Q : Unit → Shared → Prop} (X : K.In s.heap) (I : ObjM s.heap x dx C mA)
    (hs : PySem.W.findIn K (.ref C) "__setattr__" = some (some (.builtin "object.__setattr__"))) (hp : PySem.W.plainOver K C = true) (ht : PySem.W.takerIn K C name = some none) (hh : PySem.W.hasDictIn K C = true)
    (hw : PySem.Within mA ns) (hsz : ns.length ≤ sizeLine)
    (h : ∀ h', ObjM h' x dx C (fun y => if y = name then some v else mA y) → Heap.SameBut dx s.heap h' → Q () { s with heap := h', toks := s.toks + 2 }) :
    wpAny (model prog w) A (setAttr (.ref x) name v) Q E s := by
  obtain ⟨od, J, hl⟩ := I.look
  refine PySem.W.set_plain X J hs (PySem.W.osa_open (s := { s with toks := s.toks + 1 }) (r := none) X J hp ht fun b => ?_)
  obtain ⟨cd, hc, hd'⟩ := PySem.W.any_some hh
  have hx : s.heap.get? x = some ⟨.ref C, some dx, .plain, #[]⟩ := I.obj
  refine wpAny_bind (wpAny_pure (wpAny_bind (wpAny_bind (wpAny_loadPart hx (wpAny_bind (PySem.W.Looks.here (s := { s with toks := s.toks + 1 }) (PySem.W.looks_clsIn X hc) ?_))))))
  rw [hd']
  refine wpAny_pure (a := some dx) (wpAny_bind (wpAny_pure (wpAny_bind ?_)))
  refine wpAny_nsSet1 (s := { s with toks := s.toks + 1 }) I.ns fun h' hn2 hs2 => ?_
  obtain ⟨oD, esD, epD, hoD, hdD, hcD⟩ := hn2.count (PySem.Within.cons name v hw)
  refine wpAny_bind (wpAny_lookBehind hoD (by rw [hdD]; exact pastItsLine_dict (Nat.le_trans hcD (by rw [List.length_cons]; omega))) ?_)
  exact wpAny_pure (h _ ⟨(hs2.2 _ (Ne.symm I.ne)).trans I.obj, hn2, I.ne⟩ hs2)

/-- C(..): the dict at the heap's end, the instance behind it; then its __init__ -/
theorem make_map {R : Result → Shared → Prop} {vs : List Value} {kw : List (Str × Value)} (X : K.In s.heap) (hm : PySem.W.makesIn K C = true)
    (hi : PySem.W.findIn K (.ref C) "__init__" = some (some (.ref f))) (hf : PySem.W.typeIn K (.ref f) = some (.type "function"))
    (h : codeAny (model prog w) (A.under (.builtin "type.__call__" ⟨.ref C :: vs, kw⟩)) (.call (.ref f) ⟨.ref (s.heap.objs.size + 1) :: vs, kw⟩) (PySem.W.InitBack (s.heap.objs.size + 1) R)
      { s with heap := (s.heap.push PySem.W.emptyDict).push (PySem.W.instObj C s.heap.objs.size) }) :
    codeAny (model prog w) A (.call (.ref C) ⟨vs, kw⟩) R s := by
  obtain ⟨hh, g, d, t, os⟩ := s
  exact PySem.W.make_core (PySem.W.makes_of X hm) (PySem.W.looks_findIn X hi) (fun self => PySem.W.bind_fn X self hf) (.inl rfl) h
end

/-! ### the attributes as a list of pairs -/
def putF (f : Str) (v : V) : List (Str × V) → List (Str × V)
  | [] => [(f, v)]
  | (g, x) :: r => if g = f then (g, v) :: r else (g, x) :: putF f v r
theorem lookup_putF (f g : Str) (v : V) : ∀ fs : List (Str × V), (putF f v fs).lookup g = if g = f then some v else fs.lookup g
  | [] => by
    show List.lookup g [(f, v)] = _
    by_cases h : g = f
    · have hb : (g == f) = true := beq_iff_eq.mpr h
      simp only [List.lookup, hb, if_pos h]
    · have hb : (g == f) = false := beq_eq_false_iff_ne.mpr h
      simp only [List.lookup, hb, if_neg h]
  | (k, x) :: r => by
    have ih := lookup_putF f g v r
    rw [show putF f v ((k, x) :: r) = (if k = f then (k, v) :: r else (k, x) :: putF f v r) from rfl]
    by_cases hk : k = f
    · rw [if_pos hk]
      by_cases h : g = k
      · have hb : (g == k) = true := beq_iff_eq.mpr h
        simp only [List.lookup, hb, if_pos (h.trans hk)]
      · have hb : (g == k) = false := beq_eq_false_iff_ne.mpr h
        simp only [List.lookup, hb, if_neg (fun e : g = f => h (e.trans hk.symm))]
    · rw [if_neg hk]
      by_cases h : g = k
      · have hb : (g == k) = true := beq_iff_eq.mpr h
        simp only [List.lookup, hb, if_neg (fun e : g = f => hk (h.symm.trans e))]
      · have hb : (g == k) = false := beq_eq_false_iff_ne.mpr h
        simp only [List.lookup, hb]
        exact ih
theorem keys_putF (f : Str) (v : V) : ∀ fs : List (Str × V), f ∈ (putF f v fs).map (·.1) ∧ ∀ g, g ∈ fs.map (·.1) → g ∈ (putF f v fs).map (·.1)
  | [] => ⟨by simp [putF], fun g h => by simp at h⟩
  | (k, x) :: r => by
    obtain ⟨i1, i2⟩ := keys_putF f v r
    rw [show putF f v ((k, x) :: r) = (if k = f then (k, v) :: r else (k, x) :: putF f v r) from rfl]
    by_cases hk : k = f
    · rw [if_pos hk]
      subst hk
      exact ⟨by simp, fun g h => by simpa using h⟩
    · rw [if_neg hk]
      refine ⟨?_, fun g h => ?_⟩
      · rw [List.map_cons]
        exact List.mem_cons_of_mem _ i1
      · rw [List.map_cons] at h ⊢
        rcases List.mem_cons.mp h with e | e
        · exact List.mem_cons.mpr (.inl e)
        · exact List.mem_cons_of_mem _ (i2 g e)
theorem length_putF (f : Str) (v : V) : ∀ fs : List (Str × V), (putF f v fs).length ≤ fs.length + 1
  | [] => by simp [putF]
  | (k, x) :: r => by
    have ih := length_putF f v r
    rw [show putF f v ((k, x) :: r) = (if k = f then (k, v) :: r else (k, x) :: putF f v r) from rfl]
    by_cases hk : k = f
    · rw [if_pos hk, List.length_cons, List.length_cons]; omega
    · rw [if_neg hk, List.length_cons, List.length_cons]; omega

theorem RelO.some_of {v : V} {o : Option Value} (r : RelO (some v) o) : ∃ u, o = some u ∧ RelV v u := by
  cases o with
  | none => exact (show False from r).elim
  | some u => exact ⟨u, rfl, r⟩
theorem RelO.none_of {o : Option Value} (r : RelO none o) : o = none := by
  cases o with
  | none => rfl
  | some u => exact (show False from r).elim
theorem handed_of {v : V} {u : Value} (r : RelV v u) : PySem.W.handedIn u = true := by
  cases v with
  | non => cases (show u = Value.none from r); rfl
  | bl b => cases (show u = Value.bool b from r); rfl
  | int i => obtain ⟨t, e⟩ := (show ∃ t, u = Value.int i t from r); cases e; rfl
  | str x => obtain ⟨t, e⟩ := (show ∃ t, u = Value.str x t from r); cases e; rfl
  | byt b => obtain ⟨t, e⟩ := (show ∃ t, u = Value.bytes b t from r); cases e; rfl
  | flt b => obtain ⟨t, e⟩ := (show ∃ t, u = Value.float b t from r); cases e; rfl
  | ref a => cases (show u = Value.ref a from r); rfl
  | ty n => cases (show u = Value.type n from r); rfl

section
variable {P : Program} {w : World} {H H' : Hp} {h h' : Heap} {a C dx : Addr} {fs fs' : List (Str × V)}
theorem ins_get (hok : HOk P w H h) (e : H a = some (.ins C dx fs)) : ∃ mA, ObjM h a dx C mA ∧ (∀ f, RelO (fs.lookup f) (mA f)) ∧ PySem.Within mA (fs.map (·.1)) ∧ fs.length ≤ 1000 ∧ H dx = some (.own a) := by
  obtain ⟨d, z, ne, ob, mA, n, r, q⟩ := (show ObjOk P w H h a (.ins C dx fs) from hok a _ e)
  exact ⟨mA, ⟨ob, n, ne⟩, r, q, z, d⟩
end

/-! ### what of the text a class must have -/
structure Cls (K : PySem.W.Frag) (C : Addr) : Prop where
  pg : PySem.W.plainGet K C Str.empty = true
  hd : PySem.W.hasDictIn K C = true
  po : PySem.W.plainOver K C = true
  sa : PySem.W.findIn K (.ref C) "__setattr__" = some (some (.builtin "object.__setattr__"))
theorem Cls.get {K : PySem.W.Frag} {C : Addr} (c : Cls K C) (f : Str) : PySem.W.plainGet K C f = true := c.pg
/-- no class of it has the name -/
def NoAttr (K : PySem.W.Frag) (C : Addr) (f : Str) : Prop := PySem.W.findIn K (.ref C) f = some none
theorem NoAttr.taker {K : PySem.W.Frag} {C : Addr} {f : Str} (n : NoAttr K C f) : PySem.W.takerIn K C f = some none := by
  unfold PySem.W.takerIn
  rw [show PySem.W.findIn K (.ref C) f = some none from n]
  rfl
/-- a constant of the class -/
structure Con (K : PySem.W.Frag) (C : Addr) (f : Str) (v : V) (u : Value) : Prop where
  at_ : PySem.W.findIn K (.ref C) f = some (some u)
  rel : RelV v u
  get : PySem.W.specialIn K u "__get__" = some none
  cp : PySem.W.copiedNames.contains f = false
/-- a method: a plain def of the class or of one above it -/
structure Meth (K : PySem.W.Frag) (C : Addr) (m : Str) (f : Addr) : Prop where
  at_ : PySem.W.findIn K (.ref C) m = some (some (.ref f))
  fn : PySem.W.isFn K (.ref f) = true
  kp : PySem.W.keepIn K (.ref f) = true

section
variable {X : Cx} {pins : List (Addr × Obj)} {σ : St} {H : Hp} {s : Shared} {a C dx : Addr} {fs : List (Str × V)} {f : Str} {v : V} {A : Around} {E : Value → Shared → Prop}

theorem getattr_ok {b : Bool} {Q : Value → Shared → Prop} (I : Inv X pins σ H s) (e : H a = some (.ins C dx fs)) (c : Cls X.K C) (n : NoAttr X.K C f) (l : fs.lookup f = some v)
    (h : ∀ u s', Inv X pins σ H s' → RelV v u → Q u s') : wpAny (model X.prog X.w) A (getAttr (.ref a) f b) Q E s := by
  obtain ⟨mA, O, r, _, _, _⟩ := ins_get I.hok e
  obtain ⟨u, hu, ru⟩ := RelO.some_of (v := v) (o := mA f) (by rw [← l]; exact r f)
  exact get_map I.kIn O (c.get f) c.hd n hu (handed_of ru) (h u _ (I.tok _) ru)

theorem getmeth_ok {m : Str} {g : Addr} {pl : Sem Bool} {Q : Value × List Value → Shared → Prop} (I : Inv X pins σ H s) (e : H a = some (.ins C dx fs)) (c : Cls X.K C) (k : Meth X.K C m g) (l : fs.lookup m = none)
    (h : Q (.ref g, [.ref a]) s) : wpAny (model X.prog X.w) A (getMethod (.ref a) m pl) Q E s := by
  obtain ⟨mA, O, r, _, _, _⟩ := ins_get I.hok e
  have hn : mA m = none := RelO.none_of (by rw [← l]; exact r m)
  exact get_meth I.kIn O (c.get m) k.at_ k.fn hn h

theorem setattr_ok {y : V} {u : Value} {Q : Unit → Shared → Prop} (I : Inv X pins σ H s) (e : H a = some (.ins C dx fs)) (c : Cls X.K C) (n : NoAttr X.K C f) (hl : fs.length < 1000) (ry : RelV y u)
    (h : ∀ s', Inv X pins σ (upd H a (.ins C dx (putF f y fs))) s' → Q () s') : wpAny (model X.prog X.w) A (setAttr (.ref a) f u) Q E s := by
  obtain ⟨mA, O, r, wi, _, ho⟩ := ins_get I.hok e
  have hz : (fs.map (·.1)).length ≤ sizeLine := by rw [List.length_map, sizeLine_eq]; omega
  refine set_map I.kIn O c.sa c.po n.taker c.hd wi hz fun h' O' sb => h _ ?_
  have hd : ∃ o, h'.get? dx = some o := let ⟨o, _, _, e', _⟩ := O'.ns; ⟨o, e'⟩
  refine I.write (x := a) (e := dx) (by rw [e]; exact True.intro) (.inr ho) (fun b q hb z => (sb.2 b hb).trans z) hd ?_
  refine ⟨by rw [upd_ne O.ne]; exact ho, ?_, O.ne, O'.obj, _, O'.ns, fun g => ?_, fun g hg => ?_⟩
  · have := length_putF f y fs; omega
  · show RelO ((putF f y fs).lookup g) (if g = f then some u else mA g)
    rw [lookup_putF]
    by_cases q : g = f
    · rw [if_pos q, if_pos q]; exact ry
    · rw [if_neg q, if_neg q]; exact r g
  · by_cases q : g = f
    · rw [q]; exact (keys_putF f y fs).1
    · refine (keys_putF f y fs).2 g (wi g fun z => hg ?_)
      show (if g = f then some u else mA g) = none
      rw [if_neg q]; exact z

/-- a new instance, tracked, without attributes -/
theorem Inv.made (I : Inv X pins σ H s) : Inv X pins σ (upd (upd H s.heap.objs.size (.own (s.heap.objs.size + 1))) (s.heap.objs.size + 1) (.ins C s.heap.objs.size []))
    { s with heap := (s.heap.push PySem.W.emptyDict).push (PySem.W.instObj C s.heap.objs.size) } := by
  have e1 : (s.heap.push PySem.W.emptyDict).get? s.heap.objs.size = some PySem.W.emptyDict := Heap.get?_push_size s.heap rfl
  have e2 : ((s.heap.push PySem.W.emptyDict).push (PySem.W.instObj C s.heap.objs.size)).get? (s.heap.objs.size + 1) = some (PySem.W.instObj C s.heap.objs.size) := by
    have := Heap.get?_push_size (s.heap.push PySem.W.emptyDict) (o := PySem.W.instObj C s.heap.objs.size) rfl
    rwa [Heap.size_push] at this
  have e3 : (s.heap.push PySem.W.emptyDict).Ns s.heap.objs.size (fun _ => none) := ⟨PySem.W.emptyDict, #[], _, e1, rfl, (fun e he => absurd he (by simp)), fun _ => rfl⟩
  have I1 := I.laid (a := s.heap.objs.size) (o := .own (s.heap.objs.size + 1)) (h' := s.heap.push PySem.W.emptyDict) (t' := s.toks) (fun b u q => Heap.get?_push_of_some _ q) (Nat.le_refl _) ⟨_, e1⟩
  refine I1.laid (a := s.heap.objs.size + 1) (o := .ins C s.heap.objs.size []) (t' := s.toks) (fun b u q => Heap.get?_push_of_some _ q) (Nat.le_of_eq (Heap.size_push _ _)) ?_
  have ne : s.heap.objs.size ≠ s.heap.objs.size + 1 := Nat.ne_of_lt (Nat.lt_succ_self _)
  refine ⟨by rw [upd_ne ne, upd_same], Nat.zero_le _, ne, e2, fun _ => none, (Heap.Ns1.of_empty e3).at fun o q => Heap.get?_push_of_some _ q, fun _ => True.intro, fun y hy => absurd rfl hy⟩

/-- e.f where nothing but the object is asked: through attributeBase (super) and the last hold -/
theorem attr_of {prog : Program} {w : World} {env : Env} {e : Expr} {f : Str} {pos : Pos} {s : Shared} {Q : Value → Shared → Prop} (hb : attributeBase e f env (eval e env) = eval e env)
    (h : wpAny (model prog w) A (eval e env) (fun o s₁ => wpAny (model prog w) A (getAttr o f true) Q E s₁) E s) : wpAny (model prog w) A (eval (.Attribute e f pos) env) Q E s :=
  Attribute_any_ h (by rw [arm_eval_Attribute, hb])
end

/-! ### readings and rules -/
/-- e.f, an attribute of the instance -/
def tFld (K : PySem.W.Frag) (ta : TE) (f : Str) : TE := fun σ H Q => ta σ H fun x H1 => ∃ a C dx fs v, x = .ref a ∧ H1 a = some (.ins C dx fs) ∧ Cls K C ∧ NoAttr K C f ∧ fs.lookup f = some v ∧ Q v H1
/-- e.f = value -/
def sFld (K : PySem.W.Frag) (ta tv : TE) (f : Str) : TS := fun D σ H => tv σ H fun y H1 => ta σ H1 fun x H2 => ∃ a C dx fs, x = .ref a ∧ H2 a = some (.ins C dx fs) ∧ Cls K C ∧ NoAttr K C f ∧ fs.length < 1000 ∧
  D.nx σ (upd H2 a (.ins C dx (putF f y fs)))
section
variable {X : Cx} {o e value : Expr} {f : Str} {pos pos' tpos : Pos} {ta tv : TE}
theorem pe_fld (he : PE X e ta) (hb : attributeBase e f X.env (eval e X.env) = eval e X.env) : PE X (.Attribute e f pos) (tFld X.K ta f) := by
  intro pins s σ H Q I h
  refine attr_of hb (thn (he pins s σ H _ I h) fun u s1 ⟨x, H1, I1, rx, a, C, dx, fs, v, ex, ea, c, n, l, q⟩ => ?_)
  subst ex
  obtain rfl : u = Value.ref a := rx
  exact getattr_ok I1 ea c n l fun u' s2 I2 ru => ⟨v, H1, I2, ru, q⟩
theorem ps_fld (ha : PE X o ta) (hv : PE X value tv) (hs : swapsWith value (some (.Attribute o f pos')) pos.line X.env = pure false) : PS X (.Assign [.Attribute o f pos'] value pos) (sFld X.K ta tv f) := by
  intro pins s σ H D I h
  refine plainObj_wpAny_Assign_Attribute (thn (hv pins s σ H _ I h) fun u s1 ⟨y, H1, I1, ry, q⟩ => thn (ha pins s1 σ H1 _ I1 q) fun ov s2 ⟨x, H2, I2, rx, a, C, dx, fs, ex, ea, c, n, l, q2⟩ => ?_) hs
  subst ex
  obtain rfl : ov = Value.ref a := rx
  exact setattr_ok I2 ea c n l ry fun s3 I3 => ⟨σ, _, I3, q2⟩
end

/-! ### isinstance -/
section
variable {X : Cx} {pins : List (Addr × Obj)} {σ : St} {H : Hp} {s : Shared} {A : Around} {E : Value → Shared → Prop} {Q : Value → Shared → Prop} {c : Value} {b : Bool}
/-- the type of a value, as the fragment's deciders take it; for an instance its class -/
inductive TyOf (K : PySem.W.Frag) (H : Hp) : V → Value → Prop where
  | non : TyOf K H .non (.type "NoneType")
  | bl (x : Bool) : TyOf K H (.bl x) (.type "bool")
  | int (i : Int) : TyOf K H (.int i) (.type "int")
  | str (x : Str) : TyOf K H (.str x) (.type "str")
  | flt (x : UInt64) : TyOf K H (.flt x) (.type "float")
  | lst {a : Addr} {xs : List V} (e : H a = some (.lst xs)) : TyOf K H (.ref a) (.type "list")
  | frz {a : Addr} {o : Obj} {xs : List V} (e : H a = some (.frz o (.lst xs))) : TyOf K H (.ref a) (.type "list")
  | tup {a : Addr} {xs : List V} (e : H a = some (.tup xs)) : TyOf K H (.ref a) (.type "tuple")
  | dK {a : Addr} {kvs : List (Key × V)} (e : H a = some (.dK kvs)) : TyOf K H (.ref a) (.type "dict")
  | dT {a : Addr} {kvs : List (List Key × V)} (e : H a = some (.dT kvs)) : TyOf K H (.ref a) (.type "dict")
  | ins {a C dx : Addr} {fs : List (Str × V)} (e : H a = some (.ins C dx fs)) (cl : Cls K C) (ha : PySem.W.findIn K (.ref C) "__class__" = some (some (.builtin "object.__class__")))
      (hn : PySem.W.specialIn K (.builtin "object.__class__") "__get__" = some (some (.builtin "getset_descriptor.__get__"))) (htk : PySem.W.takesIn K (.builtin "object.__class__") = some true)
      (hm : PySem.W.mroIn K C (.type "object") = some true) : TyOf K H (.ref a) (.ref C)
/-- isinstance(x, c) for one class c, a built-in or an own one: kitOne's answer -/
theorem isinst_ok {x : V} {u t : Value} (I : Inv X pins σ H s) (rx : RelV x u) (ty : TyOf X.K H x t) (e : PySem.W.kitOne X.K t c = some b) (h : ∀ tk, Q (.bool b) { s with toks := tk }) :
    wpAny (model X.prog X.w) A (call (.builtin "isinstance") [u, c]) Q E s := by
  cases ty with
  | non => cases (show u = Value.none from rx); exact PySem.W.kia_one PySem.W.kitx_none I.kIn True.intro e (fun z => nomatch z) h
  | bl y => cases (show u = Value.bool y from rx); exact PySem.W.kia_one PySem.W.kitx_bool I.kIn True.intro e (fun z => nomatch z) h
  | int i => obtain ⟨t, q⟩ := (show ∃ t, u = Value.int i t from rx); cases q; exact PySem.W.kia_one PySem.W.kitx_int I.kIn True.intro e (fun z => nomatch z) h
  | str y => obtain ⟨t, q⟩ := (show ∃ t, u = Value.str y t from rx); cases q; exact PySem.W.kia_one PySem.W.kitx_str I.kIn True.intro e (fun z => nomatch z) h
  | flt y => obtain ⟨t, q⟩ := (show ∃ t, u = Value.float y t from rx); cases q; exact PySem.W.kia_one PySem.W.kitx_float I.kIn True.intro e (fun z => nomatch z) h
  | @lst a xs ea =>
    cases (show u = Value.ref a from rx)
    obtain ⟨_, _, n, _, h1⟩ := (show ObjOk X.prog X.w H s.heap a (.lst xs) from I.hok a _ ea)
    exact PySem.W.kia_one PySem.W.kitx_list I.kIn ⟨_, h1, rfl⟩ e (fun z => nomatch z) h
  | @frz a ob xs ea =>
    cases (show u = Value.ref a from rx)
    obtain ⟨_, _, _, n, _, h1⟩ := (show ObjOk X.prog X.w H s.heap a (.frz ob (.lst xs)) from I.hok a _ ea)
    exact PySem.W.kia_one PySem.W.kitx_list I.kIn ⟨_, h1, rfl⟩ e (fun z => nomatch z) h
  | @tup a xs ea =>
    cases (show u = Value.ref a from rx)
    obtain ⟨_, _, _, p⟩ := (show ObjOk X.prog X.w H s.heap a (.tup xs) from I.hok a _ ea)
    obtain ⟨o, h1, h2, _⟩ := p
    exact PySem.W.kia_one PySem.W.kitx_tuple I.kIn ⟨o, h1, h2⟩ e (fun z => nomatch z) h
  | @dK a kvs ea =>
    cases (show u = Value.ref a from rx)
    obtain ⟨_, _, vs, _, p⟩ := (show ObjOk X.prog X.w H s.heap a (.dK kvs) from I.hok a _ ea)
    obtain ⟨o, es, ep, h1, h2, _⟩ := p
    exact PySem.W.kia_one PySem.W.kitx_dict I.kIn ⟨o, h1, h2.1⟩ e (fun z => nomatch z) h
  | @dT a kvs ea =>
    cases (show u = Value.ref a from rx)
    obtain ⟨_, _, xs, _, o, es, ep, h1, h2, _⟩ := (show ObjOk X.prog X.w H s.heap a (.dT kvs) from I.hok a _ ea)
    exact PySem.W.kia_one PySem.W.kitx_dict I.kIn ⟨o, h1, h2.1⟩ e (fun z => nomatch z) h
  | @ins a C dx fs ea cl ha hn htk hm =>
    cases (show u = Value.ref a from rx)
    obtain ⟨mA, O, _⟩ := ins_get I.hok ea
    obtain ⟨od, J, _⟩ := O.look
    exact PySem.W.kia_one (PySem.W.kitx_own (cl.get _) cl.hd ha hn htk hm) I.kIn J e (fun z => nomatch z) h
end
end L2

namespace L2
open PySem PySem.Spec PyProof.Rows

/-! ### room -/
structure Room (k : Nat) (A : Around) : Prop where
  hd : A.handled = none
  dp : A.depth + 3 * k + 5 < recursionLimit
  un : A.units + 16 * k + 200 < cLine
theorem Room.mono {j k : Nat} {A : Around} (r : Room k A) (h : j ≤ k) : Room j A := ⟨r.hd, by have := r.dp; omega, by have := r.un; omega⟩
theorem Room.deeper {k : Nat} {A : Around} (r : Room (k + 1) A) (env : Env) : Room k (A.deeper env) :=
  ⟨r.hd, by have := r.dp; show A.depth + 1 + 3 * k + 5 < _; omega, by have := r.un; show A.units + 3 + 16 * k + 200 < _; omega⟩
theorem Room.in1 {k : Nat} {A : Around} (r : Room (k + 1) A) : Room k A.in1 :=
  ⟨r.hd, by have := r.dp; show A.depth + 3 * k + 5 < _; omega, by have := r.un; show A.units + 1 + 16 * k + 200 < _; omega⟩
theorem make_depth {A : Around} {C : Addr} {us : List Value} {kw : List (Str × Value)} : (A.under (.builtin "type.__call__" ⟨.ref C :: us, kw⟩)).depth = A.depth + 1 := by
  first | rfl | simp [Around.under, Code.weight, Code.isCreation, Code.isGuard, Code.isCaller, Code.frames, Code.isFrame, guardIds]
theorem make_units {A : Around} {C : Addr} {us : List Value} {kw : List (Str × Value)} : (A.under (.builtin "type.__call__" ⟨.ref C :: us, kw⟩)).units = A.units + 1 := by
  first | rfl | simp [Around.under, Code.cUnits, Code.frames, Code.isFrame]
theorem Room.make {k : Nat} {A : Around} (r : Room (k + 1) A) (C : Addr) (us : List Value) (kw : List (Str × Value)) : Room k (A.under (.builtin "type.__call__" ⟨.ref C :: us, kw⟩)) :=
  ⟨r.hd, by have := r.dp; rw [make_depth]; omega, by have := r.un; rw [make_units]; omega⟩
theorem Room.depth {k : Nat} {A : Around} (r : Room k A) : A.depth < recursionLimit := by have := r.dp; omega
theorem Room.units {k : Nat} {A : Around} (r : Room k A) : A.units + 64 < cLine := by have := r.un; omega
theorem Room.units0 {k : Nat} {A : Around} (r : Room k A) : A.units < cLine := by have := r.un; omega

/-! ### argument lists and displays -/
def tNil : TA := fun _ H Q => Q [] H
def tCons (ta : TE) (tr : TA) : TA := fun σ H Q => ta σ H fun x H1 => tr σ H1 fun xs H2 => Q (x :: xs) H2
section
variable {X : Cx} {e : Expr} {es : List Expr} {te : TE} {t : TA} {pos : Pos}
theorem pa_nil : PA X [] tNil := fun _ _ _ _ H Q I h => Calls.spliced_nil ⟨[], H, I, .nil, h⟩
theorem pa_cons (ha : PE X e te) (hr : PA X es t) (hs : starEach (e :: es) X.env = (false, eval e X.env) :: starEach es X.env := by rfl) : PA X (e :: es) (tCons te t) := by
  intro pos pins s σ H Q I h
  rw [hs]
  show wpAny _ _ (spliced ((false, eval e X.env) :: backTo pos (starEach es X.env))) _ _ s
  refine Calls.spliced_cons (thn (ha pins s σ H _ I h) fun u s1 ⟨x, H1, I1, r1, q1⟩ => ?_)
  exact thn (hr pos pins s1 σ H1 _ I1 q1) fun us s2 ⟨xs, H2, I2, r2, q2⟩ => ⟨x :: xs, H2, I2, .cons r1 r2, q2⟩

/-- a tuple, a list of written items -/
def tTup (t : TA) : TE := fun σ H Q => t σ H fun xs H1 => xs.length ≤ sizeLine ∧ ∀ p, H1 p = none → Q (.ref p) (upd H1 p (.tup xs))
def tLst (t : TA) : TE := fun σ H Q => t σ H fun xs H1 => xs.length ≤ sizeLine ∧ ∀ p, H1 p = none → Q (.ref p) (upd H1 p (.lst xs))
theorem pe_tup {x1} (h : PA X es t) : PE X (.Tuple es x1 pos) (tTup t) := by
  intro pins s σ H Q I hq
  refine wpAny_Tuple_spliced (thn (h pos pins s σ H _ I hq) fun us s1 ⟨xs, H1, I1, r, z, q⟩ => ⟨by rw [← r.length]; exact z, ?_⟩)
  have hf : H1 s1.heap.objs.size = none := I1.hok.fresh (Nat.le_refl _)
  refine ⟨.ref s1.heap.objs.size, upd H1 s1.heap.objs.size (.tup xs), I1.laid (t' := s1.toks) (fun b u e => Heap.get?_push_of_some _ e) (Nat.le_refl _) ?_, rfl, q _ hf⟩
  exact ⟨z, us, r, ⟨_, Heap.get?_push_size _ rfl, rfl, _, rfl⟩⟩
theorem pe_lst (h : PA X es t) : PE X (.List es pos) (tLst t) := by
  intro pins s σ H Q I hq
  refine wpAny_List_spliced (thn (h pos pins s σ H _ I hq) fun us s1 ⟨xs, H1, I1, r, z, q⟩ => ⟨by rw [← r.length]; exact z, ?_⟩)
  have hf : H1 s1.heap.objs.size = none := I1.hok.fresh (Nat.le_refl _)
  refine ⟨.ref s1.heap.objs.size, upd H1 s1.heap.objs.size (.lst xs), I1.laid (t' := s1.toks) (fun b u e => Heap.get?_push_of_some _ e) (Nat.le_refl _) ?_, rfl, q _ hf⟩
  exact ⟨z, us, 0, r, Heap.get?_push_size _ rfl⟩
end

/-! ### what a def promises -/
/-- a def's promise: the bound arguments in the parameters' order, the heap, the wanted end, the wanted exception -/
abbrev Sp := List V → Hp → VK → XK → Prop
/-- how an exception lies behind a call (file 08 gives it): the callers' frames, abstract heap and state ahead of the call, the wish, the exception, the state -/
abbrev CXT := List Env → Hp → Shared → XK → Value → Shared → Prop

/-- the state at a call -/
structure Env0 (P : Program) (w : World) (K : PySem.W.Frag) (mg : Str → Option Value) (base : Heap) (A : Around) (outer : List Env) (s : Shared) (H : Hp) : Prop where
  frames : A.frames = some outer
  mod : Mod K mg base
  bs : ∀ b o, base.get? b = some o → s.heap.get? b = some o ∧ H b = none
  bsz : base.objs.size ≤ s.heap.objs.size
  funs : s.heap.FunFrames base outer
  frf : ∀ b ∈ frs outer, H b = none
  hok : HOk P w H s.heap
  bare : AllBare s.gens
/-- a call's end -/
def CE (outer : List Env) (P : Program) (w : World) (H : Hp) (s : Shared) (Q : VK) (u : Value) (s' : Shared) : Prop :=
  ∃ v H', s'.os = s.os ∧ AllBare s'.gens ∧ Un (frs outer) [] H H' s.heap s'.heap ∧ HOk P w H' s'.heap ∧ RelV v u ∧ Q v H'
def CR (CX : CXT) (outer : List Env) (P : Program) (w : World) (H : Hp) (s : Shared) (Q : VK) (E : XK) (r : Result) (s' : Shared) : Prop :=
  match r with
  | .ok (.ret u) => CE outer P w H s Q u s'
  | .ok _ => False
  | .error e => CX outer H s E e s'
structure FnOk (P : Program) (w : World) (K : PySem.W.Frag) (mg : Str → Option Value) (base : Heap) (CX : CXT) (k : Nat) (f : Addr) (fd : FuncData) (ps : List Str) (sp : Sp) : Prop where
  len : ∀ vs H Q E, sp vs H Q E → vs.length = ps.length
  run : ∀ (A : Around) (outer : List Env) (s : Shared) (H : Hp) (args : Args) (us : List Value) (vs : List V) (Q : VK) (E : XK), Room k A → Env0 P w K mg base A outer s H → BindsTo s fd args (ps.zip us) → Vals vs us → sp vs H Q E →
    codeAny (model P w) A (.call (.ref f) args) (CR CX outer P w H s Q E) s
theorem FnOk.mono {P : Program} {w : World} {K : PySem.W.Frag} {mg : Str → Option Value} {base : Heap} {CX : CXT} {j k : Nat} {f : Addr} {fd : FuncData} {ps : List Str} {sp : Sp} (F : FnOk P w K mg base CX j f fd ps sp) (h : j ≤ k) :
    FnOk P w K mg base CX k f fd ps sp := ⟨F.len, fun A outer s H args us vs Q E hr => F.run A outer s H args us vs Q E (hr.mono h)⟩
/-- a weaker promise -/
theorem FnOk.imp {P : Program} {w : World} {K : PySem.W.Frag} {mg : Str → Option Value} {base : Heap} {CX : CXT} {k : Nat} {f : Addr} {fd : FuncData} {ps : List Str} {sp sp' : Sp} (F : FnOk P w K mg base CX k f fd ps sp)
    (h : ∀ vs H Q E, sp' vs H Q E → sp vs H Q E) : FnOk P w K mg base CX k f fd ps sp' :=
  ⟨fun vs H Q E q => F.len vs H Q E (h _ _ _ _ q), fun A outer s H args us vs Q E hr he hb hv hs => F.run A outer s H args us vs Q E hr he hb hv (h _ _ _ _ hs)⟩

theorem Env0.make {P : Program} {w : World} {K : PySem.W.Frag} {mg : Str → Option Value} {base : Heap} {A : Around} {outer : List Env} {s : Shared} {H : Hp} (e : Env0 P w K mg base A outer s H) (C : Addr) (us : List Value) (kw : List (Str × Value)) :
    Env0 P w K mg base (A.under (.builtin "type.__call__" ⟨.ref C :: us, kw⟩)) outer s H := ⟨by first | exact e.frames | (simpa [Around.under, Code.envs, Code.isFrame, pushEnvs] using e.frames), e.mod, e.bs, e.bsz, e.funs, e.frf, e.hok, e.bare⟩
theorem Env0.in1 {P : Program} {w : World} {K : PySem.W.Frag} {mg : Str → Option Value} {base : Heap} {A : Around} {outer : List Env} {s : Shared} {H : Hp} (e : Env0 P w K mg base A outer s H) :
    Env0 P w K mg base A.in1 outer s H := ⟨e.frames, e.mod, e.bs, e.bsz, e.funs, e.frf, e.hok, e.bare⟩

section
variable {X : Cx} {pins : List (Addr × Obj)} {σ : St} {H : Hp} {s s' : Shared}
/-- from a body: what a callee wants -/
theorem Inv.env0 (I : Inv X pins σ H s) : Env0 X.prog X.w X.K X.mg X.base X.A X.stack s H :=
  ⟨I.ok.frames, I.ok.mod, I.bs, Nat.le_trans I.ok.bsz I.sz, I.stack, I.stkFree, I.hok, I.bare⟩
/-- behind a call -/
theorem Inv.after {Q : VK} {u : Value} (I : Inv X pins σ H s) (h : CE X.stack X.prog X.w H s Q u s') : EP X pins σ Q u s' := by
  obtain ⟨v, H', os, bare, un, hok, r, q⟩ := h
  obtain ⟨hh, g, d, t, os'⟩ := s'
  obtain rfl : os' = s.os := os
  exact ⟨v, H', I.call (h' := hh) (g' := g) (d' := d) (t' := t) (ch := []) un hok bare (fun b z => absurd z (by simp)), r, q⟩
end

/-! ### calls -/
/-- f(..): the written arguments, then the defaults dvs; E: what is wanted of an exception -/
def tCall (sp : Sp) (dvs : List V) (E : XK) (t : TA) : TE := fun σ H Q => t σ H fun vs H1 => sp (vs ++ dvs) H1 Q E
/-- o.m(..) of an instance of the class at C -/
def tMeth (C : Addr) (m : Str) (sp : Sp) (dvs : List V) (E : XK) (ta : TE) (t : TA) : TE := fun σ H Q => ta σ H fun x H1 => ∃ a dx fs, x = .ref a ∧ H1 a = some (.ins C dx fs) ∧ fs.lookup m = none ∧
  t σ H1 fun vs H2 => sp (x :: (vs ++ dvs)) H2 Q E
/-- C(..): a new instance and its dict, then __init__ -/
def tMake (C : Addr) (sp : Sp) (dvs : List V) (E : XK) (t : TA) : TE := fun σ H Q => t σ H fun vs H1 => ∀ x dx, H1 x = none → H1 dx = none → dx ≠ x →
  sp (.ref x :: (vs ++ dvs)) (upd (upd H1 dx (.own x)) x (.ins C dx [])) (fun v H2 => v = .non ∧ Q (.ref x) H2) E

/-- how the parameters are bound: us the positional arguments, kw the keywords' values by name, ds the defaults that fill up -/
def Binds (K : PySem.W.Frag) (fd : FuncData) (ps : List Str) (ds : List Value) : Prop :=
  ∀ (s : Shared) (us : List Value), K.In s.heap → (us ++ ds).length = ps.length → BindsTo s fd ⟨us, []⟩ (ps.zip (us ++ ds))
/-- every parameter is given -/
theorem Binds.all {K : PySem.W.Frag} {fd : FuncData} {ps : List Str} (h : ∀ us : List Value, us.length = ps.length → bindArgs fd ⟨us, []⟩ = pure (ps.zip us)) : Binds K fd ps [] := fun s us _ hl => by
  rw [List.append_nil] at hl ⊢
  exact .of_eq (h us hl)

/-- an exception of a callee reaches what this body wants of exceptions -/
def Passes (CX : CXT) (X : Cx) (E : XK) : Prop := ∀ (pins : List (Addr × Obj)) (σ : St) (H : Hp) (s : Shared) (e : Value) (s' : Shared), Inv X pins σ H s → CX X.stack H s E e s' → X.xe e s'

section
variable {X : Cx} {CX : CXT} {k : Nat} {f C : Addr} {fd : FuncData} {ps : List Str} {sp : Sp} {dvs : List V} {ds : List Value} {E : XK} {x m : Str} {p pos apos : Pos} {e o : Expr} {es : List Expr} {ta : TE} {t : TA}

/-- the callee runs -/
theorem run_fn {pins : List (Addr × Obj)} {σ : St} {H : Hp} {s : Shared} {Q : VK} {us : List Value} {vs : List V} (F : FnOk X.prog X.w X.K X.mg X.base CX k f fd ps sp) (hr : Room k X.A) (hb : Binds X.K fd ps ds) (hd : Vals dvs ds) (hx : Passes CX X E)
    (I : Inv X pins σ H s) (r : Vals vs us) (h : sp (vs ++ dvs) H Q E) : wpAny (model X.prog X.w) X.A (call (.ref f) us) (EP X pins σ Q) X.xe s := by
  have r2 : Vals (vs ++ dvs) (us ++ ds) := r.append hd
  have hl : (us ++ ds).length = ps.length := by rw [← r2.length]; exact F.len _ _ _ _ h
  refine wpAny_call (codeAny_mono (F.run X.A X.stack s H ⟨us, []⟩ (us ++ ds) (vs ++ dvs) Q E hr I.env0 (hb s us I.kIn hl) r2 h) fun r s' hq => ?_)
  cases r with
  | error e => exact hx pins σ H s e s' I hq
  | ok fl =>
    cases fl with
    | ret u => exact I.after hq
    | next => exact False.elim hq
    | brk => exact False.elim hq
    | cont => exact False.elim hq

theorem pe_call (F : FnOk X.prog X.w X.K X.mg X.base CX k f fd ps sp) (hr : Room k X.A) (hg : Gl X x) (hm : X.mg x = some (.ref f)) (hk : PySem.W.keepIn X.K (.ref f) = true) (hb : Binds X.K fd ps ds) (hd : Vals dvs ds) (hx : Passes CX X E)
    (ha : PA X (e :: es) t) (hdb : (x == ("__debug__" : Str)) = false := by decide) (he : starEach (e :: es) X.env = (false, eval e X.env) :: starEach es X.env := by rfl) (hpl : (backTo pos (starEach es X.env)).any (·.1) = false := by rfl) :
    PE X (.Call (.Name x p) (e :: es) [] pos) (tCall sp dvs E t) := by
  intro pins s σ H Q I h
  refine wpAny_Call_Name_kw (ld_glob I hg hm ?_ hdb)
  refine PySem.W.callWith_K (h₀ := X.base) I.ok.mod.kin hk (thn (ha pos pins s σ H _ I h) fun us s1 ⟨vs, H1, I1, r, q⟩ => ⟨I1.kIn, ?_⟩) he hpl
  exact run_fn F hr hb hd hx I1 r q
/-- o.m(e, ..) -/
theorem pe_meth {pl : Sem Bool} (he : PE X o ta) (c : Cls X.K C) (hm : Meth X.K C m f) (F : FnOk X.prog X.w X.K X.mg X.base CX k f fd ps sp) (hr : Room k X.A) (hb : Binds X.K fd ps ds) (hd : Vals dvs ds) (hx : Passes CX X E) (ha : PA X (e :: es) t)
    (hst : starEach (e :: es) X.env = (false, eval e X.env) :: starEach es X.env := by rfl) (hpl : (backTo pos (starEach es X.env)).any (·.1) = false := by rfl)
    (ht : eval (.Call (.Attribute o m apos) (e :: es) [] pos) X.env = (do
      let ov ← eval o X.env
      standAt apos.atName
      let (f, first) ← holding [ov] (getMethod ov m pl)
      callWith pos f first (backTo pos (starEach (e :: es) X.env)) (backToKw pos (keywordEach [] X.env))) := by rfl) :
    PE X (.Call (.Attribute o m apos) (e :: es) [] pos) (tMeth C m sp dvs E ta t) := by
  intro pins s σ H Q I h
  refine PySem.W.methodCall_KW (pl := pl) (thn (he pins s σ H _ I h) fun u s1 ⟨x, H1, I1, rx, a, dx, fs, ex, ea, l, q⟩ => ?_) ht
  subst ex
  obtain rfl : u = Value.ref a := rx
  refine getmeth_ok I1 ea c hm l ?_
  refine PySem.W.callWith_K (first := [.ref a]) (h₀ := X.base) I.ok.mod.kin hm.kp (thn (ha pos pins s1 σ H1 _ I1 q) fun us s2 ⟨vs, H2, I2, r, q2⟩ => ⟨I2.kIn, ?_⟩) hst hpl
  exact run_fn (us := .ref a :: us) (vs := .ref a :: vs) F hr hb hd hx I2 (.cons rfl r) q2
/-- what a class must have to be made -/
structure Mk (K : PySem.W.Frag) (C f : Addr) : Prop where
  makes : PySem.W.makesIn K C = true
  init : PySem.W.findIn K (.ref C) "__init__" = some (some (.ref f))
  fn : PySem.W.isFn K (.ref f) = true
  kp : PySem.W.keepIn K (.ref C) = true

theorem run_make {pins : List (Addr × Obj)} {σ : St} {H : Hp} {s : Shared} {Q : VK} {us : List Value} {vs : List V} (M : Mk X.K C f) (F : FnOk X.prog X.w X.K X.mg X.base CX k f fd ps sp) (hr : Room (k + 1) X.A) (hb : Binds X.K fd ps ds) (hd : Vals dvs ds)
    (hx : Passes CX X E) (I : Inv X pins σ H s) (r : Vals vs us)
    (h : ∀ x dx, H x = none → H dx = none → dx ≠ x → sp (.ref x :: (vs ++ dvs)) (upd (upd H dx (.own x)) x (.ins C dx [])) (fun v H2 => v = .non ∧ Q (.ref x) H2) E) :
    wpAny (model X.prog X.w) X.A (call (.ref C) us) (EP X pins σ Q) X.xe s := by
  have hq := h (s.heap.objs.size + 1) s.heap.objs.size (I.hok.fresh (Nat.le_succ _)) (I.hok.fresh (Nat.le_refl _)) (Nat.ne_of_lt (Nat.lt_succ_self _))
  have I2 := Inv.made (C := C) I
  have r2 : Vals (V.ref (s.heap.objs.size + 1) :: (vs ++ dvs)) (Value.ref (s.heap.objs.size + 1) :: (us ++ ds)) := .cons rfl (r.append hd)
  have hl : (Value.ref (s.heap.objs.size + 1) :: us ++ ds).length = ps.length := by
    have e := r2.length
    rw [F.len _ _ _ _ hq] at e
    exact e.symm
  refine wpAny_call (make_map (f := f) I.kIn M.makes M.init (beq_iff_eq.mp M.fn) (codeAny_mono (F.run _ X.stack _ _ ⟨Value.ref (s.heap.objs.size + 1) :: us, []⟩ (Value.ref (s.heap.objs.size + 1) :: (us ++ ds)) _ _ E (hr.make C us [])
    (I2.env0.make C us []) (hb _ (Value.ref (s.heap.objs.size + 1) :: us) I2.kIn hl) r2 hq) fun r s' hq' => ?_))
  cases r with
  | error e => exact hx pins σ _ _ e s' I2 hq'
  | ok fl =>
    cases fl with
    | ret u =>
      obtain ⟨v, H', I3, rv, ev, q3⟩ := I2.after hq'
      subst ev
      exact ⟨rv, ⟨V.ref (s.heap.objs.size + 1), H', I3, rfl, q3⟩⟩
    | next => exact False.elim hq'
    | brk => exact False.elim hq'
    | cont => exact False.elim hq'
theorem pe_make (M : Mk X.K C f) (F : FnOk X.prog X.w X.K X.mg X.base CX k f fd ps sp) (hr : Room (k + 1) X.A) (hg : Gl X x) (hm : X.mg x = some (.ref C)) (hb : Binds X.K fd ps ds) (hd : Vals dvs ds) (hx : Passes CX X E)
    (ha : PA X (e :: es) t) (hdb : (x == ("__debug__" : Str)) = false := by decide) (he : starEach (e :: es) X.env = (false, eval e X.env) :: starEach es X.env := by rfl) (hpl : (backTo pos (starEach es X.env)).any (·.1) = false := by rfl) :
    PE X (.Call (.Name x p) (e :: es) [] pos) (tMake C sp dvs E t) := by
  intro pins s σ H Q I h
  refine wpAny_Call_Name_kw (ld_glob I hg hm ?_ hdb)
  refine PySem.W.callWith_K (h₀ := X.base) I.ok.mod.kin M.kp (thn (ha pos pins s σ H _ I h) fun us s1 ⟨vs, H1, I1, r, q⟩ => ⟨I1.kIn, ?_⟩) he hpl
  exact run_make M F hr hb hd hx I1 r q
end

/-! ### keywords -/
section
variable {X : Cx} {CX : CXT} {k : Nat} {f C : Addr} {fd : FuncData} {ps ks : List Str} {sp : Sp} {E : XK} {x m : Str} {p pos apos kpos : Pos} {e o : Expr} {es : List Expr} {kws : List Keyword} {te ta : TE} {t tk : TA} {nm : Option Str}
/-- how a call with keywords binds: g puts the positional values us and the keywords' values ws (names ks) in the parameters' order, defaults among them -/
structure KBinds (K : PySem.W.Frag) (fd : FuncData) (ps ks : List Str) (g : List Value → List Value → List Value) (gV : List V → List V → List V) : Prop where
  to : ∀ (s : Shared) (us ws : List Value), K.In s.heap → (g us ws).length = ps.length → BindsTo s fd ⟨us, ks.zip ws⟩ (ps.zip (g us ws))
  rel : ∀ {vs : List V} {us : List Value} {zs : List V} {ws : List Value}, Vals vs us → Vals zs ws → Vals (gV vs zs) (g us ws)
variable {g : List Value → List Value → List Value} {gV : List V → List V → List V}
end

/-! ### a def's body keeps its promise -/
/-- names: the parameters first -/
structure FnScope (N P : List Str) (sc : Scope) : Prop where
  kind : sc.kind = .function
  co : sc.isCoroutine = false
  gen : sc.isGenerator = false
  nd : N.Nodup
  pre : N.take P.length = P
  par : ∀ x ∈ P, sc.names.lookup x = some .local ∨ sc.names.lookup x = some .cell
  nofree : ∀ y ∈ sc.names, y.2 ≠ .free

theorem bindL_out {kindOf : Str → Option NameKind} {x : Str} : ∀ {binds : List (Str × Value)} {m : Str → Option Value}, (∀ v, (x, v) ∉ binds) → bindL kindOf binds m x = m x
  | [], _, _ => rfl
  | (n, v) :: r, m, h => by
    unfold bindL
    rw [bindL_out fun w hw => h w (List.mem_cons_of_mem _ hw)]
    split
    · have : x ≠ n := by rintro rfl; exact h v List.mem_cons_self
      simp [this]
    · rfl
theorem bindC_out {kindOf : Str → Option NameKind} {x : Str} : ∀ {binds : List (Str × Value)} {m : Str → Option Value}, (∀ v, (x, v) ∉ binds) → bindC kindOf binds m x = m x
  | [], _, _ => rfl
  | (n, v) :: r, m, h => by
    unfold bindC
    rw [bindC_out fun w hw => h w (List.mem_cons_of_mem _ hw)]
    split
    · rfl
    · have : x ≠ n := by rintro rfl; exact h v List.mem_cons_self
      simp [this]
theorem bindL_get {kindOf : Str → Option NameKind} {x : Str} {v : Value} : ∀ {P : List Str} {vs : List Value} {i : Nat} {m : Str → Option Value}, P.Nodup → P[i]? = some x → vs[i]? = some v → kindOf x = some .local →
    bindL kindOf (P.zip vs) m x = some v
  | [], _, _, _, _, h, _, _ => by simp at h
  | _ :: _, [], _, _, _, _, h, _ => by simp at h
  | p :: P, w :: vs, 0, m, nd, h1, h2, hk => by
    simp at h1 h2; subst h1; subst h2
    show bindL kindOf ((p, w) :: P.zip vs) m p = _
    unfold bindL
    rw [bindL_out fun v hv => (List.nodup_cons.mp nd).1 (List.of_mem_zip hv).1, if_pos hk]
    simp
  | p :: P, w :: vs, i + 1, m, nd, h1, h2, hk => by
    show bindL kindOf ((p, w) :: P.zip vs) m x = _
    unfold bindL
    exact bindL_get (i := i) (List.nodup_cons.mp nd).2 (by simpa using h1) (by simpa using h2) hk
theorem bindC_get {kindOf : Str → Option NameKind} {x : Str} {v : Value} : ∀ {P : List Str} {vs : List Value} {i : Nat} {m : Str → Option Value}, P.Nodup → P[i]? = some x → vs[i]? = some v → kindOf x ≠ some .local →
    bindC kindOf (P.zip vs) m x = some v
  | [], _, _, _, _, h, _, _ => by simp at h
  | _ :: _, [], _, _, _, _, h, _ => by simp at h
  | p :: P, w :: vs, 0, m, nd, h1, h2, hk => by
    simp at h1 h2; subst h1; subst h2
    show bindC kindOf ((p, w) :: P.zip vs) m p = _
    unfold bindC
    rw [bindC_out fun v hv => (List.nodup_cons.mp nd).1 (List.of_mem_zip hv).1, if_neg hk]
    simp
  | p :: P, w :: vs, i + 1, m, nd, h1, h2, hk => by
    show bindC kindOf ((p, w) :: P.zip vs) m x = _
    unfold bindC
    exact bindC_get (i := i) (List.nodup_cons.mp nd).2 (by simpa using h1) (by simpa using h2) hk

/-- the names' values at the entry -/
def start (N : List Str) (vs : List V) : St := vs.map some ++ List.replicate (N.length - vs.length) none

/-- the context of a def's body, at its entry; an exception leaves the frame, then lies as CX says -/
def cxOf (CX : CXT) (P : Program) (w : World) (K : PySem.W.Frag) (mg : Str → Option Value) (base : Heap) (N : List Str) (qual : Str) (scope : Scope) (f : Addr) (cd : Value) (A : Around) (outer : List Env) (s : Shared) (H : Hp) (E : XK) : Cx where
  prog := P
  w := w
  K := K
  mg := mg
  base := base
  A := A.deeper (envOfC qual scope s.heap.objs.size f cd)
  N := N
  s₀ := s
  H₀ := H
  env := envOfC qual scope s.heap.objs.size f cd
  outer := outer
  stack := envOfC qual scope s.heap.objs.size f cd :: outer
  ex := []
  calm := true
  fn := fun _ => true
  pn := []
  xe := fun e s' => wpAny (model P w) (A.deeper (envOfC qual scope s.heap.objs.size f cd)) (leaving (envOfC qual scope s.heap.objs.size f cd) e) (fun _ s'' => CX outer H s E e s'') (fun e' s'' => CX outer H s E e' s'') s'

theorem cell_has {sc : Scope} {n : Nat} {x : Str} (h : sc.names.lookup x = some .cell) : ∃ c, (cellsFrom n sc.names []).lookup x = some c := by
  have q := PySem.W.cellsFrom_some sc.names n [] (.inl h)
  exact Option.isSome_iff_exists.mp q

theorem inv_start {CX : CXT} {P : Program} {w : World} {K : PySem.W.Frag} {mg : Str → Option Value} {base : Heap} {N ps : List Str} {qual : Str} {scope : Scope} {f : Addr} {cd : Value} {A : Around} {outer : List Env} {s s1 : Shared} {H : Hp} {E : XK} {us : List Value} {vs : List V}
    (S : FnScope N ps scope) (hd : A.handled = none) (e0 : Env0 P w K mg base A outer s H) (hl : vs.length = ps.length) (r : Vals vs us)
    (x : InCallC s s.heap.objs.size (bindL (envOfC qual scope s.heap.objs.size f cd).kindOf (ps.zip us) fun _ => none) (cellsFrom (s.heap.objs.size + 1) scope.names []) (bindC (envOfC qual scope s.heap.objs.size f cd).kindOf (ps.zip us) fun _ => none) s1) :
    Inv (cxOf CX P w K mg base N qual scope f cd A outer s H E) [] (start N vs) H s1 := by
  have hpl : ps.length ≤ N.length := by have := congrArg List.length S.pre; rw [List.length_take] at this; omega
  obtain ⟨h1, tk, rfl, hk⟩ := x.done
  have noA : ∀ b : Addr, b ∉ (cxOf CX P w K mg base N qual scope f cd A outer s H E).ex := fun b z => absurd (show b ∈ ([] : List Addr) from z) (by simp)
  refine ⟨⟨e0.mod, S.kind, rfl, rfl, Nat.le_refl _, fun y z c h1 h2 => ?_, fun y hy => ?_, fun y c _ h => ?_, fun _ => hd, Around.frames_deeper e0.frames, .inr ⟨rfl, rfl⟩, fun b z => absurd z (noA b), e0.bs, e0.bsz, fun b _ _ => noA b, fun b z => absurd z (noA b), e0.funs, e0.frf⟩,
    rfl, e0.bare, Un.kept hk, ⟨_, x.toInCall.ns, fun i y v h1 h2 h3 => ?_⟩, fun y c h => ⟨_, x.cell y c h⟩, e0.hok.fresh (Nat.le_refl _), fun y c h => ?_, fun p hp => absurd (show p ∈ ([] : List (Addr × Obj)) from hp) (by simp), e0.hok.kept hk, ?_⟩
  · exact name_of_addr x.apart (PySem.mem_of_lookup h1) (PySem.mem_of_lookup h2)
  · have hy : scope.names.lookup y = some .cell ∨ scope.names.lookup y = some .free := hy
    rcases hy with hy | hy
    · exact cell_has hy
    · exact absurd rfl (S.nofree _ (PySem.mem_of_lookup hy))
  · exact Nat.le_of_lt (x.above y c (PySem.mem_of_lookup h))
  · have hi : i < vs.length := by
      unfold start at h2
      by_cases hi : i < vs.length
      · exact hi
      · rw [List.getElem?_append_right (by simpa using hi)] at h2
        rw [List.getElem?_replicate] at h2
        split at h2 <;> cases h2
    have ha : vs[i]? = some v := by
      unfold start at h2
      rw [List.getElem?_append_left (by simpa using hi), List.getElem?_map] at h2
      cases e : vs[i]? with
      | none => rw [e] at h2; cases h2
      | some a => rw [e] at h2; cases h2; rfl
    obtain ⟨u, hu, rv⟩ := r.get ha
    have hp : ps[i]? = some y := by
      rw [← S.pre, List.getElem?_take_of_lt (by omega)]; exact h1
    have ndP : ps.Nodup := by rw [← S.pre]; exact S.nd.sublist (List.take_sublist _ _)
    refine ⟨u, rv, ?_⟩
    rcases S.par y (List.mem_of_getElem? hp) with k | k
    · exact .inl ⟨k, bindL_get ndP hp hu k⟩
    · obtain ⟨c, e⟩ := cell_has (n := s.heap.objs.size + 1) k
      refine .inr ⟨.inl k, c, e, ?_⟩
      have q := x.cell y c e
      rw [bindC_get ndP hp hu (by show scope.names.lookup y ≠ _; rw [k]; decide)] at q
      exact q
  · exact e0.hok.fresh (Nat.le_of_lt (x.above y c (PySem.mem_of_lookup h)))
  · unfold start
    show _ = N.length
    rw [List.length_append, List.length_map, List.length_replicate]
    omega

/-- THE RULE: a def (or a method) of the text, by its body. The body's reading t is chosen for each entry; it is run at the parameters' values -/
theorem fn_of {CX : CXT} {P : Program} {w : World} {K : PySem.W.Frag} {mg : Str → Option Value} {base : Heap} {k : Nat} {f : Addr} {name qual : Str} {params : Arguments} {body : List Stmt} {scope : Scope} {dV kV doc pm cdv ct oc : Value} {an od : Option Addr}
    {osl : Array (Option Value)} {N ps : List Str} {sp : Sp} (lk : K.lookup f = some ⟨oc, od, .func (PySem.W.fnOf name qual params body scope dV kV doc pm an cdv ct), osl⟩) (hcd : PySem.W.codeIn K cdv qual = true) (S : FnScope N ps scope)
    (len : ∀ vs H Q E, sp vs H Q E → vs.length = ps.length)
    (hbody : ∀ (A : Around) (outer : List Env) (s : Shared) (H : Hp) (vs : List V) (Q : VK) (E : XK), Room k (A.deeper (envOfC qual scope s.heap.objs.size f cdv)) → sp vs H Q E →
      ∃ t, PSs (cxOf CX P w K mg base N qual scope f cdv A outer s H E) body t ∧ t { nx := fun _ H' => Q .non H', rt := Q } (start N vs) H) :
    FnOk P w K mg base CX (k + 1) f (PySem.W.fnOf name qual params body scope dV kV doc pm an cdv ct) ps sp := by
  refine ⟨len, fun A outer s H args us vs Q E hr e0 hb r hsp => ?_⟩
  have hl := len _ _ _ _ hsp
  have KX : K.In s.heap := e0.mod.kin.keeps fun b o e => (e0.bs b o e).1
  have lim : s.heap.NoLimit := e0.mod.nolimit.keeps fun b o e => (e0.bs b o e).1
  have hkind : ∀ y ∈ ps.zip us, scope.names.lookup y.1 = some .local ∨ (scope.names.lookup y.1 = some .cell ∧ ((cellsFrom (s.heap.objs.size + 1) scope.names []).lookup y.1).isSome = true) := fun ⟨n, v⟩ hy => by
    rcases S.par n (List.of_mem_zip hy).1 with q | q
    · exact .inl q
    · exact .inr ⟨q, PySem.W.cellsFrom_some _ _ _ (.inl q)⟩
  refine codeAny_call_function hr.depth (KX _ _ lk) rfl S.co S.gen rfl (PySem.W.codeRec_of KX hcd) (hb _ _ _ _ ?_)
  refine wpAny_newFunctionEnv_cells S.kind hkind fun env he s1 x => ?_
  subst he
  refine ⟨lim.keeps x.toInCall.keep, codeAny_func ?_⟩
  obtain ⟨t, ht, hq⟩ := hbody A outer s H vs Q E (hr.deeper _) hsp
  have I : Inv (cxOf CX P w K mg base N qual scope f cdv A outer s H E) [] (start N vs) H s1 := inv_start S hr.hd e0 hl r x
  refine wpAny_mono (ht [] s1 (start N vs) H _ I hq) (fun fl s' hs => ?_) fun e s' hs => hs
  have fin : ∀ {σ' : St} {H' : Hp} {v : V} {u : Value}, Inv (cxOf CX P w K mg base N qual scope f cdv A outer s H E) [] σ' H' s' → RelV v u → Q v H' → CE outer P w H s Q u s' :=
    fun {σ' H' v u} J rv q => ⟨v, H', J.os, J.bare, J.base, J.hok, rv, q⟩
  cases fl with
  | ret u =>
    obtain ⟨v, σ', H', J, rv, q⟩ := hs
    exact fin J rv q
  | next =>
    obtain ⟨σ', H', J, q⟩ := hs
    exact fin (v := V.non) (u := Value.none) J rfl q
  | brk =>
    obtain ⟨_, _, _, q⟩ := hs
    exact False.elim q
  | cont =>
    obtain ⟨_, _, _, q⟩ := hs
    exact False.elim q
end L2

namespace L2
open PySem PySem.Spec PyProof.Rows
section
variable {X : Cx} {x : Str} {p pos : Pos} {e : Expr} {es : List Expr} {t : TA} {id T : String} {r : List V → Hp → VK → Prop}

def tCB (r : List V → Hp → VK → Prop) (t : TA) : TE := fun σ H Q => t σ H fun vs H1 => r vs H1 Q
/-- f(e, ..), f a built-in function -/
theorem pe_callB (hc : CallR X (.builtin id) r) (hg : Gl X x) (hm : X.mg x = none) (hv : bootBuiltins x = some (.builtin id)) (ha : PA X (e :: es) t) (hn : x ≠ "__name__" := by decide) (hdb : (x == ("__debug__" : Str)) = false := by decide)
    (he : starEach (e :: es) X.env = (false, eval e X.env) :: starEach es X.env := by rfl) (hpl : (backTo pos (starEach es X.env)).any (·.1) = false := by rfl) : PE X (.Call (.Name x p) (e :: es) [] pos) (tCB r t) := by
  intro pins s σ H Q I h
  refine wpAny_Call_Name_kw (ld_blt I hg hm hv ?_ hn hdb)
  exact PyProof.Rows.callWith_builtin1 (thn (ha pos pins s σ H _ I h) fun us s1 ⟨vs, H1, I1, r1, q1⟩ => hc pins s1 σ H1 vs us Q I1 r1 q1) he hpl
/-- T(e, ..), T a built-in type -/
theorem pe_callTy (hc : CallR X (.type T) r) (hg : Gl X x) (hm : X.mg x = none) (hv : bootBuiltins x = some (.type T)) (ha : PA X (e :: es) t) (hn : x ≠ "__name__" := by decide) (hdb : (x == ("__debug__" : Str)) = false := by decide)
    (he : starEach (e :: es) X.env = (false, eval e X.env) :: starEach es X.env := by rfl) (hpl : (backTo pos (starEach es X.env)).any (·.1) = false := by rfl) : PE X (.Call (.Name x p) (e :: es) [] pos) (tCB r t) := by
  intro pins s σ H Q I h
  refine wpAny_Call_Name_kw (ld_blt I hg hm hv ?_ hn hdb)
  exact PyProof.Rows.callWith_type1 (thn (ha pos pins s σ H _ I h) fun us s1 ⟨vs, H1, I1, r1, q1⟩ => hc pins s1 σ H1 vs us Q I1 r1 q1) he hpl
end
end L2

namespace HT
open PySem PyProof.Rows

section
open PySem.SeqAt
open PySem.AutoSeq1 (wpAny_loadPart')
open PySem.MeetsSeq PySem.MeetsSeq2 PySem.MeetsSeq3

end

section
variable {prog : Program} {w : World} {A : Around} {E : Value → Shared → Prop} {s : Shared}

/-! ### t[a:b], not the whole -/
/-- a slice's bound as a place among n (d where it is left out) -/
def sIx (n d : Nat) : Option Int → Nat
  | none => d
  | some v => if v < 0 then (v + (n : Int)).toNat else min v.toNat n
theorem sIx_nat (n d k : Nat) : sIx n d (some (k : Int)) = min k n := by
  show (if (k : Int) < 0 then ((k : Int) + (n : Int)).toNat else min (k : Int).toNat n) = min k n
  rw [if_neg (by omega), Int.toNat_natCast]
end
end HT

namespace L2
open PySem PySem.Spec PyProof.Rows

/-! ### the parts of a slice -/
abbrev TO := St → Hp → (Option Int → Hp → Prop) → Prop
/-- a slice's part (left out, or an int) -/
def PO (X : Cx) (e : Option Expr) (t : TO) : Prop :=
  ∀ (pins : List (Addr × Obj)) (s : Shared) (σ : St) (H : Hp) (Q : Option Int → Hp → Prop), Inv X pins σ H s → t σ H Q →
    wpAny (model X.prog X.w) X.A (evalPart e X.env) (fun u s' => ∃ o H', Inv X pins σ H' s' ∧ IsPart u o ∧ Q o H') X.xe s
def tNoPart : TO := fun _ H Q => Q none H
def tPart (t : TE) : TO := fun σ H Q => t σ H fun x H1 => ∃ i, x = .int i ∧ Q (some i) H1

section
variable {X : Cx} {e : Expr} {te : TE} {lo hi : Option Expr} {tl th : TO} {pos p2 : Pos}

theorem po_none : PO X none tNoPart := by
  intro pins s σ H Q I h
  rw [evalPart_none]
  exact wpAny_pure ⟨none, H, I, .none, h⟩
theorem po_some (h : PE X e te) : PO X (some e) (tPart te) := by
  intro pins s σ H Q I hw
  rw [evalPart_some]
  refine thn (h pins s σ H _ I hw) fun u s1 ⟨x, H1, I1, r1, q1⟩ => ?_
  obtain ⟨i, rfl, q⟩ := q1
  obtain ⟨t, rfl⟩ := r1
  exact ⟨some i, H1, I1, .int i t, q⟩

/-- what a slice of a value is, by values: the slice object stands at sl -/
def SlR (X : Cx) (r : V → Option Int → Option Int → Hp → VK → Prop) : Prop :=
  ∀ (pins : List (Addr × Obj)) (s : Shared) (σ : St) (H : Hp) (x : V) (v vl vu : Value) (lo hi : Option Int) (sl : Addr) (Q : VK), Inv X pins σ H s → RelV x v → s.heap.IsSliceOf sl vl vu .none → IsPart vl lo → IsPart vu hi → r x lo hi H Q →
    ∃ T id, typeLookup (.type T) "__getitem__" = pure (some (.builtin id)) ∧ s.TypeIs v T ∧ wpAny (model X.prog X.w) X.A (getItem v (.ref sl)) (EP X pins σ Q) X.xe s
theorem SlR.or {r r' : V → Option Int → Option Int → Hp → VK → Prop} (h : SlR X r) (h' : SlR X r') : SlR X (fun x lo hi H Q => r x lo hi H Q ∨ r' x lo hi H Q) := by
  intro pins s σ H x v vl vu lo hi sl Q I rx hs pl pu q
  rcases q with q | q
  · exact h pins s σ H x v vl vu lo hi sl Q I rx hs pl pu q
  · exact h' pins s σ H x v vl vu lo hi sl Q I rx hs pl pu q
def tSl (r : V → Option Int → Option Int → Hp → VK → Prop) (te : TE) (tl th : TO) : TE := fun σ H Q => te σ H fun x H1 => tl σ H1 fun l H2 => th σ H2 fun u H3 => r x l u H3 Q
/-- a[lo:hi], any a -/
theorem pe_slice {r : V → Option Int → Option Int → Hp → VK → Prop} (hr : SlR X r) (he : PE X e te) (hl : PO X lo tl) (hu : PO X hi th) : PE X (.Subscript e (.Slice lo hi none p2) pos) (tSl r te tl th) := by
  intro pins s σ H Q I h
  refine Subscript_ (thn (he pins s σ H _ I h) fun v s1 ⟨x, H1, I1, r1, q1⟩ => ?_)
  refine wpAny_Slice (thn (hl pins s1 σ H1 _ I1 q1) fun vl s2 ⟨l, H2, I2, pl, q2⟩ => thn (hu pins s2 σ H2 _ I2 q2) fun vu s3 ⟨u, H3, I3, pu, q3⟩ => ?_)
  rw [evalPart_none]
  refine wpAny_pure ?_
  have I4 : Inv X pins σ H3 { s3 with heap := s3.heap.push { cls := .type "slice", data := .fields #[vl, vu, .none] } } := I3.kept (t' := s3.toks) fun b ob q => Heap.get?_push_of_some _ q
  obtain ⟨T, id, hT, ht, hg⟩ := hr pins { s3 with heap := s3.heap.push { cls := .type "slice", data := .fields #[vl, vu, .none] } } σ H3 x v vl vu l u s3.heap.objs.size Q I4 r1 (Heap.IsSliceOf.new ..) pl pu q3
  show wpAny (model X.prog X.w) X.A (subscriptTail e (.Slice lo hi none p2) v (.ref s3.heap.objs.size)) (EP X pins σ Q) X.xe { s3 with heap := s3.heap.push { cls := .type "slice", data := .fields #[vl, vu, .none] } }
  exact tail_any (ops := [.ref s3.heap.objs.size, v]) ht hT hg (by with_unfolding_all rfl)

/-- the items of xs[lo:hi] -/
def cutV (xs : List V) (lo hi : Option Int) : List V := (xs.drop (HT.sIx xs.length 0 lo)).take (HT.sIx xs.length xs.length hi - HT.sIx xs.length 0 lo)
theorem cutV_length (xs : List V) (lo hi : Option Int) : (cutV xs lo hi).length ≤ xs.length := by
  unfold cutV
  rw [List.length_take, List.length_drop]
  omega
/-! ### t < u, t + u -/
end
end L2

namespace L2
open PySem PySem.Spec PyProof.Rows

/-! ### places -/
/-- the place that an index of any sign means -/
def ixN (n : Nat) (i : Int) : Option Nat := if 0 ≤ i then (if i < n then some i.toNat else none) else if -(n : Int) ≤ i then some (i + n).toNat else none
def atI {α : Type} (xs : List α) (i : Int) : Option α := (ixN xs.length i).bind fun j => xs[j]?
theorem ixN_seq {n : Nat} {i : Int} {j : Nat} (h : ixN n i = some j) : seqIndex? i n = some j ∧ j < n ∧ -(n : Int) ≤ i ∧ i < n := by
  unfold ixN at h
  by_cases h0 : 0 ≤ i
  · rw [if_pos h0] at h
    by_cases h1 : i < n
    · rw [if_pos h1] at h
      have e : i.toNat = j := Option.some.inj h
      exact ⟨by rw [seqIndex_of h0 h1, e], by omega, by omega, h1⟩
    · rw [if_neg h1] at h; cases h
  · rw [if_neg h0] at h
    by_cases h1 : -(n : Int) ≤ i
    · rw [if_pos h1] at h
      have e : (i + n).toNat = j := Option.some.inj h
      exact ⟨by rw [seqIndex_neg (by omega) h1, e], by omega, h1, by omega⟩
    · rw [if_neg h1] at h; cases h
theorem atI_get {α : Type} {xs : List α} {i : Int} {v : α} (h : atI xs i = some v) : ∃ j, seqIndex? i xs.length = some j ∧ xs[j]? = some v ∧ j < xs.length ∧ -(xs.length : Int) ≤ i ∧ i < xs.length := by
  unfold atI at h
  cases e : ixN xs.length i with
  | none => rw [e] at h; cases h
  | some j =>
    rw [e] at h
    obtain ⟨h1, h2, h3, h4⟩ := ixN_seq e
    exact ⟨j, h1, h, h2, h3, h4⟩
theorem atI_nat {α : Type} {xs : List α} {j : Nat} {v : α} (h : xs[j]? = some v) : atI xs (j : Int) = some v := by
  have hj : j < xs.length := (List.getElem?_eq_some_iff.mp h).1
  have e : ixN xs.length (j : Int) = some j := by
    unfold ixN
    rw [if_pos (by omega), if_pos (by omega)]; simp
  unfold atI; rw [e]; exact h
theorem atI_last {α : Type} (xs : List α) (v : α) : atI (xs ++ [v]) (-1) = some v := by
  have hl : (xs ++ [v]).length = xs.length + 1 := by simp
  have e : ixN (xs ++ [v]).length (-1) = some xs.length := by
    unfold ixN
    rw [hl, if_neg (by decide), if_pos (by omega)]
    congr 1
    omega
  unfold atI
  rw [e]
  show (xs ++ [v])[xs.length]? = some v
  simp

/-! ### what may be subscripted -/
/-- what stands as an index of a plain subscript -/
def PlainIx (b : Expr) : Prop := ∀ o i, subscripted b false o i = operate [o, i] (getItem o i)
/-- a subscript by values -/
def IxR (X : Cx) (r : R2) : Prop :=
  ∀ (value slice : Expr) (pins : List (Addr × Obj)) (s : Shared) (σ : St) (H : Hp) (x y : V) (v u : Value) (Q : VK), Inv X pins σ H s → RelV x v → RelV y u → r x y H Q →
    subscripted slice false v u = operate [v, u] (getItem v u) → wpAny (model X.prog X.w) X.A (subscriptTail value slice v u) (EP X pins σ Q) X.xe s
/-- a call of a builtin's method by values: the receiver, the arguments -/
def MtR (X : Cx) (id : String) (r : V → List V → Hp → VK → Prop) : Prop :=
  ∀ (pins : List (Addr × Obj)) (s : Shared) (σ : St) (H : Hp) (x : V) (xs : List V) (v : Value) (us : List Value) (Q : VK), Inv X pins σ H s → RelV x v → Vals xs us → r x xs H Q →
    wpAny (model X.prog X.w) X.A (call (.builtin id) (v :: us)) (EP X pins σ Q) X.xe s
section
variable {X : Cx} {a b : Expr} {ta tb : TE} {pos : Pos}
theorem IxR.or {r r' : R2} (h : IxR X r) (h' : IxR X r') : IxR X (fun x y H Q => r x y H Q ∨ r' x y H Q) := by
  intro value slice pins s σ H x y v u Q I rx ry q hs
  rcases q with q | q
  · exact h value slice pins s σ H x y v u Q I rx ry q hs
  · exact h' value slice pins s σ H x y v u Q I rx ry q hs
theorem MtR.or {id : String} {r r' : V → List V → Hp → VK → Prop} (h : MtR X id r) (h' : MtR X id r') : MtR X id (fun x xs H Q => r x xs H Q ∨ r' x xs H Q) := by
  intro pins s σ H x xs v us Q I rx rs q
  rcases q with q | q
  · exact h pins s σ H x xs v us Q I rx rs q
  · exact h' pins s σ H x xs v us Q I rx rs q
/-- a[b] -/
theorem pe_ix {r : R2} (hr : IxR X r) (ha : PE X a ta) (hb : PE X b tb) (hs : PlainIx b) : PE X (.Subscript a b pos) (tOp r ta tb) := by
  intro pins s σ H Q I h
  exact Subscript_ (binT ha hb I h fun v u s2 x y H2 I2 rx ry q => hr a b pins s2 σ H2 x y v u Q I2 rx ry q (hs _ _))

def rIxL (K : PySem.W.Frag) : R2 := fun x y H Q => ∃ p xs i v, x = .ref p ∧ y = .int i ∧ SqL K H p xs ∧ atI xs i = some v ∧ Q v H
def rIxT (K : PySem.W.Frag) : R2 := fun x y H Q => ∃ p xs i v, x = .ref p ∧ y = .int i ∧ SqT K H p xs ∧ atI xs i = some v ∧ Q v H
theorem ix_list : IxR X (rIxL X.K) := by
  intro value slice pins s σ H x y v u Q I rx ry h hs
  obtain ⟨p, xs, i, z, rfl, rfl, hq, he, q⟩ := h
  cases rx
  obtain ⟨t, rfl⟩ := ry
  obtain ⟨its, r, pl, hz⟩ := I.list hq
  obtain ⟨j, h1, h2, h3, h4, h5⟩ := atI_get he
  obtain ⟨w, ew, rw'⟩ := r.get h2
  have hl := r.length
  have hn := line63
  have fin : EP X pins σ Q w s := ⟨z, H, I, rw', q⟩
  by_cases h0 : 0 ≤ i
  · have hj : i.toNat = j := by
      rw [seqIndex_of h0 h5] at h1
      exact Option.some.inj h1
    exact item_listR pl.isList h0 (by omega) (by rw [hj]; simpa using ew) fin hs
  · have hj : (i + (its.toArray.size : Int)).toNat = j := by
      rw [seqIndex_neg (by omega) h4] at h1
      rw [List.size_toArray, ← hl]
      exact Option.some.inj h1
    exact subscriptTail_builtinR (x := w) pl.isList.typeIs slot_list_getitem.lookup
      (wpAny_getItem_list_neg (Q := fun r s' => r = w ∧ EP X pins σ Q r s') pl.isList (by omega) (by rw [List.size_toArray] <;> omega) (by omega) (by rw [hj]; simpa using ew) ⟨rfl, fin⟩) hs
theorem ix_tup : IxR X (rIxT X.K) := by
  intro value slice pins s σ H x y v u Q I rx ry h hs
  obtain ⟨p, xs, i, z, rfl, rfl, hq, he, q⟩ := h
  cases rx
  obtain ⟨t, rfl⟩ := ry
  obtain ⟨its, r, pl, hz⟩ := I.tuple hq
  obtain ⟨j, h1, h2, h3, h4, h5⟩ := atI_get he
  obtain ⟨w, ew, rw'⟩ := r.get h2
  have hl := r.length
  have hn := line63
  have fin : EP X pins σ Q w s := ⟨z, H, I, rw', q⟩
  exact subscriptTail_builtinR (x := w) pl.typeIs slot_tuple_getitem.lookup
    (getItem_tuple (j := j) (Q := fun r s' => r = w ∧ EP X pins σ Q r s') pl (by omega) (by omega) (by rw [List.size_toArray, ← hl]; exact h1) (by simpa using ew) ⟨rfl, fin⟩) hs
/-! ### xs[i] = v, any sign -/
/-- the list's object behind a store -/
theorem mapSeq_set (its : List Value) (n j : Nat) (u : Value) : Obj.mapSeq (·.setIfInBounds j u) { cls := .type "list", data := .seq its.toArray n } = { cls := .type "list", data := .seq (its.set j u).toArray n } := by
  simp [Obj.mapSeq]
theorem Inv.lst {pins : List (Addr × Obj)} {σ : St} {H : Hp} {s : Shared} {p : Addr} {xs : List V} (I : Inv X pins σ H s) (h : H p = some (.lst xs)) :
    ∃ (its : List Value) (n : Nat), Vals xs its ∧ s.heap.get? p = some { cls := .type "list", data := .seq its.toArray n } ∧ xs.length ≤ sizeLine := by
  obtain ⟨z, its, n, r, e⟩ := I.hok p _ h
  exact ⟨its, n, r, e, z⟩
/-- the list at p is written by an update of its object -/
theorem Inv.lstUpd {pins : List (Addr × Obj)} {σ : St} {H : Hp} {s : Shared} {p : Addr} {xs ys : List V} {its its' : List Value} {n n' : Nat} {f : Obj → Obj} (I : Inv X pins σ H s) (h : H p = some (.lst xs))
    (ho : s.heap.get? p = some { cls := .type "list", data := .seq its.toArray n }) (hf : f { cls := .type "list", data := .seq its.toArray n } = { cls := .type "list", data := .seq its'.toArray n' }) (r : Vals ys its') (hz : ys.length ≤ sizeLine) (t : Nat) :
    Inv X pins σ (upd H p (.lst ys)) { s with heap := s.heap.update p f, toks := t } := by
  have e : (s.heap.update p f).get? p = some { cls := .type "list", data := .seq its'.toArray n' } := by
    rw [Heap.get?_update_self f ho (by rw [hf] <;> rfl), hf]
  refine I.write (x := p) (e := p) (by rw [h]; trivial) (.inl rfl) (fun b u hb q => (Heap.get?_update_other _ _ (Ne.symm hb)).trans q) ⟨_, e⟩ ?_
  exact ⟨hz, its', n', r, e⟩
def rSetL : V → V → V → Hp → (Hp → Prop) → Prop := fun o i v H Q => ∃ p xs k j, o = .ref p ∧ i = .int k ∧ H p = some (.lst xs) ∧ ixN xs.length k = some j ∧ Q (upd H p (.lst (xs.set j v)))
theorem set_list : PSet X rSetL := by
  intro pins s σ H o i v ov iv u Q I ro ri rv h
  obtain ⟨p, xs, k, j, rfl, rfl, hp, hj, q⟩ := h
  cases ro
  obtain ⟨t, rfl⟩ := ri
  obtain ⟨its, n, r, ho, hz⟩ := I.lst hp
  obtain ⟨h1, h2, h3, h4⟩ := ixN_seq hj
  have hl := r.length
  have hn := line63
  have I' : Inv X pins σ (upd H p (.lst (xs.set j v))) { s with heap := s.heap.update p (Obj.mapSeq (·.setIfInBounds j u)) } :=
    I.lstUpd hp ho (mapSeq_set its n j u) (r.set rv j) (by rw [List.length_set]; exact hz) s.toks
  by_cases h0 : 0 ≤ k
  · have hk : k.toNat = j := by
      rw [seqIndex_of h0 h4] at h1
      exact Option.some.inj h1
    exact PySem.W.ki_setAt ho h0 (by omega) (by rw [List.size_toArray, ← hl]; exact h4) (by rw [hk]; exact ⟨_, I', q⟩)
  · have hk : (k + (its.toArray.size : Int)).toNat = j := by
      rw [seqIndex_neg (by omega) h3] at h1
      rw [List.size_toArray, ← hl]
      exact Option.some.inj h1
    exact PySem.W.ki_setBack ho (by omega) (by rw [List.size_toArray, ← hl]; exact h3) (by omega) (by rw [hk]; exact ⟨_, I', q⟩)

/-! ### slices -/
theorem slice_bounds (lo hi : Option Int) (n : Nat) : (sliceBounds lo hi none n).1 = ((HT.sIx n 0 lo : Nat) : Int) ∧ (sliceBounds lo hi none n).2.1 = ((HT.sIx n n hi : Nat) : Int) ∧ (sliceBounds lo hi none n).2.2 = 1 := by
  refine ⟨?_, ?_, rfl⟩
  · cases lo with
    | none => simp [sliceBounds, HT.sIx]
    | some i =>
      simp only [sliceBounds, HT.sIx, Option.getD_none, show (1 : Int) > 0 by decide, if_true]
      by_cases h : i < 0
      · simp only [h, if_true] <;> omega
      · simp only [h, if_false] <;> omega
  · cases hi with
    | none => simp [sliceBounds, HT.sIx]
    | some i =>
      simp only [sliceBounds, HT.sIx, Option.getD_none, show (1 : Int) > 0 by decide, if_true]
      by_cases h : i < 0
      · simp only [h, if_true] <;> omega
      · simp only [h, if_false] <;> omega
theorem slicePick_cut (its : List Value) (lo hi : Option Int) : slicePick its.toArray lo hi none = ((its.drop (HT.sIx its.length 0 lo)).take (HT.sIx its.length its.length hi - HT.sIx its.length 0 lo)).toArray := by
  obtain ⟨h1, h2, h3⟩ := slice_bounds lo hi its.toArray.size
  unfold slicePick
  rw [h1, h2, h3]
  simp only [sliceRange_one, pick_run, List.size_toArray] <;> rfl
/-- xs[lo:hi] of a list: a new list -/
def rSlL (K : PySem.W.Frag) : V → Option Int → Option Int → Hp → VK → Prop := fun x lo hi H Q => ∃ a xs, x = .ref a ∧ SqL K H a xs ∧ ∀ p, H p = none → Q (.ref p) (upd H p (.lst (cutV xs lo hi)))
theorem sl_list : SlR X (rSlL X.K) := by
  intro pins s σ H x v vl vu lo hi sl Q I rx hs pl pu h
  obtain ⟨a, xs, rfl, hx, q⟩ := h
  cases rx
  obtain ⟨its, r, ht, hz⟩ := I.list hx
  have hlen := r.length
  refine ⟨"list", _, slot_list_getitem.lookup, ht.isList.typeIs, ?_⟩
  refine wpAny_getItem_list_slice ht.isList hs pl pu .none (by simp) ?_ (by rw [List.size_toArray] <;> omega)
  rw [slicePick_cut, ← hlen]
  refine ⟨.ref s.heap.objs.size, _, I.laid (t' := s.toks) (o := .lst (cutV xs lo hi)) (fun b ob q => Heap.get?_push_of_some _ q) (Nat.le_refl _) ?_, rfl, q _ (I.hok.fresh (Nat.le_refl _))⟩
  exact ⟨Nat.le_trans (cutV_length xs lo hi) hz, _, 0, (r.drop (HT.sIx xs.length 0 lo)).take (HT.sIx xs.length xs.length hi - HT.sIx xs.length 0 lo), Heap.get?_push_size _ rfl⟩

/-! ### in, not in: flat items -/
def flatV : V → Bool
  | .non => true
  | .bl _ => true
  | .int _ => true
  | .str _ => true
  | _ => false
/-- == of flat values -/
def eqV : V → V → Bool
  | .non, .non => true
  | .bl a, .bl b => a == b
  | .bl a, .int b => (if a then 1 else 0) == b
  | .int a, .bl b => a == (if b then 1 else 0)
  | .int a, .int b => a == b
  | .str a, .str b => a == b
  | _, _ => false
theorem eqAt_V {A : Around} {s : Shared} {y x : V} {u v : Value} (ry : RelV y u) (rx : RelV x v) (fy : flatV y = true) (fx : flatV x = true) : SeqAt.EqAt A s u v (eqV y x) := by
  cases y with
  | non =>
    cases ry
    cases x with
    | non => cases rx; exact SeqAt.EqAt.same _
    | bl b => cases rx; exact SeqAt.EqAt.none_bool b
    | int b => obtain ⟨t, rfl⟩ := rx; exact SeqAt.EqAt.none_int b t
    | str b => obtain ⟨t, rfl⟩ := rx; exact SeqAt.EqAt.none_str b t
    | _ => exact absurd (show false = true from fx) Bool.false_ne_true
  | bl a =>
    cases ry
    cases x with
    | non => cases rx; exact SeqAt.EqAt.bool_none a
    | bl b => cases rx; exact SeqAt.EqAt.bool_bool a b
    | int b => obtain ⟨t, rfl⟩ := rx; exact SeqAt.EqAt.bool_int a b t
    | str b => obtain ⟨t, rfl⟩ := rx; exact SeqAt.EqAt.bool_str a b t
    | _ => exact absurd (show false = true from fx) Bool.false_ne_true
  | int a =>
    obtain ⟨t', rfl⟩ := ry
    cases x with
    | non => cases rx; exact SeqAt.EqAt.int_none a t'
    | bl b => cases rx; exact SeqAt.EqAt.int_bool a t' b
    | int b => obtain ⟨t, rfl⟩ := rx; exact SeqAt.EqAt.int_int a t' b t
    | str b => obtain ⟨t, rfl⟩ := rx; exact SeqAt.EqAt.int_str a t' b t
    | _ => exact absurd (show false = true from fx) Bool.false_ne_true
  | str a =>
    obtain ⟨t', rfl⟩ := ry
    cases x with
    | non => cases rx; exact SeqAt.EqAt.str_none a t'
    | bl b => cases rx; exact SeqAt.EqAt.str_bool a t' b
    | int b => obtain ⟨t, rfl⟩ := rx; exact SeqAt.EqAt.str_int a t' b t
    | str b => obtain ⟨t, rfl⟩ := rx; exact SeqAt.EqAt.str_str a t' b t
    | _ => exact absurd (show false = true from fx) Bool.false_ne_true
  | _ => exact absurd (show false = true from fy) Bool.false_ne_true
/-! ### len, list(x), tuple(x) of any list or tuple that is read -/
theorem call_len_seq : CallR X (.builtin "len") (fun xs H Q => ∃ p ys, xs = [.ref p] ∧ (SqL X.K H p ys ∨ SqT X.K H p ys) ∧ Q (.int ys.length) H) := by
  intro pins s σ H xs us Q I r h
  obtain ⟨p, ys, rfl, hq, q⟩ := h
  obtain ⟨u, rfl, rx⟩ := vals1 r
  cases rx
  have hn := line63
  rcases hq with hq | hq
  · obtain ⟨its, r', pl, hz⟩ := I.list hq
    have hlen := r'.length
    exact Calls.call_len_list pl.isList (by simp only [List.size_toArray] <;> omega) ⟨.int ys.length, H, I.tok _, ⟨s.toks + 1, by rw [List.size_toArray, hlen]⟩, q⟩
  · obtain ⟨its, r', pl, hz⟩ := I.tuple hq
    have hlen := r'.length
    exact len_tuple pl (by simp only [List.size_toArray] <;> omega) ⟨.int ys.length, H, I.tok _, ⟨s.toks + 1, by rw [List.size_toArray, hlen]⟩, q⟩
theorem CallR.or {f : Value} {r r' : List V → Hp → VK → Prop} (h : CallR X f r) (h' : CallR X f r') : CallR X f (fun xs H Q => r xs H Q ∨ r' xs H Q) := by
  intro pins s σ H xs us Q I rs q
  rcases q with q | q
  · exact h pins s σ H xs us Q I rs q
  · exact h' pins s σ H xs us Q I rs q
theorem call_list_of : CallR X (.type "list") (fun xs H Q => ∃ p ys, xs = [.ref p] ∧ (SqL X.K H p ys ∨ SqT X.K H p ys) ∧ ∀ l, H l = none → Q (.ref l) (upd H l (.lst ys))) := by
  intro pins s σ H xs us Q I r h
  obtain ⟨p, ys, rfl, hq, q⟩ := h
  obtain ⟨u, rfl, rx⟩ := vals1 r
  cases rx
  have fin : ∀ (its : List Value), Vals ys its → ys.length ≤ sizeLine → ∀ (h' : Heap) (c' : Nat), (∀ b o', s.heap.get? b = some o' → h'.get? b = some o') →
      h'.get? s.heap.objs.size = some { cls := .type "list", dict := none, data := .seq its.toArray c', slots := #[] } → EP X pins σ Q (.ref s.heap.objs.size) { s with heap := h' } := fun its r' hz h' c' kp e =>
    ⟨.ref s.heap.objs.size, _, I.laid (t' := s.toks) kp (Nat.le_refl _) (show ObjOk X.prog X.w _ h' _ (.lst ys) from ⟨hz, its, c', r', e⟩), rfl, q _ (I.hok.fresh (Nat.le_refl _))⟩
  rcases hq with hq | hq
  · obtain ⟨its, r', pl, hz⟩ := I.list hq
    have hlen := r'.length
    obtain ⟨o, ho, hc, n, hd⟩ := pl.isList
    exact call_list_seq p (.inl rfl) ho hc hd (fun h' c' kp e => fin its r' hz h' c' kp e) (by simp only [List.size_toArray] <;> omega)
  · obtain ⟨its, r', pl, hz⟩ := I.tuple hq
    have hlen := r'.length
    obtain ⟨o, ho, hc, n, hd⟩ := pl
    exact call_list_seq p (.inr rfl) ho hc hd (fun h' c' kp e => fin its r' hz h' c' kp e) (by simp only [List.size_toArray] <;> omega)
/-! ### the call of a builtin's method: o.m(..) -/
/-- the value is of that builtin type -/
def tyV (K : PySem.W.Frag) (T : String) (x : V) (H : Hp) : Prop := match x with
  | .str _ => T = "str"
  | .int _ => T = "int"
  | .ref p => (T = "list" ∧ ∃ xs, SqL K H p xs) ∨ (T = "tuple" ∧ ∃ o, K.lookup p = some o ∧ o.cls = .type "tuple" ∧ o.dict = none) ∨
      (T = "dict" ∧ ((∃ kvs, H p = some (.dK kvs)) ∨ ∃ kvs, H p = some (.dT kvs))) ∨ (T = "set" ∧ ∃ S n, H p = some (.set S n))
  | _ => False
theorem tyV_is {pins : List (Addr × Obj)} {σ : St} {H : Hp} {s : Shared} {T : String} {x : V} {v : Value} (I : Inv X pins σ H s) (r : RelV x v) (ty : tyV X.K T x H) :
    s.TypeIs v T ∧ ∀ a, v = .ref a → ∃ ob, s.heap.get? a = some ob ∧ ob.dict = none := by
  cases x with
  | str z =>
    obtain ⟨t, rfl⟩ := r
    cases (show T = "str" from ty)
    exact ⟨typeIs_str s z t, fun _ e => nomatch e⟩
  | int i =>
    obtain ⟨t, rfl⟩ := r
    cases (show T = "int" from ty)
    exact ⟨typeIs_int s i t, fun _ e => nomatch e⟩
  | ref p =>
    cases r
    rcases ty with ⟨rfl, xs, hq⟩ | ⟨rfl, o, hk, hc, hd⟩ | ⟨rfl, hk⟩ | ⟨rfl, S, n, hk⟩
    · obtain ⟨its, _, pl, _⟩ := I.list hq
      refine ⟨pl.isList.typeIs, fun a e => ?_⟩
      cases e
      obtain ⟨o, n, e, c, hd, _⟩ := pl
      exact ⟨o, e, hd⟩
    · refine ⟨⟨o, I.kIn p o hk, hc⟩, fun a e => ?_⟩
      cases e
      exact ⟨o, I.kIn _ o hk, hd⟩
    · have z : ∃ o, s.heap.get? p = some o ∧ o.ExactDict := by
        rcases hk with ⟨kvs, hk⟩ | ⟨kvs, hk⟩
        · obtain ⟨_, _, _, _, o, _, _, e, ex, _⟩ := I.hok p _ hk
          exact ⟨o, e, ex⟩
        · obtain ⟨_, _, _, _, o, _, _, e, ex, _⟩ := I.hok p _ hk
          exact ⟨o, e, ex⟩
      obtain ⟨o, e, ex⟩ := z
      refine ⟨⟨o, e, ex.1⟩, fun a e2 => ?_⟩
      cases e2
      exact ⟨o, e, ex.2.1⟩
    · obtain ⟨o, _, _, _, e, ex, _⟩ := I.hok p _ hk
      refine ⟨⟨o, e, ex.1⟩, fun a e2 => ?_⟩
      cases e2
      exact ⟨o, e, ex.2.1⟩
  | _ => exact False.elim ty
def tBM0 (K : PySem.W.Frag) (T : String) (r : V → List V → Hp → VK → Prop) (to : TE) : TE := fun σ H Q => to σ H fun x H1 => tyV K T x H1 ∧ r x [] H1 Q
def tBM (K : PySem.W.Frag) (T : String) (r : V → List V → Hp → VK → Prop) (to : TE) (t : TA) : TE := fun σ H Q => to σ H fun x H1 => tyV K T x H1 ∧ t σ H1 fun xs H2 => r x xs H2 Q
variable {o e : Expr} {es : List Expr} {to : TE} {t : TA} {name : Str} {apos cpos : Pos} {T id : String} {r : V → List V → Hp → VK → Prop}
theorem pe_bm0 (pa : PlainAttrs T) (slot : Slot T name id) (hty : typeOf (.builtin id) = pure (.type "method_descriptor")) (hm : MtR X id r) (ho : PE X o to)
    (hbase : attributeBase o name X.env (eval o X.env) = eval o X.env := by rfl) (hline : (apos.endLine == cpos.line) = true := by rfl) : PE X (.Call (.Attribute o name apos) [] [] cpos) (tBM0 X.K T r to) := by
  intro pins s σ H Q I h
  refine wpAny_Call_method0_late hbase hline (thn (ho pins s σ H _ I h) fun v s1 ⟨x, H1, I1, r1, ty, q1⟩ => ?_)
  obtain ⟨h1, h2⟩ := tyV_is I1 r1 ty
  exact ⟨T, id, pa, slot, hty, h1, h2, Calls.callWith_builtin rfl (PySem.evalArgs_none (hm pins s1 σ H1 x [] v [] Q I1 r1 .nil q1))⟩
theorem pe_bm (pa : PlainAttrs T) (slot : Slot T name id) (hty : typeOf (.builtin id) = pure (.type "method_descriptor")) (hm : MtR X id r) (ho : PE X o to) (ha : PA X (e :: es) t)
    (hbase : attributeBase o name X.env (eval o X.env) = eval o X.env := by rfl)
    (hfew : ((backTo cpos (starEach (e :: es) X.env)).all (fun x => !x.1) && (backToKw cpos (keywordEach [] X.env)).all (fun x => x.1.isSome)
      && decide ((e :: es).length + ([] : List Keyword).length + (if ([] : List Keyword).isEmpty then 0 else 1) < 30)) = true := by rfl)
    (hline : (apos.endLine == cpos.line) = true := by rfl) (hs : starEach (e :: es) X.env = (false, eval e X.env) :: starEach es X.env := by rfl) (hplain : (backTo cpos (starEach es X.env)).any (·.1) = false := by rfl) :
    PE X (.Call (.Attribute o name apos) (e :: es) [] cpos) (tBM X.K T r to t) := by
  intro pins s σ H Q I h
  refine wpAny_Call_method_late hbase hfew hline rfl (thn (ho pins s σ H _ I h) fun v s1 ⟨x, H1, I1, r1, ty, q1⟩ => ?_)
  obtain ⟨h1, h2⟩ := tyV_is I1 r1 ty
  refine ⟨T, id, pa, slot, hty, h1, h2, ?_⟩
  have hA := ha cpos pins s1 σ H1 _ I1 q1
  rw [hs] at hA ⊢
  refine Calls.callWith_builtin (by show (false || (backTo cpos (starEach es X.env)).any (·.1)) = false; rw [hplain] <;> rfl) (Calls.evalArgs_plain ?_)
  exact thn hA fun us s2 ⟨vs, H2, I2, r2, q2⟩ => hm pins s2 σ H2 x vs v us Q I2 r1 r2 q2
/- xs.append(e), list.index on a module's tuple .. are MtR facts of 06m -/
end
end L2

namespace L2
open PySem PySem.Spec PyProof.Rows

def MtM (X : Cx) (id : String) (r : V → List V → Hp → VK → Prop) : Prop :=
  ∀ (pins : List (Addr × Obj)) (s : Shared) (σ : St) (H : Hp) (x : V) (xs : List V) (v : Value) (us : List Value) (Q : VK), Inv X pins σ H s → RelV x v → Vals xs us → r x xs H Q →
    wpAny (model X.prog X.w) X.A (call (.builtin id) (v :: us)) (EP X pins σ Q) X.xe s

/-! ### lists of values -/
theorem Vals.one : ∀ {x : V} {us : List Value}, Vals [x] us → ∃ u, us = [u] ∧ RelV x u
  | _, _, .cons r .nil => ⟨_, rfl, r⟩
theorem Vals.two : ∀ {x y : V} {us : List Value}, Vals [x, y] us → ∃ u v, us = [u, v] ∧ RelV x u ∧ RelV y v
  | _, _, _, .cons r (.cons q .nil) => ⟨_, _, rfl, r, q⟩
theorem Vals.zero : ∀ {us : List Value}, Vals [] us → us = []
  | _, .nil => rfl
theorem Vals.dropLast {xs : List V} {us : List Value} (h : Vals xs us) : Vals xs.dropLast us.dropLast := by
  induction h with
  | nil => exact .nil
  | cons r t ih =>
    cases t with
    | nil => exact .nil
    | cons q t' => exact .cons r ih
theorem Vals.reverse {xs : List V} {us : List Value} (h : Vals xs us) : Vals xs.reverse us.reverse := by
  induction h with
  | nil => exact .nil
  | cons r t ih => rw [List.reverse_cons, List.reverse_cons]; exact Vals.append ih (.cons r .nil)
theorem Vals.rep {xs : List V} {us : List Value} (h : Vals xs us) : ∀ k : Nat, Vals (List.replicate k xs).flatten (List.replicate k us).flatten
  | 0 => .nil
  | k + 1 => by
    rw [List.replicate_succ, List.replicate_succ, List.flatten_cons, List.flatten_cons]
    exact Vals.append h (Vals.rep h k)
theorem foldl_rep (its : List Value) : ∀ (k : Nat) (acc : List Value),
    List.foldl (fun x1 x2 => x1 ++ x2) acc.toArray (List.replicate k its.toArray) = (acc ++ (List.replicate k its).flatten).toArray
  | 0, acc => by simp
  | k + 1, acc => by
    have e : acc.toArray ++ its.toArray = (acc ++ its).toArray := by simp
    have e2 : (acc ++ its) ++ (List.replicate k its).flatten = acc ++ (List.replicate (k + 1) its).flatten := by
      rw [List.replicate_succ, List.flatten_cons, List.append_assoc]
    rw [← e2, ← foldl_rep its k (acc ++ its), ← e, List.replicate_succ, List.foldl_cons]

section
variable {X : Cx} {pins : List (Addr × Obj)} {σ : St} {H : Hp} {s : Shared} {l b : Addr} {xs ys zs : List V}

/-! ### the two steps: a tracked list is rewritten, a new list is laid -/
theorem Inv.lset {its its' : List Value} {n : Nat} {f : Array Value → Array Value} {t' : Nat} (I : Inv X pins σ H s) (hH : H l = some (.lst xs))
    (e : s.heap.get? l = some { cls := .type "list", data := .seq its.toArray n }) (hf : f its.toArray = its'.toArray) (hv : Vals ys its') (hz : ys.length ≤ sizeLine) :
    Inv X pins σ (upd H l (.lst ys)) { s with heap := s.heap.update l (Obj.mapSeq f), toks := t' } := by
  have q := PySem.IsL.update e f
  rw [hf] at q
  refine I.write (x := l) (e := l) (by rw [hH]; exact trivial) (.inl rfl) (fun b' u hb hu => (Heap.get?_update_other s.heap (Obj.mapSeq f) (Ne.symm hb)).trans hu) ⟨_, q⟩ ?_
  exact ⟨hz, its', _, hv, q⟩
theorem Inv.lnew {its : List Value} {t' : Nat} (I : Inv X pins σ H s) (hv : Vals ys its) (hz : ys.length ≤ sizeLine) :
    Inv X pins σ (upd H s.heap.objs.size (.lst ys)) { s with heap := s.heap.push { cls := .type "list", data := .seq its.toArray }, toks := t' } :=
  I.laid (fun _ _ q => Heap.get?_push_of_some _ q) (Nat.le_refl _) ⟨hz, its, 0, hv, Heap.get?_push_size _ rfl⟩
theorem Inv.fresh (I : Inv X pins σ H s) : H s.heap.objs.size = none := I.hok.fresh (Nat.le_refl _)
theorem Inv.lstM (I : Inv X pins σ H s) (hH : H l = some (.lst xs)) : xs.length ≤ sizeLine ∧ ∃ (its : List Value) (n : Nat), Vals xs its ∧ xs.length = its.length ∧ s.heap.get? l = some { cls := .type "list", data := .seq its.toArray n } := by
  obtain ⟨z, its, n, r, e⟩ := I.hok l _ hH
  exact ⟨z, its, n, r, r.length, e⟩

theorem notLongL {n : Nat} (h : n ≤ sizeLine) : Builtin.List.listTooLong n = false := by
  unfold Builtin.List.listTooLong
  exact decide_eq_false (by omega)
end

section
variable {X : Cx}

/-! ### methods -/
def rAppend : V → List V → Hp → VK → Prop := fun x vs H Q => ∃ l xs y, x = .ref l ∧ vs = [y] ∧ H l = some (.lst xs) ∧ xs.length < sizeLine ∧ Q .non (upd H l (.lst (xs ++ [y])))
theorem mt_append : MtM X "list.append" rAppend := by
  intro pins s σ H x vs v us Q I rx rv h
  obtain ⟨l, xs, y, rfl, rfl, hH, hz, q⟩ := h
  cases rx
  obtain ⟨u, rfl, ru⟩ := rv.one
  obtain ⟨z, its, n, r, hl, e⟩ := I.lstM hH
  refine call_meets F.slot_list_append ⟨_, e, rfl⟩ F.entry_list_append (F.args_list_append_2 _ _) (PySem.list_append l its.toArray n u (by rw [List.size_toArray]; omega)) ⟨e, ?_⟩
  refine ⟨.non, _, I.lset (its' := its ++ [u]) hH e (by simp) (r.append (.cons ru .nil)) ?_, rfl, q⟩
  rw [List.length_append, List.length_singleton]
  omega

/-! ### list + list, list += list, list * int -/
def rCat : R2 := fun x y H Q => ∃ l b xs zs, x = .ref l ∧ y = .ref b ∧ H l = some (.lst xs) ∧ H b = some (.lst zs) ∧ xs.length + zs.length ≤ sizeLine ∧ ∀ p, H p = none → Q (.ref p) (upd H p (.lst (xs ++ zs)))
theorem op_cat : OpR X (binaryOp .Add) rCat := by
  intro pins s σ H x y v u Q I rx ry h
  obtain ⟨l, b, xs, zs, rfl, rfl, hH, hB, hz, q⟩ := h
  cases rx
  cases ry
  obtain ⟨z, its, n, r, hl, e⟩ := I.lstM hH
  obtain ⟨z2, its2, n2, r2, hl2, e2⟩ := I.lstM hB
  refine PySem.P.add_list e e2 ?_ (by rw [List.size_toArray, List.size_toArray]; omega)
  have ea : its.toArray ++ its2.toArray = (its ++ its2).toArray := by simp
  rw [ea]
  exact ⟨.ref _, _, I.lnew (t' := s.toks) (r.append r2) (by rw [List.length_append]; omega), rfl, q _ I.fresh⟩
/-- a list times an int (a negative one is nothing) -/
def rRep : R2 := fun x y H Q => ∃ l k xs, x = .ref l ∧ y = .int k ∧ H l = some (.lst xs) ∧ -(2 ^ 63) ≤ k ∧ k < 2 ^ 63 ∧ xs.length * k.toNat ≤ sizeLine ∧
  ∀ p, H p = none → Q (.ref p) (upd H p (.lst (List.replicate k.toNat xs).flatten))
theorem len_rep {α : Type} (xs : List α) (k : Nat) : (List.replicate k xs).flatten.length = k * xs.length := by
  induction k with
  | zero => simp
  | succ k ih => rw [List.replicate_succ, List.flatten_cons, List.length_append, ih, Nat.succ_mul, Nat.add_comm]
theorem op_rep : OpR X (binaryOp .Mult) rRep := by
  intro pins s σ H x y v u Q I rx ry h
  obtain ⟨l, k, xs, rfl, rfl, hH, h1, h2, hz, q⟩ := h
  cases rx
  obtain ⟨t, rfl⟩ := ry
  obtain ⟨z, its, n, r, hl, e⟩ := I.lstM hH
  have hlen : its.toArray.size * k.toNat ≤ sizeLine := by rw [List.size_toArray, ← hl]; exact hz
  have hcap : ¬ its.toArray.size * k.toNat > (2 ^ 63 - 1) / 8 := by
    have : (sizeLine : Nat) ≤ (2 ^ 63 - 1) / 8 := by decide
    omega
  have hfit : ¬ (!Builtin.List.listFitsIndex k) = true := by
    rw [fitsIndex_both h1 h2]
    exact Bool.false_ne_true
  have hlong : ¬ Builtin.List.listTooLong (its.toArray.size * k.toNat) = true := by
    rw [notLongL hlen]
    exact Bool.false_ne_true
  have hnew : List.foldl (fun x1 x2 => x1 ++ x2) #[] (List.replicate (if its.toArray.isEmpty = true then 0 else k.toNat) its.toArray) = (List.replicate k.toNat its).flatten.toArray := by
    have f0 : ∀ m : Nat, List.foldl (fun x1 x2 => x1 ++ x2) #[] (List.replicate m its.toArray) = (List.replicate m its).flatten.toArray := fun m => by
      have := foldl_rep its m []
      rw [List.nil_append] at this
      exact this
    rw [f0]
    cases its with
    | nil => simp
    | cons a r' => rw [if_neg (by simp)]
  refine wpAny_binaryOp_repeat_ref (T := "list") (U := "int") (by decide) ⟨_, e, rfl⟩ (fun s' => typeIs_int s' k t) noFill_list_mul F.fills_int_mul F.slot_int_rmul repeat_list F.slot_int_index.lookup
    (call_meets F.slot_int_rmul (typeIs_int s k t) F.entry_int_rmul (F.args_int_rmul_2 _ _) (int___rmul___int_list k t l its.toArray n)
      ⟨e, rfl, ⟨_, e, rfl⟩, call_meets F.slot_list_mul ⟨_, e, rfl⟩ F.entry_list_mul (F.args_list_mul_2 _ _) (AutoListH.list___mul___list_int_3 l its.toArray n k t hfit hcap hlong) ⟨e, ?_⟩⟩)
  rw [hnew]
  exact ⟨.ref _, _, I.lnew (t' := s.toks) (r.rep k.toNat) (by rw [len_rep, Nat.mul_comm]; exact hz), rfl, q _ I.fresh⟩

/-! ### del xs[i] -/
end

/-! ### xs[a:b] = ys -/
section
variable {prog : Program} {w : World} {A : Around} {E : Value → Shared → Prop} {s : Shared}
end

section
variable {X : Cx}
end
end L2

namespace Att
open PySem PySem.W PySem.Calls PyProof.Rows

/-! ### the script -/
theorem ints_of_wellAll {P : Params} {h : Heap} : ∀ (ns : List Int) (vs : List Value), WellAll P h vs (ns.map WData.int) → IntsAre vs ns := by
  intro ns
  induction ns with
  | nil =>
    intro vs w
    rw [List.map_nil] at w
    cases w
    exact .nil
  | cons n ns ih =>
    intro vs w
    rw [List.map_cons] at w
    cases w with
    | cons a b =>
      cases a
      exact .cons _ _ (ih _ b)

theorem script_of {l : OpenLaw} {n : Nat} (hn : l.most = some n) {P : Params} {h : Heap} {args : List WData} {vals : List Value}
    (hpre : l.row.toRowW.claim.pre args = true) (hwl : WellAll P h vals args) :
    ∃ a vs ns, vals = [Value.ref a] ∧ args = [WData.list (ns.map WData.int)] ∧ h.get? a = some { cls := .type "list", data := .seq vs.toArray } ∧ IntsAre vs ns ∧ ns.length ≤ n := by
  have hsh : WShape.hasAll [] args [.list .int] = true := (pre_splitW hpre).1
  have hc : l.pre.holds [] { args := args } = true := (pre_splitW hpre).2
  obtain ⟨d, r, rfl, h1, h2⟩ := hasAllW_cons hsh
  obtain rfl := hasAllW_nil h2
  obtain ⟨xs, rfl, h3⟩ := hasW_list h1
  obtain ⟨ns, rfl⟩ := items_int h3
  have hlen : ns.length ≤ n := by
    unfold OpenLaw.pre at hc
    have h4 : (WTm.not (.lt (.lit (.int (n : Int))) (.len (.arg 0)))).holds [] { args := [.list (ns.map .int)] } = true := by
      have h4 := (holds_andW hc).1
      rw [hn] at h4
      exact h4
    have h5 := condW_of h4 (w_not (w_lt w_lit (w_len_list (w_arg rfl))))
    rw [List.length_map] at h5
    refine Nat.le_of_not_lt fun q => ?_
    have q' : (n : Int) < ((ns.length : Nat) : Int) := by omega
    first
      | (rw [decide_eq_true q'] at h5; exact absurd h5 (by decide))
      | (simp at h5; omega)
  cases hwl with
  | cons w1 w2 =>
    cases w2
    cases w1 with
    | list ho hall => exact ⟨_, _, ns, rfl, rfl, ho, ints_of_wellAll ns _ hall, hlen⟩

theorem post_true (l : OpenLaw) (args : List WData) : l.row.toRowW.claim.post args (.bool true) args = true :=
  postW_of (r := l.row.toRowW) (X := (true == true))
    (show WShape.has [] (.bool true) .bool = true by first | rfl | decide | simp [WShape.has, WShape.arms, WShape.armsAll])
    (show (WTm.eq .res (.lit (.bool true))).value [] { args := args, res := some (.bool true), after := args } = some (.bool (true == true)) from w_eq_bool (w_res rfl) w_lit) rfl

/-! ### the attachment: holds_open's last premise (the goal 'hc' behind k_head) from a wpAny of the law's body -/
/-- the same from a codeAny of the CALL (for a layer whose function contracts speak of calls) -/
theorem attach_call {l : OpenLaw} {n : Nat} {q : Program} {loose : List Str} {XP : (Str → Option Value) → Heap → Prop} {YP : World → Heap → Prop} {d : DefRec}
    (hn : l.most = some n) (hdf : d.params.defaults = [])
    (call : ∀ (w : World) (s₀ s₁ : Shared) (mg mb : Str → Option Value) (fa : Addr) (o : Obj) (pm cd doc : Value) (a : Addr) (vs : List Value) (ns : List Int),
      Ground q loose [] XP w s₀ mg mb s₁.heap → YP w s₁.heap →
      s₁.heap.get? fa = some o → o.data = .func (docDef d.name d.params d.body d.scope pm cd doc) → s₁.heap.CodeRec cd d.name → mg d.name = some (.ref fa) →
      s₁.heap.get? a = some { cls := .type "list", data := .seq vs.toArray } → IntsAre vs ns → ns.length ≤ n → s₁.gens = #[] →
      codeAny (model l.prog w) callerA (.call (.ref fa) ⟨[.ref a], []⟩) (fun r s' => r = .ok (.ret (.bool true)) ∧ OldK s₁.heap s'.heap ∧ s'.os = s₁.os ∧ AllBare s'.gens) s₁) :
    WalkO q loose XP YP l.row.toRowW d [] (fun f vs => PySem.call f vs) := by
  intro w s₀ s₁ mg mb G Y fa o pm cd doc dV kV ho hd hcd hD hmg hg args vals as hpre hlay hrd hwl hlo
  obtain rfl : dV = .none := Dflts.none hD hdf
  obtain rfl : kV = .none := Dflts.noKw hD
  obtain ⟨a, vs, ns, rfl, rfl, hobj, hints, hlen⟩ := script_of hn hpre hwl
  refine enter_call (codeAny_mono (call w s₀ s₁ mg mb fa o pm cd doc a vs ns G Y ho (fd_plain hd) hcd hmg hobj hints hlen hg) fun r s' hq => ?_)
  obtain ⟨rfl, h2, h3, h4⟩ := hq
  exact ⟨.inl ⟨.bool true, .bool true, [], rfl, fun _ => rfl, .bool true, post_true l _, fun _ => ⟨List.Pairwise.nil, fun _ hm => (nomatch hm)⟩⟩, h2, h3, h4⟩

/-! ### rules over ANY heap (no ledger) from facts about the written part K: the library's own take a ledger (News) for what they write -/
section
variable {prog : Program} {w : World} {A : Around} {E : Value → Shared → Prop} {s : Shared} {K : Frag}

/-! the whole heap as the ledger: makes every rule that writes through a ledger a rule over any heap -/
def ledger (h : Heap) (L d : Addr) : List (Addr × Obj) := (List.range h.objs.size).filterMap fun a => if a = L ∨ a = d then none else (h.get? a).map fun o => (a, o)
end
end Att

namespace L2
open PySem PySem.Spec PyProof.Rows

theorem vals_ints : ∀ {vs : List Value} {ns : List Int}, IntsAre vs ns → Vals (ns.map V.int) vs
  | _, _, .nil => .nil
  | _, _, .cons n t h => .cons ⟨t, rfl⟩ (vals_ints h)

/-- nothing is tracked but the script, known to the object (or it is an object of the module) -/
def Only (H : Hp) : Prop := ∀ b, H b = none ∨ ∃ o xs, H b = some (.frz o (.lst xs))

/-- THE HEAD: the law's promise, at the heap behind the top. F, the promise of the law's def, may use that base is part of the heap (so K.In base, base.Ns mainGlobals mg stand in Mod) -/
theorem law_call {P : Program} {w : World} {K : PySem.W.Frag} {mg mb : Str → Option Value} {CX : CXT} {k : Nat} {fa a : Addr} {fd : FuncData} {x : Str} {sp : Sp} {s₁ : Shared} {vs : List Value} {ns : List Int}
    (KX : K.In s₁.heap) (hns : s₁.heap.Ns mainGlobals mg) (hb : s₁.heap.Ns builtinsNs mb) (hbb : ∀ x : Str, x ≠ "__name__" → mb x = bootBuiltins x) (hlim : s₁.heap.NoLimit) (hg : s₁.gens = #[])
    (ha : s₁.heap.get? a = some { cls := .type "list", data := .seq vs.toArray }) (hi : IntsAre vs ns) (hl : ns.length ≤ sizeLine) (hr : Room k callerA)
    (F : ∀ base : Heap, K.In base → base.Ns mainGlobals mg → FnOk P w K mg base CX k fa fd [x] sp) (hbind : ∀ (s : Shared) (u : Value), BindsTo s fd ⟨[u], []⟩ [(x, u)])
    (hsp : ∀ H : Hp, Only H → SqL K H a (ns.map V.int) → sp [.ref a] H (fun v _ => v = .bl true) fun _ _ _ => False)
    (hCX : ∀ H e s', CX [] H s₁ (fun _ _ _ => False) e s' → False) :
    codeAny (model P w) callerA (.call (.ref fa) ⟨[.ref a], []⟩) (fun r s' => r = .ok (.ret (.bool true)) ∧ OldK s₁.heap s'.heap ∧ s'.os = s₁.os ∧ AllBare s'.gens) s₁ := by
  have rv := vals_ints hi
  have lenV := hi.length
  -- from an abstract heap in which nothing but the script may be tracked
  have core : ∀ H : Hp, Only H → SqL K H a (ns.map V.int) → HOk P w H s₁.heap → (∀ b, H b ≠ none → b = a) → (H a ≠ none → K.lookup a = none) →
      codeAny (model P w) callerA (.call (.ref fa) ⟨[.ref a], []⟩) (fun r s' => r = .ok (.ret (.bool true)) ∧ OldK s₁.heap s'.heap ∧ s'.os = s₁.os ∧ AllBare s'.gens) s₁ := by
    intro H hO hS hok hA hK
    have base_of : ∀ {b : Addr} {o : Obj}, s₁.heap.get? b = some o → H b = none → (hidT s₁.heap H).get? b = some o := fun e n => hidT_get e n
    have noA : ∀ {b : Addr} {o : Obj} {es : Array DictEntry} {ep : Nat}, s₁.heap.get? b = some o → o.data = .dict es ep → H b = none := fun {b o es ep} e d => by
      cases q : H b with
      | none => rfl
      | some u =>
        have e' : b = a := hA b (by rw [q]; simp)
        subst e'
        rw [ha] at e; cases e
        have d' : Data.seq vs.toArray _ = Data.dict es ep := d
        cases d'
    have nsK : ∀ {b : Addr} {m : Str → Option Value}, s₁.heap.Ns b m → (hidT s₁.heap H).Ns b m := fun {b m} ⟨o, es, ep, e, d, r⟩ => ⟨o, es, ep, base_of e (noA e d), d, r⟩
    have hKb : K.In (hidT s₁.heap H) := fun b o e => base_of (KX b o e) (by
      cases q : H b with
      | none => rfl
      | some u =>
        have e' : b = a := hA b (by rw [q]; simp)
        subst e'
        rw [hK (by rw [q]; simp)] at e; cases e)
    have hM : Mod K mg (hidT s₁.heap H) := ⟨hKb, nsK hns, ⟨mb, nsK hb, hbb⟩, let ⟨mc, h1, h2⟩ := hlim; ⟨mc, nsK h1, h2⟩⟩
    have e0 : Env0 P w K mg (hidT s₁.heap H) callerA [] s₁ H := ⟨rfl, hM, fun b o e => of_hidT e, Nat.le_of_eq (hidT_size _ _), trivial, fun b hb => absurd (show b ∈ ([] : List Addr) from hb) (by simp), hok, .of_eq hg⟩
    refine codeAny_mono ((F _ hKb (nsK hns)).run callerA [] s₁ H ⟨[.ref a], []⟩ [.ref a] [.ref a] _ _ hr e0 (hbind s₁ (.ref a)) (.cons rfl .nil) (hsp H hO hS)) fun r s' h => ?_
    cases r with
    | error e => exact (hCX H e s' h).elim
    | ok fl =>
      cases fl with
      | next => exact False.elim h
      | brk => exact False.elim h
      | cont => exact False.elim h
      | ret u =>
        obtain ⟨v, H', os, bare, un, hok', r', q⟩ := h
        have q' : v = .bl true := q
        subst q'
        obtain rfl : u = Value.bool true := r'
        refine ⟨rfl, OldK.of_keep fun b o e => ?_, os, bare⟩
        cases q : H b with
        | none => exact un.keep b o e q (by intro z; exact absurd (show b ∈ ([] : List Addr) from z) (by simp)) (by simp)
        | some u =>
          rcases hO b with z | ⟨ob, xs, z⟩
          · rw [q] at z; cases z
          · have z2 := un.frzs b ob _ z
            obtain ⟨e1, _⟩ := hok b _ z
            obtain ⟨e2, _⟩ := hok' b _ z2
            rw [e] at e1; cases e1
            exact e2
  cases hk : K.lookup a with
  | some o =>
    -- the script is one of the module's own objects
    have e := KX a o hk
    rw [ha] at e
    cases e
    refine core (fun _ => none) (fun _ => .inl rfl) (.inr ⟨_, vs.toArray, _, hk, rfl, rfl, rfl, by rw [List.size_toArray, lenV]; exact hl, by simpa using rv⟩) (fun b u z => by have z' : (none : Option HO) = some u := z; cases z') (fun b z => absurd rfl z) fun z => absurd rfl z
  | none =>
    refine core (fun b => if b = a then some (.frz { cls := .type "list", data := .seq vs.toArray } (.lst (ns.map V.int))) else none) (fun b => ?_) (.inl (.inr ⟨{ cls := .type "list", data := .seq vs.toArray }, if_pos rfl⟩)) (fun b u z => ?_) (fun b z => ?_) fun _ => hk
    · by_cases hb : b = a
      · exact .inr ⟨_, _, if_pos hb⟩
      · exact .inl (if_neg hb)
    · by_cases hb : b = a
      · have z' := (if_pos hb).symm.trans z
        cases z'
        subst hb
        exact ⟨ha, by rw [List.length_map]; exact hl, vs, _, rv, ha⟩
      · have z' := (if_neg hb).symm.trans z
        cases z'
    · by_cases hb : b = a
      · exact hb
      · exact absurd (if_neg hb) z
end L2

namespace L2
open PySem PySem.Spec PyProof.Rows

abbrev KOf {K : PySem.W.Frag} {h : Heap} (_ : K.In h) : PySem.W.Frag := K

/-- the goal that k_head leaves (case hc), from the law's promise. F gives the function object fd (K's own) once, then the promise over every base -/
theorem walk_of {l : PySem.W.OpenLaw} {n k : Nat} {q : Program} {loose : List Str} {XP : (Str → Option Value) → Heap → Prop} {YP : World → Heap → Prop} {d : DefRec} {K : Params → PySem.W.Frag} {CX : World → CXT} {sp : World → Sp} {x : Str}
    (hn : l.most = some n) (hn2 : n ≤ sizeLine) (hdf : d.params.defaults = []) (hr : Room k callerA)
    (hY : ∀ (w : World) (h : Heap), YP w h → (K w.params).In h)
    (F : ∀ (w : World) (mg : Str → Option Value) (fa : Addr) (h : Heap), (K w.params).In h → h.Ns mainGlobals mg → mg d.name = some (.ref fa) →
      ∃ fd : FuncData, (∀ (s : Shared) (u : Value), BindsTo s fd ⟨[u], []⟩ [(x, u)]) ∧
        ∀ base : Heap, (K w.params).In base → base.Ns mainGlobals mg → FnOk l.prog w (K w.params) mg base (CX w) k fa fd [x] (sp w))
    (hsp : ∀ (w : World) (H : Hp) (a : Addr) (ns : List Int), ns.length ≤ n → Only H → SqL (K w.params) H a (ns.map V.int) → sp w [.ref a] H (fun v _ => v = .bl true) fun _ _ _ => False)
    (hCX : ∀ (w : World) (H : Hp) (s : Shared) (e : Value) (s' : Shared), CX w [] H s (fun _ _ _ => False) e s' → False) :
    PySem.W.WalkO q loose XP YP l.row.toRowW d [] (fun f vs => PySem.call f vs) := by
  refine Att.attach_call hn hdf fun w s₀ s₁ mg mb fa o pm cd doc a vs ns G Y ho hd hcd hmg hobj hints hlen hg => ?_
  have KX := hY w _ Y
  obtain ⟨fd, hb, hF⟩ := F w mg fa _ KX G.T.g hmg
  exact law_call KX G.T.g G.T.b G.T.builtins G.T.nolimit hg hobj hints (Nat.le_trans hlen hn2) hr hF hb (fun H hO hS => hsp w H a ns hlen hO hS) fun H e s' => hCX w H s₁ e s'
end L2

/- THE LAST THEOREM (shape; LID, My.* are yours):
   My.Adr: a structure of the addresses that your layer names (classes, functions); My.Txt K t: a structure (Prop) of the equations over K;
   My.txt_mk : {K} {implicit addresses ..} (e1 : nsIn K mainGlobals "law" = some (some (.ref f))) (e2 : K.lookup f = some ⟨oc, od, .func (fnOf "law" "law" params body scope dV kV doc pm an cdv ct), sl⟩) (e3 : codeIn K cdv "law" = true) .. : ∃ t, My.Txt K t

set_option maxRecDepth 100000 in
set_option maxHeartbeats 0 in
theorem PySem.Challenge.cw_LID_holds : PySem.Challenge.rw_LID.Holds := by
  w_on; o_law; k_head; (case hw => w_witness2)
  k_fill
  refine L2.walk_of (l := PySem.Challenge.rw_LID) (n := 63) (k := 40) (x := "script") (CX := fun w => ..) (sp := fun _ => My.sp_law) rfl (by decide) rfl ⟨rfl, by decide, by decide⟩ (fun w h Y => PySem.W.kIn_of Y) ?F ?S ?C
  case F =>
    intro w mg fa h KX G hmg
    have T : ∃ t, My.Txt (L2.KOf KX) t := by
      dsimp only [L2.KOf]                          -- K must stand as «<heap const> w.params» for k_is
      refine' My.txt_mk ?e1 ?e2 ?e3 ..
      (case e1 => PySem.W.k_is)                    -- in the order: a name -> its address -> its object -> its parts
      (case e2 => PySem.W.k_is)
      ..
    obtain ⟨t, T⟩ := T
    have e0 := hmg.symm.trans (PySem.W.mg_of KX G T.law)
    cases e0                                       -- fa is the law's own address
    exact ⟨_, fun s u => .of_eq rfl, fun base kb nb => My.law_fn T kb nb⟩     -- if «.of_eq rfl» comes too early: refine' ⟨_, ?b, fun base kb nb => My.law_fn T kb nb⟩; exact fun s u => .of_eq rfl
  case S => exact fun w H a ns hl hO hS => ..
  case C => exact ..
(the tactic k_is has no namespace: write k_is) -/

/-! SHORT WORDS over the layer: a def of the text, its body, what a loop and a test want. -/
namespace L2
open PySem PySem.Spec PyProof.Rows

/-! ### the text by places -/
/-- the j-th statement of a class's body -/
def inClass (s : Stmt) (j : Nat) : Stmt := match s with
  | .ClassDef _ _ _ body _ _ _ _ _ _ _ => body.getD j (.Pass ⟨0, 0, 0, 0⟩)
  | _ => .Pass ⟨0, 0, 0, 0⟩
def defArgs (s : Stmt) : Arguments := match s with
  | .FunctionDef _ a _ _ _ _ _ _ _ _ => a
  | _ => { posonlyargs := [], args := [], vararg := none, kwonlyargs := [], kw_defaults := [], kwarg := none, defaults := [] }
def defBody (s : Stmt) : List Stmt := match s with
  | .FunctionDef _ _ b _ _ _ _ _ _ _ => b
  | _ => []
def defScope (s : Stmt) : Scope := match s with
  | .FunctionDef _ _ _ _ _ _ sc _ _ _ => sc
  | _ => { kind := .function, names := [], isGenerator := false, isCoroutine := false }

/-! ### no exception leaves a def -/
abbrev CX0 : CXT := fun _ _ _ _ _ _ => False
abbrev E0 : XK := fun _ _ _ => False
theorem pass0 {X : Cx} : Passes CX0 X E0 := fun _ _ _ _ _ _ _ h => h.elim

/-! ### a def (or method) of the text as it stands behind the top -/
structure Fun (K : PySem.W.Frag) (x qual : Str) (st : Stmt) (f : Addr) (fd : FuncData) : Prop where
  ex : ∃ (oc : Value) (od : Option Addr) (kV doc pm : Value) (an : Option Addr) (cdv ct : Value) (osl : Array (Option Value)),
    fd = PySem.W.fnOf x qual (defArgs st) (defBody st) (defScope st) .none kV doc pm an cdv ct ∧ K.lookup f = some ⟨oc, od, .func fd, osl⟩ ∧ PySem.W.codeIn K cdv qual = true
  kp : PySem.W.keepIn K (.ref f) = true
section
variable {P : Program} {w : World} {K : PySem.W.Frag} {mg : Str → Option Value} {base : Heap}
/-- THE RULE for a def: its body as a term of rules, and the reading of that term -/
theorem Fun.ok {x qual : Str} {st : Stmt} {f : Addr} {fd : FuncData} {N ps : List Str} {k : Nat} {sp : Sp} (F : Fun K x qual st f fd) (S : FnScope N ps (defScope st)) (len : ∀ vs H Q E, sp vs H Q E → vs.length = ps.length)
    (hbody : ∀ (cdv : Value) (A : Around) (outer : List Env) (s : Shared) (H : Hp) (vs : List V) (Q : VK) (E : XK), Room k (A.deeper (envOfC qual (defScope st) s.heap.objs.size f cdv)) → sp vs H Q E →
      ∃ t, PSs (cxOf CX0 P w K mg base N qual (defScope st) f cdv A outer s H E).nox (defBody st) t ∧ t { nx := fun _ H' => Q .non H', rt := Q } (start N vs) H) : FnOk P w K mg base CX0 (k + 1) f fd ps sp := by
  obtain ⟨oc, od, kV, doc, pm, an, cdv, ct, osl, rfl, lk, hcd⟩ := F.ex
  refine fn_of lk hcd S len fun A outer s H vs Q E hr hsp => ?_
  obtain ⟨t, h, q⟩ := hbody cdv A outer s H vs Q E hr hsp
  exact ⟨t, h.nox, q⟩
/-- how its arguments bind (no defaults): h is «fun _ _ _ _ _ _ us hl => match us, hl with | [_, _], _ => rfl», one _ a parameter -/
theorem Fun.binds {x qual : Str} {st : Stmt} {f : Addr} {fd : FuncData} {ps : List Str} (F : Fun K x qual st f fd)
    (h : ∀ (kV doc pm : Value) (an : Option Addr) (cdv ct : Value) (us : List Value), us.length = ps.length → bindArgs (PySem.W.fnOf x qual (defArgs st) (defBody st) (defScope st) .none kV doc pm an cdv ct) ⟨us, []⟩ = pure (ps.zip us)) : Binds K fd ps [] := by
  obtain ⟨oc, od, kV, doc, pm, an, cdv, ct, osl, rfl, lk, hcd⟩ := F.ex
  exact .all (h kV doc pm an cdv ct)
theorem fun_mk {x qual : Str} {st : Stmt} {f : Addr} {oc : Value} {od an : Option Addr} {osl : Array (Option Value)} {kV doc pm cdv ct : Value} (l : K.lookup f = some ⟨oc, od, .func (PySem.W.fnOf x qual (defArgs st) (defBody st) (defScope st) .none kV doc pm an cdv ct), osl⟩)
    (c : PySem.W.codeIn K cdv qual = true) (k : PySem.W.keepIn K (.ref f) = true) : Fun K x qual st f (PySem.W.fnOf x qual (defArgs st) (defBody st) (defScope st) .none kV doc pm an cdv ct) := ⟨⟨oc, od, kV, doc, pm, an, cdv, ct, osl, rfl, l, c⟩, k⟩
end
theorem small1000 {n : Nat} (h : n ≤ 1000) : n < sizeLine := Nat.lt_of_le_of_lt h (by decide)

/-! ### expressions in short: the name that stands in the i-th slot -/
section
variable {X : Cx}
theorem pv (i : Nat) {x : Str} {pos : Pos} (hN : X.N[i]? = some x := by rfl) (hv : Vis X.env.scope x := by first | exact Or.inl rfl | exact Or.inr (Or.inl rfl) | exact Or.inr (Or.inr rfl)) (hd : (x == ("__debug__" : Str)) = false := by decide)
    (hcd : (x == ("__classdict__" : Str)) = false := by decide) : PE X (.Name x pos) (tVar i) := pe_var hN hv hd hcd
end

/-! ### tests -/
theorem iteF {A B : Prop} (h : B) : if false = true then A else B := by
  rw [if_neg Bool.false_ne_true]
  exact h
theorem iteT {A B : Prop} (h : A) : if true = true then A else B := by
  rw [if_pos rfl]
  exact h
theorem ite2 {c A B : Prop} [Decidable c] (h1 : c → A) (h2 : ¬ c → B) : if c then A else B := by
  by_cases h : c
  · rw [if_pos h]
    exact h1 h
  · rw [if_neg h]
    exact h2 h
/-! ### heaps -/
/-- all that was tracked is as it was -/
def Same (H H' : Hp) : Prop := ∀ b o, H b = some o → H' b = some o
theorem Same.refl (H : Hp) : Same H H := fun _ _ h => h
theorem Same.trans {H H1 H2 : Hp} (a : Same H H1) (b : Same H1 H2) : Same H H2 := fun c o h => b c o (a c o h)
theorem Same.free {H H' : Hp} (e : Same H H') {l : Addr} (h : H' l = Option.none) : H l = Option.none := by
  cases q : H l with
  | none => rfl
  | some o =>
    rw [e l o q] at h
    cases h
theorem Same.seq {K : PySem.W.Frag} {H H' : Hp} {a : Addr} {xs : List V} (e : Same H H') (h : SqL K H a xs) : SqL K H' a xs := by
  rcases h with (h | ⟨o, h⟩) | h
  · exact .inl (.inl (e _ _ h))
  · exact .inl (.inr ⟨o, e _ _ h⟩)
  · exact .inr h

end L2

set_option maxHeartbeats 4000000

/-! exceptions of the program's own over the hand layer: how one flies, is caught, is raised -/
namespace L2
open PySem PySem.Spec PyProof.Rows

theorem ObjOk.here {P : Program} {w : World} {H : Hp} {h : Heap} {a : Addr} {o : HO} (x : ObjOk P w H h a o) : ∃ ob, h.get? a = some ob := by
  cases o with
  | lst xs => obtain ⟨_, _, _, _, e⟩ := x; exact ⟨_, e⟩
  | tup xs => obtain ⟨_, _, _, ob, e, _⟩ := x; exact ⟨_, e⟩
  | dK kvs => obtain ⟨_, _, _, _, ob, _, _, e, _⟩ := x; exact ⟨_, e⟩
  | dT kvs => obtain ⟨_, _, _, _, ob, _, _, e, _⟩ := x; exact ⟨_, e⟩
  | set S n => obtain ⟨ob, _, _, _, e, _⟩ := x; exact ⟨_, e⟩
  | ins C dx fs => obtain ⟨_, _, _, e, _⟩ := x; exact ⟨_, e⟩
  | own y => exact x
  | xd fs => obtain ⟨_, ⟨_, _, _, e, _⟩, _⟩ := x; exact ⟨_, e⟩
  | rng lo hi => obtain ⟨_, _, _, e⟩ := x; exact ⟨_, e⟩
  | frz ob u => obtain ⟨e, _⟩ := x; exact ⟨_, e⟩
  | tbl ps => exact ⟨_, x⟩
  | met f y => exact ⟨_, x⟩
  | ext φ => exact x.2.1

/-- an own exception in the air: ahead of the call stood (H, s), of class C at ea, B: all that has to stay -/
structure Fly (P : Program) (w : World) (outer : List Env) (H : Hp) (s : Shared) (H' : Hp) (ea C : Addr) (B : Heap) (t : Addr) (s' : Shared) : Prop where
  os : s'.os = s.os
  bare : AllBare s'.gens
  fl : Heap.FlyingW B outer ea (.ref C) (.ref t) s'.heap
  hok : HOk P w H' B
  kb : ∀ b o, s.heap.get? b = some o → H b = none → b ∉ frs outer → B.get? b = some o
  tb : ∀ b o, s.heap.get? b = some o → b ∉ frs outer → ∃ o', B.get? b = some o'
  sl : ∀ b o, s.heap.get? b = some o → H b = none → b ∈ frs outer → ∃ l, s'.heap.get? b = some { o with slots := l }
  frh : ∀ b ∈ frs outer, H b = none
  fre : ∀ b o, s.heap.get? b = some o → H b = none → H' b = none
  tups : ∀ b xs, H b = some (.tup xs) → H' b = some (.tup xs)
  frzs : ∀ b o u, H b = some (.frz o u) → H' b = some (.frz o u)
  tbls : ∀ b ps, H b = some (.tbl ps) → ∃ more, H' b = some (.tbl (ps ++ more))

def CXF (P : Program) (w : World) : CXT := fun outer H s E e s' => ∃ ea C H' B t, e = .ref ea ∧ Fly P w outer H s H' ea C B t s' ∧ E (.ref C) none H'

section
variable {P : Program} {w : World} {outer : List Env} {H H' : Hp} {s s' : Shared} {ea C t : Addr} {B : Heap}
theorem Fly.noE (f : Fly P w outer H s H' ea C B t s') : H' ea = none := by
  cases q : H' ea with
  | none => rfl
  | some u =>
    obtain ⟨ob, e⟩ := (f.hok ea u q).here
    rw [f.fl.2.1] at e
    cases e
theorem Fly.un (f : Fly P w outer H s H' ea C B t s') {h : Heap} (st : B.StaysIn h) (up : s'.heap.UpToSlots h) : Un (frs outer) [] H H' s.heap h where
  keep := fun b o e n hb _ => st b o (f.kb b o e n hb)
  slot := fun b o e n hb _ => by
    obtain ⟨l, q⟩ := f.sl b o e n hb
    obtain ⟨_, o2, q2, nf⟩ := f.fl.2.2.1.mem hb
    rw [q] at q2
    cases q2
    obtain ⟨l2, q3⟩ := up b _ q nf
    exact ⟨l2, q3⟩
  free := fun b o e n _ => f.fre b o e n
  there := fun b o e _ => by
    by_cases hb : b ∈ frs outer
    · obtain ⟨l, q⟩ := f.sl b o e (f.frh b hb) hb
      obtain ⟨_, o2, q2, nf⟩ := f.fl.2.2.1.mem hb
      rw [q] at q2
      cases q2
      obtain ⟨l2, q3⟩ := up b _ q nf
      exact ⟨_, q3⟩
    · obtain ⟨o', q⟩ := f.tb b o e hb
      exact ⟨o', st b o' q⟩
  tups := f.tups
  frzs := f.frzs
  tbls := f.tbls
/-- the object of an exception that was caught -/
def ExcAt (ea C : Addr) (h : Heap) : Prop := ∃ oe, h.get? ea = some oe ∧ oe.cls = .ref C ∧ PySem.W.notCls oe = true
def ExcO (ea C : Addr) : HO := .ext (ExcAt ea C)
theorem excAt_fly {l : List Env} {h : Heap} (x : Heap.FlyingW B l ea (.ref C) (.ref t) h) : ExcAt ea C h := by
  obtain ⟨oe, vs, e, c, d, _⟩ := x.first
  refine ⟨oe, e, c, ?_⟩
  obtain ⟨_, _, dt, _⟩ := oe
  cases d
  rfl
theorem HOk.exc {h : Heap} (x : HOk P w H' h) (n : H' ea = none) (k : ExcAt ea C h) : HOk P w (upd H' ea (ExcO ea C)) h := fun b u e => by
  by_cases hb : b = ea
  · subst hb
    rw [upd_same] at e
    cases e
    obtain ⟨oe, e1, e2⟩ := k
    refine ⟨⟨oe, e1, e2⟩, ⟨oe, e1⟩, fun h1 h2 ⟨o1, a1, a2⟩ z => ⟨o1, z o1 a1, a2⟩⟩
  · rw [upd_ne hb] at e
    refine (x b u e).stay (fun c v _ q => q) (fun c q => ?_) fun c xs q => ?_
    · rw [upd_ne (ne_of_none q n)]
      exact q
    · rw [upd_ne (ne_of_none q n)]
      exact q
theorem Un.exc {fs ex : List Addr} {h h' : Heap} (u : Un fs ex H H' h h') (n : H' ea = none) (k : ∀ b o, h.get? b = some o → b ≠ ea) {o : HO} : Un fs ex H (upd H' ea o) h h' where
  keep := u.keep
  slot := u.slot
  free := fun b ob e z hx => by
    rw [upd_ne (k b ob e)]
    exact u.free b ob e z hx
  there := u.there
  tups := fun b xs e => by
    have q := u.tups b xs e
    rw [upd_ne (ne_of_none q n)]
    exact q
  frzs := fun b ob xs e => by
    have q := u.frzs b ob xs e
    rw [upd_ne (ne_of_none q n)]
    exact q
  tbls := fun b ps e => by
    obtain ⟨m, q⟩ := u.tbls b ps e
    refine ⟨m, ?_⟩
    rw [upd_ne (ne_of_none q n)]
    exact q
theorem Fly.apart (f : Fly P w outer H s H' ea C B t s') : ∀ b o, s.heap.get? b = some o → b ≠ ea := fun b o e z => by
  subst z
  by_cases hb : b ∈ frs outer
  · obtain ⟨_, o2, q2, nf⟩ := f.fl.2.2.1.mem hb
    obtain ⟨oe, vs, q3, _, d, _⟩ := f.fl.first
    rw [q2] at q3
    cases q3
    exact nf _ d
  · obtain ⟨o', q⟩ := f.tb b o e hb
    rw [f.fl.2.1] at q
    cases q
end

section
variable {X : Cx} {pins : List (Addr × Obj)} {σ : St} {H H' : Hp} {s s' : Shared} {ea C t : Addr} {B : Heap}
/-- caught in this frame -/
theorem Fly.land (I : Inv X pins σ H s) (f : Fly X.prog X.w X.stack H s H' ea C B t s') {h : Heap} {tk : Nat} (st : B.StaysIn h) (up : s'.heap.UpToSlots h) : Inv X pins σ H' { s' with heap := h, toks := tk } :=
  I.call' (s' := { s' with heap := h, toks := tk }) (ch := []) f.os (f.un st up) (f.hok.kept fun b o e => st b o e) f.bare (fun _ z => nomatch z)
theorem Fly.landE (I : Inv X pins σ H s) (f : Fly X.prog X.w X.stack H s H' ea C B t s') {h : Heap} {tk : Nat} (x : Heap.FlyingW B X.stack ea (.ref C) (.ref t) h) (up : s'.heap.UpToSlots h) : Inv X pins σ (upd H' ea (ExcO ea C)) { s' with heap := h, toks := tk } :=
  I.call' (s' := { s' with heap := h, toks := tk }) (ch := []) f.os ((f.un x.1 up).exc f.noE f.apart) ((f.hok.kept fun b o e => x.1 b o e).exc f.noE (excAt_fly x)) f.bare (fun _ z => nomatch z)

/-- the body of a def whose wish for an exception is E -/
structure Leaves (X : Cx) (E : XK) : Prop where
  stk : X.stack = X.env :: X.outer
  fr : X.env.frame = some X.env.locals
  ex : X.ex = []
  xe : X.xe = fun e s' => wpAny (model X.prog X.w) X.A (leaving X.env e) (fun _ s'' => CXF X.prog X.w X.outer X.H₀ X.s₀ E e s'') (fun e' s'' => CXF X.prog X.w X.outer X.H₀ X.s₀ E e' s'') s'
theorem frs_cons {env : Env} {outer : List Env} {L : Addr} (h : env.frame = some L) : frs (env :: outer) = L :: frs outer := by
  unfold frs
  rw [List.filterMap_cons, h]
/-- a flying one leaves this frame too -/
theorem Fly.leave {E : XK} (L : Leaves X E) (I : Inv X pins σ H s) (f : Fly X.prog X.w X.stack H s H' ea C B t s') {h : Heap} (x : Heap.FlyingW B X.outer ea (.ref C) (.ref t) h) (up : s'.heap.UpToSlots h) : Fly X.prog X.w X.outer X.H₀ X.s₀ H' ea C B t { s' with heap := h } := by
  have nL : ∀ b o, X.s₀.heap.get? b = some o → b ≠ X.env.locals := fun b o e => Nat.ne_of_lt (Nat.lt_of_lt_of_le (Heap.lt_size e) I.ok.above)
  have ns : ∀ b o, X.s₀.heap.get? b = some o → b ∉ frs X.outer → b ∉ frs X.stack := fun b o e nb z => by
    rw [L.stk, frs_cons L.fr] at z
    rcases List.mem_cons.mp z with z | z
    · exact nL b o e z
    · exact nb z
  have nx : ∀ b : Addr, b ∉ X.ex := fun b z => by rw [L.ex] at z; cases z
  refine ⟨f.os.trans I.os, f.bare, x, f.hok, fun b o e n nb => ?_, fun b o e nb => ?_, fun b o e n hb => ?_, I.ok.frf, fun b o e n => ?_, fun b xs e => f.tups b xs (I.base.tups b xs e), fun b o u e => f.frzs b o u (I.base.frzs b o u e), fun b ps e => ?_⟩
  · exact f.kb b o (I.base.keep b o e n nb (nx b)) (I.base.free b o e n (nx b)) (ns b o e nb)
  · obtain ⟨o', e'⟩ := I.base.there b o e (nx b)
    exact f.tb b o' e' (ns b o e nb)
  · obtain ⟨l, q⟩ := I.base.slot b o e n hb (nx b)
    have hs : b ∈ frs X.stack := by rw [L.stk, frs_cons L.fr]; exact List.mem_cons_of_mem _ hb
    obtain ⟨l2, q2⟩ := f.sl b _ q (I.base.free b o e n (nx b)) hs
    obtain ⟨_, o2, q3, nf⟩ := f.fl.2.2.1.mem hs
    rw [q2] at q3
    cases q3
    obtain ⟨l3, q4⟩ := up b _ q2 nf
    exact ⟨l3, q4⟩
  · obtain ⟨o', e'⟩ := I.base.there b o e (nx b)
    exact f.fre b o' e' (I.base.free b o e n (nx b))
  · obtain ⟨m1, e1⟩ := I.base.tbls b ps e
    obtain ⟨m2, e2⟩ := f.tbls b _ e1
    exact ⟨m1 ++ m2, by rw [e2, Array.append_assoc]⟩
/-- where no exception is wanted of a callee that may raise -/
theorem passN : Passes (CXF X.prog X.w) X (fun _ _ _ => False) := fun pins σ H s e s' I h => by
  obtain ⟨_, _, _, _, _, _, _, q⟩ := h
  exact q.elim
theorem passF {E : XK} (L : Leaves X E) : Passes (CXF X.prog X.w) X E := fun pins σ H s e s' I h => by
  obtain ⟨ea, C, H', B, t, rfl, f, q⟩ := h
  rw [L.xe]
  refine wpAny_leaves_onW (by rw [I.ok.frames, L.stk]) L.fr (by have z := f.fl; rw [L.stk] at z; exact z) fun h' x up => ?_
  exact ⟨ea, C, H', B, t, rfl, f.leave L I x up, q⟩
end
end L2

namespace L2
open PySem PySem.Spec PyProof.Rows

/-- the text's own class of an exception, as an object of the heap -/
theorem own_obj {K : PySem.W.Frag} {h : Heap} {C : Addr} {bmB : List Value} {newId : String} (kin : K.In h) (hq : PySem.W.excIn K C bmB newId = true) :
    ∃ bm N nm qn bs hdct sn sub ab col dd k0 k1 k2 k3 k5 mN, h.get? C = some (excClassObj nm qn C N bs bm hdct sn sub ab col dd k0 k1 k2 k3 k5 newId) ∧ h.Ns N mN ∧ mN "__init__" = none ∧ OwnTail h bmB bm ∧ PySem.W.mroIn K C = fun b => some ((Value.ref C :: bm).contains b) := by
  unfold PySem.W.excIn at hq
  split at hq
  · rename_i dct cls slt look
    split at hq
    · rename_i CC rest a0 a1 a2 a3 nn a5 em es
      simp only [Bool.and_eq_true, beq_iff_eq, Bool.not_eq_true'] at hq
      obtain ⟨⟨⟨⟨⟨e1, e2⟩, e3⟩, e4⟩, e5⟩, e6⟩ := hq
      subst e1 e2
      have hmro : PySem.W.mroIn K CC = fun b => some ((Value.ref CC :: rest).contains b) := by
        funext b
        unfold PySem.W.mroIn PySem.W.clsIn
        rw [look]
        simp [em]
      obtain ⟨c1, c2, c3, c4, c5, c6, c7, c8, c9, c10, c11⟩ := cls
      dsimp only at em e3 e5 e6
      subst em e3
      have hsl : slt = #[a0, a1, a2, a3, some (.builtin nn), a5] := by
        obtain ⟨ll⟩ := slt
        simp only at es
        rw [es]
      subst hsl
      exact ⟨rest, c4, c1, c5, c2, c6, c7, c8, c9, c10, dct, a0, a1, a2, a3, a5, _, kin _ _ look, .of_isNs (PySem.W.isNs_of_in kin e5), PySem.W.nsMap_none_of_in kin e5 e6, PySem.W.tail_of_in kin e4, hmro⟩
    · cases hq
  · cases hq

section
variable {X : Cx} {E : XK} {x : Str} {C : Addr} {np cpos pos : Pos} {e : Expr} {es : List Expr} {ta : TA} {B newId initId : String} {bmB : List Value}
/-- raise C(..) -/
def tRaise (C : Addr) (E : XK) (ta : TA) : TS := fun _ σ H => ta σ H fun vs H1 => vs.length ≤ sizeLine ∧ E (.ref C) none H1
theorem ps_raise (L : Leaves X E) (hc : X.calm = true) (FB : ExcBaseFacts B newId initId bmB) (hq : PySem.W.excIn X.K C bmB newId = true) (hg : Gl X x) (hm : X.mg x = some (.ref C)) (ha : PA X (e :: es) ta)
    (hs : starEach (e :: es) X.env = (false, eval e X.env) :: starEach es X.env := by rfl) (hp : (backTo cpos (starEach es X.env)).any (·.1) = false := by rfl) (hd : (x == ("__debug__" : Str)) = false := by decide) :
    PS X (.Raise (some (.Call (.Name x np) (e :: es) [] cpos)) none pos) (tRaise C E ta) := by
  intro pins s σ H D I h
  obtain ⟨bm, N, nm, qn, bs, hdct, sn, sub, ab, col, dd, k0, k1, k2, k3, k5, mN, hC, hN, hni, T, _⟩ := own_obj I.ok.mod.kin hq
  refine wpAny_Raise_call_subT (C := C) (nm := nm) (q := qn) (N := N) (bs := bs) (bm := bm) (hdct := hdct) (sn := sn) (sub := sub) (ab := ab) (col := col) (dd := dd) (k0 := k0) (k1 := k1) (k2 := k2) (k3 := k3) (k5 := k5) FB (mN := mN) (T.hasType FB.hasBase) (I.ok.hd hc)
    (by rw [hs]; show (false || (backTo cpos (starEach es X.env)).any (·.1)) = false; rw [hp]; rfl) hni (ld_glob I hg hm ⟨rfl, ?_⟩ hd)
  have h1 := ha cpos pins s σ H _ I h
  rw [hs] at h1 ⊢
  refine Calls.evalArgs_plain (thn h1 fun us s2 ⟨vs, H1, I1, r, hl, q⟩ => ⟨rfl, by rw [← r.length]; exact hl, I1.bk _ _ hC, hN.keeps I1.bk, T.keeps I1.bk, fun h' ea mk => ?_⟩)
  rw [L.xe]
  have nL : ∀ b o, X.s₀.heap.get? b = some o → b ≠ X.env.locals := fun b o q => Nat.ne_of_lt (Nat.lt_of_lt_of_le (Heap.lt_size q) I1.ok.above)
  have ns : ∀ b o, X.s₀.heap.get? b = some o → b ∉ frs X.outer → b ∉ frs X.stack := fun b o q nb z => by
    rw [L.stk, frs_cons L.fr] at z
    rcases List.mem_cons.mp z with z | z
    · exact nL b o q z
    · exact nb z
  have nx : ∀ b : Addr, b ∉ X.ex := fun b z => by rw [L.ex] at z; cases z
  have ff : s2.heap.FunFrames (PySem.W.hideAll s2.heap (frs X.stack)) (X.env :: X.outer) := by
    have z := I1.stack
    rw [← L.stk]
    exact PySem.W.funFrames_hide z fun env he a hf => List.mem_filterMap.mpr ⟨env, he, hf⟩
  refine wpAny_leaves_madeW (base := PySem.W.hideAll s2.heap (frs X.stack)) (h := s2.heap) (by rw [I1.ok.frames, L.stk]) L.fr (fun b o q => PySem.W.of_hideAll _ q) ff mk fun h2 t fl _ _ up => ?_
  refine ⟨ea, C, H1, _, t, rfl, ⟨I1.os, I1.bare, fl, fun a o e1 => ?_, fun b o e1 n nb => ?_, fun b o e1 nb => ?_, fun b o e1 n hb => ?_, I1.ok.frf, fun b o e1 n => ?_, I1.base.tups, I1.base.frzs, I1.base.tbls⟩, q⟩
  · refine (I1.hok a o e1).stay (fun b u hb e2 => PySem.W.hideAll_get _ e2 fun z => ?_) (fun _ z => z) fun _ _ z => z
    have n0 := I1.stkFree b z
    rcases hb with hb | hb
    · subst hb
      rw [e1] at n0
      cases n0
    · rw [hb] at n0
      cases n0
  · exact PySem.W.hideAll_get _ (I1.base.keep b o e1 n nb (nx b)) (ns b o e1 nb)
  · obtain ⟨o', e2⟩ := I1.base.there b o e1 (nx b)
    exact ⟨o', PySem.W.hideAll_get _ e2 (ns b o e1 nb)⟩
  · obtain ⟨l, e2⟩ := I1.base.slot b o e1 n hb (nx b)
    have hs2 : b ∈ frs X.stack := by rw [L.stk, frs_cons L.fr]; exact List.mem_cons_of_mem _ hb
    obtain ⟨_, o2, e3, nf⟩ := I1.stack.mem hs2
    rw [e2] at e3
    cases e3
    obtain ⟨l2, e4⟩ := up b _ (mk.keeps _ _ e2) nf
    exact ⟨l2, e4⟩
  · obtain ⟨o', e2⟩ := I1.base.there b o e1 (nx b)
    exact I1.base.free b o e1 n (nx b)
end

/-! ### the body of a try: what is wanted of an exception knows the frame -/
def XPost (X : Cx) (pins : List (Addr × Obj)) (σ : St) (E : XK) (e : Value) (s' : Shared) : Prop := ∃ s₁ H₁, Inv X pins σ H₁ s₁ ∧ CXF X.prog X.w X.stack H₁ s₁ E e s'
abbrev TX := St → Hp → VK → XK → Prop
def PEX (X : Cx) (e : Expr) (t : TX) : Prop :=
  ∀ (pins : List (Addr × Obj)) (s : Shared) (σ : St) (H : Hp) (Q : VK) (E : XK), Inv X pins σ H s → t σ H Q E → wpAny (model X.prog X.w) X.A (eval e X.env) (EP X pins σ Q) (XPost X pins σ E) s
abbrev TSX := Ends → XK → St → Hp → Prop
def PSX (X : Cx) (st : List Stmt) (t : TSX) : Prop :=
  ∀ (pins : List (Addr × Obj)) (s : Shared) (σ : St) (H : Hp) (D : Ends) (E : XK), Inv X pins σ H s → t D E σ H → wpAny (model X.prog X.w) X.A (execs st X.env) (SP X pins D) (XPost X pins σ E) s

section
variable {X : Cx} {k : Nat} {f C : Addr} {fd : FuncData} {ps : List Str} {sp : Sp} {dvs : List V} {ds : List Value} {x m : Str} {p pos apos : Pos} {e o : Expr} {es : List Expr} {ta : TE} {t : TA}
theorem run_fnX {pins : List (Addr × Obj)} {σ : St} {H : Hp} {s : Shared} {Q : VK} {E : XK} {us : List Value} {vs : List V} (F : FnOk X.prog X.w X.K X.mg X.base (CXF X.prog X.w) k f fd ps sp) (hr : Room k X.A) (hb : Binds X.K fd ps ds) (hd : Vals dvs ds)
    (I : Inv X pins σ H s) (r : Vals vs us) (h : sp (vs ++ dvs) H Q E) : wpAny (model X.prog X.w) X.A (call (.ref f) us) (EP X pins σ Q) (XPost X pins σ E) s := by
  have r2 : Vals (vs ++ dvs) (us ++ ds) := r.append hd
  have hl : (us ++ ds).length = ps.length := by rw [← r2.length]; exact F.len _ _ _ _ h
  refine wpAny_call (codeAny_mono (F.run X.A X.stack s H ⟨us, []⟩ (us ++ ds) (vs ++ dvs) Q E hr I.env0 (hb s us I.kIn hl) r2 h) fun r s' hq => ?_)
  cases r with
  | error e => exact ⟨s, H, I, hq⟩
  | ok fl =>
    cases fl with
    | ret u => exact I.after hq
    | next => exact False.elim hq
    | brk => exact False.elim hq
    | cont => exact False.elim hq
def xCall (sp : Sp) (dvs : List V) (t : TA) : TX := fun σ H Q E => t σ H fun vs H1 => sp (vs ++ dvs) H1 Q E
theorem pex_call (F : FnOk X.prog X.w X.K X.mg X.base (CXF X.prog X.w) k f fd ps sp) (hr : Room k X.A) (hg : Gl X x) (hm : X.mg x = some (.ref f)) (hk : PySem.W.keepIn X.K (.ref f) = true) (hb : Binds X.K fd ps ds) (hd : Vals dvs ds)
    (ha : PA X.nox (e :: es) t) (hdb : (x == ("__debug__" : Str)) = false := by decide) (he : starEach (e :: es) X.env = (false, eval e X.env) :: starEach es X.env := by rfl) (hpl : (backTo pos (starEach es X.env)).any (·.1) = false := by rfl) :
    PEX X (.Call (.Name x p) (e :: es) [] pos) (xCall sp dvs t) := by
  intro pins s σ H Q E I h
  refine wpAny_Call_Name_kw (ld_glob I hg hm ?_ hdb)
  refine PySem.W.callWith_K (h₀ := X.base) I.ok.mod.kin hk (wpAny_mono (ha pos pins s σ H _ (I.wish _) h) (fun us s1 ⟨vs, H1, I1, r, q⟩ => ⟨I1.kIn, ?_⟩) fun _ _ z => z.elim) he hpl
  exact run_fnX F hr hb hd I1.unwish r q
variable {te : TX} {i : Nat} {pos' : Pos}
def xDrop (te : TX) : TSX := fun D E σ H => te σ H (fun _ H1 => D.nx σ H1) E
theorem psx_expr (he : PEX X e te) (hs : swapsWith e none pos.line X.env = pure false := by rfl) : PSX X [.Expr e pos] (xDrop te) := by
  intro pins s σ H D E I h
  refine wpAny_execs_cons (wpAny_mono (Q := fun f s' => f = .next ∧ SP X pins D .next s') (wpAny_Expr_any (wpAny_mono (he pins s σ H _ E I h) (fun v s1 ⟨y, H1, I1, r1, q1⟩ => ⟨rfl, σ, H1, I1, q1⟩) fun _ _ z => z) I.quiet hs) (fun f s1 q => ?_) fun _ _ z => z)
  obtain ⟨rfl, q⟩ := q
  exact wpAny_execs_nil q
end

/-! ### the suite of an except clause: nothing is raised there -/
abbrev Cx.hnd (X : Cx) (ea : Addr) : Cx := { X with A := X.A.mark (some (.ref ea)), calm := false, xe := fun _ _ => False }
section
variable {X : Cx} {pins : List (Addr × Obj)} {σ : St} {H : Hp} {s : Shared} {ea : Addr}
theorem Cx.Ok.hnd (ok : X.Ok) : (X.hnd ea).Ok :=
  ⟨ok.mod, ok.kind, ok.glob, ok.blt, ok.above, ok.inj, ok.has, ok.cab, (fun z => nomatch z), ok.frames, ok.stk, ok.exf, ok.bs, ok.bsz, ok.noex, ok.exfs, ok.funs, ok.frf⟩
theorem Inv.hnd (I : Inv X pins σ H s) : Inv (X.hnd ea) pins σ H s := ⟨I.ok.hnd, I.os, I.bare, I.base, I.loc, I.cell, I.free, I.freeC, I.pin, I.hok, I.len⟩
theorem Inv.unhnd (ok : X.Ok) (I : Inv (X.hnd ea) pins σ H s) : Inv X pins σ H s := ⟨ok, I.os, I.bare, I.base, I.loc, I.cell, I.free, I.freeC, I.pin, I.hok, I.len⟩
theorem SP.unhnd (ok : X.Ok) {D : Ends} {f : Flow} (h : SP (X.hnd ea) pins D f s) : SP X pins D f s := by
  cases f with
  | next => obtain ⟨a, b, I, q⟩ := h; exact ⟨a, b, I.unhnd ok, q⟩
  | brk => obtain ⟨a, b, I, q⟩ := h; exact ⟨a, b, I.unhnd ok, q⟩
  | cont => obtain ⟨a, b, I, q⟩ := h; exact ⟨a, b, I.unhnd ok, q⟩
  | ret u => obtain ⟨v, a, b, I, r, q⟩ := h; exact ⟨v, a, b, I.unhnd ok, r, q⟩
/-- the name behind an except clause is let go -/
theorem unbind_ok {M : Model} {A : Around} {E : Value → Shared → Prop} {i : Nat} {n : Str} {pos : Pos} {Q : Unit → Shared → Prop} (I : Inv X pins σ H s) (hN : X.N.Nodup) (hi : X.N[i]? = some n) (hk : X.env.scope.names.lookup n = some .local)
    (h : ∀ s', Inv X pins (σ.set i none) H s' → Q () s') : wpAny M A (do bindName X.env n .none; unbindBehindTheSuite X.env n pos) Q E s := by
  obtain ⟨m, hn, hl⟩ := id I.loc
  refine wpAny_nameGoes_keeps hk hn (by rw [I.ok.kind]; rfl) fun h' v hn' hs => h _ ?_
  have cne := I.cne
  have hiσ : i < σ.length := by rw [I.len]; exact (List.getElem?_eq_some_iff.mp hi).1
  have old : ∀ b o, X.s₀.heap.get? b = some o → b ≠ X.env.locals := fun b o e => Nat.ne_of_lt (Nat.lt_of_lt_of_le (Heap.lt_size e) I.ok.above)
  refine ⟨I.ok, I.os, I.bare, ⟨fun b o e z hb hx => ?_, fun b o e z hb hx => ?_, I.base.free, fun b o e hx => ?_, I.base.tups, I.base.frzs, I.base.tbls⟩, ⟨_, hn', fun j y v' e1 e2 e3 => ?_⟩, fun y c e => ?_, I.free, I.freeC, fun p hp => ?_, fun b ob e => ?_, by simpa using I.len⟩
  · exact (hs.2 b (old b o e)).trans (I.base.keep b o e z hb hx)
  · obtain ⟨sl, q⟩ := I.base.slot b o e z hb hx
    exact ⟨sl, (hs.2 b (old b o e)).trans q⟩
  · obtain ⟨o', q⟩ := I.base.there b o e hx
    exact ⟨o', (hs.2 b (old b o e)).trans q⟩
  · by_cases hj : j = i
    · subst hj
      rw [List.getElem?_set_self hiσ] at e2
      cases e2
    · rw [List.getElem?_set_ne (Ne.symm hj)] at e2
      obtain ⟨u', r', q⟩ := hl j y v' e1 e2 e3
      refine ⟨u', r', ?_⟩
      rcases q with ⟨k, z⟩ | ⟨k, c, z1, z2⟩
      · refine .inl ⟨k, ?_⟩
        have ne : y ≠ n := fun z => hj (nodup_ix hN e1 (z ▸ hi))
        simp [ne, z]
      · exact .inr ⟨k, c, z1, z2.sameBut hs (cne y c z1)⟩
  · obtain ⟨w', z⟩ := I.cell y c e
    exact ⟨w', z.sameBut hs (cne y c e)⟩
  · obtain ⟨a1, a2, a3, a4⟩ := I.pin p hp
    exact ⟨(hs.2 _ a3).trans a1, a2, a3, a4⟩
  · refine (I.hok b ob e).stay (fun c w' hc q => (hs.2 c ?_).trans q) (fun _ q => q) fun _ _ q => q
    intro z
    have z' : c = X.env.locals := z
    have fr := I.free
    rcases hc with hc | hc
    · rw [← z', hc, e] at fr
      cases fr
    · rw [← z', hc] at fr
      cases fr
end

section
variable {M : Model} {A : Around} {E : Value → Shared → Prop} {h : Heap} {g : Array GenState} {d : Drawn} {t : Nat} {os : OsState} {e : Addr} {oe : Obj} {Q : Bool → Shared → Prop}
variable {nm q nm' q' : Str} {C N D N' : Addr} {bs bm bs' bm' : List Value} {hdct hdct' : Bool} {sn sn' : List Str} {sub sub' : List Value} {ab ab' : Bool} {col col' : Option Bool} {dd dd' : Option Addr} {k0 k1 k2 k3 k5 j0 j1 j2 j3 j5 : Option Value} {newId newId' : String}
/-- an own exception meets the clause of an own base class -/
theorem excMatches_sub (hC : h.get? C = some (excClassObj nm q C N bs bm hdct sn sub ab col dd k0 k1 k2 k3 k5 newId)) (hD : h.get? D = some (excClassObj nm' q' D N' bs' bm' hdct' sn' sub' ab' col' dd' j0 j1 j2 j3 j5 newId')) (he : h.get? e = some oe) (hcls : oe.cls = .ref C)
    (hbase : bm'.contains (.type "BaseException") = true) (hsub : (Value.ref C :: bm).contains (.ref D) = true) (hq : Q true ⟨h, g, d, t, os⟩) : wpAny M A (excMatches (.ref e) (.ref D)) Q E ⟨h, g, d, t, os⟩ := by
  have hDB : (Value.ref D :: bm').contains (.type "BaseException") = true := by rw [List.contains_cons, hbase, Bool.or_true]
  have f := tc_notTuple
  unfold excMatches
  repeat (first | (with_reducible refine wpAny_loadPart_at he ?_; rw [hcls]) | with_reducible refine wpAny_loadPart_at hD ?_ | (with_reducible refine wpAny_isSubtype_exc hD ?_; rw [hDB]) | (with_reducible refine wpAny_isSubtype_exc hC ?_; rw [hsub]) | wp_step)
  exact hq
end

/-- the exceptions of C are met by a clause of D -/
def SubX (K : PySem.W.Frag) (bmB : List Value) (newId : String) (C D : Addr) : Prop := PySem.W.excIn K C bmB newId = true ∧ PySem.W.mroIn K C (.ref D) = some true

section
variable {X : Cx} {body : List Stmt} {b₀ : Stmt} {suite : List Stmt} {np hpos pos : Pos} {x n : Str} {D : Addr} {tb : TSX} {ts : TS} {bmB : List Value} {newId : String} {i : Nat}
/-- the ends of a clause with a name -/
def Ends.let_go (En : Ends) (i : Nat) : Ends := { nx := fun σ H => En.nx (σ.set i none) H, rt := En.rt, bk := fun σ H => En.bk (σ.set i none) H, ct := fun σ H => En.ct (σ.set i none) H }
/-- try: .. except D as n: .. -/
def tTryAs (K : PySem.W.Frag) (bmB : List Value) (newId : String) (D : Addr) (i : Nat) (tb : TSX) (ts : TS) : TS := fun En σ H =>
  tb En (fun c _ H' => ∃ C, c = .ref C ∧ SubX K bmB newId C D ∧ ∀ ea, H' ea = none → ts (En.let_go i) (σ.set i (some (.ref ea))) (upd H' ea (ExcO ea C))) σ H
theorem ps_tryAs (hstk : X.stack = X.env :: X.outer) (hfr : X.env.frame = some X.env.locals) (hN : X.N.Nodup) (hi : X.N[i]? = some n) (hk : X.env.scope.names.lookup n = some .local) (hb : PSX X body tb) (hs : ∀ ea, PSs (X.hnd ea) (b₀ :: suite) ts) (hg : Gl X x) (hm : X.mg x = some (.ref D))
    (hq : PySem.W.excIn X.K D bmB newId = true) (hbase : bmB.contains (.type "BaseException") = true) (hd : (x == ("__debug__" : Str)) = false := by decide) :
    PS X (.Try body [.ExceptHandler (some (.Name x np)) (some n) (b₀ :: suite) hpos] [] [] pos) (tTryAs X.K bmB newId D i tb ts) := by
  intro pins s σ H En I h
  refine wpAny_Try_except (wpAny_mono (hb pins s σ H En _ I h) (fun f s1 q => ?_) fun e s1 q => ?_)
  · cases f with
    | next => exact wpAny_execs_nil q
    | brk => exact q
    | cont => exact q
    | ret u => exact q
  · obtain ⟨s₁, H₁, I₁, ea, C', H', B, t, rfl, f, C, eC, ⟨hqC, hmro⟩, hts⟩ := q
    cases eC
    have fl := f.fl
    rw [hstk] at fl
    refine wpAny_looks_onW (by rw [I.ok.frames, hstk]) hfr fl fun h₄ held up₄ => ?_
    refine wpAny_landsW held fun h₅ fl₅ up₅ => ?_
    have up := up₄.trans up₅
    have I₅ : Inv X pins σ H' { s1 with heap := h₅ } := f.land (tk := s1.toks) I₁ fl₅.1 up
    obtain ⟨ob, hob, hobc⟩ := fl₅.there
    refine wpAny_handleBy_cons (codeAny_handlers_test ?_) (by intro z; cases z)
    refine ld_glob (X := X.hnd ea) I₅.hnd hg hm ?_ hd
    obtain ⟨bm, N, nm, qn, bs, hdct, sn, sub, ab, col, dd, k0, k1, k2, k3, k5, mN, hC, hN1, hni, T, eM⟩ := own_obj I₅.kIn hqC
    obtain ⟨bm', N', nm', qn', bs', hdct', sn', sub', ab', col', dd', j0, j1, j2, j3, j5, mN', hD, hN', hni', T', _⟩ := own_obj I₅.kIn hq
    rw [eM] at hmro
    refine excMatches_sub hC hD hob hobc (T'.hasType hbase) (Option.some.inj hmro) (codeAny_handlers_suite_as ?_)
    refine lands_againW fl₅ fun h₆ fl₆ up₆ => ?_
    have fl₆' := fl₆
    rw [← hstk] at fl₆'
    have I₆ : Inv X pins σ (upd H' ea (ExcO ea C')) { s1 with heap := h₆ } := f.landE (tk := s1.toks) I₁ fl₆' (up.trans up₆)
    refine store_ok (X := X.hnd ea) (v := .ref ea) I₆.hnd hN hi (.inl hk) rfl (fun s2 I2 => ?_) (.inr hk)
    refine wpAny_mono (hs ea pins _ _ _ (En.let_go i) I2 (hts ea f.noE)) (fun f s' q => ?_) fun _ _ z => z.elim
    have q := q.unhnd I.ok
    cases f with
    | next => obtain ⟨a, b, J, q⟩ := q; exact unbind_ok J hN hi hk fun s3 J3 => ⟨_, _, J3, q⟩
    | brk => obtain ⟨a, b, J, q⟩ := q; exact unbind_ok J hN hi hk fun s3 J3 => ⟨_, _, J3, q⟩
    | cont => obtain ⟨a, b, J, q⟩ := q; exact unbind_ok J hN hi hk fun s3 J3 => ⟨_, _, J3, q⟩
    | ret u => obtain ⟨v, a, b, J, r, q⟩ := q; exact unbind_ok J hN hi hk fun s3 J3 => ⟨v, _, _, J3, r, q⟩
end

/-! ### a def that may raise -/
section
variable {P : Program} {w : World} {K : PySem.W.Frag} {mg : Str → Option Value} {base : Heap}
theorem Fun.okX {x qual : Str} {st : Stmt} {f : Addr} {fd : FuncData} {N ps : List Str} {k : Nat} {sp : Sp} (F : Fun K x qual st f fd) (S : FnScope N ps (defScope st)) (len : ∀ vs H Q E, sp vs H Q E → vs.length = ps.length)
    (hbody : ∀ (cdv : Value) (A : Around) (outer : List Env) (s : Shared) (H : Hp) (vs : List V) (Q : VK) (E : XK), Room k (A.deeper (envOfC qual (defScope st) s.heap.objs.size f cdv)) → sp vs H Q E →
      Leaves (cxOf (CXF P w) P w K mg base N qual (defScope st) f cdv A outer s H E) E →
      ∃ t, PSs (cxOf (CXF P w) P w K mg base N qual (defScope st) f cdv A outer s H E) (defBody st) t ∧ t { nx := fun _ H' => Q .non H', rt := Q } (start N vs) H) : FnOk P w K mg base (CXF P w) (k + 1) f fd ps sp := by
  obtain ⟨oc, od, kV, doc, pm, an, cdv, ct, osl, rfl, lk, hcd⟩ := F.ex
  exact fn_of lk hcd S len fun A outer s H vs Q E hr hsp => hbody cdv A outer s H vs Q E hr hsp ⟨rfl, rfl, rfl, rfl⟩
end
end L2

namespace L2
open PySem PySem.Spec PyProof.Rows

/-- what isinstance asks of the class of an own exception -/
structure ClsX (K : PySem.W.Frag) (C : Addr) : Prop where
  ci : PySem.W.hasDictIn K C = true
  ga : PySem.W.findIn K (.ref C) "__getattribute__" = some (some (.builtin "BaseException.__getattribute__"))
  gn : PySem.W.findIn K (.ref C) "__getattr__" = some none
  ca : PySem.W.findIn K (.ref C) "__class__" = some (some (.builtin "object.__class__"))
  mo : PySem.W.mroIn K C (.type "object") = some true
  mb : PySem.W.mroIn K C (.type "BaseException") = some true
section
variable {prog : Program} {w : World} {A : Around} {E : Value → Shared → Prop} {h : Heap} {g : Array GenState} {d : Drawn} {t : Nat} {os : OsState} {K : PySem.W.Frag} {a C : Addr} {o : Obj}
theorem xcls_get {R : Result → Shared → Prop} (kin : K.In h) (c : ClsX K C) (hx : h.get? a = some o) (hc : o.cls = .ref C) (hq : R (.ok (.ret (.ref C))) ⟨h, g, d, t, os⟩) :
    codeAny (model prog w) A (.call (.builtin "getset_descriptor.__get__") ⟨[.builtin "object.__class__", .ref a, .ref C], []⟩) R ⟨h, g, d, t, os⟩ := by
  have hT5 : (⟨h, g, d, t, os⟩ : Shared).TypeIs (.builtin "object.__class__") "getset_descriptor" := F.typeOf_object_class
  have L1 := PySem.W.looks_mroIn (M := model prog w) kin c.mo
  have ow := F.owner_object_class
  refine codeAny_call_builtin F.slot_gs_get.plain F.entry_gs_get (F.slot_gs_get.check _ _ _ _ _ _ _ _ hT5 (F.args_gs_get _ _ _) ?_)
  repeat (any_goals (first | assumption | (with_reducible refine wpAny_loadPart_at hx ?_; rw [hc]) | (rw [ow]; with_reducible refine L1.at ?_) | wp_step))
  refine ⟨Code.quiet_builtin _ (by decide +kernel), codeAny_builtin F.entry_object_class ?_⟩
  repeat (any_goals (first | assumption | (with_reducible refine wpAny_loadPart_at hx ?_; rw [hc]) | wp_step))
theorem xcls_entry {tk : Tok} {Q : Fin → Shared → Prop} (kin : K.In h) (c : ClsX K C) (hx : h.get? a = some o) (hc : o.cls = .ref C) (hq : Q (.done (.ret (.ref C))) ⟨h, g, d, t, os⟩) :
    wpAny (model prog w) A (Builtin.«object.__getattribute__» ⟨[.ref a, .str "__class__" tk], []⟩) Q E ⟨h, g, d, t, os⟩ := by
  have hT5 : (⟨h, g, d, t, os⟩ : Shared).TypeIs (.builtin "object.__class__") "getset_descriptor" := F.typeOf_object_class
  have L1 := PySem.W.looks_findIn (M := model prog w) kin c.ca
  have f5 := F.typeOf_object_class
  have f6 := F.slot_gs_get.lookup
  have f7 := F.slot_gs_set.lookup
  repeat (any_goals (first | assumption | (with_reducible refine wpAny_loadPart_at hx ?_; rw [hc]) | with_reducible refine L1.at ?_ | wp_step))
  refine xcls_get kin c hx hc ?_
  repeat (any_goals (first | assumption | wp_step))
theorem xcls_check {M : Model} {nv : Value} {Q : Unit → Shared → Prop} (kin : K.In h) (c : ClsX K C) (hx : h.get? a = some o) (hc : o.cls = .ref C) (hq : Q () ⟨h, g, d, t, os⟩) :
    wpAny M A (checkBuiltinCall "BaseException.__getattribute__" ⟨[.ref a, nv], []⟩) Q E ⟨h, g, d, t, os⟩ := by
  have hk : builtinKind "BaseException.__getattribute__" = some .slot := by decide +kernel
  have hs : splitId "BaseException.__getattribute__" = some ("BaseException", "__getattribute__") := by decide +kernel
  have L1 := PySem.W.looks_mroIn (M := M) kin c.mb
  have ha := F.args_bexc_ga (.ref a) nv
  simp only [checkBuiltinCall, hk, hs]
  refine wpAny_bind ?_
  unfold isInstance
  repeat (first | (with_reducible refine wpAny_loadPart_at hx ?_; rw [hc]) | with_reducible refine L1.at ?_ | wp_step)
  exact hq
theorem xcls_by {tk : Tok} {fill expr : Bool} {Q : Value → Shared → Prop} (kin : K.In h) (c : ClsX K C) (hx : h.get? a = some o) (hc : o.cls = .ref C) (hq : Q (.ref C) ⟨h, g, d, t, os⟩) :
    wpAny (model prog w) A (getAttrBy (.ref a) (.str "__class__" tk) fill expr) Q E ⟨h, g, d, t, os⟩ := by
  have f3 := F.attrBase_ValueError.ga.bind (.ref a)
  have z0 : (expr && onTheHeap (Value.builtin "BaseException.__getattribute__")) = false := by cases expr <;> rfl
  have z2 : (Value.builtin "BaseException.__getattribute__" == Value.builtin "object.__getattribute__") = false := by decide +kernel
  have z1 : (onTheHeap (Value.ref C) && Value.builtin "BaseException.__getattribute__" == Value.builtin "object.__getattribute__") = false := by rw [z2]; rfl
  have L1 := PySem.W.looks_findIn (M := model prog w) kin c.ga
  have L2 := PySem.W.looks_findIn (M := model prog w) kin c.gn
  repeat (any_goals (first | assumption | (with_reducible refine wpAny_loadPart_at hx ?_; rw [hc]) | with_reducible refine L1.at ?_ | with_reducible refine L2.at ?_ | wp_step))
  refine codeAny_call_builtin F.attrBase_ValueError.ga.plain F.entry_bexc_ga (xcls_check kin c hx hc (xcls_entry kin c hx hc ?_))
  repeat (any_goals (first | assumption | wp_step))
theorem xcls_attr {Q : Option Value → Shared → Prop} (kin : K.In h) (c : ClsX K C) (hx : h.get? a = some o) (hc : o.cls = .ref C) (hq : Q (some (.ref C)) ⟨h, g, d, t + 1, os⟩) :
    wpAny (model prog w) A (getAttr? (.ref a) "__class__") Q E ⟨h, g, d, t, os⟩ := by
  unfold getAttr? getAttrBy?
  repeat (any_goals (first | assumption | with_reducible apply xcls_by kin c hx hc | wp_step))
theorem kitx_exc (c : ClsX K C) : PySem.W.KitX K (.ref a) (.ref C) (ExcAt a C) where
  ty := fun M h _ k => by
    obtain ⟨oe, e1, e2, _⟩ := k
    exact e2 ▸ (PySem.W.Looks.ld e1).andThen .now
  it := fun M h kin _ => by
    obtain ⟨cd, hc, _⟩ := PySem.W.any_some c.ci
    unfold PySem.W.clsIn at hc
    split at hc
    · rename_i look
      intro A' Q' E' s' k q
      unfold isType loadHead
      exact wpAny_bind (wpAny_loadPart (k _ _ (kin _ _ look)) (wpAny_pure q))
    · cases hc
  ne := fun h tp dd its n sl kin htp => by
    obtain ⟨cd, hc, _⟩ := PySem.W.any_some c.ci
    refine Bool.eq_false_iff.mpr fun q => ?_
    have e : C = tp := Value.ref.inj (beq_iff_eq.mp q)
    subst e
    unfold PySem.W.clsIn at hc
    split at hc
    · rename_i look
      have z := (kin _ _ look).symm.trans htp
      cases z
    · cases hc
  ca := fun {prog w A E Q s} kin k z => by
    obtain ⟨oe, e1, e2, _⟩ := k
    obtain ⟨h, g, d, t, os⟩ := s
    exact xcls_attr kin c e1 e2 z
end

/-- an empty dict, of which the class alone is asked -/
def DctO (a : Addr) : HO := .ext (PySem.W.KitAt a "dict")
/-- the class of a value, an exception's too -/
inductive TyX (K : PySem.W.Frag) (H : Hp) : V → Value → Prop where
  | of {x : V} {t : Value} (h : TyOf K H x t) : TyX K H x t
  | exc {a C : Addr} (e : H a = some (ExcO a C)) (c : ClsX K C) : TyX K H (.ref a) (.ref C)
  | dct {a : Addr} (e : H a = some (DctO a)) : TyX K H (.ref a) (.type "dict")
def clsV : V → Value
  | .ty n => .type n
  | .ref a => .ref a
  | _ => .none
def isCls : V → Bool
  | .ty _ => true
  | .ref _ => true
  | _ => false
def isiR (K : PySem.W.Frag) : List V → Hp → VK → Prop := fun xs H Q => ∃ x c t b, xs = [x, c] ∧ isCls c = true ∧ TyX K H x t ∧ PySem.W.kitOne K t (clsV c) = some b ∧ Q (.bl b) H
theorem call_isi {X : Cx} {K : PySem.W.Frag} (hK : X.K = K := by rfl) : CallR X (.builtin "isinstance") (isiR K) := by
  intro pins s σ H xs us Q I r h
  subst hK
  obtain ⟨x, c, t, b, rfl, hc, ty, e, q⟩ := h
  obtain ⟨u, cv, rfl, rx, rc⟩ := vals2 r
  have ec : cv = clsV c := by
    cases c with
    | ty n => exact rc
    | ref a => exact rc
    | _ => cases hc
  subst ec
  cases ty with
  | of ty => exact isinst_ok I rx ty e fun tk => ⟨.bl b, H, I.tok tk, rfl, q⟩
  | @dct a ea =>
    cases rx
    obtain ⟨k, _, _⟩ := (show ObjOk X.prog X.w H s.heap a (.ext (PySem.W.KitAt a "dict")) from I.hok a _ ea)
    exact PySem.W.kia_one PySem.W.kitx_dict I.kIn k e (fun z => nomatch z) fun tk => ⟨.bl b, H, I.tok tk, rfl, q⟩
  | @exc a C ea cc =>
    cases rx
    obtain ⟨k, _, _⟩ := (show ObjOk X.prog X.w H s.heap a (.ext (ExcAt a C)) from I.hok a _ ea)
    exact PySem.W.kia_one (kitx_exc cc) I.kIn k e (fun z => nomatch z) fun tk => ⟨.bl b, H, I.tok tk, rfl, q⟩

/-- two tuples of flat values, compared -/
def eqL : List V → List V → Bool
  | [], [] => true
  | x :: xs, y :: ys => eqV x y && eqL xs ys
  | _, _ => false
def rEqT (K : PySem.W.Frag) (neg : Bool) : R2 := fun x y H Q => ∃ a b xs ys, x = .ref a ∧ y = .ref b ∧ SqT K H a xs ∧ SqT K H b ys ∧ xs.all flatV = true ∧ ys.all flatV = true ∧ Q (.bl (if neg then !eqL xs ys else eqL xs ys)) H
theorem eqL_range {A : Around} {s : Shared} : ∀ {xs ys : List V} {us vs : List Value}, Vals xs us → Vals ys vs → xs.all flatV = true → ys.all flatV = true →
    ∃ e : Nat → Bool, (∀ j (h1 : j < us.length) (h2 : j < vs.length), SeqAt.EqAt A s us[j] vs[j] (e j)) ∧ ((List.range (min us.length vs.length)).all e && us.length == vs.length) = eqL xs ys
  | [], [], _, _, .nil, .nil, _, _ => ⟨fun _ => true, fun j h1 => absurd h1 (Nat.not_lt_zero _), by simp [eqL]⟩
  | [], _ :: _, _, _, .nil, .cons _ _, _, _ => ⟨fun _ => true, fun j h1 => absurd h1 (Nat.not_lt_zero _), by simp [eqL]⟩
  | _ :: _, [], _, _, .cons _ _, .nil, _, _ => ⟨fun _ => true, fun j _ h2 => absurd h2 (Nat.not_lt_zero _), by simp [eqL]⟩
  | x :: xs, y :: ys, u :: us, v :: vs, .cons r1 t1, .cons r2 t2, f1, f2 => by
    rw [List.all_cons, Bool.and_eq_true] at f1 f2
    obtain ⟨e, h, q⟩ := eqL_range (A := A) (s := s) t1 t2 f1.2 f2.2
    refine ⟨fun j => match j with | 0 => eqV x y | k + 1 => e k, fun j h1 h2 => ?_, ?_⟩
    · cases j with
      | zero => exact eqAt_V r1 r2 f1.1 f2.1
      | succ k => exact h k (by simpa using h1) (by simpa using h2)
    · have em : min (u :: us).length (v :: vs).length = min us.length vs.length + 1 := by simp only [List.length_cons]; omega
      rw [em, List.range_succ_eq_map, List.all_cons, List.all_map]
      show (eqV x y && (List.range (min us.length vs.length)).all e && ((us.length + 1) == (vs.length + 1))) = (eqV x y && eqL xs ys)
      rw [← q]
      have eb : ((us.length + 1) == (vs.length + 1)) = (us.length == vs.length) := by
        rw [Bool.eq_iff_iff, beq_iff_eq, beq_iff_eq]; omega
      rw [eb, Bool.and_assoc]
theorem op_eqT {X : Cx} (hu : X.A.units < cLine) : OpR X (compareOp .Eq) (rEqT X.K false) := by
  intro pins s σ H x y v u Q I rx ry h
  obtain ⟨a, b, xs, ys, rfl, rfl, h1, h2, f1, f2, q⟩ := h
  cases rx
  cases ry
  obtain ⟨us, r1, t1, _⟩ := I.tuple h1
  obtain ⟨vs, r2, t2, _⟩ := I.tuple h2
  obtain ⟨e, he, eq⟩ := eqL_range (A := X.A.in1) (s := s) r1 r2 f1 f2
  refine SeqAt.eq_tupleAt (e := e) t1 t2 hu (fun j z1 z2 => by simpa using he j (by simpa using z1) (by simpa using z2)) ⟨.bl (eqL xs ys), H, I, ?_, q⟩
  show _ = Value.bool (eqL xs ys)
  rw [← eq]
  simp
theorem boot_isinstance : bootBuiltins "isinstance" = some (.builtin "isinstance") := by decide +kernel
theorem boot_abs : bootBuiltins "abs" = some (.builtin "abs") := by decide +kernel
theorem boot_int : bootBuiltins "int" = some (.type "int") := by decide +kernel
theorem boot_bool : bootBuiltins "bool" = some (.type "bool") := by decide +kernel
theorem boot_tuple : bootBuiltins "tuple" = some (.type "tuple") := by decide +kernel
theorem boot_list : bootBuiltins "list" = some (.type "list") := by decide +kernel
theorem boot_ValueError : bootBuiltins "ValueError" = some (.type "ValueError") := by decide +kernel
end L2

/-! the numbers of law k01: primes up to 997, by the program's way and by the law's -/
namespace My
open PySem L2
def primeB (n : Int) : Bool := (List.range 32).all fun e => decide (e < 2) || decide (n < (e : Int) * (e : Int)) || decide (n % (e : Int) ≠ 0)
theorem primeB_no {n d : Int} (h2 : n ≤ 997) (hd : 2 ≤ d) (hq : d * d ≤ n) (hm : n % d = 0) : primeB n = false := by
  have hd2 : d < 32 := by
    by_cases h : d < 32
    · exact h
    · have : 32 * 32 ≤ d * d := Int.mul_le_mul (by omega) (by omega) (by omega) (by omega)
      omega
  obtain ⟨k, rfl⟩ : ∃ k : Nat, d = (k : Int) := ⟨d.toNat, by omega⟩
  cases e : primeB n with
  | false => rfl
  | true =>
    have z := List.all_eq_true.mp e k (List.mem_range.mpr (by omega))
    simp only [Bool.or_eq_true, decide_eq_true_eq] at z
    rcases z with (z | z) | z
    · omega
    · omega
    · exact absurd hm z
theorem primeB_yes {n d : Int} (hq : n < d * d) (hd : 2 ≤ d) (hm : ∀ e : Int, 2 ≤ e → e < d → n % e ≠ 0) : primeB n = true := by
  refine List.all_eq_true.mpr fun k _ => ?_
  simp only [Bool.or_eq_true, decide_eq_true_eq]
  by_cases h1 : k < 2
  · exact .inl (.inl h1)
  · by_cases h2 : n < (k : Int) * (k : Int)
    · exact .inl (.inr h2)
    · refine .inr (hm k (by omega) ?_)
      by_cases h3 : (k : Int) < d
      · exact h3
      · have : d * d ≤ (k : Int) * (k : Int) := Int.mul_le_mul (by omega) (by omega) (by omega) (by omega)
        omega
/-- what is told of a world: a text, or a text and a number -/
inductive Td where
  | a (w : Str)
  | b (w : Str) (n : Int)
def Td.vs : Td → List V
  | .a w => [.str w]
  | .b w n => [.str w, .int n]
def Td.isF : Td → Bool
  | .a w => decide (w = "fractions")
  | .b _ _ => false
def Td.isW : Td → Bool
  | .a _ => false
  | .b w n => decide (w = "wheel") && (decide (2 ≤ n) && decide (n ≤ 997) && primeB n)
def Td.good (d : Td) : Bool := d.isF || d.isW
def Td.prime : Td → V
  | .a _ => .non
  | .b _ n => .int n
end My

/-! a list comprehension with one for over a name (slot 0 of its block), no cells of its own -/
namespace L2
open PySem PySem.Spec PyProof.Rows

/-- the block's context: N its names (the for's first, then what it takes from around) -/
abbrev Cx.blk (X : Cx) (N : List Str) (scope : Scope) (cl : List (Str × Addr)) (s₃ : Shared) (H₃ : Hp) (fp : List Addr) : Cx :=
  { X with N := N, s₀ := s₃, H₀ := H₃, env := compEnvC scope cl s₃.heap.objs.size X.env, outer := X.stack, stack := X.stack, ex := fp, fn := fun _ => false, pn := [], xe := fun _ _ => False }

/-- the tests of a comprehension -/
inductive PTs (X : Cx) : List Expr → TT → Prop where
  | nil : PTs X [] (fun _ H Q => Q true H)
  | one {c : Expr} {t : TT} (h : PT X c t) : PTs X [c] t

def tComp (wi : TI) (ρ : St → St) (tt : TT) (te : TE) : TE := fun σ H Q => wi σ H fun J H1 => ∀ D, H1 D = none → ∃ W : Nat → Nat → List V → Hp → Prop, (∃ m, W 0 m [] (upd H1 D (.lst []))) ∧
  ∀ i m ys Hc, W i m ys Hc → Hc D = some (.lst ys) ∧ ((J.stop i Hc ∧ Q (.ref D) Hc) ∨ (J.go i Hc ∧ ∀ x H', J.yld i Hc x H' → tt (some x :: ρ σ) H' fun b H2 =>
    if b = true then te (some x :: ρ σ) H2 fun y H3 => H3 D = some (.lst ys) ∧ ys.length < sizeLine ∧ ∃ m', m' < m ∧ W (i + 1) m' (ys ++ [y]) (upd H3 D (.lst (ys ++ [y]))) else ∃ m', m' < m ∧ W (i + 1) m' ys H2))

section
variable {X : Cx} {N : List Str} {scope : Scope} {cl : List (Str × Addr)} {x : Str} {px pos : Pos} {iter elt : Expr} {ifs : List Expr} {wi : TI} {ρ : St → St} {tt : TT} {te : TE}
/-- what a block's scope takes from around -/
structure Blk (X : Cx) (N : List Str) (scope : Scope) (cl : List (Str × Addr)) (x : Str) (ρ : St → St) : Prop where
  clos : closureFor scope X.env = pure cl
  kind : scope.kind = .function
  nocell : ∀ y ∈ scope.names, y.2 ≠ .cell
  names : ∀ y ∈ scope.names, y.2 = .local → scope.names.lookup y.1 = some .local
  sub : ∀ p ∈ cl, X.env.cells.lookup p.1 = some p.2
  has : ∀ y, ((relabel scope X.env).names.lookup y = some .cell ∨ (relabel scope X.env).names.lookup y = some .free) → ∃ c, cl.lookup y = some c
  n0 : N[0]? = some x
  nd : N.Nodup
  hx : scope.names.lookup x = some .local
  rho : ∀ (σ : St) (j : Nat) (v : V), (ρ σ)[j]? = some (some v) → ∃ (i : Nat) (y : Str), N[j + 1]? = some y ∧ X.N[i]? = some y ∧ σ[i]? = some (some v) ∧ Vis X.env.scope y ∧ (X.env.kindOf y = some .cell ∨ X.env.kindOf y = some .free) ∧ ((relabel scope X.env).names.lookup y = some .cell ∨ (relabel scope X.env).names.lookup y = some .free)
  len : ∀ σ : St, σ.length = X.N.length → (ρ σ).length + 1 = N.length

theorem has_of {names : List (Str × NameKind)} {cl : List (Str × Addr)} (h : (names.all fun q => (q.2 != .cell && q.2 != .free) || (cl.lookup q.1).isSome) = true) :
    ∀ y, (names.lookup y = some .cell ∨ names.lookup y = some .free) → ∃ c, cl.lookup y = some c := fun y hy => by
  have key : ∀ k : NameKind, (k != .cell && k != .free) = false → names.lookup y = some k → ∃ c, cl.lookup y = some c := fun k hk e => by
    have z := List.all_eq_true.mp h (y, k) (PySem.mem_of_lookup e)
    rw [hk, Bool.false_or] at z
    exact Option.isSome_iff_exists.mp z
  rcases hy with e | e
  · exact key .cell rfl e
  · exact key .free rfl e
theorem join_some {o : Option (Option V)} {v : V} (h : some o.join = some (some v)) : o = some (some v) := by
  cases o with
  | none => cases h
  | some o => cases h; rfl
theorem pe_comp (B : Blk X N scope cl x ρ) (hc : X.calm = true) (hi : PI X (.Name x px) iter wi) (ht : ∀ s₃ H₃ fp, PTs (X.blk N scope cl s₃ H₃ fp) ifs tt) (he : ∀ s₃ H₃ fp, PE (X.blk N scope cl s₃ H₃ fp) elt te)
    (hs : ∀ x, foldedSetIterable iter X.env x = pure x := by intro _; rfl) : PE X (.ListComp elt [⟨.Name x px, iter, ifs, 0⟩] scope pos) (tComp wi ρ tt te) := by
  intro pins s σ H Q I h
  rw [eval_ListComp]
  refine wpAny_comprehension_free (use := none) rfl hs B.clos B.kind B.names (thn (hi pins s σ H _ I h) fun v s1 h1 => thn h1 fun itv s2 h2 => ?_)
  obtain ⟨it, fp, tn, J, H2, rfl, I2, T, st2, f2, q2⟩ := h2
  -- the list that is told
  have nD : H2 s2.heap.objs.size = none := I2.hok.fresh (Nat.le_refl _)
  obtain ⟨W, ⟨m0, w0⟩, turn⟩ := q2 _ nD
  refine wpAny_newObj_type (wpAny_newFunctionEnv B.nocell (by intro y hy; simp at hy) (fun h₁ hns₁ hsb₁ => ?_) B.kind)
  dsimp only at hns₁ hsb₁ ⊢
  generalize hD : s2.heap.objs.size = D at nD w0 turn hns₁ hsb₁ ⊢
  generalize hS3 : ({ s2 with heap := s2.heap.push { cls := .type "list", dict := none, data := .seq ([] : List Value).toArray } } : Shared) = s3
  have I3 : Inv X pins σ (upd H2 D (.lst [])) s3 := by
    subst hD hS3
    exact I2.laid (t' := s2.toks) (fun b u e => Heap.get?_push_of_some _ e) (Nat.le_refl _) ⟨Nat.zero_le _, [], _, .nil, Heap.get?_push_size _ rfl⟩
  have e3 : s3.heap = s2.heap.push { cls := .type "list", dict := none, data := .seq ([] : List Value).toArray } := by rw [← hS3]
  have k23 : ∀ b o, s2.heap.get? b = some o → s3.heap.get? b = some o := fun b o e => by rw [e3]; exact Heap.get?_push_of_some _ e
  rw [← e3] at hns₁ hsb₁ ⊢
  have below : ∀ b o, s3.heap.get? b = some o → b ≠ s3.heap.objs.size := fun b o e => Nat.ne_of_lt (Heap.lt_size e)
  have k34 : ∀ b o, s3.heap.get? b = some o → h₁.get? b = some o := fun b o e => hsb₁.extBut b o (below b o e) (Heap.get?_push_of_some _ e)
  have fpl : ∀ b ∈ fp, ∃ o, s2.heap.get? b = some o ∧ ∀ v, o.data ≠ .cell v := T.obj _ _ st2
  have nfD : ∀ b ∈ fp, b ≠ D := fun b hb z => by
    obtain ⟨o, e, _⟩ := fpl b hb
    rw [z, ← hD] at e
    exact absurd (Heap.lt_size e) (Nat.lt_irrefl _)
  have cl_of : ∀ y c, cl.lookup y = some c → X.env.cells.lookup y = some c := fun y c e => B.sub (y, c) (PySem.mem_of_lookup e)
  have stkf := I3.stkFree
  -- the block at its start
  have okB : (X.blk N scope cl s3 (upd H2 D (.lst [])) fp).Ok := by
    refine ⟨I.ok.mod, B.kind, I.ok.glob, I.ok.blt, Nat.le_refl _, fun a b c e1 e2 => I.ok.inj a b c (cl_of a c e1) (cl_of b c e2), fun y hy => B.has y hy, (fun _ _ z _ => absurd z Bool.false_ne_true), (fun _ => I.ok.hd hc), I.ok.frames, .inl rfl, fun b hb => ⟨?_, fun y c e z => ?_⟩, fun b o e => ?_, Nat.le_trans I.ok.bsz I3.sz, fun b o e hb => ?_, fun b hb z => ?_, I3.stack, stkf⟩
    · obtain ⟨o, e, _⟩ := fpl b hb
      exact below b o (k23 b o e)
    · exact (f2 b hb).2.2.2.2.1 y c (cl_of y c e) z
    · exact I3.bs b o e
    · rcases (f2 b hb).2.2.2.1 with z | z
      · exact I.ok.noex b o e z
      · exact absurd (Nat.lt_of_lt_of_le (Heap.lt_size e) (Nat.le_trans I.ok.bsz z)) (Nat.lt_irrefl _)
    · rcases List.mem_cons.mp (I3.stkSub b z) with z | z
      · exact (f2 b hb).2.1 z
      · exact (f2 b hb).2.2.1 z
  have IB : ∀ tk : Nat, Inv (X.blk N scope cl s3 (upd H2 D (.lst [])) fp) [] (none :: ρ σ) (upd H2 D (.lst [])) { s3 with heap := h₁, toks := tk } := fun tk => by
    refine ⟨okB, rfl, I3.bare, Un.kept k34, ⟨_, hns₁, fun j y v e1 e2 e3 => ?_⟩, fun y c e => ?_, ?_, fun y c e => I3.freeC y c (cl_of y c e), (fun p hp => nomatch hp), I3.hok.kept k34, ?_⟩
    · cases j with
      | zero => cases e2
      | succ j =>
        obtain ⟨i, y', a1, a2, a3, a4, a5, a6⟩ := B.rho σ j v e2
        have e1' : N[j + 1]? = some y := e1
        rw [e1'] at a1
        cases a1
        obtain ⟨m, hn, hl⟩ := I3.loc
        obtain ⟨u, r, l⟩ := hl i y v a2 a3 a4
        refine ⟨u, r, .inr ⟨a6, ?_⟩⟩
        obtain ⟨c, ec⟩ := B.has y a6
        rcases l with ⟨k, _⟩ | ⟨_, c', ec', z⟩
        · rcases a5 with q | q <;> (rw [k] at q; cases q)
        · have := cl_of y c ec
          rw [this] at ec'
          cases ec'
          obtain ⟨o, ho, hd⟩ := z
          exact ⟨c, ec, o, k34 _ _ ho, hd⟩
    · obtain ⟨v, o, ho, hd⟩ := I3.cell y c (cl_of y c e)
      exact ⟨v, o, k34 _ _ ho, hd⟩
    · exact I3.hok.fresh (Nat.le_refl _)
    · show (none :: ρ σ).length = N.length
      rw [List.length_cons]
      exact B.len σ I.len
  -- behind the block
  have fin : ∀ {σ' : St} {H' : Hp} {s' : Shared}, Inv (X.blk N scope cl s3 (upd H2 D (.lst [])) fp) [] σ' H' s' → Q (.ref D) H' → compPost (model X.prog X.w) X.A X.xe none (EP X pins σ Q) (.ref D) s3.heap.objs.size (.ok .next) s' := fun {σ' H' s'} J q => by
    obtain ⟨m, hn, _⟩ := J.loc
    refine ⟨m, hn, fun h' hs' => ⟨.ref D, H', ?_, rfl, q⟩⟩
    have old : ∀ b o, s3.heap.get? b = some o → b ≠ s3.heap.objs.size := below
    have u1 : Un (frs X.stack) fp (upd H2 D (.lst [])) H' s3.heap h' := by
      refine ⟨fun b o e n hb hx => ?_, fun b o e n hb hx => ?_, J.base.free, fun b o e hx => ?_, J.base.tups, J.base.frzs, J.base.tbls⟩
      · exact (hs'.2 b (old b o e)).trans (J.base.keep b o e n hb hx)
      · obtain ⟨sl, z⟩ := J.base.slot b o e n hb hx
        exact ⟨sl, (hs'.2 b (old b o e)).trans z⟩
      · obtain ⟨o', z⟩ := J.base.there b o e hx
        exact ⟨o', (hs'.2 b (old b o e)).trans z⟩
    have hokE : HOk X.prog X.w H' h' := fun b u e => by
      refine (J.hok b u e).stay (fun c v hc z => (hs'.2 c fun y => ?_).trans z) (fun _ z => z) fun _ _ z => z
      have fr := J.free
      have y' : c = s3.heap.objs.size := y
      rcases hc with hc | hc
      · rw [← hc, y'] at e
        exact absurd (fr.symm.trans e) (by simp)
      · rw [y'] at hc
        exact absurd (fr.symm.trans hc) (by simp)
    refine I3.call' (s' := { s' with heap := h' }) (ch := fp) (J.os) u1 hokE J.bare fun b hb => ?_
    obtain ⟨g0, g1, g2, g3, g4, g5⟩ := f2 b hb
    exact ⟨g3, g1, g4, g5⟩
  have stat : ∀ {H' : Hp}, (∀ b ∈ fp, H' b = none) → ∀ b ∈ fp, FpOk (X.blk N scope cl s3 (upd H2 D (.lst [])) fp) [] H' b := fun hn b hb => by
    refine ⟨hn b hb, ?_, ?_, .inl hb, fun y c e z => (f2 b hb).2.2.2.2.1 y c (cl_of y c e) z, fun p hp => nomatch hp⟩
    · obtain ⟨o, e, _⟩ := fpl b hb
      exact below b o (k23 b o e)
    · exact okB.exfs b hb
  have loop : ∀ tk : Nat, codeAny (model X.prog X.w) X.A (.compLoop (.ListComp elt [⟨.Name x px, iter, ifs, 0⟩] scope pos) 0 (.ref it) (.ref D) (compEnvC scope cl s3.heap.objs.size X.env))
      (compPost (model X.prog X.w) X.A X.xe none (EP X pins σ Q) (.ref D) s3.heap.objs.size) { s3 with heap := h₁, toks := tk } := fun tk => by
    refine codeAny_compLoop_tests (fun n s' => ∃ i ys o H', Inv (X.blk N scope cl s3 (upd H2 D (.lst [])) fp) [] (o :: ρ σ) H' s' ∧ tn i s'.heap ∧ (∀ b ∈ fp, H' b = none) ∧ W i n ys H') ?_ m0
      ⟨0, [], none, _, IB tk, T.keep _ _ _ st2 fun b hb o e => k34 _ _ (k23 _ _ e), fun b hb => by rw [upd_ne (nfD b hb)]; exact (f2 b hb).1, w0⟩
    rintro n s4 ⟨i, ys, o, H4, I4, st4, fr4, w4⟩
    obtain ⟨hD4, hturn⟩ := turn i n ys H4 w4
    rcases hturn with ⟨stop, qn⟩ | ⟨go, step⟩
    · refine wpAny_mono (T.done (X.blk N scope cl s3 (upd H2 D (.lst [])) fp) rfl rfl rfl hc i [] s4 _ H4 (fun _ _ => False) I4 (stat fr4) st4 stop) (fun r s5 ⟨hr, I5⟩ => ?_) fun _ _ z => z.elim
      subst hr
      exact fin I5 qn
    · refine wpAny_mono (T.item (X.blk N scope cl s3 (upd H2 D (.lst [])) fp) rfl rfl rfl hc i [] s4 _ H4 (fun _ _ => False) I4 (stat fr4) st4 go) (fun r s5 ⟨u, hr, h5⟩ => ?_) fun _ _ z => z.elim
      subst hr
      have z : letOwnedTupleGo (.Name x px) (.ref it) u = pure () := rfl
      rw [z] at h5
      show wpAny _ _ ((pure () : Sem Unit) >>= fun _ => assign (.Name x px) (compEnvC scope cl s3.heap.objs.size X.env) u) _ _ s5
      refine wpAny_bind (wpAny_mono h5 (fun _ s5 ⟨y, H5, I5, r5, y5, st5, fr5⟩ => ?_) fun _ _ z => z.elim)
      have I5' := I5.pinned (stat fr5) (T.obj _ _ st5)
      have pg : PG (X.blk N scope cl s3 (upd H2 D (.lst [])) fp) (.Name x px) (gName 0) := pg_name (i := 0) B.nd B.n0 (.inl (lookup_relabel_local B.hx)) (.inr (lookup_relabel_local B.hx))
      have again : ∀ {σ7 : St} {H7 : Hp} {s7 : Shared}, Inv (X.blk N scope cl s3 (upd H2 D (.lst [])) fp) ([] ++ pinsAt fp s5.heap) σ7 H7 s7 → Inv (X.blk N scope cl s3 (upd H2 D (.lst [])) fp) [] σ7 H7 s7 ∧ tn (i + 1) s7.heap ∧ ∀ b ∈ fp, H7 b = none := fun {σ7 H7 s7} I7 => by
        refine ⟨I7.unpinned, T.keep _ _ _ st5 fun b hb o e => (I7.pin (b, o) (List.mem_append_right _ (List.mem_append_right _ (mem_pinsAt hb e)))).1, fun b hb => ?_⟩
        obtain ⟨o, e, d⟩ := T.obj _ _ st5 b hb
        exact (I7.pin (b, o) (List.mem_append_right _ (List.mem_append_right _ (mem_pinsAt hb e)))).2.1
      refine wpAny_mono (pg _ s5 _ H5 y u (fun σ2 H6 => σ2 = some y :: ρ σ ∧ H6 = H5) I5' r5 ⟨rfl, rfl⟩) (fun _ s6 ⟨σ6, H6, I6, q6⟩ => ?_) fun _ _ z => z.elim
      obtain ⟨rfl, rfl⟩ := q6
      have hstep := step y _ y5
      have tests : ∀ {tt' : TT}, PTs (X.blk N scope cl s3 (upd H2 D (.lst [])) fp) ifs tt' → ∀ {R : Bool → Hp → Prop}, tt' (some y :: ρ σ) H6 R → wpAny (model X.prog X.w) X.A
          (forIn ifs true fun c r => if r = true then do let ok ← isTrue c (compEnvC scope cl s3.heap.objs.size X.env) (eval c (compEnvC scope cl s3.heap.objs.size X.env)); pure (ForInStep.yield ok) else pure (ForInStep.yield r))
          (fun ok s7 => ∃ H7, Inv (X.blk N scope cl s3 (upd H2 D (.lst [])) fp) ([] ++ pinsAt fp s5.heap) (some y :: ρ σ) H7 s7 ∧ R ok H7) (fun _ _ => False) s6 := fun {tt'} p {R} hR => by
        cases p with
        | nil => exact wpAny_tests_nil ⟨_, I6, hR⟩
        | one p => exact wpAny_tests_one (p _ s6 _ _ _ I6 hR)
      refine wpAny_mono (tests (ht s3 _ fp) hstep) (fun ok s7 ⟨H7, I7, q7⟩ => ?_) fun _ _ z => z.elim
      cases ok with
      | false =>
        obtain ⟨m', hm', w7⟩ := q7
        obtain ⟨a1, a2, a3⟩ := again I7
        exact ⟨m', hm', i + 1, ys, _, H7, a1, a2, a3, w7⟩
      | true =>
        refine wpAny_mono (he s3 _ fp _ s7 _ H7 _ I7 q7) (fun ev s8 ⟨z, H8, I8, r8, hD8, hz, m', hm', w8⟩ => ?_) fun _ _ z => z.elim
        refine wpAny_mono (mt_append (X := X.blk N scope cl s3 (upd H2 D (.lst [])) fp) _ s8 _ H8 (.ref D) [z] (.ref D) [ev] (fun _ H9 => H9 = upd H8 D (.lst (ys ++ [z]))) I8 rfl (.cons r8 .nil) ⟨D, ys, z, rfl, rfl, hD8, hz, rfl⟩) (fun _ s9 ⟨_, H9, I9, _, q9⟩ => ?_) fun _ _ z => z.elim
        subst q9
        obtain ⟨a1, a2, a3⟩ := again I9
        exact ⟨m', hm', i + 1, ys ++ [z], _, _, a1, a2, a3, w8⟩
  have start := loop (s3.toks + ([] : List (Str × Value)).length)
  have es : ({ s3 with heap := h₁, toks := s3.toks + ([] : List (Str × Value)).length } : Shared) = { s2 with heap := h₁, toks := s2.toks + ([] : List (Str × Value)).length } := by rw [← hS3]
  rw [es] at start
  exact codeAny_compStart_list start (T.self _ 0 _ _ _ (T.keep _ _ _ st2 fun b hb o e => k34 _ _ (k23 _ _ e)) start)
end
end L2

/-! more operations over the hand layer: great numbers, all, list(range(n)) -/
namespace L2
open PySem PySem.Spec PyProof.Rows
/-- a number of at most 2048 bits -/
def Mid (i : Int) : Prop := i.natAbs < 2 ^ 2048
theorem Mid.log {i : Int} (h : Mid i) : i.natAbs.log2 < 2048 := by
  by_cases z : i.natAbs = 0
  · rw [z]; decide
  · exact (Nat.log2_lt z).mpr h
def CDivM (i j : Int) : Prop := j ≠ 0 ∧ Mid j
def CMulM (i j : Int) : Prop := Mid i ∧ Mid j
theorem CMulM.ok {i j : Int} (h : CMulM i j) : IntMulOk i j := by
  have b : ∀ {k : Int}, Mid k → Builtin.Int.intBits k ≤ 2048 := fun {k} hk => by
    have z := hk.log
    unfold Builtin.Int.intBits
    split <;> omega
  unfold IntMulOk
  have e : Builtin.Int.intTooBig ((Builtin.Int.intBits i : Int) + (Builtin.Int.intBits j : Int)) = false := by
    unfold Builtin.Int.intTooBig
    have h1 := b h.1
    have h2 := b h.2
    have h3 : (4096 : Int) ≤ bitsLine := by decide +kernel
    exact decide_eq_false (by omega)
  intro z
  rw [Bool.and_eq_true] at z
  have z2 := z.2
  rw [show Builtin.Int.intTooBig ((Builtin.Int.intBits i : Int) + (Builtin.Int.intBits j : Int)) = false from e] at z2
  cases z2
section
variable {X : Cx}
theorem op_fdivM : OpR X (binaryOp .FloorDiv) (rI CDivM fun i j => .int (i.fdiv j)) := opI fun _ _ _ _ _ _ _ hc q => floordiv_int hc.1 q (.inl (PyProof.noPylong_of_log2 (Nat.lt_of_lt_of_le hc.2.log (by decide))))
theorem op_mulM : OpR X (binaryOp .Mult) (rI CMulM fun i j => .int (i * j)) := opI fun _ _ _ _ _ _ _ hc q => mul_int q hc.ok
def CDivP (i j : Int) : Prop := 0 < j ∧ Mid j
theorem op_fdivP : OpR X (binaryOp .FloorDiv) (rI CDivP fun i j => .int (i / j)) := opI fun i j _ _ _ _ _ hc q =>
  floordiv_int (Int.ne_of_gt hc.1) (by rw [Int.fdiv_eq_ediv_of_nonneg i (Int.le_of_lt hc.1)]; exact q) (.inl (PyProof.noPylong_of_log2 (Nat.lt_of_lt_of_le hc.2.log (by decide))))
/-- all(bools of a list) -/
def allR (K : PySem.W.Frag) : List V → Hp → VK → Prop := fun xs H Q => ∃ (p : Addr) (bs : List Bool), xs = [.ref p] ∧ SqL K H p (bs.map V.bl) ∧ Q (.bl (bs.all id)) H
theorem call_all {K : PySem.W.Frag} (hc : X.calm = true) (hK : X.K = K := by rfl) : CallR X (.builtin "all") (allR K) := by
  intro pins s σ H xs us Q I r h
  subst hK
  obtain ⟨p, bs, rfl, hq, q⟩ := h
  obtain ⟨u, rfl, ru⟩ := vals1 r
  cases ru
  obtain ⟨its, rv, pl, hz⟩ := I.list hq
  have hne : p ≠ s.heap.objs.size := by
    obtain ⟨o, e, _⟩ := pl.isList
    exact Nat.ne_of_lt (Heap.lt_size e)
  have hl : its.length = bs.length := by rw [← rv.length, List.length_map]
  refine call_all_walk (wpAny_pyIter_list pl.isList ?_)
  refine ⟨s.heap.objs.size, _, _, _, _, _, fun i => bs.getD i true, rfl, Walks.list (A := X.A.in1) (show X.A.in1.handled = none from I.ok.hd hc) s.heap.objs.size p hne its.toArray, ⟨⟨_, Heap.get?_push_size _ rfl, rfl, rfl⟩, pl.isList.push _⟩, fun i v s' Q' E' hv hq' => ?_, fun h' tk hk => ?_⟩
  · have hv' : its[i]? = some v := by simpa using hv
    cases eb : bs[i]? with
    | none =>
      have := rv.none_of (i := i) (by rw [List.getElem?_map, eb]; rfl)
      rw [this] at hv'
      cases hv'
    | some b =>
      obtain ⟨u, hu, ru⟩ := rv.get (i := i) (x := V.bl b) (by rw [List.getElem?_map, eb]; rfl)
      rw [hu] at hv'
      cases hv'
      cases ru
      have e : bs.getD i true = b := by rw [List.getD_eq_getElem?_getD, eb]; rfl
      have hq2 : Q' (bs.getD i true) s' := hq'
      rw [e] at hq2
      exact wpAny_truthy_bool hq2
  · refine ⟨.bl (bs.all id), H, I.kept fun b o e => hk b o (fun z => ?_) (Heap.get?_push_of_some _ e), ?_, q⟩
    · exact absurd (Heap.lt_size e) (by rw [List.mem_singleton.mp z]; exact Nat.lt_irrefl _)
    · show Value.bool _ = Value.bool _
      congr 1
      rw [List.size_toArray, hl]
      clear hk q rv pl hz hl hq
      induction bs with
      | nil => rfl
      | cons b bs ih =>
        rw [List.length_cons, List.range_succ_eq_map, List.all_cons, List.all_map, List.all_cons]
        show (b && (List.range bs.length).all fun i => bs.getD i true) = (b && bs.all id)
        rw [ih]
end
theorem boot_all : bootBuiltins "all" = some (.builtin "all") := by decide +kernel
def unstarred : Expr → Bool
  | .Starred _ _ => false
  | _ => true
theorem star_cons {e : Expr} {es : List Expr} {env : Env} (h : unstarred e = true) : starEach (e :: es) env = (false, eval e env) :: starEach es env := by
  cases e <;> first | rfl | cases h
theorem pa_mor {X : Cx} {e : Expr} {es : List Expr} {te : TE} {t : TA} (hs : unstarred e = true) (ha : PE X e te) (hr : PA X es t) : PA X (e :: es) (tCons te t) :=
  pa_cons ha hr (star_cons hs)
theorem ps_put {X : Cx} {pos : Pos} {i : Nat} {x : Str} {e : Expr} {te : TE} {pos' : Pos} (hs : swapsWith e (some (.Name x pos')) pos.line X.env = pure false) (hf : X.fn x = true ∨ X.env.scope.names.lookup x = some .local) (hN : X.N.Nodup) (hi : X.N[i]? = some x) (hx : Loc X.env.scope x) (he : PE X e te) :
    PS X (.Assign [.Name x pos'] e pos) (tAsg te (gName i)) := ps_set hN hi hx he hs hf
/-- i.bit_length() -/
def bitsR : V → List V → Hp → VK → Prop := fun x xs H Q => ∃ i : Int, x = .int i ∧ xs = [] ∧ Q (.int ((Builtin.Int.intBits i : Nat) : Int)) H
theorem mt_bits {X : Cx} : MtR X "int.bit_length" bitsR := by
  intro pins s σ H x xs v us Q I rx rv h
  obtain ⟨i, rfl, rfl, q⟩ := h
  have hus := rv.zero
  subst hus
  obtain ⟨t, rfl⟩ := rx
  exact call_int_bit_length ⟨.int ((Builtin.Int.intBits i : Nat) : Int), H, I.tok _, ⟨_, rfl⟩, q⟩
theorem bits_mid {i : Int} (h : Mid i) : Builtin.Int.intBits i ≤ 2048 := by
  have z := h.log
  unfold Builtin.Int.intBits
  split <;> omega
end L2

/-! numbers: what the laws of stage 1 reckon -/
namespace My
open PySem L2
theorem dV_str (a b : Str) : decide (V.str a = V.str b) = decide (a = b) := by
  by_cases h : a = b
  · subst h; simp
  · rw [decide_eq_false h]; exact decide_eq_false fun e => h (V.str.inj e)
theorem dV_int (a b : Int) : decide (V.int a = V.int b) = decide (a = b) := by
  by_cases h : a = b
  · subst h; simp
  · rw [decide_eq_false h]; exact decide_eq_false fun e => h (V.int.inj e)
theorem kit_same {K : PySem.W.Frag} {T : String} : PySem.W.kitOne K (.type T) (.type T) = some true := by
  unfold PySem.W.kitOne
  rw [if_pos (beq_self_eq_true _)]
theorem same_upd {H : Hp} {p : Addr} {o : HO} (h : H p = none) : Same H (upd H p o) := fun b u e => by
  rw [upd_ne (ne_of_none e h)]
  exact e
theorem atI_some {α : Type} {xs : List α} {i : Int} (h0 : 0 ≤ i) (h1 : i < xs.length) : ∃ v, atI xs i = some v ∧ v ∈ xs := by
  obtain ⟨k, rfl⟩ : ∃ k : Nat, i = (k : Int) := ⟨i.toNat, by omega⟩
  have hk : k < xs.length := by omega
  exact ⟨xs[k], atI_nat (by simp [hk]), List.getElem_mem _⟩
theorem lk_prime (v : V) : ([(("prime" : Str), v)] : List (Str × V)).lookup ("prime" : Str) = some v := by simp [List.lookup]
/-! ### anything -/
inductive Any (H : Hp) : V → Prop where
  | non : Any H .non
  | bl (b : Bool) : Any H (.bl b)
  | int (i : Int) : Any H (.int i)
  | str (x : Str) : Any H (.str x)
  | lst {a : Addr} {xs : List V} (e : H a = some (.lst xs)) : Any H (.ref a)
  | tup {a : Addr} {xs : List V} (e : H a = some (.tup xs)) : Any H (.ref a)
  | dct {a : Addr} (e : H a = some (DctO a)) : Any H (.ref a)
theorem Any.mono {H H' : Hp} {v : V} (h : Any H v) (s : Same H H') : Any H' v := by
  cases h with
  | non => exact .non
  | bl b => exact .bl b
  | int i => exact .int i
  | str x => exact .str x
  | lst e => exact .lst (s _ _ e)
  | tup e => exact .tup (s _ _ e)
  | dct e => exact .dct (s _ _ e)
def isIntV : V → Bool
  | .int _ => true
  | _ => false
def isBlV : V → Bool
  | .bl _ => true
  | _ => false
def isTupV (H : Hp) : V → Bool
  | .ref a => (match H a with | some (.tup _) => true | _ => false)
  | _ => false
theorem Any.kit {K : PySem.W.Frag} {H : Hp} {v : V} (h : Any H v) : ∃ T : String, TyX K H v (.type T) ∧ PySem.W.kitOne K (.type T) (.type "int") = some (isIntV v || isBlV v) ∧ PySem.W.kitOne K (.type T) (.type "bool") = some (isBlV v) ∧
    PySem.W.kitOne K (.type T) (.type "tuple") = some (isTupV H v) := by
  cases h with
  | non => exact ⟨"NoneType", .of .non, rfl, rfl, rfl⟩
  | bl b => exact ⟨"bool", .of (.bl b), rfl, rfl, rfl⟩
  | int i => exact ⟨"int", .of (.int i), rfl, rfl, rfl⟩
  | str x => exact ⟨"str", .of (.str x), rfl, rfl, rfl⟩
  | lst e => exact ⟨"list", .of (.lst e), rfl, rfl, by unfold isTupV; dsimp only; rw [e]; rfl⟩
  | tup e => exact ⟨"tuple", .of (.tup e), rfl, rfl, by unfold isTupV; dsimp only; rw [e]; rfl⟩
  | dct e => exact ⟨"dict", .dct e, rfl, rfl, by unfold isTupV; dsimp only; rw [e]; rfl⟩
theorem bl_int {v : V} (h : isBlV v = true) : isIntV v = false := by cases v <;> first | rfl | cases h
/-- a thing as the laws build it -/
structure Thing (H : Hp) (v : V) : Prop where
  any : Any H v
  two : ∀ (a : Addr) (x y : V), v = .ref a → H a = some (.tup [x, y]) → Any H x ∧ Any H y ∧ ∀ i : Int, y = .int i → Mid i
theorem Thing.mono {H H' : Hp} {v : V} (h : Thing H v) (s : Same H H') : Thing H' v := ⟨h.any.mono s, fun a x y z e => by
  subst z
  have e0 : H a = some (.tup [x, y]) := by
    cases h.any with
    | lst q => rw [s _ _ q] at e; cases e
    | dct q => rw [s _ _ q] at e; cases e
    | tup q => rw [s _ _ q] at e; cases e; exact q
  obtain ⟨a1, a2, a3⟩ := h.two a x y rfl e0
  exact ⟨a1.mono s, a2.mono s, a3⟩⟩
theorem lk_no {v : V} {m : Str} (e : (m == ("prime" : Str)) = false) : ([(("prime" : Str), v)] : List (Str × V)).lookup m = none := by simp [List.lookup, e]
/-! ### Euclid -/
theorem gcd_step (m n : Nat) : Nat.gcd n (m % n) = Nat.gcd m n := by rw [Nat.gcd_comm n, ← Nat.gcd_rec, Nat.gcd_comm]
theorem abs_nat (a : Int) : (if a < 0 then -a else a) = (a.natAbs : Int) := by split <;> omega
def lowG (a b : Int) : Int := if b < 0 then 0 - (Int.gcd a b : Int) else (Int.gcd a b : Int)
theorem gcd_pos {a b : Int} (h : b ≠ 0) : 0 < Int.gcd a b := Nat.gcd_pos_of_pos_right _ (Int.natAbs_pos.mpr h)
theorem gcd_mid {a b : Int} (h : b ≠ 0) (m : Mid b) : Int.gcd a b < 2 ^ 2048 := Nat.lt_of_le_of_lt (Nat.gcd_le_right _ (Int.natAbs_pos.mpr h)) m
theorem lowG_ok {a b : Int} (h : b ≠ 0) (m : Mid b) : CDivM 0 (lowG a b) := by
  have h1 := gcd_pos (a := a) h
  have h2 := gcd_mid (a := a) h m
  unfold lowG
  refine ⟨by split <;> omega, ?_⟩
  unfold Mid
  split
  · rw [show (0 - (Int.gcd a b : Int)).natAbs = Int.gcd a b by omega]; exact h2
  · rw [Int.natAbs_natCast]; exact h2
theorem Mid.of_lt {i : Int} (h1 : -(10 ^ 70) < i) (h2 : i < 10 ^ 70) : Mid i := by
  have h3 : i.natAbs < 2 ^ 240 := by omega
  exact Nat.lt_of_lt_of_le h3 (Nat.pow_le_pow_right (by decide) (by decide))
/-! ### the promises -/
def spWhole : Sp := fun vs H Q _ => ∃ v : V, vs = [v] ∧ Any H v ∧ Q (.bl (isIntV v)) H
def spGcd : Sp := fun vs H Q _ => ∃ a b : Int, vs = [.int a, .int b] ∧ Mid b ∧ Q (.int (Int.gcd a b : Int)) H
def spPrime : Sp := fun vs H Q _ => ∃ n : Int, vs = [.int n] ∧ 2 ≤ n ∧ n ≤ 997 ∧ Q (.bl (primeB n)) H
def spIsF : Sp := fun vs H Q _ => ∃ (p : Addr) (d : Td), vs = [.ref p] ∧ H p = some (.tup d.vs) ∧ Q (.bl d.isF) H
def spIsW : Sp := fun vs H Q _ => ∃ (p : Addr) (d : Td), vs = [.ref p] ∧ H p = some (.tup d.vs) ∧ Q (.bl d.isW) H
def spInit (C N : Addr) : Sp := fun vs H Q E => ∃ (x dx p : Addr) (d : Td), vs = [.ref x, .ref p] ∧ H x = some (.ins C dx []) ∧ H p = some (.tup d.vs) ∧
  (d.good = true → Q .non (upd H x (.ins C dx [("prime", d.prime)]))) ∧ (d.good = false → E (.ref N) none H)
/-- the world at x: the fractions for 0, else the wheel of q -/
def WorldAt (C : Addr) (H : Hp) (x : Addr) (q : Int) : Prop := ∃ dx, H x = some (.ins C dx [("prime", if q = 0 then .non else .int q)])
theorem WorldAt.mono {C : Addr} {H H' : Hp} {x : Addr} {q : Int} (h : WorldAt C H x q) (s : Same H H') : WorldAt C H' x q := by
  obtain ⟨dx, e⟩ := h
  exact ⟨dx, s _ _ e⟩
def spLow : Sp := fun vs H Q _ => ∃ a b : Int, vs = [.int a, .int b] ∧ b ≠ 0 ∧ Mid b ∧ ∀ (q : Addr) (H' : Hp), Same H H' → H' q = some (.tup [.int (a.fdiv (lowG a b)), .int (b.fdiv (lowG a b))]) → Q (.ref q) H'
def spLaw (K : PySem.W.Frag) : Sp := fun vs H Q _ => ∃ (a : Addr) (ns : List Int), vs = [.ref a] ∧ SqL K H a (ns.map V.int) ∧ ns.length ≤ 63 ∧ ∀ H', Q (.bl true) H'
/-! ### the list of a comprehension over the divisors -/
end My

/-! sums and products of fractions told low -/
namespace My
theorem pos_part {u v : Int} (hu : 0 < u) (h : 0 < u * v) : 0 < v := by
  by_cases z : 0 < v
  · exact z
  · have y := Int.mul_le_mul_of_nonneg_left (show v ≤ 0 by omega) (show 0 ≤ u by omega)
    rw [Int.mul_zero] at y
    omega
theorem cop_of {a b : Int} (h : ∀ d : Nat, (d : Int) ∣ a → (d : Int) ∣ b → d = 1) : Int.gcd a b = 1 := h _ (Int.gcd_dvd_left ..) (Int.gcd_dvd_right ..)
theorem cop_dvd {a b : Int} (h : Int.gcd a b = 1) {d : Nat} (h1 : (d : Int) ∣ a) (h2 : (d : Int) ∣ b) : d = 1 := by
  have z : (d : Int) ∣ ((Int.gcd a b : Nat) : Int) := Int.dvd_coe_gcd h1 h2
  rw [h] at z
  exact Nat.dvd_one.mp (Int.natCast_dvd_natCast.mp z)
/-- d divides b, which has nothing in common with c: of a * c it divides a -/
theorem cut_dvd {a b c : Int} {d : Nat} (h : Int.gcd b c = 1) (h1 : (d : Int) ∣ b) (h2 : (d : Int) ∣ a * c) : (d : Int) ∣ a := by
  have hc : Nat.Coprime d c.natAbs := by
    have z : Nat.Coprime b.natAbs c.natAbs := h
    exact Nat.Coprime.coprime_dvd_left (Int.ofNat_dvd_left.mp h1) z
  have z : d ∣ a.natAbs * c.natAbs := by
    rw [← Int.natAbs_mul]
    exact Int.ofNat_dvd_left.mp h2
  exact Int.ofNat_dvd_left.mpr (hc.dvd_of_dvd_mul_right z)
theorem cop_mul {a b c : Int} (h1 : Int.gcd a b = 1) (h2 : Int.gcd a c = 1) : Int.gcd a (b * c) = 1 := by
  refine cop_of fun d x y => ?_
  exact cop_dvd h1 x (cut_dvd (a := b) (b := a) (c := c) h2 x y)
theorem cop_comm {a b : Int} (h : Int.gcd a b = 1) : Int.gcd b a = 1 := by rw [Int.gcd_comm]; exact h
/-- the parts over what two numbers have in common -/
theorem cop_over {a b : Int} (h : b ≠ 0) : Int.gcd (a / (Int.gcd a b : Int)) (b / (Int.gcd a b : Int)) = 1 := by
  have z : 0 < Int.gcd a b := Nat.gcd_pos_of_pos_right _ (Int.natAbs_pos.mpr h)
  exact Int.gcd_ediv_gcd_ediv_gcd z
structure Low (x m : Int) : Prop where
  pos : 1 ≤ m
  cop : Int.gcd x m = 1
end My

/-! numbers: sums, differences, products -/
namespace My
open PySem L2
/-- at most three hundred figures -/
def Big (x : Int) : Prop := x.natAbs ≤ 10 ^ 300
theorem pow300 : (10 : Nat) ^ 300 < 2 ^ 2048 := by decide +kernel
theorem Big.over {x g : Int} (h : Big x) : Big (x / g) := Nat.le_trans (Int.natAbs_ediv_le_natAbs x g) h
theorem Big.neg {x : Int} (h : Big x) : Big (-x) := by unfold Big; rw [Int.natAbs_neg]; exact h
theorem Big.gcd {x y : Int} (h : Big y) (z : y ≠ 0) : Big (Int.gcd x y : Int) := by
  unfold Big
  rw [Int.natAbs_natCast]
  exact Nat.le_trans (Nat.gcd_le_right _ (Int.natAbs_pos.mpr z)) h
theorem Low.neg {x m : Int} (h : Low x m) : Low (-x) m := ⟨h.pos, by rw [Int.neg_gcd]; exact h.cop⟩
def WheelN (p : Int) : Prop := p = 0 ∨ (2 ≤ p ∧ p ≤ 997 ∧ primeB p = true)
/-- a number of a world, and its parts -/
inductive NumAt (B : Nat) (H : Hp) : Int → V → Int → Int → Prop where
  | frac {p : Addr} {x m : Int} (e : H p = some (.tup [.int x, .int m])) (l : Low x m) (bx : x.natAbs ≤ B) (bm : m.natAbs ≤ B) : NumAt B H 0 (.ref p) x m
  | rem {q i : Int} (h0 : 0 ≤ i) (h1 : i < q) (h2 : q ≤ 997) : NumAt B H q (.int i) i 1
theorem NumAt.mono {B : Nat} {H H' : Hp} {q : Int} {v : V} {x m : Int} (h : NumAt B H q v x m) (s : Same H H') : NumAt B H' q v x m := by
  cases h with
  | frac e l bx bm => exact .frac (s _ _ e) l bx bm
  | rem h0 h1 h2 => exact .rem h0 h1 h2
theorem low_of {a b : Int} (h : 1 ≤ b) : ∃ u d : Int, a.fdiv (lowG a b) = u ∧ b.fdiv (lowG a b) = d ∧ Low u d ∧ u.natAbs ≤ a.natAbs ∧ d.natAbs ≤ b.natAbs := by
  have hp := gcd_pos (a := a) (b := b) (by omega)
  have e : lowG a b = (Int.gcd a b : Int) := by unfold lowG; rw [if_neg (by omega)]
  rw [e]
  refine ⟨a / (Int.gcd a b : Int), b / (Int.gcd a b : Int), Int.fdiv_eq_ediv_of_nonneg _ (by omega), Int.fdiv_eq_ediv_of_nonneg _ (by omega), ⟨?_, cop_over (by omega)⟩, Int.natAbs_ediv_le_natAbs .., Int.natAbs_ediv_le_natAbs ..⟩
  obtain ⟨b', eb⟩ := Int.gcd_dvd_right (a := a) (b := b)
  have z : b / (Int.gcd a b : Int) = b' := by conv => lhs; lhs; rw [eb]
                                              exact Int.mul_ediv_cancel_left _ (by omega)
  rw [z]
  exact pos_part (u := (Int.gcd a b : Int)) (by omega) (by rw [← eb]; omega)
/-- a low fraction is no greater than another of its worth -/
theorem low_le {u d T B : Int} (l : Low u d) (hB : 0 < B) (e : u * B = T * d) : d ≤ B ∧ u.natAbs ≤ T.natAbs := by
  have h0 := l.pos
  have hd : d ∣ B := by
    have z : ((d.natAbs : Nat) : Int) ∣ B := cut_dvd (a := B) (b := d) (c := u) (cop_comm l.cop) (Int.natAbs_dvd.mpr (Int.dvd_refl d)) ⟨T * (d / (d.natAbs : Int)), by
      have q : (d.natAbs : Int) = d := by omega
      rw [q, Int.ediv_self (by omega), Int.mul_one, Int.mul_comm B u, e, Int.mul_comm]⟩
    exact Int.natAbs_dvd.mp z
  have hle := Int.le_of_dvd hB hd
  refine ⟨hle, ?_⟩
  have z : u.natAbs * B.natAbs = T.natAbs * d.natAbs := by rw [← Int.natAbs_mul, e, Int.natAbs_mul]
  have z2 : T.natAbs * d.natAbs ≤ T.natAbs * B.natAbs := Nat.mul_le_mul_left _ (by omega)
  rw [← z] at z2
  exact Nat.le_of_mul_le_mul_right z2 (by omega)
theorem NumAt.bd {H : Hp} {q : Int} {v : V} {x m : Int} (h : NumAt (10 ^ 18) H q v x m) : x.natAbs ≤ 10 ^ 18 ∧ 1 ≤ m ∧ m.natAbs ≤ 10 ^ 18 := by
  cases h with
  | frac e l bx bm => exact ⟨bx, l.pos, bm⟩
  | rem h0 h1 h2 => exact ⟨by omega, by omega, by omega⟩
end My

/-! backs on a wheel -/
namespace My
theorem prime_cop {q b : Int} (h1 : 2 ≤ q) (h2 : q ≤ 997) (hp : primeB q = true) (b1 : 1 ≤ b) (b2 : b < q) : Int.gcd q b = 1 := by
  have gp : 0 < Int.gcd q b := Nat.gcd_pos_of_pos_right _ (Int.natAbs_pos.mpr (by omega))
  by_cases g1 : Int.gcd q b = 1
  · exact g1
  exfalso
  obtain ⟨k, ek⟩ := Int.gcd_dvd_left (a := q) (b := b)
  have hb := Int.le_of_dvd (by omega) (Int.gcd_dvd_right (a := q) (b := b))
  generalize Int.gcd q b = g at *
  have kp : 0 < k := pos_part (u := (g : Int)) (by omega) (by rw [← ek]; omega)
  have k2 : k ≠ 1 := fun z => by
    rw [z, Int.mul_one] at ek
    omega
  have no : ∀ d : Int, 2 ≤ d → d * d ≤ q → q % d = 0 → False := fun d x y z => by
    rw [primeB_no h2 x y z] at hp
    cases hp
  by_cases c : (g : Int) ≤ k
  · exact no g (by omega) (by rw [ek]; exact Int.mul_le_mul_of_nonneg_left c (by omega)) (by rw [ek]; exact Int.mul_emod_right ..)
  · exact no k (by omega) (by rw [ek]; exact Int.mul_le_mul_of_nonneg_right (by omega) (by omega)) (by rw [ek]; exact Int.mul_emod_left ..)
/-- the loop's bond: last and now by number and prime -/
structure Bond (q b last lt now nt : Int) : Prop where
  l : ∃ s, last = lt * b + s * q
  n : ∃ s, now = nt * b + s * q
  cop : Int.gcd last now = 1
  pos : 1 ≤ now
  less : now ≤ last
theorem Bond.step {q b last lt now nt : Int} (h : Bond q b last lt now nt) (h1 : 1 < now) : Bond q b now nt (last - last / now * now) (lt - last / now * nt) ∧ last - last / now * now < now := by
  obtain ⟨⟨s, es⟩, ⟨r, er⟩, c, p, le⟩ := h
  have e : last - last / now * now = last % now := by
    have z := Int.emod_add_mul_ediv last now
    rw [Int.mul_comm] at z
    omega
  have lt1 := Int.emod_lt_of_pos last (show 0 < now by omega)
  have ge := Int.emod_nonneg last (show now ≠ 0 by omega)
  have c' : Int.gcd now (last % now) = 1 := cop_of fun d x y => cop_dvd c (by
    have z := Int.emod_add_mul_ediv last now
    rw [← z]
    exact Int.dvd_add y (Int.dvd_trans x (Int.dvd_mul_right ..))) x
  have nz : last % now ≠ 0 := fun z => by
    rw [z, Int.gcd_zero_right] at c'
    omega
  refine ⟨⟨⟨r, er⟩, ⟨s - last / now * r, ?_⟩, by rw [e]; exact c', by omega, by omega⟩, by omega⟩
  generalize last / now = f
  rw [es, er, Int.sub_mul, Int.sub_mul, Int.mul_add, Int.mul_assoc, Int.mul_assoc]
  omega
theorem Bond.done {q b last lt nt : Int} (h : Bond q b last lt 1 nt) (hq : 2 ≤ q) : (nt % q * b) % q = 1 := by
  obtain ⟨s, e⟩ := h.n
  have z : nt * b = 1 + (-s) * q := by rw [Int.neg_mul]; omega
  have y : nt % q * b % q = nt * b % q := by rw [Int.mul_emod (nt % q) b, Int.emod_emod, ← Int.mul_emod]
  rw [y, z, Int.add_mul_emod_self_right]
  exact Int.emod_eq_of_lt (by omega) (by omega)
theorem Bond.start {q b : Int} (h1 : 2 ≤ q) (h2 : q ≤ 997) (hp : primeB q = true) (b1 : 1 ≤ b) (b2 : b < q) : Bond q b q 0 b 1 :=
  ⟨⟨1, by omega⟩, ⟨0, by omega⟩, prime_cop h1 h2 hp b1 b2, b1, by omega⟩
end My

/-! == of whole numbers and tuples of flat values, either way -/
namespace L2
open PySem PySem.Spec PyProof.Rows
def rEqM (K : PySem.W.Frag) : R2 := fun x y H Q => (∃ a xs i, x = .ref a ∧ y = .int i ∧ SqT K H a xs ∧ Q (.bl false) H) ∨ (∃ a xs i, x = .int i ∧ y = .ref a ∧ SqT K H a xs ∧ Q (.bl false) H) ∨ rEqT K false x y H Q ∨ rEq x y H Q
theorem op_eqM {X : Cx} (hu : X.A.units < cLine) : OpR X (compareOp .Eq) (rEqM X.K) := by
  intro pins s σ H x y v u Q I rx ry h
  rcases h with ⟨a, xs, i, rfl, rfl, h1, q⟩ | ⟨a, xs, i, rfl, rfl, h1, q⟩ | h | h
  · cases rx
    obtain ⟨t, rfl⟩ := ry
    obtain ⟨us, r1, t1, _⟩ := I.tuple h1
    exact SeqAt.RcAt.tuple_int i t t1 hu _ _ _ _ ⟨.bl false, H, I, rfl, q⟩
  · cases ry
    obtain ⟨t, rfl⟩ := rx
    obtain ⟨us, r1, t1, _⟩ := I.tuple h1
    exact SeqAt.RcAt.int_tuple i t t1 hu _ _ _ _ ⟨.bl false, H, I, rfl, q⟩
  · exact op_eqT hu pins s σ H x y v u Q I rx ry h
  · exact op_eq pins s σ H x y v u Q I rx ry h
end L2

/-! numbers: the one over the other -/
namespace My
open PySem L2
def spBack (N : Addr) : Sp := fun vs H Q E => ∃ q b : Int, vs = [.int q, .int b] ∧ 2 ≤ q ∧ q ≤ 997 ∧ primeB q = true ∧ 0 ≤ b ∧ b < q ∧ (b = 0 → E (.ref N) none H) ∧ (b ≠ 0 → ∀ r : Int, 0 ≤ r → r < q → (r * b) % q = 1 → Q (.int r) H)
def spRemOver (N : Addr) : Sp := fun vs H Q E => ∃ q i j : Int, vs = [.int q, .int i, .int j] ∧ 2 ≤ q ∧ q ≤ 997 ∧ primeB q = true ∧ 0 ≤ i ∧ i < q ∧ 0 ≤ j ∧ j < q ∧ (j = 0 → E (.ref N) none H) ∧ (j ≠ 0 → ∀ r : Int, 0 ≤ r → r < q → (r * j) % q = i → Q (.int r) H)
theorem rem_over {q i j r : Int} (hq : 2 ≤ q) (i0 : 0 ≤ i) (i1 : i < q) (h : (r * j) % q = 1) : (i * r % q * j) % q = i := by
  have y : i * r % q * j % q = i * (r * j) % q := by rw [Int.mul_emod (i * r % q) j, Int.emod_emod, ← Int.mul_emod, Int.mul_assoc]
  rw [y, Int.mul_emod, h, Int.emod_eq_of_lt i0 i1, Int.mul_one, Int.emod_eq_of_lt i0 i1]
end My

/-! a method with one default, and calls of it with keywords -/
namespace L2
open PySem PySem.Spec PyProof.Rows
/-- a def of the text whose last parameter has a whole number for a default -/
structure FunD (K : PySem.W.Frag) (x qual : Str) (st : Stmt) (i : Int) (f : Addr) (fd : FuncData) : Prop where
  ex : ∃ (oc : Value) (od : Option Addr) (kV doc pm : Value) (an : Option Addr) (cdv ct : Value) (osl : Array (Option Value)) (dT : Addr) (tk : Tok) (oc' : Value) (od' : Option Addr) (n : Nat) (osl' : Array (Option Value)),
    fd = PySem.W.fnOf x qual (defArgs st) (defBody st) (defScope st) (.ref dT) kV doc pm an cdv ct ∧ K.lookup f = some ⟨oc, od, .func fd, osl⟩ ∧ PySem.W.codeIn K cdv qual = true ∧ K.lookup dT = some ⟨oc', od', .seq #[.int i tk] n, osl'⟩
  kp : PySem.W.keepIn K (.ref f) = true
section
variable {P : Program} {w : World} {K : PySem.W.Frag} {mg : Str → Option Value} {base : Heap}
theorem FunD.okX {x qual : Str} {st : Stmt} {i : Int} {f : Addr} {fd : FuncData} {N ps : List Str} {k : Nat} {sp : Sp} (F : FunD K x qual st i f fd) (S : FnScope N ps (defScope st)) (len : ∀ vs H Q E, sp vs H Q E → vs.length = ps.length)
    (hbody : ∀ (cdv : Value) (A : Around) (outer : List Env) (s : Shared) (H : Hp) (vs : List V) (Q : VK) (E : XK), Room k (A.deeper (envOfC qual (defScope st) s.heap.objs.size f cdv)) → sp vs H Q E →
      Leaves (cxOf (CXF P w) P w K mg base N qual (defScope st) f cdv A outer s H E) E →
      ∃ t, PSs (cxOf (CXF P w) P w K mg base N qual (defScope st) f cdv A outer s H E) (defBody st) t ∧ t { nx := fun _ H' => Q .non H', rt := Q } (start N vs) H) : FnOk P w K mg base (CXF P w) (k + 1) f fd ps sp := by
  obtain ⟨oc, od, kV, doc, pm, an, cdv, ct, osl, dT, tk, oc', od', n, osl', rfl, lk, hcd, ld⟩ := F.ex
  exact fn_of lk hcd S len fun A outer s H vs Q E hr hsp => hbody cdv A outer s H vs Q E hr hsp ⟨rfl, rfl, rfl, rfl⟩
theorem fund_mk {x qual : Str} {st : Stmt} {i : Int} {f dT : Addr} {oc : Value} {od an : Option Addr} {osl : Array (Option Value)} {kV doc pm cdv ct : Value} {tk : Tok} {oc' : Value} {od' : Option Addr} {n : Nat} {osl' : Array (Option Value)}
    (l : K.lookup f = some ⟨oc, od, .func (PySem.W.fnOf x qual (defArgs st) (defBody st) (defScope st) (.ref dT) kV doc pm an cdv ct), osl⟩)
    (c : PySem.W.codeIn K cdv qual = true) (k : PySem.W.keepIn K (.ref f) = true) (ld : K.lookup dT = some ⟨oc', od', .seq #[.int i tk] n, osl'⟩) : FunD K x qual st i f (PySem.W.fnOf x qual (defArgs st) (defBody st) (defScope st) (.ref dT) kV doc pm an cdv ct) :=
  ⟨⟨oc, od, kV, doc, pm, an, cdv, ct, osl, dT, tk, oc', od', n, osl', rfl, l, c, ld⟩, k⟩
theorem FunD.binds {x qual : Str} {st : Stmt} {i : Int} {f : Addr} {fd : FuncData} {ps : List Str} (F : FunD K x qual st i f fd)
    (h : ∀ (s : Shared) (dT : Addr) (kV doc pm : Value) (an : Option Addr) (cdv ct : Value) (tk : Tok) (o : Obj) (n : Nat) (us : List Value), s.heap.get? dT = some o → o.data = .seq #[.int i tk] n → us.length = ps.length →
      BindsTo s (PySem.W.fnOf x qual (defArgs st) (defBody st) (defScope st) (.ref dT) kV doc pm an cdv ct) ⟨us, []⟩ (ps.zip us)) : Binds K fd ps [] := by
  obtain ⟨oc, od, kV, doc, pm, an, cdv, ct, osl, dT, tk, oc', od', n, osl', rfl, lk, hcd, ld⟩ := F.ex
  intro s us X hl
  rw [List.append_nil] at hl ⊢
  exact h s dT kV doc pm an cdv ct tk _ n us (X _ _ ld) rfl hl
theorem FunD.binds1 {x qual : Str} {st : Stmt} {i : Int} {f : Addr} {fd : FuncData} {ps : List Str} (F : FunD K x qual st i f fd)
    (h : ∀ (s : Shared) (dT : Addr) (kV doc pm : Value) (an : Option Addr) (cdv ct : Value) (tk : Tok) (o : Obj) (n : Nat) (us : List Value), s.heap.get? dT = some o → o.data = .seq #[.int i tk] n → us.length + 1 = ps.length →
      BindsTo s (PySem.W.fnOf x qual (defArgs st) (defBody st) (defScope st) (.ref dT) kV doc pm an cdv ct) ⟨us, []⟩ (ps.zip (us ++ [.int i tk]))) : ∃ v, Vals [V.int i] [v] ∧ Binds K fd ps [v] := by
  obtain ⟨oc, od, kV, doc, pm, an, cdv, ct, osl, dT, tk, oc', od', n, osl', rfl, lk, hcd, ld⟩ := F.ex
  refine ⟨.int i tk, .cons ⟨tk, rfl⟩ .nil, fun s us X hl => ?_⟩
  exact h s dT kV doc pm an cdv ct tk _ n us (X _ _ ld) rfl (by simpa using hl)
theorem FunD.bindsK {x qual : Str} {st : Stmt} {i : Int} {f : Addr} {fd : FuncData} {ps : List Str} {y : Str} (F : FunD K x qual st i f fd)
    (h : ∀ (s : Shared) (dT : Addr) (kV doc pm : Value) (an : Option Addr) (cdv ct : Value) (tk : Tok) (o : Obj) (n : Nat) (us ws : List Value), s.heap.get? dT = some o → o.data = .seq #[.int i tk] n → ws.length = 1 → us.length + 1 = ps.length →
      BindsTo s (PySem.W.fnOf x qual (defArgs st) (defBody st) (defScope st) (.ref dT) kV doc pm an cdv ct) ⟨us, [y].zip ws⟩ (ps.zip (us ++ ws))) :
    ∀ (s : Shared) (us ws : List Value), K.In s.heap → ws.length = 1 → us.length + 1 = ps.length → BindsTo s fd ⟨us, [y].zip ws⟩ (ps.zip (us ++ ws)) := by
  obtain ⟨oc, od, kV, doc, pm, an, cdv, ct, osl, dT, tk, oc', od', n, osl', rfl, lk, hcd, ld⟩ := F.ex
  intro s us ws X hw hl
  exact h s dT kV doc pm an cdv ct tk _ n us ws (X _ _ ld) rfl hw hl
end
section
variable {X : Cx} {CX : CXT} {k : Nat} {f C : Addr} {fd : FuncData} {ps : List Str} {y : Str} {sp : Sp} {E : XK} {m : Str} {pos apos kpos : Pos} {e e' o : Expr} {ta : TE} {t tk : TA}
end
end L2

/-! numbers of two whole numbers -/
namespace My
open PySem L2
def lowU (a b : Int) : Int := a.fdiv (lowG a b)
def lowD (a b : Int) : Int := b.fdiv (lowG a b)
theorem low_fd {a b : Int} (hb : b ≠ 0) : Low (lowU a b) (lowD a b) ∧ lowU a b * b = a * lowD a b ∧ (lowU a b).natAbs ≤ a.natAbs ∧ (lowD a b).natAbs ≤ b.natAbs := by
  have gp := gcd_pos (a := a) hb
  have c := cop_over (a := a) hb
  obtain ⟨a', ea⟩ := Int.gcd_dvd_left (a := a) (b := b)
  obtain ⟨b', eb⟩ := Int.gcd_dvd_right (a := a) (b := b)
  unfold lowU lowD lowG
  generalize Int.gcd a b = g at *
  have g0 : (g : Int) ≠ 0 := by omega
  have ga : a / (g : Int) = a' := by rw [ea]; exact Int.mul_ediv_cancel_left _ g0
  have gb : b / (g : Int) = b' := by rw [eb]; exact Int.mul_ediv_cancel_left _ g0
  rw [ga, gb] at c
  have la : a'.natAbs ≤ a.natAbs := by rw [← ga]; exact Int.natAbs_ediv_le_natAbs ..
  have lb : b'.natAbs ≤ b.natAbs := by rw [← gb]; exact Int.natAbs_ediv_le_natAbs ..
  have cr : a' * b = a * b' := by rw [ea, eb]; simp only [Int.mul_assoc, Int.mul_comm, Int.mul_left_comm]
  by_cases h : b < 0
  · have d1 : (0 - (g : Int)) ∣ a := ⟨-a', by rw [ea, Int.zero_sub, Int.neg_mul_neg]⟩
    have d2 : (0 - (g : Int)) ∣ b := ⟨-b', by rw [eb, Int.zero_sub, Int.neg_mul_neg]⟩
    rw [if_pos h, Int.fdiv_eq_ediv_of_dvd d1, Int.fdiv_eq_ediv_of_dvd d2, Int.zero_sub, Int.ediv_neg, Int.ediv_neg, ga, gb]
    refine ⟨⟨?_, by rw [Int.neg_gcd, Int.gcd_neg]; exact c⟩, ?_, ?_, ?_⟩
    · have z : 0 < -b' := pos_part (u := (g : Int)) (by omega) (by rw [Int.mul_neg, ← eb]; omega)
      omega
    · rw [Int.neg_mul, Int.mul_neg, cr]
    · rw [Int.natAbs_neg]; exact la
    · rw [Int.natAbs_neg]; exact lb
  · rw [if_neg h, Int.fdiv_eq_ediv_of_dvd ⟨a', ea⟩, Int.fdiv_eq_ediv_of_dvd ⟨b', eb⟩, ga, gb]
    have z : 0 < b' := pos_part (u := (g : Int)) (by omega) (by rw [← eb]; omega)
    exact ⟨⟨by omega, c⟩, cr, la, lb⟩
theorem low_fd1 (a : Int) : lowU a 1 = a ∧ lowD a 1 = 1 := by
  unfold lowU lowD lowG
  rw [Int.gcd_one_right, if_neg (by decide)]
  exact ⟨Int.fdiv_one a, Int.fdiv_one 1⟩
def spRatio (N : Addr) : Sp := fun vs H Q E => ∃ a b : Int, vs = [.int a, .int b] ∧ Mid b ∧ (b = 0 → E (.ref N) none H) ∧ (b ≠ 0 → ∀ (r : Addr) (H' : Hp), Same H H' → H' r = some (.tup [.int (lowU a b), .int (lowD a b)]) → Q (.ref r) H')
def NoOv (q b : Int) : Prop := if q = 0 then b = 0 else b % q = 0
def OfAt (H : Hp) (q : Int) (v : V) (a b : Int) : Prop :=
  (q = 0 ∧ ∃ r : Addr, v = .ref r ∧ H r = some (.tup [.int (lowU a b), .int (lowD a b)])) ∨ (2 ≤ q ∧ ∃ r : Int, v = .int r ∧ 0 ≤ r ∧ r < q ∧ (r * (b % q)) % q = a % q)
theorem OfAt.mono {H H' : Hp} {q : Int} {v : V} {a b : Int} (h : OfAt H q v a b) (s : Same H H') : OfAt H' q v a b := by
  rcases h with ⟨h, r, e, h2⟩ | h
  · exact .inl ⟨h, r, e, s _ _ h2⟩
  · exact .inr h
def spOf (C N : Addr) : Sp := fun vs H Q E => ∃ (z : Addr) (q a b : Int), vs = [.ref z, .int a, .int b] ∧ WorldAt C H z q ∧ WheelN q ∧ Mid b ∧
  (NoOv q b → E (.ref N) none H) ∧ (¬ NoOv q b → ∀ (v : V) (H' : Hp), Same H H' → OfAt H' q v a b → Q v H')
end My

/-! truths held against one another by is; a list taken apart -/
namespace L2
open PySem PySem.Spec PyProof.Rows
section
variable {X : Cx}
end
end L2

/-! numbers by what they are worth: t over b, in either world -/
namespace My
open PySem L2
inductive IsN (H : Hp) : Int → V → Int → Int → Prop where
  | frac {p : Addr} {u d t b : Int} (e : H p = some (.tup [.int u, .int d])) (l : Low u d) (hb : b ≠ 0) (h : u * b = t * d) : IsN H 0 (.ref p) t b
  | rem {q r t b : Int} (q2 : 2 ≤ q) (h0 : 0 ≤ r) (h1 : r < q) (g : Int.gcd q b = 1) (h : q ∣ r * b - t) : IsN H q (.int r) t b
theorem IsN.mono {H H' : Hp} {q : Int} {v : V} {t b : Int} (h : IsN H q v t b) (s : Same H H') : IsN H' q v t b := by
  cases h with
  | frac e l hb h => exact .frac (s _ _ e) l hb h
  | rem q2 h0 h1 g h => exact .rem q2 h0 h1 g h
theorem NumAt.isN {B : Nat} {H : Hp} {q : Int} {v : V} {x m : Int} (h : NumAt B H q v x m) (hq : WheelN q) : IsN H q v x m := by
  cases h with
  | frac e l bx bm => exact .frac e l (by have := l.pos; omega) rfl
  | rem h0 h1 h2 =>
    have q2 : 2 ≤ q := (hq.resolve_left (by omega)).1
    exact .rem q2 h0 h1 (by rw [Int.gcd_one_right]) ⟨0, by omega⟩
theorem mul_cancel {a b c : Int} (h : c ≠ 0) (e : a * c = b * c) : a = b := Int.eq_of_mul_eq_mul_right h e
theorem cop_cong {q c t : Int} (h : Int.gcd q c = 1) (d : q ∣ c - t) : Int.gcd q t = 1 := by
  refine cop_of fun e h1 h2 => cop_dvd h h1 ?_
  have z := Int.dvd_add (Int.dvd_trans h1 d) h2
  rw [show c - t + t = c by omega] at z
  exact z
theorem dvd_cop {q a c : Int} (q2 : 2 ≤ q) (g : Int.gcd q c = 1) (d : q ∣ a * c) : q ∣ a := by
  have qq : ((q.natAbs : Nat) : Int) = q := by omega
  have z := cut_dvd (a := a) (b := q) (c := c) (d := q.natAbs) g (by rw [qq]; exact Int.dvd_refl q) (by rw [qq]; exact d)
  rw [qq] at z
  exact z
theorem mod_wit (a q : Int) : ∃ w, a % q + q * w = a := ⟨a / q, Int.emod_add_mul_ediv a q⟩
section
variable {C N z : Addr} {q : Int} {v u : V} {t b t' b' : Int} {H : Hp} {Q : VK} {E : XK}
theorem no_ov {b : Int} (nz : ¬ q ∣ b) : ¬ NoOv q b := fun h => nz (by
    unfold NoOv at h
    by_cases z : q = 0
    · rw [if_pos z] at h; rw [h]; exact Int.dvd_zero q
    · rw [if_neg z] at h; exact Int.dvd_of_emod_eq_zero h)
/-- as much worth: the same number -/
theorem low_same {u d u' d' : Int} (l : Low u d) (l' : Low u' d') (e : u * d' = u' * d) : u = u' ∧ d = d' := by
  have h1 := l.pos
  have h2 := l'.pos
  have a := (low_le l (show 0 < d' by omega) e).1
  have c := (low_le l' (show 0 < d by omega) e.symm).1
  have dd : d = d' := by omega
  subst dd
  exact ⟨mul_cancel (show d ≠ 0 by omega) e, rfl⟩
theorem isN_alike (hv : IsN H q v t b) (hu : IsN H q u t' b') (e : t * b' = t' * b) :
    (∃ p p' x m, v = .ref p ∧ u = .ref p' ∧ H p = some (.tup [.int x, .int m]) ∧ H p' = some (.tup [.int x, .int m])) ∨ (∃ i : Int, v = .int i ∧ u = .int i) := by
  cases hv with
  | frac e1 l hb h =>
    cases hu with
    | frac e2 l' hb' h' =>
      rename_i p x m p' y n
      have z : x * n = y * m := by
        refine mul_cancel (c := b * b') (Int.mul_ne_zero hb hb') ?_
        grind
      obtain ⟨rfl, rfl⟩ := low_same l l' z
      exact .inl ⟨_, _, _, _, rfl, rfl, e1, e2⟩
    | rem q2 h0 h1 g h => omega
  | rem q2 h0 h1 g h =>
    cases hu with
    | frac e' l' hb' h' => omega
    | rem q2' h0' h1' g' h' =>
      rename_i i j
      have d : q ∣ (i - j) * (b * b') := by
        obtain ⟨k1, e1⟩ := h
        obtain ⟨k2, e2⟩ := h'
        exact ⟨k1 * b' - k2 * b, by grind⟩
      have d2 := dvd_cop q2 (cop_mul g g') d
      have ij : i = j := by
        obtain ⟨k, ek⟩ := d2
        by_cases z : k = 0
        · rw [z, Int.mul_zero] at ek; omega
        · exfalso
          rcases Int.lt_or_gt_of_ne z with z | z
          · have := Int.mul_le_mul_of_nonneg_left (show k ≤ -1 by omega) (show 0 ≤ q by omega)
            omega
          · have := Int.mul_le_mul_of_nonneg_left (show 1 ≤ k by omega) (show 0 ≤ q by omega)
            omega
      subst ij
      exact .inr ⟨_, rfl, rfl⟩
theorem eqL_self (x m : Int) : eqL [V.int x, V.int m] [V.int x, V.int m] = true := by
  show ((x == x) && ((m == m) && true)) = true
  simp
end
/-! bounds -/
def Bd (k : Nat) (x : Int) : Prop := x.natAbs ≤ 10 ^ k
theorem Bd.mul {i j : Nat} {x y : Int} (h1 : Bd i x) (h2 : Bd j y) : Bd (i + j) (x * y) := by
  unfold Bd at *
  rw [Int.natAbs_mul, Nat.pow_add]
  exact Nat.mul_le_mul h1 h2
theorem pow_both (i j : Nat) : 10 ^ i + 10 ^ j ≤ 10 ^ (i + j + 1) := by
  have h1 : 1 ≤ 10 ^ i := Nat.one_le_pow _ _ (by decide)
  have h2 : 1 ≤ 10 ^ j := Nat.one_le_pow _ _ (by decide)
  have h3 : 10 ^ i ≤ 10 ^ i * 10 ^ j := Nat.le_mul_of_pos_right _ h2
  have h4 : 10 ^ j ≤ 10 ^ i * 10 ^ j := Nat.le_mul_of_pos_left _ h1
  rw [Nat.pow_succ, Nat.pow_add]
  omega
theorem Bd.add {i j : Nat} {x y : Int} (h1 : Bd i x) (h2 : Bd j y) : Bd (i + j + 1) (x + y) := by
  have := pow_both i j
  unfold Bd at *
  omega
theorem Bd.sub {i j : Nat} {x y : Int} (h1 : Bd i x) (h2 : Bd j y) : Bd (i + j + 1) (x - y) := by
  have := pow_both i j
  unfold Bd at *
  omega
theorem Bd.neg {i : Nat} {x : Int} (h1 : Bd i x) : Bd i (-x) := by
  unfold Bd at *
  rw [Int.natAbs_neg]
  exact h1
theorem Bd.big {i : Nat} {x : Int} (h : Bd i x) (hi : i ≤ 300) : Big x := Nat.le_trans h (Nat.pow_le_pow_right (by decide) hi)
theorem bd1 : Bd 0 1 := by unfold Bd; decide
/-- a number of a world, its parts of at most nine figures -/
structure N9 (H : Hp) (q : Int) (v : V) (x m : Int) : Prop where
  n : IsN H q v x m
  bx : Bd 9 x
  bm : Bd 9 m
theorem N9.mono {H H' : Hp} {q : Int} {v : V} {x m : Int} (h : N9 H q v x m) (s : Same H H') : N9 H' q v x m := ⟨h.n.mono s, h.bx, h.bm⟩
theorem NumAt.far {B : Nat} {H H' : Hp} {q : Int} {v : V} {x m : Int} {D : Addr} {ys : List V} (h : NumAt B H q v x m) (eD : H D = some (.lst ys)) (k : ∀ b o, b ≠ D → H b = some o → H' b = some o) : NumAt B H' q v x m := by
  cases h with
  | frac e l bx bm =>
    refine .frac (k _ _ (fun z => ?_) e) l bx bm
    rw [z, eD] at e
    cases e
  | rem h0 h1 h2 => exact .rem h0 h1 h2
theorem three {ys : List V} {P : Nat → V → Prop} (h : ys.length = 3) (k : ∀ i y, ys[i]? = some y → P i y) : ∃ a b c, ys = [a, b, c] ∧ P 0 a ∧ P 1 b ∧ P 2 c := by
  match ys, h with
  | [a, b, c], _ => exact ⟨a, b, c, rfl, k 0 a rfl, k 1 b rfl, k 2 c rfl⟩
end My

/-! comprehensions without tests over a known sequence -/
namespace L2
open PySem PySem.Spec PyProof.Rows
structure JSeq (J : It) (xs : List V) (H1 : Hp) : Prop where
  go : ∀ i Hc, Same H1 Hc → i < xs.length → J.go i Hc
  yld : ∀ i Hc x H', Same H1 Hc → J.yld i Hc x H' → H' = Hc ∧ (i < xs.length → xs[i]? = some x)
  stop : ∀ i Hc, Same H1 Hc → xs.length ≤ i → J.stop i Hc
theorem jseq_list {K : PySem.W.Frag} {a : Addr} {xs : List V} {H1 : Hp} (h : SqL K H1 a xs) : JSeq (Itl K a) xs H1 where
  go := fun i Hc s hi => ⟨xs, xs[i], s.seq h, by simp [hi]⟩
  yld := fun i Hc x H' s y => ⟨y.1, fun _ => y.2 xs (s.seq h)⟩
  stop := fun i Hc s hi => ⟨xs, s.seq h, hi⟩
theorem jseq_rng {lo : Int} {n : Nat} {H1 : Hp} : JSeq (Itr lo n) ((List.range n).map fun i : Nat => V.int (lo + (i : Int))) H1 where
  go := fun i Hc s hi => by
    have hi : i < n := by simpa using hi
    exact hi
  yld := fun i Hc x H' s y => ⟨y.1, fun hi => by
    have hi : i < n := by simpa using hi
    rw [y.2]
    simp [hi]⟩
  stop := fun i Hc s hi => by
    have hi : n ≤ i := by simpa using hi
    exact hi
theorem same_but {H H' : Hp} {D : Addr} {o : HO} (s : Same H H') (n : H D = none) : Same H (upd H' D o) := fun b u e => by
  rw [upd_ne (ne_of_none e n)]
  exact s b u e
theorem comp_seq {J : It} {xs : List V} {H1 : Hp} {ρσ : St} {te : TE} {D : Addr} {Q : VK} (js : JSeq J xs H1) (nD : H1 D = none) (hn : xs.length < sizeLine)
    (P : Nat → V → Hp → Prop) (mono : ∀ i y H H' ys, P i y H → H D = some (.lst ys) → (∀ b o, b ≠ D → H b = some o → H' b = some o) → P i y H')
    (step : ∀ i x, xs[i]? = some x → ∀ (Hc : Hp) (R : VK), Same H1 Hc → (∃ ys, Hc D = some (.lst ys)) → (∀ y H3, Same Hc H3 → P i y H3 → R y H3) → te (some x :: ρσ) Hc R)
    (fin : ∀ ys Hc, Same H1 Hc → ys.length = xs.length → (∀ i y, ys[i]? = some y → P i y Hc) → Hc D = some (.lst ys) → Q (.ref D) Hc) :
    ∃ W : Nat → Nat → List V → Hp → Prop, (∃ m, W 0 m [] (upd H1 D (.lst []))) ∧
      ∀ i m ys Hc, W i m ys Hc → Hc D = some (.lst ys) ∧ ((J.stop i Hc ∧ Q (.ref D) Hc) ∨ (J.go i Hc ∧ ∀ x H', J.yld i Hc x H' →
        if true = true then te (some x :: ρσ) H' fun y H3 => H3 D = some (.lst ys) ∧ ys.length < sizeLine ∧ ∃ m', m' < m ∧ W (i + 1) m' (ys ++ [y]) (upd H3 D (.lst (ys ++ [y]))) else ∃ m', m' < m ∧ W (i + 1) m' ys H')) := by
  refine ⟨fun i m ys Hc => m = xs.length - i ∧ i ≤ xs.length ∧ Hc D = some (.lst ys) ∧ Same H1 Hc ∧ ys.length = i ∧ ∀ j y, ys[j]? = some y → P j y Hc, ⟨_, rfl, Nat.zero_le _, upd_same, same_but (Same.refl H1) nD, rfl, fun j y e => by simp at e⟩, ?_⟩
  rintro i m ys Hc ⟨rfl, hi, eD, sH, el, hP⟩
  refine ⟨eD, ?_⟩
  by_cases hlt : i < xs.length
  · refine .inr ⟨js.go i Hc sH hlt, fun x H' hy => ?_⟩
    obtain ⟨rfl, hx⟩ := js.yld i Hc x H' sH hy
    rw [if_pos rfl]
    refine step i x (hx hlt) _ _ sH ⟨ys, eD⟩ fun y H3 s3 hp => ?_
    have e3 := s3 _ _ eD
    refine ⟨e3, by omega, xs.length - (i + 1), by omega, rfl, hlt, upd_same, same_but (sH.trans s3) nD, by simp [el], fun j y' e => ?_⟩
    have far : ∀ b o, b ≠ D → H3 b = some o → upd H3 D (.lst (ys ++ [y])) b = some o := fun b o nb e => by rw [upd_ne nb]; exact e
    by_cases hj : j < i
    · have e' : ys[j]? = some y' := by rw [List.getElem?_append_left (by omega)] at e; exact e
      refine mono j y' H' _ ys (hP j y' e') eD fun b o nb e => ?_
      exact far b o nb (s3 _ _ e)
    · have hj : j = i := by
        have := (List.getElem?_eq_some_iff.mp e).1
        simp at this
        omega
      subst hj
      have e' : y' = y := by rw [List.getElem?_append_right (by omega), el, Nat.sub_self] at e; simpa using e.symm
      subst e'
      exact mono _ _ H3 _ ys hp e3 far
  · have e : i = xs.length := by omega
    subst e
    exact .inl ⟨js.stop _ Hc sH (Nat.le_refl _), fin ys Hc sH el hP eD⟩
theorem comp_of {wi : TI} {ρ : St → St} {te : TE} {σ : St} {H : Hp} {Q : VK} {xs : List V} (hwi : ∀ R : It → Hp → Prop, (∀ J H1, Same H H1 → JSeq J xs H1 → R J H1) → wi σ H R) (hn : xs.length < sizeLine)
    (P : Addr → Nat → V → Hp → Prop) (mono : ∀ D i y H H' ys, P D i y H → H D = some (.lst ys) → (∀ b o, b ≠ D → H b = some o → H' b = some o) → P D i y H')
    (step : ∀ D i x, xs[i]? = some x → ∀ (Hc : Hp) (R : VK), Same H Hc → (∃ ys, Hc D = some (.lst ys)) → (∀ y H3, Same Hc H3 → P D i y H3 → R y H3) → te (some x :: ρ σ) Hc R)
    (fin : ∀ D ys Hc, Same H Hc → ys.length = xs.length → (∀ i y, ys[i]? = some y → P D i y Hc) → Hc D = some (.lst ys) → Q (.ref D) Hc) : tComp wi ρ (fun _ H Q => Q true H) te σ H Q := by
  refine hwi _ fun J H1 s1 js => ?_
  intro D nD
  exact comp_seq (ρσ := ρ σ) (te := te) (Q := Q) js nD hn (P D) (mono D) (fun i x hx Hc R sc => step D i x hx Hc R (s1.trans sc)) (fun ys Hc sc => fin D ys Hc (s1.trans sc))
theorem asg_of {te : TE} {g : TG} {D : Ends} {σ : St} {H : Hp} (h : te σ H fun x H1 => g x σ H1 D.nx) : tAsg te g D σ H := h
theorem seq_of {a b : TS} {D : Ends} {σ : St} {H : Hp} (h : a { D with nx := fun σ H => b D σ H } σ H) : tSeq a b D σ H := h
end L2

/-! name = [a comprehension]: the list is stored ahead of the block's end -/
namespace L2
open PySem PySem.Spec PyProof.Rows
section
variable {X : Cx} {N : List Str} {scope : Scope} {cl : List (Str × Addr)} {x : Str} {px pos : Pos} {iter elt : Expr} {ifs : List Expr} {wi : TI} {ρ : St → St} {tt : TT} {te : TE}
theorem ps_comp {y : Str} {py spos : Pos} {i0 : Nat} (B : Blk X N scope cl x ρ) (hc : X.calm = true) (hN : X.N.Nodup) (hi0 : X.N[i0]? = some y) (hy : Loc X.env.scope y) (hi : PI X (.Name x px) iter wi) (ht : ∀ s₃ H₃ fp, PTs (X.blk N scope cl s₃ H₃ fp) ifs tt) (he : ∀ s₃ H₃ fp, PE (X.blk N scope cl s₃ H₃ fp) elt te)
    (hsw : swapsWith (.ListComp elt [⟨.Name x px, iter, ifs, 0⟩] scope pos) (some (.Name y py)) spos.line X.env = pure true := by rfl) (hf : X.fn y = true ∨ X.env.scope.names.lookup y = some .local := by first | exact .inl rfl | exact .inr rfl | assumption)
    (hs : ∀ x, foldedSetIterable iter X.env x = pure x := by intro _; rfl) : PS X (.Assign [.Name y py] (.ListComp elt [⟨.Name x px, iter, ifs, 0⟩] scope pos) spos) (tAsg (tComp wi ρ tt te) (gName i0)) := by
  intro pins s σ H D0 I h
  have h : tComp wi ρ tt te σ H (fun v H1 => D0.nx (σ.set i0 (some v)) H1) := h
  rw [exec_Assign_Name_used _ _ _ _ hsw]
  refine wpAny_bind (wpAny_standAt (wpAny_bind ?_))
  show wpAny _ X.A (do let _ ← comprehension (.ListComp elt [⟨.Name x px, iter, ifs, 0⟩] scope pos) scope X.env _ (newList []) false (eval iter X.env) (some (assign (.Name y py) X.env))) _ _ s
  refine wpAny_bind (wpAny_mono (Q := fun _ s' => SP X pins D0 .next s') ?_ (fun _ s' hq => wpAny_pure (wpAny_pure hq)) fun _ _ e => e)
  refine wpAny_comprehension_free (use := some (assign (.Name y py) X.env)) rfl hs B.clos B.kind B.names (thn (hi pins s σ H _ I h) fun v s1 h1 => thn h1 fun itv s2 h2 => ?_)
  obtain ⟨it, fp, tn, J, H2, rfl, I2, T, st2, f2, q2⟩ := h2
  -- the list that is told
  have nD : H2 s2.heap.objs.size = none := I2.hok.fresh (Nat.le_refl _)
  obtain ⟨W, ⟨m0, w0⟩, turn⟩ := q2 _ nD
  refine wpAny_newObj_type (wpAny_newFunctionEnv B.nocell (by intro y hy; simp at hy) (fun h₁ hns₁ hsb₁ => ?_) B.kind)
  dsimp only at hns₁ hsb₁ ⊢
  generalize hD : s2.heap.objs.size = D at nD w0 turn hns₁ hsb₁ ⊢
  generalize hS3 : ({ s2 with heap := s2.heap.push { cls := .type "list", dict := none, data := .seq ([] : List Value).toArray } } : Shared) = s3
  have I3 : Inv X pins σ (upd H2 D (.lst [])) s3 := by
    subst hD hS3
    exact I2.laid (t' := s2.toks) (fun b u e => Heap.get?_push_of_some _ e) (Nat.le_refl _) ⟨Nat.zero_le _, [], _, .nil, Heap.get?_push_size _ rfl⟩
  have e3 : s3.heap = s2.heap.push { cls := .type "list", dict := none, data := .seq ([] : List Value).toArray } := by rw [← hS3]
  have k23 : ∀ b o, s2.heap.get? b = some o → s3.heap.get? b = some o := fun b o e => by rw [e3]; exact Heap.get?_push_of_some _ e
  rw [← e3] at hns₁ hsb₁ ⊢
  have below : ∀ b o, s3.heap.get? b = some o → b ≠ s3.heap.objs.size := fun b o e => Nat.ne_of_lt (Heap.lt_size e)
  have k34 : ∀ b o, s3.heap.get? b = some o → h₁.get? b = some o := fun b o e => hsb₁.extBut b o (below b o e) (Heap.get?_push_of_some _ e)
  have fpl : ∀ b ∈ fp, ∃ o, s2.heap.get? b = some o ∧ ∀ v, o.data ≠ .cell v := T.obj _ _ st2
  have nfD : ∀ b ∈ fp, b ≠ D := fun b hb z => by
    obtain ⟨o, e, _⟩ := fpl b hb
    rw [z, ← hD] at e
    exact absurd (Heap.lt_size e) (Nat.lt_irrefl _)
  have cl_of : ∀ y c, cl.lookup y = some c → X.env.cells.lookup y = some c := fun y c e => B.sub (y, c) (PySem.mem_of_lookup e)
  have stkf := I3.stkFree
  -- the block at its start
  have okB : (X.blk N scope cl s3 (upd H2 D (.lst [])) fp).Ok := by
    refine ⟨I.ok.mod, B.kind, I.ok.glob, I.ok.blt, Nat.le_refl _, fun a b c e1 e2 => I.ok.inj a b c (cl_of a c e1) (cl_of b c e2), fun y hy => B.has y hy, (fun _ _ z _ => absurd z Bool.false_ne_true), (fun _ => I.ok.hd hc), I.ok.frames, .inl rfl, fun b hb => ⟨?_, fun y c e z => ?_⟩, fun b o e => ?_, Nat.le_trans I.ok.bsz I3.sz, fun b o e hb => ?_, fun b hb z => ?_, I3.stack, stkf⟩
    · obtain ⟨o, e, _⟩ := fpl b hb
      exact below b o (k23 b o e)
    · exact (f2 b hb).2.2.2.2.1 y c (cl_of y c e) z
    · exact I3.bs b o e
    · rcases (f2 b hb).2.2.2.1 with z | z
      · exact I.ok.noex b o e z
      · exact absurd (Nat.lt_of_lt_of_le (Heap.lt_size e) (Nat.le_trans I.ok.bsz z)) (Nat.lt_irrefl _)
    · rcases List.mem_cons.mp (I3.stkSub b z) with z | z
      · exact (f2 b hb).2.1 z
      · exact (f2 b hb).2.2.1 z
  have IB : ∀ tk : Nat, Inv (X.blk N scope cl s3 (upd H2 D (.lst [])) fp) [] (none :: ρ σ) (upd H2 D (.lst [])) { s3 with heap := h₁, toks := tk } := fun tk => by
    refine ⟨okB, rfl, I3.bare, Un.kept k34, ⟨_, hns₁, fun j y v e1 e2 e3 => ?_⟩, fun y c e => ?_, ?_, fun y c e => I3.freeC y c (cl_of y c e), (fun p hp => nomatch hp), I3.hok.kept k34, ?_⟩
    · cases j with
      | zero => cases e2
      | succ j =>
        obtain ⟨i, y', a1, a2, a3, a4, a5, a6⟩ := B.rho σ j v e2
        have e1' : N[j + 1]? = some y := e1
        rw [e1'] at a1
        cases a1
        obtain ⟨m, hn, hl⟩ := I3.loc
        obtain ⟨u, r, l⟩ := hl i y v a2 a3 a4
        refine ⟨u, r, .inr ⟨a6, ?_⟩⟩
        obtain ⟨c, ec⟩ := B.has y a6
        rcases l with ⟨k, _⟩ | ⟨_, c', ec', z⟩
        · rcases a5 with q | q <;> (rw [k] at q; cases q)
        · have := cl_of y c ec
          rw [this] at ec'
          cases ec'
          obtain ⟨o, ho, hd⟩ := z
          exact ⟨c, ec, o, k34 _ _ ho, hd⟩
    · obtain ⟨v, o, ho, hd⟩ := I3.cell y c (cl_of y c e)
      exact ⟨v, o, k34 _ _ ho, hd⟩
    · exact I3.hok.fresh (Nat.le_refl _)
    · show (none :: ρ σ).length = N.length
      rw [List.length_cons]
      exact B.len σ I.len
  -- behind the block
  have below3 : ∀ b o, s3.heap.get? b = some o → b ≠ s3.heap.objs.size := below
  have fin : ∀ {σ' : St} {H' : Hp} {s' : Shared}, Inv (X.blk N scope cl s3 (upd H2 D (.lst [])) fp) [] σ' H' s' → D0.nx (σ.set i0 (some (.ref D))) H' → compPost (model X.prog X.w) X.A X.xe (some (assign (.Name y py) X.env)) (fun _ s' => SP X pins D0 .next s') (.ref D) s3.heap.objs.size (.ok .next) s' := fun {σ' H' s'} J q => by
    obtain ⟨m, hn, _⟩ := J.loc
    have hn : s'.heap.Ns s3.heap.objs.size m := hn
    have JC : H' s3.heap.objs.size = none := J.free
    have u1 : Un (frs X.stack) fp (upd H2 D (.lst [])) H' s3.heap s'.heap := by
      refine ⟨fun b o e n hb hx => J.base.keep b o e n hb hx, fun b o e n hb hx => J.base.slot b o e n hb hx, J.base.free, fun b o e hx => J.base.there b o e hx, J.base.tups, J.base.frzs, J.base.tbls⟩
    have IX : Inv X pins σ H' s' := I3.call' (ch := fp) (J.os) u1 J.hok J.bare fun b hb => by
      obtain ⟨g0, g1, g2, g3, g4, g5⟩ := f2 b hb
      exact ⟨g3, g1, g4, g5⟩
    have nl : X.env.locals ≠ s3.heap.objs.size := by
      obtain ⟨m3, ⟨o3, _, _, e3, _⟩, _⟩ := I3.loc
      exact below3 _ _ e3
    have nc : ∀ z c, X.env.cells.lookup z = some c → c ≠ s3.heap.objs.size := fun z c e => by
      obtain ⟨v3, o3, e3, _⟩ := I3.cell z c e
      exact below3 _ _ e3
    refine wpAny_assign_Name (store_ok2 (v := .ref D) IX hN hi0 hy rfl (fun s'' I'' hsb => ?_) hf)
    obtain ⟨a, hsb, ha⟩ := hsb
    have na : s3.heap.objs.size ≠ a := by
      rcases ha with rfl | e
      · exact fun z => nl z.symm
      · exact fun z => nc _ _ e z.symm
    refine ⟨m, hn.sameBut hsb na, fun h' hs' => ⟨σ.set i0 (some (.ref D)), H', ?_, q⟩⟩
    have u2 : Un (frs X.stack) [s3.heap.objs.size] H' H' s''.heap h' := by
      refine ⟨fun b o e n hb hx => (hs'.2 b (by simpa using hx)).trans e, fun b o e n hb hx => ⟨o.slots, (hs'.2 b (by simpa using hx)).trans e⟩, fun b o e n hx => n, fun b o e hx => ⟨o, (hs'.2 b (by simpa using hx)).trans e⟩, fun b xs z => z, fun b o u z => z, fun b ps z => ⟨#[], by simpa using z⟩⟩
    have hokE : HOk X.prog X.w H' h' := fun b u e => by
      refine (I''.hok b u e).stay (fun c v hc z => (hs'.2 c fun y => ?_).trans z) (fun _ z => z) fun _ _ z => z
      have y' : c = s3.heap.objs.size := y
      rcases hc with hc | hc
      · rw [← hc, y', JC] at e
        cases e
      · rw [y', JC] at hc
        cases hc
    refine I''.call' (s' := { s'' with heap := h' }) (ch := [s3.heap.objs.size]) rfl u2 hokE I''.bare fun b hb => ?_
    have eb : b = s3.heap.objs.size := by simpa using hb
    subst eb
    refine ⟨.inr I3.sz, fun z => nl z.symm, fun z c e => nc z c e, fun p hp => ?_⟩
    exact below3 _ _ (I3.pin p hp).1
  have stat : ∀ {H' : Hp}, (∀ b ∈ fp, H' b = none) → ∀ b ∈ fp, FpOk (X.blk N scope cl s3 (upd H2 D (.lst [])) fp) [] H' b := fun hn b hb => by
    refine ⟨hn b hb, ?_, ?_, .inl hb, fun y c e z => (f2 b hb).2.2.2.2.1 y c (cl_of y c e) z, fun p hp => nomatch hp⟩
    · obtain ⟨o, e, _⟩ := fpl b hb
      exact below b o (k23 b o e)
    · exact okB.exfs b hb
  have loop : ∀ tk : Nat, codeAny (model X.prog X.w) X.A (.compLoop (.ListComp elt [⟨.Name x px, iter, ifs, 0⟩] scope pos) 0 (.ref it) (.ref D) (compEnvC scope cl s3.heap.objs.size X.env))
      (compPost (model X.prog X.w) X.A X.xe (some (assign (.Name y py) X.env)) (fun _ s' => SP X pins D0 .next s') (.ref D) s3.heap.objs.size) { s3 with heap := h₁, toks := tk } := fun tk => by
    refine codeAny_compLoop_tests (fun n s' => ∃ i ys o H', Inv (X.blk N scope cl s3 (upd H2 D (.lst [])) fp) [] (o :: ρ σ) H' s' ∧ tn i s'.heap ∧ (∀ b ∈ fp, H' b = none) ∧ W i n ys H') ?_ m0
      ⟨0, [], none, _, IB tk, T.keep _ _ _ st2 fun b hb o e => k34 _ _ (k23 _ _ e), fun b hb => by rw [upd_ne (nfD b hb)]; exact (f2 b hb).1, w0⟩
    rintro n s4 ⟨i, ys, o, H4, I4, st4, fr4, w4⟩
    obtain ⟨hD4, hturn⟩ := turn i n ys H4 w4
    rcases hturn with ⟨stop, qn⟩ | ⟨go, step⟩
    · refine wpAny_mono (T.done (X.blk N scope cl s3 (upd H2 D (.lst [])) fp) rfl rfl rfl hc i [] s4 _ H4 (fun _ _ => False) I4 (stat fr4) st4 stop) (fun r s5 ⟨hr, I5⟩ => ?_) fun _ _ z => z.elim
      subst hr
      exact fin I5 qn
    · refine wpAny_mono (T.item (X.blk N scope cl s3 (upd H2 D (.lst [])) fp) rfl rfl rfl hc i [] s4 _ H4 (fun _ _ => False) I4 (stat fr4) st4 go) (fun r s5 ⟨u, hr, h5⟩ => ?_) fun _ _ z => z.elim
      subst hr
      have z : letOwnedTupleGo (.Name x px) (.ref it) u = pure () := rfl
      rw [z] at h5
      show wpAny _ _ ((pure () : Sem Unit) >>= fun _ => assign (.Name x px) (compEnvC scope cl s3.heap.objs.size X.env) u) _ _ s5
      refine wpAny_bind (wpAny_mono h5 (fun _ s5 ⟨y, H5, I5, r5, y5, st5, fr5⟩ => ?_) fun _ _ z => z.elim)
      have I5' := I5.pinned (stat fr5) (T.obj _ _ st5)
      have pg : PG (X.blk N scope cl s3 (upd H2 D (.lst [])) fp) (.Name x px) (gName 0) := pg_name (i := 0) B.nd B.n0 (.inl (lookup_relabel_local B.hx)) (.inr (lookup_relabel_local B.hx))
      have again : ∀ {σ7 : St} {H7 : Hp} {s7 : Shared}, Inv (X.blk N scope cl s3 (upd H2 D (.lst [])) fp) ([] ++ pinsAt fp s5.heap) σ7 H7 s7 → Inv (X.blk N scope cl s3 (upd H2 D (.lst [])) fp) [] σ7 H7 s7 ∧ tn (i + 1) s7.heap ∧ ∀ b ∈ fp, H7 b = none := fun {σ7 H7 s7} I7 => by
        refine ⟨I7.unpinned, T.keep _ _ _ st5 fun b hb o e => (I7.pin (b, o) (List.mem_append_right _ (List.mem_append_right _ (mem_pinsAt hb e)))).1, fun b hb => ?_⟩
        obtain ⟨o, e, d⟩ := T.obj _ _ st5 b hb
        exact (I7.pin (b, o) (List.mem_append_right _ (List.mem_append_right _ (mem_pinsAt hb e)))).2.1
      refine wpAny_mono (pg _ s5 _ H5 y u (fun σ2 H6 => σ2 = some y :: ρ σ ∧ H6 = H5) I5' r5 ⟨rfl, rfl⟩) (fun _ s6 ⟨σ6, H6, I6, q6⟩ => ?_) fun _ _ z => z.elim
      obtain ⟨rfl, rfl⟩ := q6
      have hstep := step y _ y5
      have tests : ∀ {tt' : TT}, PTs (X.blk N scope cl s3 (upd H2 D (.lst [])) fp) ifs tt' → ∀ {R : Bool → Hp → Prop}, tt' (some y :: ρ σ) H6 R → wpAny (model X.prog X.w) X.A
          (forIn ifs true fun c r => if r = true then do let ok ← isTrue c (compEnvC scope cl s3.heap.objs.size X.env) (eval c (compEnvC scope cl s3.heap.objs.size X.env)); pure (ForInStep.yield ok) else pure (ForInStep.yield r))
          (fun ok s7 => ∃ H7, Inv (X.blk N scope cl s3 (upd H2 D (.lst [])) fp) ([] ++ pinsAt fp s5.heap) (some y :: ρ σ) H7 s7 ∧ R ok H7) (fun _ _ => False) s6 := fun {tt'} p {R} hR => by
        cases p with
        | nil => exact wpAny_tests_nil ⟨_, I6, hR⟩
        | one p => exact wpAny_tests_one (p _ s6 _ _ _ I6 hR)
      refine wpAny_mono (tests (ht s3 _ fp) hstep) (fun ok s7 ⟨H7, I7, q7⟩ => ?_) fun _ _ z => z.elim
      cases ok with
      | false =>
        obtain ⟨m', hm', w7⟩ := q7
        obtain ⟨a1, a2, a3⟩ := again I7
        exact ⟨m', hm', i + 1, ys, _, H7, a1, a2, a3, w7⟩
      | true =>
        refine wpAny_mono (he s3 _ fp _ s7 _ H7 _ I7 q7) (fun ev s8 ⟨z, H8, I8, r8, hD8, hz, m', hm', w8⟩ => ?_) fun _ _ z => z.elim
        refine wpAny_mono (mt_append (X := X.blk N scope cl s3 (upd H2 D (.lst [])) fp) _ s8 _ H8 (.ref D) [z] (.ref D) [ev] (fun _ H9 => H9 = upd H8 D (.lst (ys ++ [z]))) I8 rfl (.cons r8 .nil) ⟨D, ys, z, rfl, rfl, hD8, hz, rfl⟩) (fun _ s9 ⟨_, H9, I9, _, q9⟩ => ?_) fun _ _ z => z.elim
        subst q9
        obtain ⟨a1, a2, a3⟩ := again I9
        exact ⟨m', hm', i + 1, ys ++ [z], _, _, a1, a2, a3, w8⟩
  have start := loop (s3.toks + ([] : List (Str × Value)).length)
  have es : ({ s3 with heap := h₁, toks := s3.toks + ([] : List (Str × Value)).length } : Shared) = { s2 with heap := h₁, toks := s2.toks + ([] : List (Str × Value)).length } := by rw [← hS3]
  rw [es] at start
  exact codeAny_compStart_list start (T.self _ 0 _ _ _ (T.keep _ _ _ st2 fun b hb o e => k34 _ _ (k23 _ _ e)) start)
end
end L2

/-! for a, b in zip(one, other): two lists walked side by side -/
namespace L2
open PySem PySem.Spec PyProof.Rows
def Itz (K : PySem.W.Frag) (l1 l2 : Addr) : It :=
  ⟨fun i H => ∃ xs ys x y, SqL K H l1 xs ∧ SqL K H l2 ys ∧ xs[i]? = some x ∧ ys[i]? = some y,
   fun i H v H' => ∃ T x y, H T = none ∧ v = .ref T ∧ H' = upd H T (.tup [x, y]) ∧ ∀ xs ys, SqL K H l1 xs → SqL K H l2 ys → xs[i]? = some x ∧ ys[i]? = some y,
   fun i H => ∃ xs ys, SqL K H l1 xs ∧ SqL K H l2 ys ∧ (xs.length ≤ i ∨ ys.length ≤ i)⟩
theorem turn_zip {P : Program} {w : World} {K : PySem.W.Frag} {elts : List Expr} {k : Nat} {pos : Pos} {z TI TO i1 i2 l1 l2 : Addr} (D : ZipApart z TI TO i1 i2 l1 l2) : Turn P w K (.Tuple elts k pos) (Itz K l1 l2) [z, TI, TO, i1, i2] z
    (fun i h => IsZip h z TI TO .none ∧ IsPair h TI (.ref i1) (.ref i2) ∧ (∃ a b, IsPair h TO a b) ∧ h.IsListIter i1 l1 i ∧ h.IsListIter i2 l2 i) where
  mem := by simp
  obj := fun i h st b hb => by
    obtain ⟨hz, hTI, ⟨a, c, hTO⟩, h1, h2⟩ := st
    simp only [List.mem_cons, List.not_mem_nil, or_false] at hb
    rcases hb with rfl | rfl | rfl | rfl | rfl
    · exact ⟨_, hz, fun v z => by cases z⟩
    · exact ⟨_, hTI, fun v z => by cases z⟩
    · exact ⟨_, hTO, fun v z => by cases z⟩
    · obtain ⟨o, e, c, d⟩ := h1
      exact ⟨o, e, fun v z => by rw [d] at z; cases z⟩
    · obtain ⟨o, e, c, d⟩ := h2
      exact ⟨o, e, fun v z => by rw [d] at z; cases z⟩
  keep := fun i h h' st k => by
    obtain ⟨hz, hTI, ⟨a, c, hTO⟩, h1, h2⟩ := st
    exact ⟨k _ (by simp) _ hz, k _ (by simp) _ hTI, ⟨a, c, k _ (by simp) _ hTO⟩, h1.at fun o e => k _ (by simp) o e, h2.at fun o e => k _ (by simp) o e⟩
  item := by
    intro X hP hw hK hc i pins s σ H E I hf st hg
    subst hP hw hK
    obtain ⟨hz, hTI, ⟨a, c, hTO⟩, h1, h2⟩ := st
    obtain ⟨xs, ys, x, y, hq1, hq2, hx, hy⟩ := hg
    obtain ⟨its, rv, p, _⟩ := I.list hq1
    obtain ⟨jts, rv', p', _⟩ := I.list hq2
    obtain ⟨u, hu, ru⟩ := rv.get hx
    obtain ⟨u', hu', ru'⟩ := rv'.get hy
    refine wpAny_pyNext_zip_item D hz hTI hTO h1 h2 p.isList p'.isList (x := u) (y := u') (by simpa using hu) (by simpa using hu') fun h' g1 g2 g3 g4 g5 g6 g7 => ⟨_, rfl, ?_⟩
    refine wpAny_letOwnedTupleGo_zip g1 fun h'' q1 sb => ?_
    have hfr : H s.heap.objs.size = none := I.hok.fresh (Nat.le_refl _)
    have lt : ∀ b o, s.heap.get? b = some o → b ≠ s.heap.objs.size := fun b o e => Nat.ne_of_lt (Heap.lt_size e)
    have keep : ∀ b o, b ∉ [z, TI, TO, i1, i2] → s.heap.get? b = some o → h''.get? b = some o := fun b o nb e => by
      simp only [List.mem_cons, List.not_mem_nil, or_false, not_or] at nb
      exact sb.extBut _ _ nb.1 (g7 b o nb.1 nb.2.2.1 nb.2.2.2.1 nb.2.2.2.2 e)
    have zlt : z ≠ s.heap.objs.size := lt _ _ hz
    have pT : IsPair h'' s.heap.objs.size u u' := sb.extBut _ _ zlt.symm g5
    have upn : ∀ {b : Addr} {o : HO} (e : H b = some o), upd H s.heap.objs.size (.tup [x, y]) b = some o := fun e => by rw [upd_ne (ne_of_none e hfr)]; exact e
    have hok : HOk X.prog X.w (upd H s.heap.objs.size (.tup [x, y])) h'' := fun b o e => by
      by_cases hb : b = s.heap.objs.size
      · subst hb
        rw [upd_same] at e
        cases e
        exact ⟨by show 2 ≤ sizeLine; decide, [u, u'], .cons ru (.cons ru' .nil), ⟨_, pT, rfl, _, rfl⟩⟩
      · rw [upd_ne hb] at e
        refine (I.hok b o e).stay (fun c v hc' q => keep c v (fun m => ?_) q) (fun c q => upn q) fun c xs q => upn q
        have nn := (hf c m).1
        rcases hc' with rfl | hc'
        · rw [nn] at e; cases e
        · rw [nn] at hc'; cases hc'
    have u1 : Un (frs X.stack) [z, TI, TO, i1, i2] H (upd H s.heap.objs.size (.tup [x, y])) s.heap h'' :=
      ⟨fun b o e n _ hx => keep b o hx e, fun b o e n _ hx => ⟨o.slots, keep b o hx e⟩, fun b o e n hx => by rw [upd_ne (lt b o e)]; exact n, fun b o e hx => ⟨o, keep b o hx e⟩, fun b xs e => upn e, fun b o u e => upn e, fun b ps e => ⟨#[], by rw [upn e]; simp⟩⟩
    refine ⟨.ref s.heap.objs.size, upd H s.heap.objs.size (.tup [x, y]), I.call' (s' := { s with heap := h'' }) (ch := [z, TI, TO, i1, i2]) rfl u1 hok I.bare (fun b hb => ?_), rfl, ⟨_, x, y, hfr, rfl, rfl, fun as bs ha hb => ⟨by rw [I.list_inj ha hq1]; exact hx, by rw [I.list_inj hb hq2]; exact hy⟩⟩, ?_, fun b hb => ?_⟩
    · obtain ⟨f0, f1, f2, f3, f4, f5⟩ := hf b hb
      exact ⟨f3, f1, f4, f5⟩
    · exact ⟨q1, sb.extBut _ _ D.TIz (g7 _ _ D.TIz D.TITO D.TIi1 D.TIi2 hTI), ⟨_, _, sb.extBut _ _ D.TOz g2⟩, g3.extBut sb.extBut D.i1z, g4.extBut sb.extBut D.i2z⟩
    · have nb : b ≠ s.heap.objs.size := by
        simp only [List.mem_cons, List.not_mem_nil, or_false] at hb
        rcases hb with rfl | rfl | rfl | rfl | rfl
        · exact lt _ _ hz
        · exact lt _ _ hTI
        · exact lt _ _ hTO
        · obtain ⟨o, e, _⟩ := h1; exact lt _ _ e
        · obtain ⟨o, e, _⟩ := h2; exact lt _ _ e
      rw [upd_ne nb]
      exact (hf b hb).1
  done := by
    intro X hP hw hK hc i pins s σ H E I hf st hg
    subst hP hw hK
    obtain ⟨hz, hTI, ⟨a, c, hTO⟩, h1, h2⟩ := st
    obtain ⟨xs, ys, hq1, hq2, hx⟩ := hg
    obtain ⟨its, rv, p, _⟩ := I.list hq1
    obtain ⟨jts, rv', p', _⟩ := I.list hq2
    have hl := rv.length
    have hl' := rv'.length
    refine wpAny_pyNext_zip_end (I.ok.hd hc) D hz hTI hTO h1 h2 p.isList p'.isList (hx.imp (fun h => by simp; omega) fun h => by simp; omega) fun h' g => ⟨rfl, ?_⟩
    have keep : ∀ b o, b ∉ [z, TI, TO, i1, i2] → s.heap.get? b = some o → h'.get? b = some o := fun b o nb e => by
      simp only [List.mem_cons, List.not_mem_nil, or_false, not_or] at nb
      exact g b o nb.1 nb.2.2.1 nb.2.2.2.1 nb.2.2.2.2 e
    have hok : HOk X.prog X.w H h' := fun b o e => by
      refine (I.hok b o e).stay (fun c v hc' q => keep c v (fun m => ?_) q) (fun c q => q) fun c xs q => q
      have nn := (hf c m).1
      rcases hc' with rfl | hc'
      · rw [nn] at e; cases e
      · rw [nn] at hc'; cases hc'
    have u1 : Un (frs X.stack) [z, TI, TO, i1, i2] H H s.heap h' :=
      ⟨fun b o e n _ hx => keep b o hx e, fun b o e n _ hx => ⟨o.slots, keep b o hx e⟩, fun b o e n hx => n, fun b o e hx => ⟨o, keep b o hx e⟩, fun b xs e => e, fun b o u e => e, fun b ps e => ⟨#[], by rw [e]; simp⟩⟩
    refine I.call' (s' := { s with heap := h' }) (ch := [z, TI, TO, i1, i2]) rfl u1 hok I.bare fun b hb => ?_
    obtain ⟨f0, f1, f2, f3, f4, f5⟩ := hf b hb
    exact ⟨f3, f1, f4, f5⟩
  self := fun _ _ _ _ _ st h => wpAny_pyIter_zip st.1 h
theorem boot_zip : bootBuiltins "zip" = some (.type "zip") := by decide +kernel
def iZip (K : PySem.W.Frag) (ta : TA) : TI := fun σ H R => ta σ H fun vs H1 => ∃ l1 l2, vs = [.ref l1, .ref l2] ∧ (∃ xs, SqL K H1 l1 xs) ∧ (∃ ys, SqL K H1 l2 ys) ∧ R (Itz K l1 l2) H1
section
variable {X : Cx}
theorem pi_zip {elts : List Expr} {k : Nat} {tpos : Pos} {a b : Expr} {ta : TA} {p pos : Pos} (hg : Gl X "zip") (hm : X.mg "zip" = none) (ha : PA X [a, b] ta) (hs : starEach [a, b] X.env = [(false, eval a X.env), (false, eval b X.env)] := by rfl) (hs2 : starEach [b] X.env = [(false, eval b X.env)] := by rfl) :
    PI X (.Tuple elts k tpos) (.Call (.Name "zip" p) [a, b] [] pos) (iZip X.K ta) := by
  intro pins s σ H R I h
  refine Call_ (ld_blt I hg hm boot_zip (PyProof.Rows.callWith_type1 (thn (ha pos pins s σ H _ I h) fun us s1 ⟨vs, H1, I1, r1, q1⟩ => ?_) (by rw [hs, hs2]) (by rw [hs2]; rfl)))
  obtain ⟨l1, l2, e, ⟨xs, hq1⟩, ⟨ys, hq2⟩, q⟩ := q1
  subst e
  cases r1 with
  | cons r rr =>
    cases rr with
    | cons r' rr =>
      cases rr
      cases r
      cases r'
      obtain ⟨its, rv, p1, _⟩ := I1.list hq1
      obtain ⟨jts, rv', p2, _⟩ := I1.list hq2
      have b1 : l1 < s1.heap.objs.size := by obtain ⟨o, e, _⟩ := p1.isList; exact Heap.lt_size e
      have b2 : l2 < s1.heap.objs.size := by obtain ⟨o, e, _⟩ := p2.isList; exact Heap.lt_size e
      refine call_zip_2 p1.isList p2.isList fun h' z1 z2 z3 z4 z5 z6 z7 => ?_
      refine wpAny_pyIter_zip (s := { s1 with heap := h' }) z1 ?_
      have D : ZipApart (s1.heap.objs.size + 4) (s1.heap.objs.size + 2) (s1.heap.objs.size + 3) s1.heap.objs.size (s1.heap.objs.size + 1) l1 l2 := by
        constructor <;> (intro h; have h : @Eq Nat _ _ := h; have b1 : @LT.lt Nat _ l1 s1.heap.objs.size := b1; have b2 : @LT.lt Nat _ l2 s1.heap.objs.size := b2; omega)
      refine ⟨_, _, _, _, H1, rfl, I1.kept (t' := s1.toks) z7, turn_zip D, ⟨z1, z2, ⟨_, _, z3⟩, z4, z5⟩, fun b hb => ?_, q⟩
      have le : s1.heap.objs.size ≤ b := by
        simp only [List.mem_cons, List.not_mem_nil, or_false] at hb
        rcases hb with rfl | rfl | rfl | rfl | rfl
        · exact Nat.le_add_right ..
        · exact Nat.le_add_right ..
        · exact Nat.le_add_right ..
        · exact Nat.le_refl _
        · exact Nat.le_add_right ..
      exact I1.fpOk le (I1.hok.fresh le)
end
end L2

/-! a list comprehension with one for over two names -/
namespace L2
open PySem PySem.Spec PyProof.Rows
section
variable {prog : Program} {w : World} {A : Around} {R : Result → Shared → Prop} {s : Shared}
theorem compLoop_testsT {elt target iter : Expr} {ifs : List Expr} {scope : Scope} {pos : Pos} {it acc : Value} {env : Env} (I : Nat → Shared → Prop)
    (turn : ∀ n s, I n s → wpAny (model prog w) A (pyNext it) (fun r s₁ => match r with
      | none => R (.ok .next) s₁
      | some v => wpAny (model prog w) A (letOwnedTupleGo target it v) (fun _ s₁ => wpAny (model prog w) A (assign target env v) (fun _ s₂ =>
          wpAny (model prog w) A (forIn ifs true fun c r => if r = true then do let ok ← isTrue c env (eval c env); pure (ForInStep.yield ok) else pure (ForInStep.yield r)) (fun ok s₃ =>
            if ok = true then wpAny (model prog w) A (eval elt env) (fun x s₄ =>
              wpAny (model prog w) A (call (.builtin "list.append") [acc, x]) (fun _ s₅ => ∃ m, m < n ∧ I m s₅) (notedBy (model prog w) A env fun e s' => R (.error e) s') s₄) (notedBy (model prog w) A env fun e s' => R (.error e) s') s₃
            else ∃ m, m < n ∧ I m s₃) (notedBy (model prog w) A env fun e s' => R (.error e) s') s₂) (notedBy (model prog w) A env fun e s' => R (.error e) s') s₁) (notedBy (model prog w) A env fun e s' => R (.error e) s') s₁) (notedBy (model prog w) A env fun e s' => R (.error e) s') s)
    (n : Nat) (h : I n s) : codeAny (model prog w) A (.compLoop (.ListComp elt [⟨target, iter, ifs, 0⟩] scope pos) 0 it acc env) R s := by
  refine codeAny_loop rfl I (fun n s hI => ?_) n h
  show wpAny _ A ((compTurn (.ListComp elt [⟨target, iter, ifs, 0⟩] scope pos) 0 it acc env).onRaise (fun x => do noteFrame x env; theTreesLotGoes x)) _ _ s
  refine wpAny_noted ?_
  rw [compTurn_list]
  refine wpAny_bind (wpAny_standAt (wpAny_bind (wpAny_mono (turn n s hI) (fun r s₁ h₁ => ?_) fun _ _ h' => h')))
  cases r with
  | none => exact wpAny_pure h₁
  | some v =>
    refine wpAny_bind (wpAny_mono h₁ (fun _ s₁ h₁ => ?_) fun _ _ h' => h')
    refine wpAny_bind (wpAny_mono h₁ (fun _ s₂ h₂ => wpAny_bind (wpAny_mono h₂ (fun ok s₃ h₃ => ?_) fun _ _ h' => h')) fun _ _ h' => h')
    cases ok with
    | false => exact wpAny_pure ⟨rfl, h₃⟩
    | true =>
      exact wpAny_bind (wpAny_bind (wpAny_mono h₃ (fun x s₄ h₄ => wpAny_bind (wpAny_mono h₄ (fun _ s₅ h₅ => wpAny_pure (wpAny_pure ⟨rfl, h₅⟩)) fun _ _ h' => h')) fun _ _ h' => h'))
end
def tComp2 (K : PySem.W.Frag) (wi : TI) (ρ : St → St) (tt : TT) (te : TE) : TE := fun σ H Q => wi σ H fun J H1 => ∀ D, H1 D = none → ∃ W : Nat → Nat → List V → Hp → Prop, (∃ m, W 0 m [] (upd H1 D (.lst []))) ∧
  ∀ i m ys Hc, W i m ys Hc → Hc D = some (.lst ys) ∧ ((J.stop i Hc ∧ Q (.ref D) Hc) ∨ (J.go i Hc ∧ ∀ v H', J.yld i Hc v H' → ∃ T x1 x2, v = .ref T ∧ SqT K H' T [x1, x2] ∧ tt (some x1 :: some x2 :: ρ σ) H' fun b H2 =>
    if b = true then te (some x1 :: some x2 :: ρ σ) H2 fun y H3 => H3 D = some (.lst ys) ∧ ys.length < sizeLine ∧ ∃ m', m' < m ∧ W (i + 1) m' (ys ++ [y]) (upd H3 D (.lst (ys ++ [y]))) else ∃ m', m' < m ∧ W (i + 1) m' ys H2))
section
variable {X : Cx} {N : List Str} {scope : Scope} {cl : List (Str × Addr)} {x y : Str} {px py pos tp : Pos} {tk0 : Nat} {iter elt : Expr} {ifs : List Expr} {wi : TI} {ρ : St → St} {tt : TT} {te : TE}
structure Blk2 (X : Cx) (N : List Str) (scope : Scope) (cl : List (Str × Addr)) (x y : Str) (ρ : St → St) : Prop where
  clos : closureFor scope X.env = pure cl
  kind : scope.kind = .function
  nocell : ∀ y ∈ scope.names, y.2 ≠ .cell
  names : ∀ y ∈ scope.names, y.2 = .local → scope.names.lookup y.1 = some .local
  sub : ∀ p ∈ cl, X.env.cells.lookup p.1 = some p.2
  has : ∀ y, ((relabel scope X.env).names.lookup y = some .cell ∨ (relabel scope X.env).names.lookup y = some .free) → ∃ c, cl.lookup y = some c
  n0 : N[0]? = some x
  n1 : N[1]? = some y
  nd : N.Nodup
  hx : scope.names.lookup x = some .local
  hy : scope.names.lookup y = some .local
  rho : ∀ (σ : St) (j : Nat) (v : V), (ρ σ)[j]? = some (some v) → ∃ (i : Nat) (y : Str), N[j + 1 + 1]? = some y ∧ X.N[i]? = some y ∧ σ[i]? = some (some v) ∧ Vis X.env.scope y ∧ (X.env.kindOf y = some .cell ∨ X.env.kindOf y = some .free) ∧ ((relabel scope X.env).names.lookup y = some .cell ∨ (relabel scope X.env).names.lookup y = some .free)
  len : ∀ σ : St, σ.length = X.N.length → (ρ σ).length + 1 + 1 = N.length
theorem pe_comp2 (B : Blk2 X N scope cl x y ρ) (hc : X.calm = true) (hi : PI X (.Tuple [.Name x px, .Name y py] tk0 tp) iter wi) (ht : ∀ s₃ H₃ fp, PTs (X.blk N scope cl s₃ H₃ fp) ifs tt) (he : ∀ s₃ H₃ fp, PE (X.blk N scope cl s₃ H₃ fp) elt te)
    (hs : ∀ x, foldedSetIterable iter X.env x = pure x := by intro _; rfl) : PE X (.ListComp elt [⟨.Tuple [.Name x px, .Name y py] tk0 tp, iter, ifs, 0⟩] scope pos) (tComp2 X.K wi ρ tt te) := by
  intro pins s σ H Q I h
  rw [eval_ListComp]
  refine wpAny_comprehension_free (use := none) rfl hs B.clos B.kind B.names (thn (hi pins s σ H _ I h) fun v s1 h1 => thn h1 fun itv s2 h2 => ?_)
  obtain ⟨it, fp, tn, J, H2, rfl, I2, T, st2, f2, q2⟩ := h2
  -- the list that is told
  have nD : H2 s2.heap.objs.size = none := I2.hok.fresh (Nat.le_refl _)
  obtain ⟨W, ⟨m0, w0⟩, turn⟩ := q2 _ nD
  refine wpAny_newObj_type (wpAny_newFunctionEnv B.nocell (by intro y hy; simp at hy) (fun h₁ hns₁ hsb₁ => ?_) B.kind)
  dsimp only at hns₁ hsb₁ ⊢
  generalize hD : s2.heap.objs.size = D at nD w0 turn hns₁ hsb₁ ⊢
  generalize hS3 : ({ s2 with heap := s2.heap.push { cls := .type "list", dict := none, data := .seq ([] : List Value).toArray } } : Shared) = s3
  have I3 : Inv X pins σ (upd H2 D (.lst [])) s3 := by
    subst hD hS3
    exact I2.laid (t' := s2.toks) (fun b u e => Heap.get?_push_of_some _ e) (Nat.le_refl _) ⟨Nat.zero_le _, [], _, .nil, Heap.get?_push_size _ rfl⟩
  have e3 : s3.heap = s2.heap.push { cls := .type "list", dict := none, data := .seq ([] : List Value).toArray } := by rw [← hS3]
  have k23 : ∀ b o, s2.heap.get? b = some o → s3.heap.get? b = some o := fun b o e => by rw [e3]; exact Heap.get?_push_of_some _ e
  rw [← e3] at hns₁ hsb₁ ⊢
  have below : ∀ b o, s3.heap.get? b = some o → b ≠ s3.heap.objs.size := fun b o e => Nat.ne_of_lt (Heap.lt_size e)
  have k34 : ∀ b o, s3.heap.get? b = some o → h₁.get? b = some o := fun b o e => hsb₁.extBut b o (below b o e) (Heap.get?_push_of_some _ e)
  have fpl : ∀ b ∈ fp, ∃ o, s2.heap.get? b = some o ∧ ∀ v, o.data ≠ .cell v := T.obj _ _ st2
  have nfD : ∀ b ∈ fp, b ≠ D := fun b hb z => by
    obtain ⟨o, e, _⟩ := fpl b hb
    rw [z, ← hD] at e
    exact absurd (Heap.lt_size e) (Nat.lt_irrefl _)
  have cl_of : ∀ y c, cl.lookup y = some c → X.env.cells.lookup y = some c := fun y c e => B.sub (y, c) (PySem.mem_of_lookup e)
  have stkf := I3.stkFree
  -- the block at its start
  have okB : (X.blk N scope cl s3 (upd H2 D (.lst [])) fp).Ok := by
    refine ⟨I.ok.mod, B.kind, I.ok.glob, I.ok.blt, Nat.le_refl _, fun a b c e1 e2 => I.ok.inj a b c (cl_of a c e1) (cl_of b c e2), fun y hy => B.has y hy, (fun _ _ z _ => absurd z Bool.false_ne_true), (fun _ => I.ok.hd hc), I.ok.frames, .inl rfl, fun b hb => ⟨?_, fun y c e z => ?_⟩, fun b o e => ?_, Nat.le_trans I.ok.bsz I3.sz, fun b o e hb => ?_, fun b hb z => ?_, I3.stack, stkf⟩
    · obtain ⟨o, e, _⟩ := fpl b hb
      exact below b o (k23 b o e)
    · exact (f2 b hb).2.2.2.2.1 y c (cl_of y c e) z
    · exact I3.bs b o e
    · rcases (f2 b hb).2.2.2.1 with z | z
      · exact I.ok.noex b o e z
      · exact absurd (Nat.lt_of_lt_of_le (Heap.lt_size e) (Nat.le_trans I.ok.bsz z)) (Nat.lt_irrefl _)
    · rcases List.mem_cons.mp (I3.stkSub b z) with z | z
      · exact (f2 b hb).2.1 z
      · exact (f2 b hb).2.2.1 z
  have IB : ∀ tk : Nat, Inv (X.blk N scope cl s3 (upd H2 D (.lst [])) fp) [] (none :: none :: ρ σ) (upd H2 D (.lst [])) { s3 with heap := h₁, toks := tk } := fun tk => by
    refine ⟨okB, rfl, I3.bare, Un.kept k34, ⟨_, hns₁, fun j y v e1 e2 e3 => ?_⟩, fun y c e => ?_, ?_, fun y c e => I3.freeC y c (cl_of y c e), (fun p hp => nomatch hp), I3.hok.kept k34, ?_⟩
    · cases j with
      | zero => cases e2
      | succ j =>
      cases j with
      | zero => cases e2
      | succ j =>
        obtain ⟨i, y', a1, a2, a3, a4, a5, a6⟩ := B.rho σ j v e2
        have e1' : N[j + 1 + 1]? = some y := e1
        rw [e1'] at a1
        cases a1
        obtain ⟨m, hn, hl⟩ := I3.loc
        obtain ⟨u, r, l⟩ := hl i y v a2 a3 a4
        refine ⟨u, r, .inr ⟨a6, ?_⟩⟩
        obtain ⟨c, ec⟩ := B.has y a6
        rcases l with ⟨k, _⟩ | ⟨_, c', ec', z⟩
        · rcases a5 with q | q <;> (rw [k] at q; cases q)
        · have := cl_of y c ec
          rw [this] at ec'
          cases ec'
          obtain ⟨o, ho, hd⟩ := z
          exact ⟨c, ec, o, k34 _ _ ho, hd⟩
    · obtain ⟨v, o, ho, hd⟩ := I3.cell y c (cl_of y c e)
      exact ⟨v, o, k34 _ _ ho, hd⟩
    · exact I3.hok.fresh (Nat.le_refl _)
    · show (none :: none :: ρ σ).length = N.length
      rw [List.length_cons, List.length_cons]
      exact B.len σ I.len
  -- behind the block
  have fin : ∀ {σ' : St} {H' : Hp} {s' : Shared}, Inv (X.blk N scope cl s3 (upd H2 D (.lst [])) fp) [] σ' H' s' → Q (.ref D) H' → compPost (model X.prog X.w) X.A X.xe none (EP X pins σ Q) (.ref D) s3.heap.objs.size (.ok .next) s' := fun {σ' H' s'} J q => by
    obtain ⟨m, hn, _⟩ := J.loc
    refine ⟨m, hn, fun h' hs' => ⟨.ref D, H', ?_, rfl, q⟩⟩
    have old : ∀ b o, s3.heap.get? b = some o → b ≠ s3.heap.objs.size := below
    have u1 : Un (frs X.stack) fp (upd H2 D (.lst [])) H' s3.heap h' := by
      refine ⟨fun b o e n hb hx => ?_, fun b o e n hb hx => ?_, J.base.free, fun b o e hx => ?_, J.base.tups, J.base.frzs, J.base.tbls⟩
      · exact (hs'.2 b (old b o e)).trans (J.base.keep b o e n hb hx)
      · obtain ⟨sl, z⟩ := J.base.slot b o e n hb hx
        exact ⟨sl, (hs'.2 b (old b o e)).trans z⟩
      · obtain ⟨o', z⟩ := J.base.there b o e hx
        exact ⟨o', (hs'.2 b (old b o e)).trans z⟩
    have hokE : HOk X.prog X.w H' h' := fun b u e => by
      refine (J.hok b u e).stay (fun c v hc z => (hs'.2 c fun y => ?_).trans z) (fun _ z => z) fun _ _ z => z
      have fr := J.free
      have y' : c = s3.heap.objs.size := y
      rcases hc with hc | hc
      · rw [← hc, y'] at e
        exact absurd (fr.symm.trans e) (by simp)
      · rw [y'] at hc
        exact absurd (fr.symm.trans hc) (by simp)
    refine I3.call' (s' := { s' with heap := h' }) (ch := fp) (J.os) u1 hokE J.bare fun b hb => ?_
    obtain ⟨g0, g1, g2, g3, g4, g5⟩ := f2 b hb
    exact ⟨g3, g1, g4, g5⟩
  have stat : ∀ {H' : Hp}, (∀ b ∈ fp, H' b = none) → ∀ b ∈ fp, FpOk (X.blk N scope cl s3 (upd H2 D (.lst [])) fp) [] H' b := fun hn b hb => by
    refine ⟨hn b hb, ?_, ?_, .inl hb, fun y c e z => (f2 b hb).2.2.2.2.1 y c (cl_of y c e) z, fun p hp => nomatch hp⟩
    · obtain ⟨o, e, _⟩ := fpl b hb
      exact below b o (k23 b o e)
    · exact okB.exfs b hb
  have loop : ∀ tk : Nat, codeAny (model X.prog X.w) X.A (.compLoop (.ListComp elt [⟨.Tuple [.Name x px, .Name y py] tk0 tp, iter, ifs, 0⟩] scope pos) 0 (.ref it) (.ref D) (compEnvC scope cl s3.heap.objs.size X.env))
      (compPost (model X.prog X.w) X.A X.xe none (EP X pins σ Q) (.ref D) s3.heap.objs.size) { s3 with heap := h₁, toks := tk } := fun tk => by
    refine compLoop_testsT (fun n s' => ∃ i ys o o2 H', Inv (X.blk N scope cl s3 (upd H2 D (.lst [])) fp) [] (o :: o2 :: ρ σ) H' s' ∧ tn i s'.heap ∧ (∀ b ∈ fp, H' b = none) ∧ W i n ys H') ?_ m0
      ⟨0, [], none, none, _, IB tk, T.keep _ _ _ st2 fun b hb o e => k34 _ _ (k23 _ _ e), fun b hb => by rw [upd_ne (nfD b hb)]; exact (f2 b hb).1, w0⟩
    rintro n s4 ⟨i, ys, o, o2, H4, I4, st4, fr4, w4⟩
    obtain ⟨hD4, hturn⟩ := turn i n ys H4 w4
    rcases hturn with ⟨stop, qn⟩ | ⟨go, step⟩
    · refine wpAny_mono (T.done (X.blk N scope cl s3 (upd H2 D (.lst [])) fp) rfl rfl rfl hc i [] s4 _ H4 (fun _ _ => False) I4 (stat fr4) st4 stop) (fun r s5 ⟨hr, I5⟩ => ?_) fun _ _ z => z.elim
      subst hr
      exact fin I5 qn
    · refine wpAny_mono (T.item (X.blk N scope cl s3 (upd H2 D (.lst [])) fp) rfl rfl rfl hc i [] s4 _ H4 (fun _ _ => False) I4 (stat fr4) st4 go) (fun r s5 ⟨u, hr, h5⟩ => ?_) fun _ _ z => z.elim
      subst hr
      refine wpAny_mono h5 (fun _ s5 ⟨y0, H5, I5, r5, y5, st5, fr5⟩ => ?_) fun _ _ z => z.elim
      obtain ⟨Tt, x1, x2, e0, hsq, hstep⟩ := step y0 _ y5
      subst e0
      have I5' := I5.pinned (stat fr5) (T.obj _ _ st5)
      have pg : PG (X.blk N scope cl s3 (upd H2 D (.lst [])) fp) (.Tuple [.Name x px, .Name y py] tk0 tp) (gTup X.K 2 (gCons (gName 0) (gCons (gName 1) gNil))) :=
        pg_tup (X := X.blk N scope cl s3 (upd H2 D (.lst [])) fp) hc (pgs_cons (pg_name (i := 0) B.nd B.n0 (.inl (lookup_relabel_local B.hx)) (.inr (lookup_relabel_local B.hx))) (pgs_cons (pg_name (i := 1) B.nd B.n1 (.inl (lookup_relabel_local B.hy)) (.inr (lookup_relabel_local B.hy))) pgs_nil))
      have again : ∀ {σ7 : St} {H7 : Hp} {s7 : Shared}, Inv (X.blk N scope cl s3 (upd H2 D (.lst [])) fp) ([] ++ pinsAt fp s5.heap) σ7 H7 s7 → Inv (X.blk N scope cl s3 (upd H2 D (.lst [])) fp) [] σ7 H7 s7 ∧ tn (i + 1) s7.heap ∧ ∀ b ∈ fp, H7 b = none := fun {σ7 H7 s7} I7 => by
        refine ⟨I7.unpinned, T.keep _ _ _ st5 fun b hb o e => (I7.pin (b, o) (List.mem_append_right _ (List.mem_append_right _ (mem_pinsAt hb e)))).1, fun b hb => ?_⟩
        obtain ⟨o, e, d⟩ := T.obj _ _ st5 b hb
        exact (I7.pin (b, o) (List.mem_append_right _ (List.mem_append_right _ (mem_pinsAt hb e)))).2.1
      refine wpAny_mono (pg _ s5 _ H5 (.ref Tt) u (fun σ2 H6 => σ2 = some x1 :: some x2 :: ρ σ ∧ H6 = H5) I5' r5 ⟨Tt, _, rfl, hsq, rfl, _, _, rfl, _, _, rfl, rfl, rfl, rfl⟩) (fun _ s6 ⟨σ6, H6, I6, q6⟩ => ?_) fun _ _ z => z.elim
      obtain ⟨rfl, rfl⟩ := q6
      have tests : ∀ {tt' : TT}, PTs (X.blk N scope cl s3 (upd H2 D (.lst [])) fp) ifs tt' → ∀ {R : Bool → Hp → Prop}, tt' (some x1 :: some x2 :: ρ σ) H6 R → wpAny (model X.prog X.w) X.A
          (forIn ifs true fun c r => if r = true then do let ok ← isTrue c (compEnvC scope cl s3.heap.objs.size X.env) (eval c (compEnvC scope cl s3.heap.objs.size X.env)); pure (ForInStep.yield ok) else pure (ForInStep.yield r))
          (fun ok s7 => ∃ H7, Inv (X.blk N scope cl s3 (upd H2 D (.lst [])) fp) ([] ++ pinsAt fp s5.heap) (some x1 :: some x2 :: ρ σ) H7 s7 ∧ R ok H7) (fun _ _ => False) s6 := fun {tt'} p {R} hR => by
        cases p with
        | nil => exact wpAny_tests_nil ⟨_, I6, hR⟩
        | one p => exact wpAny_tests_one (p _ s6 _ _ _ I6 hR)
      refine wpAny_mono (tests (ht s3 _ fp) hstep) (fun ok s7 ⟨H7, I7, q7⟩ => ?_) fun _ _ z => z.elim
      cases ok with
      | false =>
        obtain ⟨m', hm', w7⟩ := q7
        obtain ⟨a1, a2, a3⟩ := again I7
        exact ⟨m', hm', i + 1, ys, _, _, H7, a1, a2, a3, w7⟩
      | true =>
        refine wpAny_mono (he s3 _ fp _ s7 _ H7 _ I7 q7) (fun ev s8 ⟨z, H8, I8, r8, hD8, hz, m', hm', w8⟩ => ?_) fun _ _ z => z.elim
        refine wpAny_mono (mt_append (X := X.blk N scope cl s3 (upd H2 D (.lst [])) fp) _ s8 _ H8 (.ref D) [z] (.ref D) [ev] (fun _ H9 => H9 = upd H8 D (.lst (ys ++ [z]))) I8 rfl (.cons r8 .nil) ⟨D, ys, z, rfl, rfl, hD8, hz, rfl⟩) (fun _ s9 ⟨_, H9, I9, _, q9⟩ => ?_) fun _ _ z => z.elim
        subst q9
        obtain ⟨a1, a2, a3⟩ := again I9
        exact ⟨m', hm', i + 1, ys ++ [z], _, _, _, a1, a2, a3, w8⟩
  have start := loop (s3.toks + ([] : List (Str × Value)).length)
  have es : ({ s3 with heap := h₁, toks := s3.toks + ([] : List (Str × Value)).length } : Shared) = { s2 with heap := h₁, toks := s2.toks + ([] : List (Str × Value)).length } := by rw [← hS3]
  rw [es] at start
  exact codeAny_compStart_list start (T.self _ 0 _ _ _ (T.keep _ _ _ st2 fun b hb o e => k34 _ _ (k23 _ _ e)) start)
end
end L2

/-! any, sum -/
namespace L2
open PySem PySem.Spec PyProof.Rows
section
variable {X : Cx}
end
end L2

/-! a list comprehension whose name is taken by one within it -/
namespace L2
open PySem PySem.Spec PyProof.Rows
section
variable {M : Model} {A : Around} {E : Value → Shared → Prop} {s : Shared}
end
section
variable {X : Cx} {N : List Str} {scope : Scope} {cl : List (Str × Addr)} {x : Str} {px pos : Pos} {iter elt : Expr} {ifs : List Expr} {wi : TI} {ρ : St → St} {tt : TT} {te : TE}
structure BlkC (X : Cx) (N : List Str) (scope : Scope) (cl : List (Str × Addr)) (x : Str) (ρ : St → St) : Prop where
  clos : closureFor scope X.env = pure cl
  kind : scope.kind = .function
  cells1 : ∀ n, cellsFrom n scope.names cl = (x, n) :: cl
  push1 : ∀ h : Heap, pushCells h scope.names = h.push { cls := .type "cell", data := .cell none }
  names : ∀ y ∈ scope.names, y.2 = .local → scope.names.lookup y.1 = some .local
  sub : ∀ p ∈ cl, X.env.cells.lookup p.1 = some p.2
  has : ∀ y, y ≠ x → ((relabel scope X.env).names.lookup y = some .cell ∨ (relabel scope X.env).names.lookup y = some .free) → ∃ c, cl.lookup y = some c
  n0 : N[0]? = some x
  nd : N.Nodup
  relx : (relabel scope X.env).names.lookup x = some .cell
  rho : ∀ (σ : St) (j : Nat) (v : V), (ρ σ)[j]? = some (some v) → ∃ (i : Nat) (y : Str), N[j + 1]? = some y ∧ X.N[i]? = some y ∧ σ[i]? = some (some v) ∧ Vis X.env.scope y ∧ (X.env.kindOf y = some .cell ∨ X.env.kindOf y = some .free) ∧ ((relabel scope X.env).names.lookup y = some .cell ∨ (relabel scope X.env).names.lookup y = some .free)
  len : ∀ σ : St, σ.length = X.N.length → (ρ σ).length + 1 = N.length
end
end L2

/-! == and != of lists and tuples within one another, where all is alike -/
namespace L2
open PySem PySem.Spec PyProof.Rows
/-- alike to a depth: flat values that are the same, or lists (tuples) of as many things that are alike -/
def LikeN (K : PySem.W.Frag) (H : Hp) : Nat → V → V → Prop
  | 0, v, u => v = u ∧ flatV v = true
  | n + 1, v, u => (v = u ∧ flatV v = true) ∨ ∃ a b xs ys, v = .ref a ∧ u = .ref b ∧ ((SqL K H a xs ∧ SqL K H b ys) ∨ (SqT K H a xs ∧ SqT K H b ys)) ∧ xs.length = ys.length ∧ ∀ (j : Nat) (x y : V), xs[j]? = some x → ys[j]? = some y → LikeN K H n x y
theorem eqV_self {v : V} (h : flatV v = true) : eqV v v = true := by
  cases v with
  | non => rfl
  | bl b => show (b == b) = true; simp
  | int i => show (i == i) = true; simp
  | str x => show (x == x) = true; simp
  | _ => cases h
theorem all_range (n : Nat) : (List.range n).all (fun _ => true) = true := by simp
section
variable {X : Cx} {pins : List (Addr × Obj)} {σ : St} {H : Hp} {s : Shared}
theorem like_items (I : Inv X pins σ H s) : ∀ (n : Nat) (A : Around) (v u : V) (a b : Value), LikeN X.K H n v u → RelV v a → RelV u b → A.units + n < cLine → SeqAt.EqAt A s a b true
  | 0, A, v, u, a, b, h, ra, rb, hu => by
    obtain ⟨rfl, hf⟩ := h
    have z := eqAt_V (A := A) (s := s) ra rb hf hf
    rw [eqV_self hf] at z
    exact z
  | n + 1, A, v, u, a, b, h, ra, rb, hu => by
    rcases h with ⟨rfl, hf⟩ | ⟨p, q, xs, ys, rfl, rfl, hs, hl, hi⟩
    · have z := eqAt_V (A := A) (s := s) ra rb hf hf
      rw [eqV_self hf] at z
      exact z
    · cases ra
      cases rb
      by_cases pq : p = q
      · subst pq
        exact SeqAt.EqAt.same _
      rcases hs with ⟨h1, h2⟩ | ⟨h1, h2⟩
      · obtain ⟨us, r1, t1, _⟩ := I.list h1
        obtain ⟨vs, r2, t2, _⟩ := I.list h2
        have l1 := r1.length
        have l2 := r2.length
        have z := SeqAt.RcAt.lists (A := A) (e := fun _ => true) t1.isList t2.isList (by simp; omega) (by omega) (fun j z1 z2 => by
          have z1' : j < us.length := by simpa using z1
          have z2' : j < vs.length := by simpa using z2
          obtain ⟨x, ex⟩ : ∃ x, xs[j]? = some x := ⟨xs[j], by simp [show j < xs.length by omega]⟩
          obtain ⟨y, ey⟩ : ∃ y, ys[j]? = some y := ⟨ys[j], by simp [show j < ys.length by omega]⟩
          obtain ⟨x', ex', rx⟩ := r1.get ex
          obtain ⟨y', ey', ry⟩ := r2.get ey
          have e1 : us.toArray[j] = x' := by simpa using (List.getElem?_eq_some_iff.mp ex').2
          have e2 : vs.toArray[j] = y' := by simpa using (List.getElem?_eq_some_iff.mp ey').2
          rw [e1, e2]
          exact like_items I n A.in1 x y x' y' (hi j x y ex ey) rx ry (by rw [Around.in1_units]; omega))
        rw [all_range] at z
        exact SeqAt.EqAt.of_refs pq z
      · obtain ⟨us, r1, t1, _⟩ := I.tuple h1
        obtain ⟨vs, r2, t2, _⟩ := I.tuple h2
        have l1 := r1.length
        have l2 := r2.length
        have z := SeqAt.RcAt.tuples (A := A) (e := fun _ => true) t1 t2 (by omega) (fun j z1 z2 => by
          have z1' : j < us.length := by simpa using z1
          have z2' : j < vs.length := by simpa using z2
          obtain ⟨x, ex⟩ : ∃ x, xs[j]? = some x := ⟨xs[j], by simp [show j < xs.length by omega]⟩
          obtain ⟨y, ey⟩ : ∃ y, ys[j]? = some y := ⟨ys[j], by simp [show j < ys.length by omega]⟩
          obtain ⟨x', ex', rx⟩ := r1.get ex
          obtain ⟨y', ey', ry⟩ := r2.get ey
          have e1 : us.toArray[j] = x' := by simpa using (List.getElem?_eq_some_iff.mp ex').2
          have e2 : vs.toArray[j] = y' := by simpa using (List.getElem?_eq_some_iff.mp ey').2
          rw [e1, e2]
          exact like_items I n A.in1 x y x' y' (hi j x y ex ey) rx ry (by rw [Around.in1_units]; omega))
        have e3 : (us.toArray.size == vs.toArray.size) = true := by simp; omega
        rw [all_range, e3] at z
        exact SeqAt.EqAt.of_refs pq z
end
section
variable {X : Cx}
/-- == of two lists that are alike to a depth -/
def rLike (K : PySem.W.Frag) (n : Nat) (r : Bool) : R2 := fun x y H Q => ∃ a b xs ys, x = .ref a ∧ y = .ref b ∧ SqL K H a xs ∧ SqL K H b ys ∧ xs.length = ys.length ∧ (∀ (j : Nat) (x y : V), xs[j]? = some x → ys[j]? = some y → LikeN K H n x y) ∧ Q (.bl r) H
theorem op_eqL {n : Nat} (hu : X.A.units + 64 < cLine) (hn : n < 60 := by decide) : OpR X (compareOp .Eq) (rLike X.K n true) := by
  intro pins s σ H x y v u Q I rx ry h
  obtain ⟨a, b, xs, ys, rfl, rfl, h1, h2, hl, hi, q⟩ := h
  cases rx
  cases ry
  obtain ⟨us, r1, t1, _⟩ := I.list h1
  obtain ⟨vs, r2, t2, _⟩ := I.list h2
  have l1 := r1.length
  have l2 := r2.length
  refine SeqAt.eq_listAt (e := fun _ => true) t1.isList t2.isList (by simp; omega) (by omega) (fun j z1 z2 => ?_) ?_
  · have z1' : j < us.length := by simpa using z1
    have z2' : j < vs.length := by simpa using z2
    obtain ⟨x, ex⟩ : ∃ x, xs[j]? = some x := ⟨xs[j], by simp [show j < xs.length by omega]⟩
    obtain ⟨y, ey⟩ : ∃ y, ys[j]? = some y := ⟨ys[j], by simp [show j < ys.length by omega]⟩
    obtain ⟨x', ex', rx⟩ := r1.get ex
    obtain ⟨y', ey', ry⟩ := r2.get ey
    have e1 : us.toArray[j] = x' := by simpa using (List.getElem?_eq_some_iff.mp ex').2
    have e2 : vs.toArray[j] = y' := by simpa using (List.getElem?_eq_some_iff.mp ey').2
    rw [e1, e2]
    exact like_items I n X.A.in1 x y x' y' (hi j x y ex ey) rx ry (by rw [Around.in1_units]; omega)
  · rw [all_range]
    exact ⟨.bl true, H, I, rfl, q⟩
theorem op_neL {n : Nat} (hu : X.A.units + 64 < cLine) (hn : n < 60 := by decide) : OpR X (compareOp .NotEq) (rLike X.K n false) := by
  intro pins s σ H x y v u Q I rx ry h
  obtain ⟨a, b, xs, ys, rfl, rfl, h1, h2, hl, hi, q⟩ := h
  cases rx
  cases ry
  obtain ⟨us, r1, t1, _⟩ := I.list h1
  obtain ⟨vs, r2, t2, _⟩ := I.list h2
  have l1 := r1.length
  have l2 := r2.length
  refine SeqAt.RcNeAt.lists (e := fun _ => true) t1.isList t2.isList (by simp; omega) (by omega) (fun j z1 z2 => ?_) _ _ _ _ ?_
  · have z1' : j < us.length := by simpa using z1
    have z2' : j < vs.length := by simpa using z2
    obtain ⟨x, ex⟩ : ∃ x, xs[j]? = some x := ⟨xs[j], by simp [show j < xs.length by omega]⟩
    obtain ⟨y, ey⟩ : ∃ y, ys[j]? = some y := ⟨ys[j], by simp [show j < ys.length by omega]⟩
    obtain ⟨x', ex', rx⟩ := r1.get ex
    obtain ⟨y', ey', ry⟩ := r2.get ey
    have e1 : us.toArray[j] = x' := by simpa using (List.getElem?_eq_some_iff.mp ex').2
    have e2 : vs.toArray[j] = y' := by simpa using (List.getElem?_eq_some_iff.mp ey').2
    rw [e1, e2]
    exact like_items I n X.A.in1 x y x' y' (hi j x y ex ey) rx ry (by rw [Around.in1_units]; omega)
  · rw [all_range]
    exact ⟨.bl false, H, I, rfl, q⟩
end
end L2

/-! name = [a comprehension whose name is taken by one within it] -/
namespace L2
open PySem PySem.Spec PyProof.Rows
section
variable {X : Cx} {N : List Str} {scope : Scope} {cl : List (Str × Addr)} {x : Str} {px pos : Pos} {iter elt : Expr} {ifs : List Expr} {wi : TI} {ρ : St → St} {tt : TT} {te : TE}
end
end L2

/-! comprehensions over two lists side by side -/
namespace L2
open PySem PySem.Spec PyProof.Rows
structure JSeq2 (J : It) (zs : List (V × V)) (H1 : Hp) : Prop where
  go : ∀ i Hc, Same H1 Hc → i < zs.length → J.go i Hc
  yld : ∀ i Hc v H', Same H1 Hc → J.yld i Hc v H' → ∃ T x y, v = .ref T ∧ Hc T = none ∧ H' = upd Hc T (.tup [x, y]) ∧ (i < zs.length → zs[i]? = some (x, y))
  stop : ∀ i Hc, Same H1 Hc → zs.length ≤ i → J.stop i Hc
theorem jseq_zip {K : PySem.W.Frag} {a b : Addr} {xs ys : List V} {H1 : Hp} (h1 : SqL K H1 a xs) (h2 : SqL K H1 b ys) : JSeq2 (Itz K a b) (xs.zip ys) H1 where
  go := fun i Hc s hi => by
    have hi : i < min xs.length ys.length := by simpa using hi
    exact ⟨xs, ys, xs[i], ys[i], s.seq h1, s.seq h2, by simp [show i < xs.length by omega], by simp [show i < ys.length by omega]⟩
  yld := fun i Hc v H' s y => by
    obtain ⟨T, x, y, nT, ev, eH, hx⟩ := y
    obtain ⟨e1, e2⟩ := hx xs ys (s.seq h1) (s.seq h2)
    exact ⟨T, x, y, ev, nT, eH, fun _ => by rw [List.getElem?_zip_eq_some]; exact ⟨e1, e2⟩⟩
  stop := fun i Hc s hi => by
    have hi : min xs.length ys.length ≤ i := by simpa using hi
    exact ⟨xs, ys, s.seq h1, s.seq h2, by omega⟩
theorem comp2_of {K : PySem.W.Frag} {wi : TI} {ρ : St → St} {te : TE} {σ : St} {H : Hp} {Q : VK} {zs : List (V × V)} (hwi : ∀ R : It → Hp → Prop, (∀ J H1, Same H H1 → JSeq2 J zs H1 → R J H1) → wi σ H R) (hn : zs.length < sizeLine)
    (P : Nat → V → Prop)
    (step : ∀ i x y, zs[i]? = some (x, y) → ∀ (Hc : Hp) (R : VK), Same H Hc → (∀ v H3, Same Hc H3 → P i v → R v H3) → te (some x :: some y :: ρ σ) Hc R)
    (fin : ∀ D vs Hc, Same H Hc → vs.length = zs.length → (∀ (i : Nat) (v : V), vs[i]? = some v → P i v) → Hc D = some (.lst vs) → Q (.ref D) Hc) : tComp2 K wi ρ (fun _ H Q => Q true H) te σ H Q := by
  refine hwi _ fun J H1 s1 js => ?_
  intro D nD
  refine ⟨fun i m vs Hc => m = zs.length - i ∧ i ≤ zs.length ∧ Hc D = some (.lst vs) ∧ Same H1 Hc ∧ vs.length = i ∧ ∀ (j : Nat) (v : V), vs[j]? = some v → P j v, ⟨_, rfl, Nat.zero_le _, upd_same, same_but (Same.refl H1) nD, rfl, fun j y e => by simp at e⟩, ?_⟩
  rintro i m vs Hc ⟨rfl, hi, eD, sH, el, hP⟩
  refine ⟨eD, ?_⟩
  by_cases hlt : i < zs.length
  · refine .inr ⟨js.go i Hc sH hlt, fun v H' hy => ?_⟩
    obtain ⟨T, x, y, ev, nT, eH, hx⟩ := js.yld i Hc v H' sH hy
    subst ev eH
    refine ⟨T, x, y, rfl, .of upd_same, ?_⟩
    dsimp only
    rw [if_pos rfl]
    have sT : Same Hc (upd Hc T (.tup [x, y])) := fun b o e => by rw [upd_ne (ne_of_none e nT)]; exact e
    refine step i x y (hx hlt) _ _ (s1.trans (sH.trans sT)) fun w H3 s3 hp => ?_
    have e3 := s3 _ _ (sT _ _ eD)
    refine ⟨e3, by omega, zs.length - (i + 1), by omega, rfl, hlt, upd_same, same_but (sH.trans (sT.trans s3)) nD, by simp [el], fun j v' e => ?_⟩
    by_cases hj : j < i
    · exact hP j v' (by rw [List.getElem?_append_left (by omega)] at e; exact e)
    · have hj : j = i := by
        have := (List.getElem?_eq_some_iff.mp e).1
        simp at this
        omega
      subst hj
      have e' : v' = w := by rw [List.getElem?_append_right (by omega), el, Nat.sub_self] at e; simpa using e.symm
      subst e'
      exact hp
  · have e : i = zs.length := by omega
    subst e
    exact .inl ⟨js.stop _ Hc sH (Nat.le_refl _), fin D vs Hc (s1.trans sH) el hP eD⟩
theorem comp_ofN {wi : TI} {ρ : St → St} {te : TE} {σ : St} {H : Hp} {Q : VK} {xs : List V} (hwi : ∀ R : It → Hp → Prop, (∀ J H1, Same H H1 → JSeq J xs H1 → R J H1) → wi σ H R) (hn : xs.length < sizeLine)
    (P : Addr → Nat → V → Hp → Prop) (mono : ∀ D i y H H' ys, P D i y H → H D = some (.lst ys) → (∀ b o, b ≠ D → H b = some o → H' b = some o) → P D i y H')
    (step : ∀ D i x, xs[i]? = some x → ∀ (Hc : Hp) (R : VK), Same H Hc → (∃ ys, Hc D = some (.lst ys)) → (∀ y H3, Same Hc H3 → P D i y H3 → R y H3) → te (some x :: ρ σ) Hc R)
    (fin : ∀ D ys Hc, H D = none → Same H Hc → ys.length = xs.length → (∀ (i : Nat) (y : V), ys[i]? = some y → P D i y Hc) → Hc D = some (.lst ys) → Q (.ref D) Hc) : tComp wi ρ (fun _ H Q => Q true H) te σ H Q := by
  refine hwi _ fun J H1 s1 js => ?_
  intro D nD
  have hD : H D = none := by
    cases e : H D with
    | none => rfl
    | some o => rw [s1 _ _ e] at nD; cases nD
  exact comp_seq (ρσ := ρ σ) (te := te) (Q := Q) js nD hn (P D) (mono D) (fun i x hx Hc R sc => step D i x hx Hc R (s1.trans sc)) (fun ys Hc sc => fin D ys Hc hD (s1.trans sc))
end L2

/-! the same rules with the fragment named, for use within a comprehension's block -/
namespace L2
open PySem PySem.Spec PyProof.Rows
section
variable {X : Cx} {K : PySem.W.Frag}
theorem ix_tupK (hK : X.K = K := by rfl) : IxR X (rIxT K) := by
  subst hK
  exact ix_tup
end
end L2

/-! rows as whole numbers over one bottom, and their sums of products -/
namespace My
open PySem L2
theorem cb_of {r : List V → Hp → VK → Prop} {te : TE} {σ : St} {H : Hp} {Q : VK} (h : te σ H fun x H1 => r [x] H1 Q) : tCB r (tCons te tNil) σ H Q := h
theorem ret_of {te : TE} {D : Ends} {σ : St} {H : Hp} (h : te σ H D.rt) : tRet te D σ H := h
theorem tup1_of {te : TE} {t : TA} {σ : St} {H : Hp} {Q : VK} (h : te σ H fun x H1 => t σ H1 fun xs H2 => (x :: xs).length ≤ sizeLine ∧ ∀ p, H2 p = none → Q (.ref p) (upd H2 p (.tup (x :: xs)))) : tTup (tCons te t) σ H Q := h
def WhAt (H : Hp) (v : V) (ts : List Int) (B : Int) : Prop := ∃ tp l : Addr, v = .ref tp ∧ H tp = some (.tup [.ref l, .int B]) ∧ H l = some (.lst (ts.map V.int))
theorem WhAt.mono {H H' : Hp} {v : V} {ts : List Int} {B : Int} (h : WhAt H v ts B) (s : Same H H') : WhAt H' v ts B := by
  obtain ⟨tp, l, e, e1, e2⟩ := h
  exact ⟨tp, l, e, s _ _ e1, s _ _ e2⟩
theorem vals_of {vs : List V} {ws : List Int} (hl : vs.length = ws.length) (h : ∀ (i : Nat) (v : V), vs[i]? = some v → ∃ w, ws[i]? = some w ∧ v = .int w) : vs = ws.map V.int := by
  refine List.ext_getElem? fun i => ?_
  rw [List.getElem?_map]
  by_cases hi : i < vs.length
  · obtain ⟨w, e1, e2⟩ := h i vs[i] (by simp [hi])
    rw [e1, show vs[i]? = some vs[i] by simp [hi], e2]
    rfl
  · rw [List.getElem?_eq_none (by omega), List.getElem?_eq_none (by omega)]
    rfl
/-- a row of numbers of a world, by their parts -/
def RowAt (H : Hp) (q : Int) (a : Addr) (ps : List (Int × Int)) : Prop := ∃ vs : List V, H a = some (.lst vs) ∧ vs.length = ps.length ∧ ∀ (i : Nat) (v : V) (p : Int × Int), vs[i]? = some v → ps[i]? = some p → NumAt (10 ^ 6) H q v p.1 p.2
theorem RowAt.mono {H H' : Hp} {q : Int} {a : Addr} {ps : List (Int × Int)} (h : RowAt H q a ps) (s : Same H H') : RowAt H' q a ps := by
  obtain ⟨vs, e, l, k⟩ := h
  exact ⟨vs, s _ _ e, l, fun i v p h1 h2 => (k i v p h1 h2).mono s⟩
structure WhOk (q : Int) (ps : List (Int × Int)) (ts : List Int) (B : Int) : Prop where
  len : ts.length = ps.length
  pos : 1 ≤ B
  bd : B.natAbs ≤ (10 ^ 6) ^ ps.length
  nz : ¬ q ∣ B
  each : ∀ (i : Nat) (p : Int × Int) (t : Int), ps[i]? = some p → ts[i]? = some t → t * p.2 = p.1 * B ∧ t.natAbs ≤ 10 ^ 6 * (10 ^ 6) ^ ps.length
/-- told anew: the list within is no older than H0 -/
def WhNew (H0 H : Hp) (v : V) (ts : List Int) (B : Int) : Prop := ∃ tp l : Addr, v = .ref tp ∧ H tp = some (.tup [.ref l, .int B]) ∧ H l = some (.lst (ts.map V.int)) ∧ H0 l = none
theorem lcm_step {b m : Int} (hb : 1 ≤ b) (hm : 1 ≤ m) : 1 ≤ b / (Int.gcd b m : Int) * m ∧ m ∣ b / (Int.gcd b m : Int) * m ∧ b ∣ b / (Int.gcd b m : Int) * m ∧ (b / (Int.gcd b m : Int) * m).natAbs ≤ b.natAbs * m.natAbs := by
  have gp := gcd_pos (a := b) (b := m) (by omega)
  obtain ⟨b', eb⟩ := Int.gcd_dvd_left (a := b) (b := m)
  obtain ⟨m', em⟩ := Int.gcd_dvd_right (a := b) (b := m)
  generalize Int.gcd b m = g at *
  have g0 : (g : Int) ≠ 0 := by omega
  have gb : b / (g : Int) = b' := by rw [eb]; exact Int.mul_ediv_cancel_left _ g0
  rw [gb]
  have b0 : 0 < b' := pos_part (u := (g : Int)) (by omega) (by rw [← eb]; omega)
  have mp : 0 < b' * m := Int.mul_pos b0 (by omega)
  refine ⟨by omega, Int.dvd_mul_left .., ⟨m', ?_⟩, ?_⟩
  · rw [em, eb]
    simp only [Int.mul_assoc, Int.mul_comm, Int.mul_left_comm]
  · rw [Int.natAbs_mul]
    refine Nat.mul_le_mul_right _ ?_
    rw [← gb]
    exact Int.natAbs_ediv_le_natAbs ..
theorem WhNew.at {H0 H : Hp} {v : V} {ts : List Int} {B : Int} (h : WhNew H0 H v ts B) : WhAt H v ts B := by
  obtain ⟨tp, l, e, e1, e2, _⟩ := h
  exact ⟨tp, l, e, e1, e2⟩
/-- apart from the list at D -/
def WhFar (D : Addr) (H : Hp) (v : V) (ts : List Int) (B : Int) : Prop := ∃ tp l : Addr, v = .ref tp ∧ H tp = some (.tup [.ref l, .int B]) ∧ H l = some (.lst (ts.map V.int)) ∧ l ≠ D
theorem WhNew.far {H0 H : Hp} {v : V} {ts : List Int} {zs : List V} {B : Int} {D : Addr} (h : WhNew H0 H v ts B) (e : H0 D = some (.lst zs)) : WhFar D H v ts B := by
  obtain ⟨tp, l, e0, e1, e2, n⟩ := h
  exact ⟨tp, l, e0, e1, e2, fun z => by rw [z, e] at n; cases n⟩
theorem WhFar.keep {D : Addr} {H H' : Hp} {v : V} {ts : List Int} {zs : List V} {B : Int} (h : WhFar D H v ts B) (eD : H D = some (.lst zs)) (k : ∀ b o, b ≠ D → H b = some o → H' b = some o) : WhFar D H' v ts B := by
  obtain ⟨tp, l, e0, e1, e2, n⟩ := h
  exact ⟨tp, l, e0, k _ _ (fun z => by rw [z, eD] at e1; cases e1) e1, k _ _ n e2, n⟩
theorem WhFar.at {D : Addr} {H : Hp} {v : V} {ts : List Int} {B : Int} (h : WhFar D H v ts B) : WhAt H v ts B := by
  obtain ⟨tp, l, e, e1, e2, _⟩ := h
  exact ⟨tp, l, e, e1, e2⟩
/-- rows as wholes, in a list -/
structure WsAt (H : Hp) (a : Addr) (ws : List (List Int × Int)) : Prop where
  ex : ∃ vs : List V, H a = some (.lst vs) ∧ vs.length = ws.length ∧ ∀ (i : Nat) (v : V) (w : List Int × Int), vs[i]? = some v → ws[i]? = some w → WhAt H v w.1 w.2
theorem WsAt.mono {H H' : Hp} {a : Addr} {ws : List (List Int × Int)} (h : WsAt H a ws) (s : Same H H') : WsAt H' a ws := by
  obtain ⟨vs, e, l, k⟩ := h.ex
  exact ⟨⟨vs, s _ _ e, l, fun i v w h1 h2 => (k i v w h1 h2).mono s⟩⟩
theorem pick {α β : Type} {xs : List α} {R : Nat → α → β → Prop} (h : ∀ (i : Nat) (x : α), xs[i]? = some x → ∃ w, R i x w) : ∃ ws : List β, ws.length = xs.length ∧ ∀ (i : Nat) (x : α) (w : β), xs[i]? = some x → ws[i]? = some w → R i x w := by
  refine ⟨List.ofFn fun i : Fin xs.length => Classical.choose (h i.1 xs[i.1] (by simp)), by simp, fun i x w hx hw => ?_⟩
  have hi : i < xs.length := (List.getElem?_eq_some_iff.mp hx).1
  have ex : xs[i] = x := (List.getElem?_eq_some_iff.mp hx).2
  rw [List.getElem?_ofFn, dif_pos hi] at hw
  have hw := Option.some.inj hw
  rw [← hw]
  have z := Classical.choose_spec (h i xs[i] (by simp [hi]))
  rw [← ex]
  exact z
structure WhB (q : Int) (ts : List Int) (B : Int) : Prop where
  len : ts.length ≤ 40
  each : ∀ t ∈ ts, t.natAbs ≤ (10 ^ 6) ^ 41
  pos : 1 ≤ B
  bd : B.natAbs ≤ (10 ^ 6) ^ 40
  nz : ¬ q ∣ B
theorem WhOk.b {q : Int} {ps : List (Int × Int)} {ts : List Int} {B : Int} (h : WhOk q ps ts B) (h40 : ps.length ≤ 40) : WhB q ts B := by
  have hp : (10 ^ 6) ^ ps.length ≤ (10 ^ 6) ^ 40 := Nat.pow_le_pow_right (by decide) h40
  refine ⟨by rw [h.len]; exact h40, fun t ht => ?_, h.pos, Nat.le_trans h.bd hp, h.nz⟩
  obtain ⟨i, hi, e⟩ := List.getElem_of_mem ht
  have hi' : i < ps.length := by rw [← h.len]; exact hi
  have z := (h.each i ps[i] t (by simp [hi']) (by rw [← e]; simp [hi])).2
  refine Nat.le_trans z ?_
  rw [show (10 ^ 6) ^ 41 = 10 ^ 6 * (10 ^ 6) ^ 40 by rw [Nat.pow_succ, Nat.mul_comm]]
  exact Nat.mul_le_mul_left _ hp
theorem nz_mul {q b c : Int} (hq : WheelN q) (h1 : ¬ q ∣ b) (h2 : ¬ q ∣ c) : ¬ q ∣ b * c := fun h => by
  rcases hq with rfl | ⟨q2, q3, q4⟩
  · have z := Int.zero_dvd.mp h
    rcases Int.mul_eq_zero.mp z with z | z
    · exact h1 (by rw [z]; exact Int.dvd_refl 0)
    · exact h2 (by rw [z]; exact Int.dvd_refl 0)
  · have k1 := Int.emod_nonneg c (show q ≠ 0 by omega)
    have k2 := Int.emod_lt_of_pos c (show 0 < q by omega)
    have k3 : c % q ≠ 0 := fun z => h2 (Int.dvd_of_emod_eq_zero z)
    have g := prime_cop q2 q3 q4 (show 1 ≤ c % q by omega) k2
    obtain ⟨w, ew⟩ := mod_wit c q
    exact h1 (dvd_cop q2 (cop_cong g ⟨-w, by rw [Int.mul_neg]; omega⟩) h)
theorem IsN.far {H H' : Hp} {q : Int} {v : V} {t b : Int} {D : Addr} {ys : List V} (h : IsN H q v t b) (eD : H D = some (.lst ys)) (k : ∀ b o, b ≠ D → H b = some o → H' b = some o) : IsN H' q v t b := by
  cases h with
  | frac e l hb h =>
    refine .frac (k _ _ (fun z => ?_) e) l hb h
    rw [z, eD] at e
    cases e
  | rem q2 h0 h1 g h => exact .rem q2 h0 h1 g h
/-- a row of numbers by what they are worth -/
def NRow (H : Hp) (q : Int) (a : Addr) (tb : List (Int × Int)) : Prop := ∃ vs : List V, H a = some (.lst vs) ∧ vs.length = tb.length ∧ ∀ (i : Nat) (v : V) (p : Int × Int), vs[i]? = some v → tb[i]? = some p → IsN H q v p.1 p.2
/-- a table, by the parts of its numbers -/
def TabAt (H : Hp) (q : Int) (a : Addr) (pss : List (List (Int × Int))) : Prop := ∃ vs : List V, H a = some (.lst vs) ∧ vs.length = pss.length ∧ ∀ (i : Nat) (v : V) (ps : List (Int × Int)), vs[i]? = some v → pss[i]? = some ps → ∃ r : Addr, v = .ref r ∧ RowAt H q r ps
/-- bottoms that a world may part by -/
def BotOk (q : Int) (b : Int) : Prop := (q = 0 → 1 ≤ b) ∧ (q ≠ 0 → b = 1)
theorem IsN.to {H : Hp} {q : Int} {v : V} {t b t' b' : Int} (h : IsN H q v t b) (hq : WheelN q) (e : t * b' = t' * b) (ok : BotOk q b') : IsN H q v t' b' := by
  cases h with
  | frac e1 l hb h =>
    rename_i p x m
    have b0 := ok.1 rfl
    refine .frac e1 l (by omega) (mul_cancel (c := b) hb ?_)
    grind
  | rem q2 h0 h1 g h =>
    rename_i r
    have b0 := ok.2 (by omega)
    subst b0
    refine .rem q2 h0 h1 (by rw [Int.gcd_one_right]) (dvd_cop q2 g ?_)
    obtain ⟨k, ek⟩ := h
    exact ⟨k, by grind⟩
theorem NumAt.bot {B : Nat} {H : Hp} {q : Int} {v : V} {x m : Int} (h : NumAt B H q v x m) (hq : WheelN q) : BotOk q m := by
  cases h with
  | frac e l bx bm => exact ⟨fun _ => l.pos, fun z => absurd rfl z⟩
  | rem h0 h1 h2 => exact ⟨fun _ => by omega, fun _ => rfl⟩
theorem RowAt.bot {H : Hp} {q : Int} {a : Addr} {ps : List (Int × Int)} (h : RowAt H q a ps) (hq : WheelN q) : ∀ p ∈ ps, BotOk q p.2 := fun p hp => by
  obtain ⟨vs, e, l, k⟩ := h
  obtain ⟨i, hi, ei⟩ := List.getElem_of_mem hp
  have hi' : i < vs.length := by omega
  exact (k i vs[i] p (by simp [hi']) (by rw [← ei]; simp [hi])).bot hq
theorem TabAt.mono {H H' : Hp} {q : Int} {a : Addr} {pss : List (List (Int × Int))} (h : TabAt H q a pss) (s : Same H H') : TabAt H' q a pss := by
  obtain ⟨vs, e, l, k⟩ := h
  exact ⟨vs, s _ _ e, l, fun i v ps h1 h2 => by
    obtain ⟨r, e1, e2⟩ := k i v ps h1 h2
    exact ⟨r, e1, e2.mono s⟩⟩
theorem TabAt.bot {H : Hp} {q : Int} {a : Addr} {pss : List (List (Int × Int))} (h : TabAt H q a pss) (hq : WheelN q) : ∀ ps ∈ pss, ∀ p ∈ ps, BotOk q p.2 := fun ps hp => by
  obtain ⟨vs, e, l, k⟩ := h
  obtain ⟨i, hi, ei⟩ := List.getElem_of_mem hp
  have hi' : i < vs.length := by omega
  obtain ⟨r, _, hr⟩ := k i vs[i] ps (by simp [hi']) (by rw [← ei]; simp [hi])
  exact hr.bot hq
def NRowFar (D : Addr) (H : Hp) (q : Int) (a : Addr) (tb : List (Int × Int)) : Prop := a ≠ D ∧ NRow H q a tb
theorem NRowFar.keep {D : Addr} {H H' : Hp} {q : Int} {a : Addr} {tb : List (Int × Int)} {zs : List V} (h : NRowFar D H q a tb) (eD : H D = some (.lst zs)) (k : ∀ b o, b ≠ D → H b = some o → H' b = some o) : NRowFar D H' q a tb := by
  obtain ⟨n, vs, e, l, f⟩ := h
  exact ⟨n, vs, k _ _ n e, l, fun i v p h1 h2 => (f i v p h1 h2).far eD k⟩
theorem bls_of {vs : List V} {b : Bool} (h : ∀ (i : Nat) (v : V), vs[i]? = some v → v = .bl b) : vs = (List.replicate vs.length b).map V.bl := by
  refine List.ext_getElem? fun i => ?_
  rw [List.getElem?_map]
  by_cases hi : i < vs.length
  · rw [show vs[i]? = some vs[i] by simp [hi], h i vs[i] (by simp [hi])]
    simp [hi]
  · rw [List.getElem?_eq_none (by omega), List.getElem?_eq_none (by simp; omega)]
    rfl
theorem all_yes (n : Nat) : (List.replicate n true).all id = true := by simp
theorem op_of {r : R2} {ta tb : TE} {σ : St} {H : Hp} {Q : VK} (h : ta σ H fun x H1 => tb σ H1 fun y H2 => r x y H2 Q) : tOp r ta tb σ H Q := h
theorem none_of {H H' : Hp} {b : Addr} (s : Same H H') (h : H' b = none) : H b = none := by
  cases e : H b with
  | none => rfl
  | some o => rw [s _ _ e] at h; cases h
theorem NumAt.bdM {B : Nat} {H : Hp} {q : Int} {v : V} {x m : Int} (h : NumAt B H q v x m) (b1 : 1 ≤ B) : m.natAbs ≤ B := by
  cases h with
  | frac e l bx bm => exact bm
  | rem h0 h1 h2 => exact b1
theorem RowAt.bd {H : Hp} {q : Int} {a : Addr} {ps : List (Int × Int)} (h : RowAt H q a ps) : ∀ p ∈ ps, p.2.natAbs ≤ 10 ^ 6 := fun p hp => by
  obtain ⟨vs, e, l, k⟩ := h
  obtain ⟨i, hi, ei⟩ := List.getElem_of_mem hp
  have hi' : i < vs.length := by omega
  exact (k i vs[i] p (by simp [hi']) (by rw [← ei]; simp [hi])).bdM (by decide)
theorem isN_like {K : PySem.W.Frag} {H : Hp} {q : Int} {v u : V} {t b t' b' : Int} (hv : IsN H q v t b) (hu : IsN H q u t' b') (e : t * b' = t' * b) (n : Nat) : LikeN K H (n + 1) v u := by
  rcases isN_alike hv hu e with ⟨p, p', x, m, rfl, rfl, e1, e2⟩ | ⟨i, rfl, rfl⟩
  · refine .inr ⟨p, p', _, _, rfl, rfl, .inr ⟨.of e1, .of e2⟩, rfl, fun j x y h1 h2 => ?_⟩
    rw [h1] at h2
    cases h2
    have hf : flatV x = true := by
      match j, h1 with
      | 0, h1 => cases h1; rfl
      | 1, h1 => cases h1; rfl
      | j + 2, h1 => cases h1
    cases n with
    | zero => exact ⟨rfl, hf⟩
    | succ n => exact .inl ⟨rfl, hf⟩
  · exact .inl ⟨rfl, rfl⟩
end My

/-! tables of numbers by what they are worth, place by place -/
namespace My
open PySem L2
def FRow (H : Hp) (q : Int) (r : Addr) (M : Nat) (g : Nat → Int × Int) : Prop := ∃ ws : List V, H r = some (.lst ws) ∧ ws.length = M ∧ ∀ (j : Nat) (w : V), ws[j]? = some w → IsN H q w (g j).1 (g j).2
theorem FRow.mono {H H' : Hp} {q : Int} {r : Addr} {M : Nat} {g : Nat → Int × Int} (h : FRow H q r M g) (s : Same H H') : FRow H' q r M g := by
  obtain ⟨ws, e, l, k⟩ := h
  exact ⟨ws, s _ _ e, l, fun j w hw => (k j w hw).mono s⟩
theorem FRow.far {H H' : Hp} {q : Int} {r D : Addr} {M : Nat} {g : Nat → Int × Int} {zs : List V} (h : FRow H q r M g) (n : r ≠ D) (eD : H D = some (.lst zs)) (k : ∀ b o, b ≠ D → H b = some o → H' b = some o) : FRow H' q r M g := by
  obtain ⟨ws, e, l, f⟩ := h
  exact ⟨ws, k _ _ n e, l, fun j w hw => (f j w hw).far eD k⟩
/-- a table told anew: its rows are no older than H0, and none of them is the table itself -/
def FTab (H0 H : Hp) (q : Int) (a : Addr) (N M : Nat) (f : Nat → Nat → Int × Int) : Prop := ∃ vs : List V, H a = some (.lst vs) ∧ vs.length = N ∧ ∀ (i : Nat) (v : V), vs[i]? = some v → ∃ r : Addr, v = .ref r ∧ r ≠ a ∧ H0 r = none ∧ FRow H q r M (f i)
theorem FTab.mono {H0 H H' : Hp} {q : Int} {a : Addr} {N M : Nat} {f : Nat → Nat → Int × Int} (h : FTab H0 H q a N M f) (s : Same H H') : FTab H0 H' q a N M f := by
  obtain ⟨vs, e, l, k⟩ := h
  exact ⟨vs, s _ _ e, l, fun i v hv => by
    obtain ⟨r, e1, e2, e3, e4⟩ := k i v hv
    exact ⟨r, e1, e2, e3, e4.mono s⟩⟩
theorem FTab.older {H0 H1 H : Hp} {q : Int} {a : Addr} {N M : Nat} {f : Nat → Nat → Int × Int} (h : FTab H1 H q a N M f) (s : Same H0 H1) : FTab H0 H q a N M f := by
  obtain ⟨vs, e, l, k⟩ := h
  exact ⟨vs, e, l, fun i v hv => by
    obtain ⟨r, e1, e2, e3, e4⟩ := k i v hv
    exact ⟨r, e1, e2, none_of s e3, e4⟩⟩
def o1 : Int × Int := (0, 1)
theorem TabAt.row {H : Hp} {q : Int} {a : Addr} {pss : List (List (Int × Int))} (h : TabAt H q a pss) {i : Nat} (hi : i < pss.length) : ∃ (vs : List V) (r : Addr), H a = some (.lst vs) ∧ vs.length = pss.length ∧ vs[i]? = some (.ref r) ∧ RowAt H q r pss[i] := by
  obtain ⟨vs, e, l, k⟩ := h
  have hv : i < vs.length := by omega
  obtain ⟨r, e1, e2⟩ := k i vs[i] pss[i] (by simp [hv]) (by simp [hi])
  exact ⟨vs, r, e, l, by rw [← e1]; simp [hv], e2⟩
theorem RowAt.cell {H : Hp} {q : Int} {r : Addr} {ps : List (Int × Int)} (h : RowAt H q r ps) {j : Nat} (hj : j < ps.length) : ∃ (vs : List V) (v : V), H r = some (.lst vs) ∧ vs.length = ps.length ∧ vs[j]? = some v ∧ NumAt (10 ^ 6) H q v (ps.getD j o1).1 (ps.getD j o1).2 := by
  obtain ⟨vs, e, l, k⟩ := h
  have hv : j < vs.length := by omega
  refine ⟨vs, vs[j], e, l, by simp [hv], ?_⟩
  rw [List.getD_eq_getElem?_getD, show ps[j]? = some ps[j] by simp [hj]]
  exact k j vs[j] ps[j] (by simp [hv]) (by simp [hj])
theorem getD_at {α : Type} {xs : List α} {d : α} {i : Nat} (hi : i < xs.length) : xs.getD i d = xs[i] := by
  rw [List.getD_eq_getElem?_getD, show xs[i]? = some xs[i] by simp [hi]]
  rfl
theorem TabAt.bd {H : Hp} {q : Int} {a : Addr} {pss : List (List (Int × Int))} (h : TabAt H q a pss) : ∀ ps ∈ pss, ∀ p ∈ ps, p.2.natAbs ≤ 10 ^ 6 := fun ps hp => by
  obtain ⟨vs, e, l, k⟩ := h
  obtain ⟨i, hi, ei⟩ := List.getElem_of_mem hp
  have hi' : i < vs.length := by omega
  obtain ⟨r, _, hr⟩ := k i vs[i] ps (by simp [hi']) (by rw [← ei]; simp [hi])
  exact hr.bd
end My

/-! the same for few and greater numbers: at most four in a row, of at most sixty figures -/
namespace My
open PySem L2
def RowN (H : Hp) (q : Int) (a : Addr) (ps : List (Int × Int)) : Prop := ∃ vs : List V, H a = some (.lst vs) ∧ vs.length = ps.length ∧ ∀ (i : Nat) (v : V) (p : Int × Int), vs[i]? = some v → ps[i]? = some p → NumAt (10 ^ 60) H q v p.1 p.2
theorem RowN.mono {H H' : Hp} {q : Int} {a : Addr} {ps : List (Int × Int)} (h : RowN H q a ps) (s : Same H H') : RowN H' q a ps := by
  obtain ⟨vs, e, l, k⟩ := h
  exact ⟨vs, s _ _ e, l, fun i v p h1 h2 => (k i v p h1 h2).mono s⟩
structure WhOkN (q : Int) (ps : List (Int × Int)) (ts : List Int) (B : Int) : Prop where
  len : ts.length = ps.length
  pos : 1 ≤ B
  bd : B.natAbs ≤ (10 ^ 60) ^ ps.length
  nz : ¬ q ∣ B
  each : ∀ (i : Nat) (p : Int × Int) (t : Int), ps[i]? = some p → ts[i]? = some t → t * p.2 = p.1 * B ∧ t.natAbs ≤ 10 ^ 60 * (10 ^ 60) ^ ps.length
structure WhBN (q : Int) (ts : List Int) (B : Int) : Prop where
  len : ts.length ≤ 4
  each : ∀ t ∈ ts, t.natAbs ≤ (10 ^ 60) ^ 5
  pos : 1 ≤ B
  bd : B.natAbs ≤ (10 ^ 60) ^ 4
  nz : ¬ q ∣ B
theorem WhOkN.b {q : Int} {ps : List (Int × Int)} {ts : List Int} {B : Int} (h : WhOkN q ps ts B) (h40 : ps.length ≤ 4) : WhBN q ts B := by
  have hp : (10 ^ 60) ^ ps.length ≤ (10 ^ 60) ^ 4 := Nat.pow_le_pow_right (by decide) h40
  refine ⟨by rw [h.len]; exact h40, fun t ht => ?_, h.pos, Nat.le_trans h.bd hp, h.nz⟩
  obtain ⟨i, hi, e⟩ := List.getElem_of_mem ht
  have hi' : i < ps.length := by rw [← h.len]; exact hi
  have z := (h.each i ps[i] t (by simp [hi']) (by rw [← e]; simp [hi])).2
  refine Nat.le_trans z ?_
  rw [show (10 ^ 60) ^ 5 = 10 ^ 60 * (10 ^ 60) ^ 4 by rw [Nat.pow_succ, Nat.mul_comm]]
  exact Nat.mul_le_mul_left _ hp
def TabN (H : Hp) (q : Int) (a : Addr) (pss : List (List (Int × Int))) : Prop := ∃ vs : List V, H a = some (.lst vs) ∧ vs.length = pss.length ∧ ∀ (i : Nat) (v : V) (ps : List (Int × Int)), vs[i]? = some v → pss[i]? = some ps → ∃ r : Addr, v = .ref r ∧ RowN H q r ps
theorem RowN.bot {H : Hp} {q : Int} {a : Addr} {ps : List (Int × Int)} (h : RowN H q a ps) (hq : WheelN q) : ∀ p ∈ ps, BotOk q p.2 := fun p hp => by
  obtain ⟨vs, e, l, k⟩ := h
  obtain ⟨i, hi, ei⟩ := List.getElem_of_mem hp
  have hi' : i < vs.length := by omega
  exact (k i vs[i] p (by simp [hi']) (by rw [← ei]; simp [hi])).bot hq
theorem TabN.mono {H H' : Hp} {q : Int} {a : Addr} {pss : List (List (Int × Int))} (h : TabN H q a pss) (s : Same H H') : TabN H' q a pss := by
  obtain ⟨vs, e, l, k⟩ := h
  exact ⟨vs, s _ _ e, l, fun i v ps h1 h2 => by
    obtain ⟨r, e1, e2⟩ := k i v ps h1 h2
    exact ⟨r, e1, e2.mono s⟩⟩
theorem TabN.bot {H : Hp} {q : Int} {a : Addr} {pss : List (List (Int × Int))} (h : TabN H q a pss) (hq : WheelN q) : ∀ ps ∈ pss, ∀ p ∈ ps, BotOk q p.2 := fun ps hp => by
  obtain ⟨vs, e, l, k⟩ := h
  obtain ⟨i, hi, ei⟩ := List.getElem_of_mem hp
  have hi' : i < vs.length := by omega
  obtain ⟨r, _, hr⟩ := k i vs[i] ps (by simp [hi']) (by rw [← ei]; simp [hi])
  exact hr.bot hq
end My

/-! worths alike in a world, sums of products by their places -/
namespace My
open PySem L2
/-- as much worth: in the fractions (q = 0) the same, on a wheel alike but for turns -/
def Weq (q : Int) (p t : Int × Int) : Prop := q ∣ p.1 * t.2 - t.1 * p.2
theorem Weq.refl {q : Int} (p : Int × Int) : Weq q p p := ⟨0, by rw [Int.sub_self, Int.mul_zero]⟩
theorem Weq.symm {q : Int} {p t : Int × Int} (h : Weq q p t) : Weq q t p := by
  obtain ⟨k, e⟩ := h
  exact ⟨-k, by rw [Int.mul_neg]; omega⟩
theorem Weq.cancel {q b x : Int} (ok : BotOk q b) (h : q ∣ b * x) : q ∣ x := by
  by_cases z : q = 0
  · subst z
    have h0 := Int.zero_dvd.mp h
    have b1 := ok.1 rfl
    rcases Int.mul_eq_zero.mp h0 with e | e
    · omega
    · rw [e]; exact Int.dvd_refl 0
  · rw [ok.2 z, Int.one_mul] at h
    exact h
theorem Weq.trans {q : Int} {p t s : Int × Int} (h1 : Weq q p t) (h2 : Weq q t s) (ok : BotOk q t.2) : Weq q p s := by
  obtain ⟨k1, e1⟩ := h1
  obtain ⟨k2, e2⟩ := h2
  refine Weq.cancel ok ⟨k1 * s.2 + k2 * p.2, ?_⟩
  grind
def sumN : Nat → (Nat → Int) → Int
  | 0, _ => 0
  | n + 1, f => f 0 + sumN n fun i => f (i + 1)
theorem sumN_congr : ∀ {n : Nat} {f g : Nat → Int}, (∀ i, i < n → f i = g i) → sumN n f = sumN n g
  | 0, f, g, _ => rfl
  | n + 1, f, g, h => by
    unfold sumN
    rw [h 0 (by omega), sumN_congr fun i hi => h (i + 1) (by omega)]
theorem sumN_mul (c : Int) : ∀ (n : Nat) (f : Nat → Int), c * sumN n f = sumN n fun i => c * f i
  | 0, f => by unfold sumN; rw [Int.mul_zero]
  | n + 1, f => by
    unfold sumN
    rw [Int.mul_add, sumN_mul c n]
theorem sumN_zero : ∀ (n : Nat), sumN n (fun _ => 0) = 0
  | 0 => rfl
  | n + 1 => by unfold sumN; rw [sumN_zero n]; rfl
end My

/-! the product of two tables, the one table -/
namespace My
open PySem L2
theorem of_small {B : Nat} (hB : 1 ≤ B) {H : Hp} {q : Int} {v : V} {a : Int} (h : OfAt H q v a 1) (hq : WheelN q) (ha : a = 0 ∨ a = 1) : NumAt B H q v a 1 := by
  rcases h with ⟨rfl, r, rfl, e⟩ | ⟨q2, r, rfl, r0, r1, er⟩
  · rw [(low_fd1 a).1, (low_fd1 a).2] at e
    exact .frac e ⟨by decide, Int.gcd_one_right ..⟩ (by rcases ha with rfl | rfl <;> simp [hB]) (by simpa using hB)
  · have q3 : q ≤ 997 := by rcases hq with z | ⟨_, z, _⟩ <;> omega
    rw [Int.emod_eq_of_lt (show (0 : Int) ≤ 1 by decide) (show (1 : Int) < q by omega), Int.mul_one, Int.emod_eq_of_lt r0 r1] at er
    have ea : a % q = a := Int.emod_eq_of_lt (by omega) (by omega)
    rw [ea] at er
    subst er
    exact .rem r0 r1 q3
theorem one_noOv {q : Int} (hq : WheelN q) : ¬ NoOv q 1 := fun h => by
  unfold NoOv at h
  rcases hq with rfl | ⟨q2, q3, q4⟩
  · rw [if_pos rfl] at h; omega
  · rw [if_neg (by omega), Int.emod_eq_of_lt (by omega) (by omega)] at h; omega
theorem NRow.f {H : Hp} {q : Int} {r : Addr} {tb : List (Int × Int)} {M : Nat} {g : Nat → Int × Int} (h : NRow H q r tb) (hl : tb.length = M) (hg : ∀ j, j < M → tb[j]? = some (g j)) : FRow H q r M g := by
  obtain ⟨ws, e, l, k⟩ := h
  refine ⟨ws, e, by omega, fun j w hw => ?_⟩
  have hj : j < M := by rw [← hl, ← l]; exact (List.getElem?_eq_some_iff.mp hw).1
  exact k j w (g j) hw (hg j hj)
theorem RowN.f {H : Hp} {q : Int} (hq : WheelN q) {r : Addr} {ps : List (Int × Int)} (h : RowN H q r ps) : FRow H q r ps.length (fun j => ps.getD j o1) := by
  obtain ⟨ws, e, l, k⟩ := h
  refine ⟨ws, e, l, fun j w hw => ?_⟩
  have hj : j < ps.length := by rw [← l]; exact (List.getElem?_eq_some_iff.mp hw).1
  show IsN H q w (ps.getD j o1).1 (ps.getD j o1).2
  rw [getD_at hj]
  exact (k j w ps[j] hw (by simp [hj])).isN hq
end My

/-! products of products, by whole numbers over one bottom -/
namespace My
open PySem L2
theorem BotOk.mul {q a b : Int} (h1 : BotOk q a) (h2 : BotOk q b) : BotOk q (a * b) := ⟨fun z => by
    have := Int.mul_pos (show 0 < a by have := h1.1 z; omega) (show 0 < b by have := h2.1 z; omega)
    omega, fun z => by rw [h1.2 z, h2.2 z]; rfl⟩
theorem BotOk.one {q : Int} : BotOk q 1 := ⟨fun _ => by decide, fun _ => rfl⟩
theorem NumAt.both {B : Nat} {H : Hp} {q : Int} {v : V} {x m : Int} (h : NumAt B H q v x m) (b1 : 1000 ≤ B) : x.natAbs ≤ B ∧ m.natAbs ≤ B := by
  cases h with
  | frac e l bx bm => exact ⟨bx, bm⟩
  | rem h0 h1 h2 => exact ⟨by omega, by show Int.natAbs 1 ≤ B; omega⟩
theorem RowAt.both {H : Hp} {q : Int} {a : Addr} {ps : List (Int × Int)} (h : RowAt H q a ps) : ∀ p ∈ ps, p.1.natAbs ≤ 10 ^ 6 ∧ p.2.natAbs ≤ 10 ^ 6 := fun p hp => by
  obtain ⟨vs, e, l, k⟩ := h
  obtain ⟨i, hi, ei⟩ := List.getElem_of_mem hp
  have hi' : i < vs.length := by omega
  exact (k i vs[i] p (by simp [hi']) (by rw [← ei]; simp [hi])).both (by decide)
theorem TabAt.both {H : Hp} {q : Int} {a : Addr} {pss : List (List (Int × Int))} (h : TabAt H q a pss) : ∀ ps ∈ pss, ∀ p ∈ ps, p.1.natAbs ≤ 10 ^ 6 ∧ p.2.natAbs ≤ 10 ^ 6 := fun ps hp => by
  obtain ⟨vs, e, l, k⟩ := h
  obtain ⟨i, hi, ei⟩ := List.getElem_of_mem hp
  have hi' : i < vs.length := by omega
  obtain ⟨r, _, hr⟩ := k i vs[i] ps (by simp [hi']) (by rw [← ei]; simp [hi])
  exact hr.both
end My

/-! a pen: a list that is changed by each draw; the heap without it -/
namespace My
open PySem L2
def er (P : Addr) (H : Hp) : Hp := fun b => if b = P then none else H b
theorem er_le {P : Addr} {H : Hp} : Same (er P H) H := fun b o e => by
  unfold er at e
  split at e
  · cases e
  · exact e
theorem er_ne {P b : Addr} {H : Hp} (h : b ≠ P) : er P H b = H b := if_neg h
theorem er_some {P b : Addr} {H : Hp} {o : HO} (h : b ≠ P) (e : H b = some o) : er P H b = some o := by rw [er_ne h]; exact e
theorem er_same {P : Addr} {H H' : Hp} (s : Same H H') : Same (er P H) (er P H') := fun b o e => by
  unfold er at e ⊢
  split at e
  · cases e
  · rename_i h
    rw [if_neg h]
    exact s _ _ e
theorem er_upd {P : Addr} {H : Hp} {o : HO} : er P (upd H P o) = er P H := funext fun b => by
  unfold er
  split
  · rfl
  · rename_i h
    exact upd_ne h
/-- the pen, as it stands -/
def PenC (H : Hp) (P a : Addr) : Prop := ∃ x y : Int, H P = some (.lst [.ref a, .int x, .int y]) ∧ 0 ≤ x ∧ 0 ≤ y
theorem PenC.mono {H H' : Hp} {P a : Addr} (h : PenC H P a) (s : Same H H') : PenC H' P a := by
  obtain ⟨x, y, e, h1, h2⟩ := h
  exact ⟨x, y, s _ _ e, h1, h2⟩
theorem PenC.upd {H : Hp} {P a D : Addr} {o : HO} (h : PenC H P a) (n : D ≠ P) : PenC (L2.upd H D o) P a := by
  obtain ⟨x, y, e, h1, h2⟩ := h
  exact ⟨x, y, by rw [upd_ne n.symm]; exact e, h1, h2⟩
theorem PenC.ne {H : Hp} {P a D : Addr} (h : PenC H P a) (n : H D = none) : D ≠ P := fun z => by
  obtain ⟨x, y, e, _⟩ := h
  rw [z, e] at n
  cases n
def SameE (P : Addr) (H H' : Hp) : Prop := Same (er P H) (er P H')
theorem SameE.refl {P : Addr} (H : Hp) : SameE P H H := Same.refl _
theorem SameE.trans {P : Addr} {H H' H2 : Hp} (s : SameE P H H') (t : SameE P H' H2) : SameE P H H2 := Same.trans s t
theorem SameE.of {P : Addr} {H H' : Hp} (s : Same H H') : SameE P H H' := er_same s
theorem SameE.pen {P : Addr} {H : Hp} {o : HO} : SameE P H (upd H P o) := by
  unfold SameE
  rw [er_upd]
  exact Same.refl _
theorem SameE.but {P D : Addr} {H H' : Hp} {o : HO} (s : SameE P H H') (n : H D = none) : SameE P H (upd H' D o) := fun b u e => by
  have e0 := s b u e
  have nb : b ≠ P := fun z => by unfold er at e; rw [if_pos z] at e; cases e
  rw [er_ne nb] at e e0 ⊢
  rw [upd_ne (ne_of_none e n)]
  exact e0
theorem SameE.at {P b : Addr} {H H' : Hp} {o : HO} (s : SameE P H H') (nb : b ≠ P) (e : H b = some o) : H' b = some o := by
  have z := s b o (er_some nb e)
  rw [er_ne nb] at z
  exact z
theorem comp_ofE {wi : TI} {ρ : St → St} {te : TE} {σ : St} {H : Hp} {Q : VK} {P a : Addr} {N : Nat} (hN : N < sizeLine)
    (hwi : ∀ R : It → Hp → Prop, (∀ (n : Nat) (H1 : Hp), n ≤ N → SameE P H H1 → PenC H1 P a → R (Itr 0 n) H1) → wi σ H R)
    (Pr : Addr → Nat → V → Hp → Prop) (mono : ∀ D i y Hc H' ys, Pr D i y Hc → Hc D = some (.lst ys) → D ≠ P → (∀ b o, b ≠ D → b ≠ P → Hc b = some o → H' b = some o) → Pr D i y H')
    (step : ∀ (D : Addr) (i : Nat), i < N → ∀ (Hc : Hp) (R : VK), SameE P H Hc → PenC Hc P a → (∃ ys, Hc D = some (.lst ys)) → D ≠ P → (∀ y H3, SameE P Hc H3 → PenC H3 P a → Pr D i y H3 → R y H3) → te (some (.int (0 + (i : Int))) :: ρ σ) Hc R)
    (fin : ∀ (D : Addr) (ys : List V) (Hc : Hp), D ≠ P → er P H D = none → SameE P H Hc → PenC Hc P a → ys.length ≤ N → (∀ (i : Nat) (y : V), ys[i]? = some y → Pr D i y Hc) → Hc D = some (.lst ys) → Q (.ref D) Hc) : tComp wi ρ (fun _ H Q => Q true H) te σ H Q := by
  refine hwi _ fun n H1 hn s1 p1 => ?_
  intro D nD
  have nP := p1.ne nD
  refine ⟨fun i m ys Hc => m = n - i ∧ i ≤ n ∧ Hc D = some (.lst ys) ∧ SameE P H1 Hc ∧ PenC Hc P a ∧ ys.length = i ∧ ∀ j y, ys[j]? = some y → Pr D j y Hc, ⟨_, rfl, Nat.zero_le _, upd_same, (SameE.refl H1).but nD, p1.upd nP, rfl, fun j y e => by simp at e⟩, ?_⟩
  rintro i m ys Hc ⟨rfl, hi, eD, sH, pc, el, hP⟩
  refine ⟨eD, ?_⟩
  by_cases hlt : i < n
  · refine .inr ⟨hlt, fun x H' hy => ?_⟩
    obtain ⟨rfl, rfl⟩ := hy
    rw [if_pos rfl]
    refine step D i (by omega) _ _ (s1.trans sH) pc ⟨ys, eD⟩ nP fun y H3 s3 p3 hp => ?_
    have e3 := s3.at nP eD
    refine ⟨e3, by omega, n - (i + 1), by omega, rfl, hlt, upd_same, (sH.trans s3).but nD, p3.upd nP, by simp [el], fun j y' e => ?_⟩
    have far : ∀ b o, b ≠ D → b ≠ P → H3 b = some o → upd H3 D (.lst (ys ++ [y])) b = some o := fun b o nb _ e => by rw [upd_ne nb]; exact e
    by_cases hj : j < i
    · have e' : ys[j]? = some y' := by rw [List.getElem?_append_left (by omega)] at e; exact e
      refine mono D j y' H' _ ys (hP j y' e') eD nP fun b o nb np e => ?_
      exact far b o nb np (s3.at np e)
    · have hj : j = i := by
        have := (List.getElem?_eq_some_iff.mp e).1
        simp at this
        omega
      subst hj
      have e' : y' = y := by rw [List.getElem?_append_right (by omega), el, Nat.sub_self] at e; simpa using e.symm
      subst e'
      exact mono D _ _ H3 _ ys hp e3 nP far
  · have e : i = n := by omega
    subst e
    have hD : er P H D = none := by
      cases z : er P H D with
      | none => rfl
      | some o =>
        have z2 := s1 _ _ z
        rw [er_ne nP, nD] at z2
        cases z2
    exact .inl ⟨Nat.le_refl _, fin D ys Hc nP hD (s1.trans sH) pc (by omega) hP eD⟩
/-! rows of numbers, by their parts -/
def RowG (B : Nat) (H : Hp) (q : Int) (a : Addr) (ps : List (Int × Int)) : Prop := ∃ vs : List V, H a = some (.lst vs) ∧ vs.length = ps.length ∧ ∀ (i : Nat) (v : V) (p : Int × Int), vs[i]? = some v → ps[i]? = some p → NumAt B H q v p.1 p.2
theorem RowG.mono {B : Nat} {H H' : Hp} {q : Int} {a : Addr} {ps : List (Int × Int)} (h : RowG B H q a ps) (s : Same H H') : RowG B H' q a ps := by
  obtain ⟨vs, e, l, k⟩ := h
  exact ⟨vs, s _ _ e, l, fun i v p h1 h2 => (k i v p h1 h2).mono s⟩
theorem NumAt.weak {B B' : Nat} {H : Hp} {q : Int} {v : V} {x m : Int} (h : NumAt B H q v x m) (hb : B ≤ B') : NumAt B' H q v x m := by
  cases h with
  | frac e l bx bm => exact .frac e l (Nat.le_trans bx hb) (Nat.le_trans bm hb)
  | rem h0 h1 h2 => exact .rem h0 h1 h2
theorem RowG.weak {B B' : Nat} {H : Hp} {q : Int} {a : Addr} {ps : List (Int × Int)} (h : RowG B H q a ps) (hb : B ≤ B') : RowG B' H q a ps := by
  obtain ⟨vs, e, l, k⟩ := h
  exact ⟨vs, e, l, fun i v p h1 h2 => (k i v p h1 h2).weak hb⟩
theorem rowG_like {K : PySem.W.Frag} {B B' : Nat} {H : Hp} {q : Int} (hq : WheelN q) {a b : Addr} {ps : List (Int × Int)} (h1 : RowG B H q a ps) (h2 : RowG B' H q b ps) (n : Nat) : LikeN K H (n + 2) (.ref a) (.ref b) := by
  obtain ⟨vs, e1, l1, f1⟩ := h1
  obtain ⟨us, e2, l2, f2⟩ := h2
  refine .inr ⟨a, b, vs, us, rfl, rfl, .inl ⟨.of e1, .of e2⟩, by omega, fun j x y hx hy => ?_⟩
  have hj : j < ps.length := by rw [← l1]; exact (List.getElem?_eq_some_iff.mp hx).1
  exact isN_like ((f1 j x ps[j] hx (by simp [hj])).isN hq) ((f2 j y ps[j] hy (by simp [hj])).isN hq) rfl n
theorem rowG_rlike {K : PySem.W.Frag} {B B' : Nat} {H : Hp} {q : Int} (hq : WheelN q) {a b : Addr} {ps : List (Int × Int)} {R : VK} {r : Bool} (h1 : RowG B H q a ps) (h2 : RowG B' H q b ps) (k : R (.bl r) H) : rLike K 1 r (.ref a) (.ref b) H R := by
  obtain ⟨vs, e1, l1, f1⟩ := h1
  obtain ⟨us, e2, l2, f2⟩ := h2
  refine ⟨a, b, vs, us, rfl, rfl, .of e1, .of e2, by omega, fun j x y hx hy => ?_, k⟩
  have hj : j < ps.length := by rw [← l1]; exact (List.getElem?_eq_some_iff.mp hx).1
  exact isN_like ((f1 j x ps[j] hx (by simp [hj])).isN hq) ((f2 j y ps[j] hy (by simp [hj])).isN hq) rfl 0
/-- the number nought is told apart -/
theorem eqM_zero {K : PySem.W.Frag} {B B' : Nat} {H : Hp} {q : Int} {v u : V} {x m : Int} {R : VK} (hv : NumAt B H q v x m) (hu : NumAt B' H q u 0 1) (k : R (.bl (decide (x = 0))) H) : rEqM K v u H R := by
  cases hv with
  | frac e l bx bm =>
    cases hu with
    | frac e' l' _ _ =>
      refine .inr (.inr (.inl ⟨_, _, _, _, rfl, rfl, .of e, .of e', rfl, rfl, ?_⟩))
      have z : (eqL [V.int x, V.int m] [V.int 0, V.int 1]) = decide (x = 0) := by
        show ((x == 0) && ((m == 1) && true)) = _
        by_cases hx : x = 0
        · subst hx
          have := l.cop
          rw [Int.gcd_zero_left] at this
          have := l.pos
          have : m = 1 := by omega
          subst this
          rfl
        · rw [decide_eq_false hx, show (x == 0) = false from beq_eq_false_iff_ne.mpr hx]
          rfl
      show R (.bl (eqL [V.int x, V.int m] [V.int 0, V.int 1])) H
      rw [z]
      exact k
    | rem h0 h1 h2 => omega
  | rem h0 h1 h2 =>
    cases hu with
    | frac => omega
    | rem h0' h1' h2' =>
      refine .inr (.inr (.inr ⟨by simp [scal], ?_⟩))
      rw [dV_int]
      exact k
def cutTo (ps : List (Int × Int)) : Nat → Nat
  | 0 => 0
  | n + 1 => if (ps.getD n o1).1 = 0 then cutTo ps n else n + 1
theorem cutTo_le (ps : List (Int × Int)) : ∀ n, cutTo ps n ≤ n
  | 0 => Nat.le_refl _
  | n + 1 => by
    unfold cutTo
    split
    · exact Nat.le_trans (cutTo_le ps n) (Nat.le_succ n)
    · exact Nat.le_refl _
def cutP (ps : List (Int × Int)) : List (Int × Int) := ps.take (cutTo ps ps.length)
theorem cutV_take (xs : List V) (k : Nat) (h : k ≤ xs.length) : cutV xs none (some (k : Int)) = xs.take k := by
  have e : HT.sIx xs.length xs.length (some (k : Int)) = k := by
    rw [HT.sIx_nat]
    omega
  unfold cutV
  rw [e, show HT.sIx xs.length 0 none = 0 from rfl, List.drop_zero, Nat.sub_zero]
theorem RowG.take {B : Nat} {H : Hp} {q : Int} {r : Addr} {vs : List V} {ps : List (Int × Int)} {k : Nat} (e : H r = some (.lst (vs.take k))) (l : vs.length = ps.length) (f : ∀ (i : Nat) (v : V) (p : Int × Int), vs[i]? = some v → ps[i]? = some p → NumAt B H q v p.1 p.2) : RowG B H q r (ps.take k) := by
  refine ⟨vs.take k, e, by simp [l], fun i v p h1 h2 => ?_⟩
  have hi : i < k := by
    have := (List.getElem?_eq_some_iff.mp h1).1
    rw [List.length_take] at this
    omega
  rw [List.getElem?_take_of_lt hi] at h1 h2
  exact f i v p h1 h2
end My

/-! rows by a pen: what the laws of the rows draw -/
namespace L2
open PySem PySem.Spec PyProof.Rows
/-- != of a list and an empty one -/
def rNeE (K : PySem.W.Frag) : R2 := fun x y H Q => ∃ a b xs, x = .ref a ∧ y = .ref b ∧ SqL K H a xs ∧ H b = some (.lst []) ∧ (∀ v ∈ xs, ∃ i, v = .int i) ∧ Q (.bl (!xs.isEmpty)) H
theorem op_neE {X : Cx} (hu : X.A.units + 64 < cLine) : OpR X (compareOp .NotEq) (rNeE X.K) := by
  intro pins s σ H x y v u Q I rx ry h
  obtain ⟨a, b, xs, rfl, rfl, h1, h2, _, q⟩ := h
  cases rx
  cases ry
  obtain ⟨us, r1, t1, _⟩ := I.list h1
  obtain ⟨vs, r2, t2, _⟩ := I.list (SqL.of h2)
  have l1 := r1.length
  have l2 := r2.length
  cases xs with
  | nil =>
    refine SeqAt.RcNeAt.lists (e := fun _ => true) t1.isList t2.isList (by simp at l1 l2 ⊢; omega) (by omega) (fun j z1 z2 => ?_) _ _ _ _ ?_
    · simp at l1
      have : us = [] := List.length_eq_zero_iff.mp l1.symm
      subst this
      simp at z1
    · rw [all_range]
      exact ⟨.bl false, H, I, rfl, q⟩
  | cons w ws =>
    refine SeqAt.RcNeAt.lists_lengths t1.isList t2.isList ?_ (by omega) _ _ _ _ ⟨.bl true, H, I, rfl, q⟩
    simp at l1 l2 ⊢
    omega
end L2
namespace My
open PySem L2
def tdOf (q : Int) : Td := if q = 0 then .a "fractions" else .b "wheel" q
theorem tdOf_good {q : Int} (hq : WheelN q) : (tdOf q).good = true := by
  unfold tdOf
  rcases hq with rfl | ⟨h1, h2, h3⟩
  · rw [if_pos rfl]; simp [Td.good, Td.isF]
  · rw [if_neg (by omega)]; simp [Td.good, Td.isF, Td.isW, h1, h2, h3]
theorem tdOf_zero : tdOf 0 = .a "fractions" := if_pos rfl
theorem tdOf_pos {q : Int} (h : q ≠ 0) : tdOf q = .b "wheel" q := if_neg h
def ToldAt (H : Hp) (td : Addr) (q : Int) : Prop := H td = some (.tup (tdOf q).vs)
theorem ToldAt.mono {H H' : Hp} {td : Addr} {q : Int} (h : ToldAt H td q) (s : Same H H') : ToldAt H' td q := s _ _ h
def spFill : Sp := fun vs H Q _ => ∃ c a : Int, vs = [.int c, .int a] ∧ 0 ≤ a ∧ ∀ r : Int, 0 ≤ r → Q (.int r) H
def spNext (K : PySem.W.Frag) : Sp := fun vs H Q _ => ∃ (P a : Addr) (ns : List Int) (many : Int), vs = [.ref P, .int many] ∧ PenC H P a ∧ SqL K (er P H) a (ns.map V.int) ∧ 1 ≤ many ∧ Mid many ∧ ∀ (r : Int) (H' : Hp), 0 ≤ r → r < many → SameE P H H' → PenC H' P a → Q (.int r) H'
/-- numbers of a world from whole ones -/
def ofP (q i : Int) : Int × Int := if q = 0 then (i, 1) else (i % q, 1)
def addP (q : Int) (p r : Int × Int) : Int × Int := if q = 0 then (lowU (p.1 * r.2 + r.1 * p.2) (p.2 * r.2), lowD (p.1 * r.2 + r.1 * p.2) (p.2 * r.2)) else ((p.1 + r.1) % q, 1)
def mulQ (q : Int) (p r : Int × Int) : Int × Int := if q = 0 then (lowU (p.1 * r.1) (p.2 * r.2), lowD (p.1 * r.1) (p.2 * r.2)) else (p.1 * r.1 % q, 1)
def spEOf (B : Nat) : Sp := fun vs H Q _ => ∃ (td : Addr) (q i : Int), vs = [.ref td, .int i] ∧ ToldAt H td q ∧ WheelN q ∧ i.natAbs ≤ B ∧ 1000 ≤ B ∧ ∀ (v : V) (H' : Hp), Same H H' → NumAt B H' q v (ofP q i).1 (ofP q i).2 → Q v H'
theorem low_num {B : Nat} {H : Hp} {r : Addr} {a b : Int} (e : H r = some (.tup [.int (lowU a b), .int (lowD a b)])) (hb : 1 ≤ b) (ba : a.natAbs ≤ B) (bb : b.natAbs ≤ B) : NumAt B H 0 (.ref r) (lowU a b) (lowD a b) := by
  obtain ⟨u, d, e1, e2, l, l1, l2⟩ := low_of (a := a) hb
  unfold lowU lowD at e ⊢
  rw [e1, e2] at e ⊢
  exact .frac e l (Nat.le_trans l1 ba) (Nat.le_trans l2 bb)

def spEIs : Sp := fun vs H Q _ => ∃ (td : Addr) (q : Int) (v : V) (x m : Int) (B : Nat), vs = [.ref td, v] ∧ ToldAt H td q ∧ WheelN q ∧ NumAt B H q v x m ∧ B ≤ 10 ^ 300 ∧ ∀ H', Same H H' → Q (.bl true) H'
def spERowIs : Sp := fun vs H Q _ => ∃ (td a : Addr) (q : Int) (ps : List (Int × Int)) (B : Nat), vs = [.ref td, .ref a] ∧ ToldAt H td q ∧ WheelN q ∧ RowG B H q a ps ∧ ps.length ≤ 1000 ∧ B ≤ 10 ^ 300 ∧ ∀ H', Same H H' → Q (.bl true) H'
def spEWorld (K : PySem.W.Frag) : Sp := fun vs H Q _ => ∃ (P a : Addr) (ns : List Int), vs = [.ref P] ∧ PenC H P a ∧ SqL K (er P H) a (ns.map V.int) ∧ ∀ (td : Addr) (q : Int) (H' : Hp), WheelN q → SameE P H H' → PenC H' P a → ToldAt (er P H') td q → Q (.ref td) H'
def spTrim (C : Addr) : Sp := fun vs H Q _ => ∃ (z a : Addr) (q : Int) (ps : List (Int × Int)) (B : Nat), vs = [.ref z, .ref a] ∧ WorldAt C H z q ∧ WheelN q ∧ RowG B H q a ps ∧ ps.length ≤ 1000 ∧ ∀ (b : Addr) (H' : Hp), Same H H' → H b = none → RowG B H' q b (cutP ps) → Q (.ref b) H'
def spECut : Sp := fun vs H Q _ => ∃ (td a : Addr) (q : Int) (ps : List (Int × Int)) (B : Nat), vs = [.ref td, .ref a] ∧ ToldAt H td q ∧ WheelN q ∧ RowG B H q a ps ∧ ps.length ≤ 1000 ∧ ∀ (b : Addr) (H' : Hp), Same H H' → H b = none → RowG B H' q b (cutP ps) → Q (.ref b) H'
theorem NumAt.er {B : Nat} {H H' : Hp} {q : Int} {v : V} {x m : Int} {P a : Addr} (h : NumAt B H q v x m) (p : PenC H P a) : NumAt B (er P H) q v x m := by
  cases h with
  | frac e l bx bm =>
    refine .frac (er_some (fun z => ?_) e) l bx bm
    obtain ⟨x, y, e', _⟩ := p
    rw [z, e'] at e
    cases e
  | rem h0 h1 h2 => exact .rem h0 h1 h2
theorem NumAt.farE {B : Nat} {H H' : Hp} {q : Int} {v : V} {x m : Int} {P D : Addr} {ys : List V} (h : NumAt B (My.er P H) q v x m) (eD : H D = some (.lst ys)) (k : ∀ b o, b ≠ D → b ≠ P → H b = some o → H' b = some o) : NumAt B (My.er P H') q v x m := by
  cases h with
  | frac e l bx bm =>
    rename_i r
    have nP : r ≠ P := fun z => by unfold My.er at e; rw [if_pos z] at e; cases e
    rw [er_ne nP] at e
    refine .frac (er_some nP (k _ _ (fun z => ?_) nP e)) l bx bm
    rw [z, eD] at e
    cases e
  | rem h0 h1 h2 => exact .rem h0 h1 h2
theorem rowG_pick {B : Nat} {H : Hp} {q : Int} {D : Addr} {ys : List V} (eD : H D = some (.lst ys)) (hP : ∀ (i : Nat) (y : V), ys[i]? = some y → ∃ xm : Int × Int, NumAt B H q y xm.1 xm.2) : ∃ ps, RowG B H q D ps ∧ ps.length = ys.length := by
  obtain ⟨ps, lp, hp⟩ := pick (R := fun _ y xm => NumAt B H q y (Prod.fst xm) (Prod.snd xm)) hP
  exact ⟨ps, ⟨ys, eD, lp.symm, fun i v x h1 h2 => hp i v x h1 h2⟩, lp⟩
theorem RowG.cat {B : Nat} {H : Hp} {q : Int} {r : Addr} {vs us : List V} {ps rs : List (Int × Int)} (e : H r = some (.lst (vs ++ us))) (l1 : vs.length = ps.length) (l2 : us.length = rs.length) (f1 : ∀ (i : Nat) (v : V) (p : Int × Int), vs[i]? = some v → ps[i]? = some p → NumAt B H q v p.1 p.2) (f2 : ∀ (i : Nat) (v : V) (p : Int × Int), us[i]? = some v → rs[i]? = some p → NumAt B H q v p.1 p.2) : RowG B H q r (ps ++ rs) := by
  refine ⟨vs ++ us, e, by simp [l1, l2], fun i v p h1 h2 => ?_⟩
  by_cases hi : i < vs.length
  · rw [List.getElem?_append_left hi] at h1
    rw [List.getElem?_append_left (by omega)] at h2
    exact f1 i v p h1 h2
  · rw [List.getElem?_append_right (by omega)] at h1
    rw [List.getElem?_append_right (by omega), ← l1] at h2
    exact f2 _ v p h1 h2
end My

/-! rows put together -/
namespace L2
open PySem PySem.Spec PyProof.Rows
end L2
namespace My
open PySem L2
theorem addP_comm (q : Int) (p r : Int × Int) : addP q p r = addP q r p := by
  unfold addP
  split
  · rw [show p.1 * r.2 + r.1 * p.2 = r.1 * p.2 + p.1 * r.2 by omega, show p.2 * r.2 = r.2 * p.2 from Int.mul_comm ..]
  · rw [Int.add_comm]
theorem addP_zero {B : Nat} {H : Hp} {q : Int} {v : V} {p : Int × Int} (h : NumAt B H q v p.1 p.2) : addP q p o1 = p := by
  obtain ⟨x, m⟩ := p
  unfold addP o1
  dsimp only at h ⊢
  cases h with
  | frac e l bx bm =>
    rw [if_pos rfl]
    have hm := l.pos
    have e1 : lowG x m = 1 := by unfold lowG; rw [if_neg (by omega), l.cop]; rfl
    unfold lowU lowD
    rw [Int.mul_one, Int.mul_one, Int.zero_mul, Int.add_zero, e1, Int.fdiv_one, Int.fdiv_one]
  | rem h0 h1 h2 =>
    rw [if_neg (by omega), Int.add_zero, Int.emod_eq_of_lt h0 h1]
def sumP (q : Int) (ps rs : List (Int × Int)) : List (Int × Int) := (List.range (max ps.length rs.length)).map fun k => addP q (ps.getD k o1) (rs.getD k o1)
theorem sumP_comm (q : Int) (ps rs : List (Int × Int)) : sumP q ps rs = sumP q rs ps := by
  unfold sumP
  rw [Nat.max_comm, show (fun k => addP q (ps.getD k o1) (rs.getD k o1)) = fun k => addP q (rs.getD k o1) (ps.getD k o1) from funext fun k => addP_comm ..]
theorem cutP_len (ps : List (Int × Int)) : (cutP ps).length ≤ ps.length := by
  unfold cutP
  rw [List.length_take]
  omega
theorem sumP_len (q : Int) (ps rs : List (Int × Int)) : (sumP q ps rs).length = max ps.length rs.length := by simp [sumP]
theorem sumP_get {q : Int} {ps rs : List (Int × Int)} {k : Nat} (h : k < max ps.length rs.length) : (sumP q ps rs)[k]? = some (addP q (ps.getD k o1) (rs.getD k o1)) := by
  unfold sumP
  rw [List.getElem?_map]
  simp [h]
end My

/-! for i, a in enumerate(one): a list walked with its places -/
namespace L2
open PySem PySem.Spec PyProof.Rows
section
variable {X : Cx}
end
end L2

/-! rows multiplied: whole numbers first -/
namespace My
open PySem L2
theorem sumN_last : ∀ (n : Nat) (f : Nat → Int), sumN (n + 1) f = sumN n f + f n
  | 0, f => by show f 0 + 0 = 0 + f 0; omega
  | n + 1, f => by
    show f 0 + sumN (n + 1) (fun i => f (i + 1)) = (f 0 + sumN n fun i => f (i + 1)) + f (n + 1)
    rw [sumN_last n]
    omega
def convRow (m : Nat) (t : Int) (u : Nat → Int) (i k : Nat) : Int := sumN m fun j => if i + j = k then t * u j else 0
def convN (n m : Nat) (f g : Nat → Int) (k : Nat) : Int := sumN n fun i => convRow m (f i) g i k
end My
namespace My
open PySem L2
theorem Mid.of300 {B : Nat} (hB : B ≤ 10 ^ 300) {x : Int} (h : x.natAbs ≤ 2 * B * B) : Mid x := by
  have z : 2 * B * B ≤ 2 * 10 ^ 300 * 10 ^ 300 := Nat.mul_le_mul (Nat.mul_le_mul_left 2 hB) hB
  exact Nat.lt_of_le_of_lt (Nat.le_trans h z) (by decide +kernel)
def spEArith3 (f : Int → Int × Int → Int × Int → Int × Int) : Sp := fun vs H Q _ => ∃ (td : Addr) (q : Int) (v u : V) (p r : Int × Int) (B : Nat), vs = [.ref td, v, u] ∧ ToldAt H td q ∧ WheelN q ∧ NumAt B H q v p.1 p.2 ∧ NumAt B H q u r.1 r.2 ∧ 1000 ≤ B ∧ B ≤ 10 ^ 300 ∧ ∀ (v' : V) (H' : Hp), Same H H' → NumAt (2 * B * B) H' q v' (f q p r).1 (f q p r).2 → Q v' H'
/-- the number that is worth T over D -/
def canP (q T D : Int) : Int × Int := if q = 0 then (lowU T D, lowD T D) else (T % q, 1)
theorem canP_worth {q T D : Int} (ok : BotOk q D) : Weq q (canP q T D) (T, D) := by
  unfold canP Weq
  by_cases z : q = 0
  · subst z
    have hD := ok.1 rfl
    have e := (low_fd (a := T) (show D ≠ 0 by omega)).2.1
    rw [if_pos rfl]
    exact ⟨0, by dsimp only; rw [e]; omega⟩
  · rw [if_neg z, ok.2 z]
    obtain ⟨w, ew⟩ := mod_wit T q
    exact ⟨-w, by dsimp only; rw [Int.mul_neg]; omega⟩
/-- low parts, or a remainder -/
def Canon (q : Int) (p : Int × Int) : Prop := (q = 0 → Low p.1 p.2) ∧ (q ≠ 0 → p.2 = 1 ∧ 0 ≤ p.1 ∧ p.1 < q)
theorem NumAt.canon {B : Nat} {H : Hp} {q : Int} {v : V} {x m : Int} (h : NumAt B H q v x m) : Canon q (x, m) := by
  cases h with
  | frac e l bx bm => exact ⟨fun _ => l, fun z => absurd rfl z⟩
  | rem h0 h1 h2 => exact ⟨fun z => by omega, fun _ => ⟨rfl, h0, h1⟩⟩
theorem canon_uniq {q : Int} (hq : WheelN q) {p r : Int × Int} (h1 : Canon q p) (h2 : Canon q r) (e : Weq q p r) : p = r := by
  obtain ⟨x, m⟩ := p
  obtain ⟨y, n⟩ := r
  unfold Weq at e
  dsimp only at e
  by_cases z : q = 0
  · subst z
    have l1 := h1.1 rfl
    have l2 := h2.1 rfl
    have e := Int.zero_dvd.mp e
    obtain ⟨a, b⟩ := low_same l1 l2 (show x * n = y * m by omega)
    dsimp only at a b
    rw [a, b]
  · obtain ⟨a1, a2, a3⟩ := h1.2 z
    obtain ⟨b1, b2, b3⟩ := h2.2 z
    dsimp only at a1 a2 a3 b1 b2 b3
    subst a1 b1
    rw [Int.mul_one, Int.mul_one] at e
    obtain ⟨k, ek⟩ := e
    have : k = 0 := by
      rcases Int.lt_trichotomy k 0 with h | h | h
      · have := Int.mul_le_mul_of_nonneg_left (show k ≤ -1 by omega) (show 0 ≤ q by omega)
        omega
      · exact h
      · have := Int.mul_le_mul_of_nonneg_left (show 1 ≤ k by omega) (show 0 ≤ q by omega)
        omega
    rw [this, Int.mul_zero] at ek
    rw [show x = y by omega]
theorem canP_canon {q T D : Int} (hq : WheelN q) (ok : BotOk q D) : Canon q (canP q T D) := by
  unfold canP
  refine ⟨fun z => ?_, fun z => ?_⟩
  · rw [if_pos z]
    exact (low_fd (a := T) (show D ≠ 0 by have := ok.1 z; omega)).1
  · rw [if_neg z]
    have q2 : 0 < q := by rcases hq with h | h <;> omega
    exact ⟨rfl, Int.emod_nonneg _ z, Int.emod_lt_of_pos _ q2⟩
theorem canP_bd {B : Nat} {q T D : Int} (hq : WheelN q) (ok : BotOk q D) (b1 : 1000 ≤ B) (bt : T.natAbs ≤ B) (bd : D.natAbs ≤ B) : (canP q T D).1.natAbs ≤ B ∧ (canP q T D).2.natAbs ≤ B := by
  unfold canP
  by_cases z : q = 0
  · rw [if_pos z]
    have hD := ok.1 z
    obtain ⟨u, d, e1, e2, l, l1, l2⟩ := low_of (a := T) hD
    unfold lowU lowD
    dsimp only
    rw [e1, e2]
    exact ⟨Nat.le_trans l1 bt, Nat.le_trans l2 bd⟩
  · rw [if_neg z]
    have q2 : 0 < q ∧ q ≤ 997 := by rcases hq with h | h <;> omega
    have := Int.emod_nonneg T z
    have := Int.emod_lt_of_pos T q2.1
    exact ⟨by dsimp only; omega, by dsimp only; omega⟩
theorem NumAt.sized {B B' : Nat} {H : Hp} {q : Int} {v : V} {x m : Int} (h : NumAt B H q v x m) (bx : x.natAbs ≤ B') (bm : m.natAbs ≤ B') : NumAt B' H q v x m := by
  cases h with
  | frac e l _ _ => exact .frac e l bx bm
  | rem h0 h1 h2 => exact .rem h0 h1 h2
theorem Canon.bot {q : Int} {p : Int × Int} (h : Canon q p) : BotOk q p.2 := ⟨fun z => (h.1 z).pos, fun z => (h.2 z).1⟩
theorem addP_canon {q : Int} (hq : WheelN q) {p r : Int × Int} (h1 : Canon q p) (h2 : Canon q r) : Canon q (addP q p r) ∧ Weq q (addP q p r) (p.1 * r.2 + r.1 * p.2, p.2 * r.2) := by
  have e : addP q p r = canP q (p.1 * r.2 + r.1 * p.2) (p.2 * r.2) := by
    unfold addP canP
    by_cases z : q = 0
    · rw [if_pos z, if_pos z]
    · rw [if_neg z, if_neg z, (h1.2 z).1, (h2.2 z).1, Int.mul_one, Int.mul_one]
  rw [e]
  exact ⟨canP_canon hq (h1.bot.mul h2.bot), canP_worth (h1.bot.mul h2.bot)⟩
theorem mulQ_canon {q : Int} (hq : WheelN q) {p r : Int × Int} (h1 : Canon q p) (h2 : Canon q r) : Canon q (mulQ q p r) ∧ Weq q (mulQ q p r) (p.1 * r.1, p.2 * r.2) := by
  have e : mulQ q p r = canP q (p.1 * r.1) (p.2 * r.2) := rfl
  rw [e]
  exact ⟨canP_canon hq (h1.bot.mul h2.bot), canP_worth (h1.bot.mul h2.bot)⟩
theorem can_add {q T U D : Int} (hq : WheelN q) (ok : BotOk q D) {p r : Int × Int} (h1 : Canon q p) (h2 : Canon q r) (w1 : Weq q p (T, D)) (w2 : Weq q r (U, D)) : addP q p r = canP q (T + U) D := by
  obtain ⟨c, w⟩ := addP_canon hq h1 h2
  refine canon_uniq hq c (canP_canon hq ok) ?_
  refine Weq.trans ?_ (canP_worth (T := T + U) ok).symm ok
  refine Weq.trans w ?_ (h1.bot.mul h2.bot)
  obtain ⟨k1, e1⟩ := w1
  obtain ⟨k2, e2⟩ := w2
  dsimp only at e1 e2
  exact ⟨k1 * r.2 + k2 * p.2, by dsimp only; grind⟩
end My

/-! polynomials by whole numbers over one bottom -/
namespace My
open PySem L2
theorem BotOk.nz {q b : Int} (hq : WheelN q) (h : BotOk q b) : ¬ q ∣ b := fun hd => by
  by_cases z : q = 0
  · subst z
    have := h.1 rfl
    have := Int.zero_dvd.mp hd
    omega
  · rw [h.2 z] at hd
    have q2 : 2 ≤ q := by rcases hq with h | h <;> omega
    have := Int.le_of_dvd (by decide) hd
    omega
theorem lcm_dvd {b m D : Int} (hb : 1 ≤ b) (hm : 1 ≤ m) (h1 : b ∣ D) (h2 : m ∣ D) : b / (Int.gcd b m : Int) * m ∣ D := by
  have gp := gcd_pos (a := b) (b := m) (by omega)
  obtain ⟨b', eb⟩ := Int.gcd_dvd_left (a := b) (b := m)
  have g0 : (Int.gcd b m : Int) ≠ 0 := by omega
  have gb : b / (Int.gcd b m : Int) = b' := by
    conv => lhs; lhs; rw [eb]
    exact Int.mul_ediv_cancel_left _ g0
  have z : ((Int.lcm b m : Nat) : Int) ∣ D := Int.coe_lcm_dvd h1 h2
  have e : ((Int.lcm b m : Nat) : Int) = b' * m := by
    have h := Int.gcd_mul_lcm b m
    have h2 : ((Int.gcd b m : Nat) : Int) * ((Int.lcm b m : Nat) : Int) = ((b * m).natAbs : Int) := by
      rw [← Int.natCast_mul, h, Int.natAbs_mul]
    have bm : 0 < b * m := Int.mul_pos (by omega) (by omega)
    have h3 : ((b * m).natAbs : Int) = b * m := by omega
    rw [h3] at h2
    refine Int.eq_of_mul_eq_mul_left g0 ?_
    rw [h2, ← Int.mul_assoc, ← eb]
  rw [gb, ← e]
  exact z
structure WhD (q : Int) (ps : List (Int × Int)) (ts : List Int) (b D : Int) (B : Nat) : Prop where
  len : ts.length = ps.length
  ok : BotOk q b
  dvd : b ∣ D
  each : ∀ i, i < ps.length → ts.getD i 0 * (ps.getD i o1).2 = (ps.getD i o1).1 * b ∧ (ts.getD i 0).natAbs ≤ B * D.natAbs
def spWh2 : Sp := fun vs H Q _ => ∃ (a : Addr) (ps : List (Int × Int)) (B : Nat) (D : Int), vs = [.ref a] ∧ RowG B H 0 a ps ∧ ps.length ≤ 100 ∧ BotOk 0 D ∧ (∀ p ∈ ps, p.2 ∣ D) ∧ B ≤ 10 ^ 150 ∧ D.natAbs ≤ 10 ^ 150 ∧ ∀ (v : V) (H' : Hp) (ts : List Int) (b : Int), Same H H' → WhNew H H' v ts b → WhD 0 ps ts b D B → Q v H'
def spAsW2 (C : Addr) : Sp := fun vs H Q _ => ∃ (z a : Addr) (q : Int) (ps : List (Int × Int)) (B : Nat) (D : Int), vs = [.ref z, .ref a] ∧ WorldAt C H z q ∧ WheelN q ∧ RowG B H q a ps ∧ ps.length ≤ 100 ∧ BotOk q D ∧ (∀ p ∈ ps, p.2 ∣ D) ∧ B ≤ 10 ^ 150 ∧ 1000 ≤ B ∧ D.natAbs ≤ 10 ^ 150 ∧ ∀ (v : V) (H' : Hp) (ts : List Int) (b : Int), Same H H' → WhNew H H' v ts b → WhD q ps ts b D B → Q v H'
theorem Mid.of150 {x : Int} (h : x.natAbs ≤ 10 ^ 150) : Mid x := Nat.lt_of_le_of_lt h (by decide +kernel)
theorem dvd_bd {b D : Int} (h : b ∣ D) (hD : D ≠ 0) : b.natAbs ≤ D.natAbs := Nat.le_of_dvd (Int.natAbs_pos.mpr hD) (Int.natAbs_dvd_natAbs.mpr h)
theorem canP_dvd {q T D : Int} (ok : BotOk q D) : (canP q T D).2 ∣ D := by
  unfold canP
  by_cases z : q = 0
  · rw [if_pos z]
    have hD := ok.1 z
    have e : lowG T D = (Int.gcd T D : Int) := by unfold lowG; rw [if_neg (by omega)]
    have gp := gcd_pos (a := T) (b := D) (by omega)
    unfold lowD
    dsimp only
    rw [e, Int.fdiv_eq_ediv_of_nonneg _ (by omega)]
    exact Int.ediv_dvd_of_dvd (Int.gcd_dvd_right ..)
  · rw [if_neg z]
    exact Int.one_dvd D
theorem sumN_bd {M : Nat} : ∀ (n : Nat) (f : Nat → Int), (∀ i, i < n → (f i).natAbs ≤ M) → (sumN n f).natAbs ≤ n * M
  | 0, f, _ => by simp [sumN]
  | n + 1, f, h => by
    have a := h 0 (by omega)
    have b := sumN_bd n (fun i => f (i + 1)) (fun i hi => h (i + 1) (by omega))
    show (f 0 + sumN n fun i => f (i + 1)).natAbs ≤ _
    rw [Nat.succ_mul]
    omega
theorem conv_bd {M : Nat} {n m : Nat} {f g : Nat → Int} {k : Nat} (h : ∀ i j, i < n → j < m → (f i * g j).natAbs ≤ M) : (convN n m f g k).natAbs ≤ n * (m * M) := by
  unfold convN
  refine sumN_bd n _ fun i hi => ?_
  unfold convRow
  refine sumN_bd m _ fun j hj => ?_
  by_cases z : i + j = k
  · rw [if_pos z]; exact h i j hi hj
  · rw [if_neg z]; exact Nat.zero_le _
end My

/-! products of rows: what is asked -/
namespace My
open PySem L2
structure Reps (q : Int) (ps : List (Int × Int)) (D : Int) (f : Nat → Int) : Prop where
  ok : BotOk q D
  dvd : ∀ p ∈ ps, p.2 ∣ D
  rep : ∀ i, i < ps.length → Weq q (ps.getD i o1) (f i, D)
  bd : D.natAbs ≤ 10 ^ 100
def B2 : Nat := 10 ^ 290
def prodP (q : Int) (n m : Nat) (f g : Nat → Int) (D : Int) (N : Nat) : List (Int × Int) := (List.range N).map fun k => canP q (convN n m f g k) D
theorem RowG.sized {B B' : Nat} {H : Hp} {q : Int} {a : Addr} {ps : List (Int × Int)} (h : RowG B H q a ps) (hb : ∀ p ∈ ps, p.1.natAbs ≤ B' ∧ p.2.natAbs ≤ B') : RowG B' H q a ps := by
  obtain ⟨vs, e, l, k⟩ := h
  refine ⟨vs, e, l, fun i v p h1 h2 => ?_⟩
  have b := hb p (List.mem_of_getElem? h2)
  exact (k i v p h1 h2).sized b.1 b.2
theorem cutTo_app {ps : List (Int × Int)} {x : Int × Int} : ∀ n, n ≤ ps.length → cutTo (ps ++ [x]) n = cutTo ps n
  | 0, _ => rfl
  | n + 1, h => by
    have e : (ps ++ [x]).getD n o1 = ps.getD n o1 := by
      rw [List.getD_eq_getElem?_getD, List.getD_eq_getElem?_getD, List.getElem?_append_left (by omega)]
    show (if ((ps ++ [x]).getD n o1).1 = 0 then cutTo (ps ++ [x]) n else n + 1) = if (ps.getD n o1).1 = 0 then cutTo ps n else n + 1
    rw [e, cutTo_app n (by omega)]
theorem cut_more {ps : List (Int × Int)} {x : Int × Int} (h : x.1 = 0) : cutP (ps ++ [x]) = cutP ps := by
  unfold cutP
  rw [List.length_append, List.length_singleton]
  have e : (ps ++ [x]).getD ps.length o1 = x := by
    rw [List.getD_eq_getElem?_getD, List.getElem?_append_right (by omega), Nat.sub_self]
    rfl
  have e2 : cutTo (ps ++ [x]) (ps.length + 1) = cutTo ps ps.length := by
    show (if ((ps ++ [x]).getD ps.length o1).1 = 0 then cutTo (ps ++ [x]) ps.length else ps.length + 1) = _
    rw [e, if_pos h, cutTo_app _ (Nat.le_refl _)]
  rw [e2, List.take_append_of_le_length (cutTo_le ps _)]
theorem canP_zero {q D : Int} : (canP q 0 D).1 = 0 := by
  unfold canP lowU
  split
  · show Int.fdiv 0 (lowG 0 D) = 0
    exact Int.zero_fdiv _
  · exact Int.zero_emod q
theorem conv_out {n m k : Nat} {f g : Nat → Int} (h : n + m ≤ k + 1) : convN n m f g k = 0 := by
  unfold convN
  have : ∀ i, i < n → convRow m (f i) g i k = 0 := fun i hi => by
    unfold convRow
    refine Eq.trans (sumN_congr (g := fun _ => 0) fun j hj => ?_) (sumN_zero m)
    have : ¬ i + j = k := by omega
    rw [if_neg this]
  rw [sumN_congr this, sumN_zero]
theorem cut_prod {q D : Int} {n m : Nat} {f g : Nat → Int} : cutP (prodP q n m f g D (n + m)) = cutP (prodP q n m f g D (n + m - 1)) := by
  by_cases z : n + m = 0
  · rw [z]
  · obtain ⟨N, e⟩ : ∃ N, n + m = N + 1 := ⟨n + m - 1, by omega⟩
    rw [e, Nat.add_sub_cancel]
    unfold prodP
    rw [List.range_succ, List.map_append]
    refine cut_more ?_
    show (canP q (convN n m f g N) D).1 = 0
    rw [conv_out (by omega)]
    exact canP_zero
def spENumberF (K : PySem.W.Frag) : Sp := fun vs H Q _ => ∃ (P a td : Addr) (ns : List Int) (q far : Int) (F : Nat), vs = [.ref P, .ref td, .int far] ∧ PenC H P a ∧ SqL K (er P H) a (ns.map V.int) ∧ ToldAt (er P H) td q ∧ WheelN q ∧ 1 ≤ far ∧ far ≤ (F : Int) ∧ 4 ≤ F ∧ F ≤ 10 ^ 20 ∧ ∀ (v : V) (x m : Int) (H' : Hp), SameE P H H' → PenC H' P a → NumAt F (er P H') q v x m → Q v H'
theorem NumAt.botF {F : Nat} (hF : 1 ≤ F) {H : Hp} {q : Int} {v : V} {x m : Int} (h : NumAt F H q v x m) : BotOk q m ∧ m.natAbs ≤ F := by
  refine ⟨h.canon.bot, ?_⟩
  cases h with
  | frac e l bx bm => exact bm
  | rem h0 h1 h2 => exact hF
theorem RowG.botF {F : Nat} (hF : 1 ≤ F) {H : Hp} {q : Int} {a : Addr} {ps : List (Int × Int)} (h : RowG F H q a ps) : ∀ p ∈ ps, BotOk q p.2 ∧ p.2.natAbs ≤ F := fun p hp => by
  obtain ⟨vs, e, l, k⟩ := h
  obtain ⟨i, hi, ei⟩ := List.getElem_of_mem hp
  have hi' : i < vs.length := by omega
  exact (k i vs[i] p (by simp [hi']) (by rw [← ei]; simp [hi])).botF hF
end My

/-! the law's rows -/
namespace My
open PySem L2
structure RowOk (H : Hp) (q : Int) (r : Addr) (ps : List (Int × Int)) : Prop where
  row : RowG (10 ^ 21) H q r ps
  len : ps.length ≤ 20
  rep : ∃ (D : Int) (f : Nat → Int), Reps q ps D f ∧ D.natAbs ≤ 10 ^ 40 ∧ ∀ i, i < ps.length → (f i).natAbs ≤ 10 ^ 61
theorem RowOk.mono {H H' : Hp} {q : Int} {r : Addr} {ps : List (Int × Int)} (h : RowOk H q r ps) (s : Same H H') : RowOk H' q r ps := ⟨h.row.mono s, h.len, h.rep⟩
theorem RowOk.farE {H H' : Hp} {q : Int} {P D r : Addr} {ys : List V} {ps : List (Int × Int)} (h : RowOk (er P H) q r ps) (nD : r ≠ D) (nP : r ≠ P) (eD : H D = some (.lst ys)) (k : ∀ b o, b ≠ D → b ≠ P → H b = some o → H' b = some o) : RowOk (er P H') q r ps := by
  refine ⟨?_, h.len, h.rep⟩
  obtain ⟨vs, e, l, f⟩ := h.row
  rw [er_ne nP] at e
  exact ⟨vs, er_some nP (k _ _ nD nP e), l, fun i v p h1 h2 => (f i v p h1 h2).farE eD k⟩
end My

/-! range downwards by one -/
namespace L2
open PySem PySem.Spec PyProof.Rows
section
variable {X : Cx} {tg : Expr}
def Itd (lo : Int) (n : Nat) : It := ⟨fun i _ => i < n, fun i H x H' => H' = H ∧ x = .int (lo - i), fun i _ => n ≤ i⟩
theorem turn_down {P : Program} {w : World} {K : PySem.W.Frag} {tg : Expr} (it : Addr) (lo : Int) (n : Nat) : Turn P w K tg (Itd lo n) [it] it (fun i h => IsRangeIter h it (lo + (i : Nat) * (-1)) ((n : Int) - (i : Nat)) (-1)) where
  mem := by simp
  obj := fun i h st b hb => by
    have e : b = it := by simpa using hb
    subst e
    exact ⟨_, st, fun v z => by
      have z' : Data.fields _ = Data.cell v := z
      cases z'⟩
  keep := fun i h h' st k => k it (by simp) _ st
  item := by
    intro X hP hw hK hc i pins s σ H E I hf st hg
    subst hP hw hK
    obtain ⟨f0, f1, f2, f3, f4, f5⟩ := hf it (by simp)
    have W := Walks.range (prog := X.prog) (w := X.w) (I.ok.hd hc) it lo (-1) n
    refine W.item i s _ _ hg st fun v h' tk hv st' kk => ?_
    obtain ⟨t, rfl⟩ := hv
    have I1 : Inv X pins σ H { s with heap := h', toks := tk } := I.turned (fun b o hb e => kk b o (by simpa using hb) e) f0 f1 f3 f4 f5
    refine ⟨_, rfl, go_of (s := { s with heap := h', toks := tk }) (n := "range_iterator") st' rfl rfl (by decide) ⟨.int (lo - i), H, I1, ⟨t, ?_⟩, ⟨rfl, rfl⟩, st', fun b hb => (hf b hb).1⟩⟩
    rw [show lo + (i : Int) * (-1) = lo - i by omega]
  done := by
    intro X hP hw hK hc i pins s σ H E I hf st hg
    subst hP hw hK
    obtain ⟨f0, f1, f2, f3, f4, f5⟩ := hf it (by simp)
    exact wpAny_pyNext_range_end (I.ok.hd hc) st (by have : n ≤ i := hg; omega) fun h' eb => ⟨rfl, I.turned (t' := s.toks) (fun b o hb e => eb b o hb e) f0 f1 f3 f4 f5⟩
  self := fun _ _ _ _ _ st h => wpAny_pyIter_rangeiter st h
theorem down_it {pins : List (Addr × Obj)} {σ : St} {H : Hp} {s : Shared} {R : It → Hp → Prop} {E : Value → Shared → Prop} {lo hi : Int} {t u v : Tok} {tk : Nat} (I : Inv X pins σ H s) (hsm : Builtin.Range.small lo hi (-1) = true)
    (q : R (Itd lo (lo - hi).toNat) H) : wpAny (model X.prog X.w) X.A (pyIter (.ref s.heap.objs.size)) (PIE X pins σ tg R) E { s with heap := s.heap.push { cls := .type "range", data := .fields #[.int lo t, .int hi u, .int (-1) v] }, toks := tk } := by
  refine wpAny_pyIter_range (IsRange.new ..) hsm ?_
  have I1 : Inv X pins σ H { s with heap := s.heap.push { cls := .type "range", data := .fields #[.int lo t, .int hi u, .int (-1) v] }, toks := tk } := I.kept fun b o e => Heap.get?_push_of_some _ e
  refine ⟨(s.heap.push { cls := .type "range", data := .fields #[.int lo t, .int hi u, .int (-1) v] }).objs.size, [(s.heap.push { cls := .type "range", data := .fields #[.int lo t, .int hi u, .int (-1) v] }).objs.size], _, _, H, rfl,
    I1.kept (t' := tk) fun b o e => Heap.get?_push_of_some _ e, turn_down _ lo (lo - hi).toNat, ?_, fun b hb => ?_, q⟩
  · have e1 : lo + ((0 : Nat) : Int) * (-1) = lo := by simp
    have e2 : (((lo - hi).toNat : Nat) : Int) - ((0 : Nat) : Int) = Builtin.Range.rangeSize lo hi (-1) := by
      unfold Builtin.Range.rangeSize
      rw [if_neg (by decide)]
      split
      · rw [show -(-1 : Int) = 1 from rfl, Int.ediv_one]; omega
      · omega
    show IsRangeIter _ _ (lo + ((0 : Nat) : Int) * (-1)) ((((lo - hi).toNat : Nat) : Int) - ((0 : Nat) : Int)) (-1)
    rw [e1, e2]
    exact Heap.get?_push_size _ rfl
  · have e : b = (s.heap.push { cls := .type "range", data := .fields #[.int lo t, .int hi u, .int (-1) v] }).objs.size := by simpa using hb
    subst e
    exact I1.fpOk (Nat.le_refl _) (I1.hok.fresh (Nat.le_refl _))
theorem small_down {a b : Int} (h1 : -(2 ^ 62) ≤ a) (h2 : a < 2 ^ 62) (h3 : -(2 ^ 62) ≤ b) (h4 : b < 2 ^ 62) : Builtin.Range.small a b (-1) = true := by
  have e : Builtin.Range.rangeSize a b (-1) = if a > b then a - b else 0 := by
    unfold Builtin.Range.rangeSize
    rw [if_neg (by decide)]
    split
    · rw [show -(-1 : Int) = 1 from rfl, Int.ediv_one]; omega
    · rfl
  have f : ∀ {x : Int}, -(2 ^ 63) ≤ x → x < 2 ^ 63 → Builtin.Range.rangeFitsLong x = true := fun {x} h1 h2 => by
    unfold Builtin.Range.rangeFitsLong
    simp
    omega
  unfold Builtin.Range.small
  rw [e, f (x := a) (by omega) (by omega), f (x := b) (by omega) (by omega), f (x := -1) (by decide) (by decide), f (x := if a > b then a - b else 0) (by split <;> omega) (by split <;> omega)]
  simp
  exact .inr (f (by omega) (by omega))
def iDown (ta : TA) : TI := fun σ H R => ta σ H fun vs H1 => ∃ i j : Int, vs = [.int i, .int j, .int (-1)] ∧ (-(2 ^ 62) ≤ i ∧ i < 2 ^ 62 ∧ -(2 ^ 62) ≤ j ∧ j < 2 ^ 62) ∧ R (Itd i (i - j).toNat) H1
theorem pi_down {a b c : Expr} {ta : TA} {p pos : Pos} (hg : Gl X "range") (hm : X.mg "range" = none) (ha : PA X [a, b, c] ta) (hs : starEach [a, b, c] X.env = [(false, eval a X.env), (false, eval b X.env), (false, eval c X.env)] := by rfl) (hs2 : starEach [b, c] X.env = [(false, eval b X.env), (false, eval c X.env)] := by rfl) :
    PI X tg (.Call (.Name "range" p) [a, b, c] [] pos) (iDown ta) := by
  intro pins s σ H R I h
  refine Call_ (ld_blt I hg hm boot_range (PyProof.Rows.callWith_type1 (thn (ha pos pins s σ H _ I h) fun us s1 ⟨vs, H1, I1, r1, q1⟩ => ?_) (by rw [hs, hs2]) (by rw [hs2]; rfl)))
  obtain ⟨i, j, e, ⟨q1, q2, q3, q4⟩, q⟩ := q1
  subst e
  cases r1 with
  | cons r rr =>
    cases rr with
    | cons r' rr =>
      cases rr with
      | cons r3 rr =>
        cases rr
        obtain ⟨t, rfl⟩ := r
        obtain ⟨t', rfl⟩ := r'
        obtain ⟨t3, rfl⟩ := r3
        refine call_range_3 (by decide) (down_it I1 (small_down q1 q2 q3 q4) q) (.inl ?_)
        have z : decide ((if ((-1 : Int) == 0) = true then 0 else (-1 : Int).natAbs.log2 / 30 + 1) > 300) = false := by decide +kernel
        unfold Builtin.divisionGoesByPylong
        dsimp only
        rw [z]
        rfl
theorem for_down {lo : Int} {n : Nat} {g : TG} {tb : TS} {D : Ends} {σ : St} {H : Hp} (Pv : Nat → St → Hp → Prop) (h0 : Pv 0 σ H)
    (hs : ∀ i σ H, i < n → Pv i σ H → g (.int (lo - i)) σ H fun σ2 H2 => tb { D with nx := Pv (i + 1), ct := Pv (i + 1), bk := D.nx } σ2 H2) (hd : ∀ σ H, Pv n σ H → D.nx σ H) :
    ∃ W : Nat → Nat → St → Hp → Prop, (∃ m, W 0 m σ H) ∧ ∀ i m σ H, W i m σ H →
      ((Itd lo n).stop i H ∧ D.nx σ H) ∨ ((Itd lo n).go i H ∧ ∃ N : St → Hp → Prop, (∀ σ' H', N σ' H' → ∃ m', m' < m ∧ W (i + 1) m' σ' H') ∧ ∀ x H', (Itd lo n).yld i H x H' → g x σ H' fun σ2 H2 => tb { D with nx := N, ct := N, bk := D.nx } σ2 H2) := by
  refine ⟨fun i m σ H => m = n - i ∧ i ≤ n ∧ Pv i σ H, ⟨n, by simp, Nat.zero_le _, h0⟩, ?_⟩
  rintro i m σ H ⟨rfl, hi, p⟩
  by_cases hlt : i < n
  · refine .inr ⟨hlt, Pv (i + 1), fun σ' H' p' => ⟨n - (i + 1), by omega, rfl, hlt, p'⟩, fun x H' y => ?_⟩
    obtain ⟨e, y⟩ := y
    subst e y
    exact hs i σ _ hlt p
  · have e : i = n := by omega
    subst e
    exact .inl ⟨Nat.le_refl _, hd σ H p⟩
end
end L2
namespace L2
open PySem PySem.Spec PyProof.Rows
theorem pe_fldK {X : Cx} {K : PySem.W.Frag} {e : Expr} {f : Str} {pos : Pos} {ta : TE} (he : PE X e ta) (hb : attributeBase e f X.env (eval e X.env) = eval e X.env) (hK : X.K = K := by rfl) : PE X (.Attribute e f pos) (tFld K ta f) := by
  subst hK
  exact pe_fld he hb
end L2

/-! rows parted: whole numbers alike where q divides their difference -/
namespace My
open PySem L2
def Cg (q a b : Int) : Prop := q ∣ a - b
theorem Cg.refl {q : Int} (a : Int) : Cg q a a := ⟨0, by omega⟩
theorem Cg.of_eq {q a b : Int} (h : a = b) : Cg q a b := h ▸ Cg.refl a
theorem Cg.symm {q a b : Int} (h : Cg q a b) : Cg q b a := by
  obtain ⟨k, e⟩ := h
  exact ⟨-k, by rw [Int.mul_neg]; omega⟩
theorem Cg.trans {q a b c : Int} (h1 : Cg q a b) (h2 : Cg q b c) : Cg q a c := by
  obtain ⟨k, e⟩ := h1
  obtain ⟨l, e'⟩ := h2
  exact ⟨k + l, by rw [Int.mul_add]; omega⟩
theorem Cg.add {q a b c d : Int} (h1 : Cg q a b) (h2 : Cg q c d) : Cg q (a + c) (b + d) := by
  obtain ⟨k, e⟩ := h1
  obtain ⟨l, e'⟩ := h2
  exact ⟨k + l, by rw [Int.mul_add]; omega⟩
theorem Cg.sub {q a b c d : Int} (h1 : Cg q a b) (h2 : Cg q c d) : Cg q (a - c) (b - d) := by
  obtain ⟨k, e⟩ := h1
  obtain ⟨l, e'⟩ := h2
  exact ⟨k - l, by rw [Int.mul_sub]; omega⟩
theorem Cg.mulL {q a b : Int} (c : Int) (h : Cg q a b) : Cg q (c * a) (c * b) := by
  obtain ⟨k, e⟩ := h
  exact ⟨c * k, by rw [← Int.mul_sub, e]; grind⟩
theorem Cg.mulR {q a b : Int} (c : Int) (h : Cg q a b) : Cg q (a * c) (b * c) := by
  rw [Int.mul_comm a, Int.mul_comm b]
  exact h.mulL c
theorem cg_mod (q a : Int) : Cg q (a % q) a := ⟨-(a / q), by have := Int.mul_ediv_add_emod a q; rw [Int.mul_neg]; omega⟩
theorem Cg.nz {q a b : Int} (h : Cg q a b) (n : ¬ q ∣ b) : ¬ q ∣ a := fun d => n (by
  have : b = a - (a - b) := by omega
  rw [this]
  exact Int.dvd_sub d h)
theorem cg_sum {q : Int} : ∀ {n : Nat} {f g : Nat → Int}, (∀ i, i < n → Cg q (f i) (g i)) → Cg q (sumN n f) (sumN n g)
  | 0, _, _, _ => Cg.refl _
  | n + 1, f, g, h => by
    unfold sumN
    exact (h 0 (by omega)).add (cg_sum fun i hi => h (i + 1) (by omega))
theorem mod_bd {B : Nat} {q a : Int} (hq : WheelN q) (b1 : 1000 ≤ B) (h : a.natAbs ≤ B) : (a % q).natAbs ≤ B := by
  rcases hq with rfl | ⟨h2, h3, _⟩
  · rw [Int.emod_zero]; exact h
  · have := Int.emod_nonneg a (show q ≠ 0 by omega)
    have := Int.emod_lt_of_pos a (show 0 < q by omega)
    omega
theorem convRow_at (t : Int) (u : Nat → Int) (i k : Nat) : ∀ m, convRow m t u i k = if i ≤ k ∧ k < i + m then t * u (k - i) else 0
  | 0 => by
    rw [if_neg (by omega)]
    rfl
  | m + 1 => by
    have e : convRow (m + 1) t u i k = convRow m t u i k + if i + m = k then t * u m else 0 := by
      unfold convRow
      rw [sumN_last]
    rw [e, convRow_at t u i k m]
    by_cases h : i + m = k
    · rw [if_neg (by omega), if_pos h, if_pos (by omega), show k - i = m by omega]
      omega
    · rw [if_neg h]
      by_cases h2 : i ≤ k ∧ k < i + m
      · rw [if_pos h2, if_pos (by omega)]; omega
      · rw [if_neg h2, if_neg (by omega)]; omega
/-- a row that is moved up by s, times another -/
def convS (s n m : Nat) (f g : Nat → Int) (k : Nat) : Int := sumN n fun i => convRow m (f i) g (s + i) k
theorem convS_zero (n m : Nat) (f g : Nat → Int) (k : Nat) : convS 0 n m f g k = convN n m f g k := by
  unfold convS convN
  exact sumN_congr fun i _ => by rw [Nat.zero_add]
theorem convS_cons (s n m : Nat) (f g : Nat → Int) (k : Nat) : convS s (n + 1) m f g k = convRow m (f 0) g s k + convS (s + 1) n m (fun i => f (i + 1)) g k := by
  unfold convS
  rw [sumN]
  exact congrArg (_ + ·) (sumN_congr fun i _ => by rw [show s + (i + 1) = s + 1 + i by omega])
theorem convRow_mul (c t : Int) (u : Nat → Int) (m i k : Nat) : convRow m (c * t) u i k = c * convRow m t u i k := by
  rw [convRow_at, convRow_at]
  split
  · rw [Int.mul_assoc]
  · rw [Int.mul_zero]
theorem convS_mul (c : Int) (s n m : Nat) (f g : Nat → Int) (k : Nat) : convS s n m (fun i => c * f i) g k = c * convS s n m f g k := by
  unfold convS
  rw [sumN_mul]
  exact sumN_congr fun i _ => convRow_mul ..
theorem convRow_cg {q t t' : Int} (h : Cg q t t') (u : Nat → Int) (m i k : Nat) : Cg q (convRow m t u i k) (convRow m t' u i k) := by
  rw [convRow_at, convRow_at]
  split
  · exact h.mulR _
  · exact Cg.refl _
theorem convS_cg {q : Int} {s n m : Nat} {f f' g : Nat → Int} {k : Nat} (h : ∀ i, i < n → Cg q (f i) (f' i)) : Cg q (convS s n m f g k) (convS s n m f' g k) :=
  cg_sum fun i hi => convRow_cg (h i hi) g m (s + i) k
/-- where a parting stands behind i of its n turns -/
structure PInv (q : Int) (ts us : List Int) (T U n i : Nat) (bs ls : List Int) (much : Int) : Prop where
  lb : bs.length = i
  ll : ls.length = ts.length - i
  eq : ∀ k, Cg q (much * ts.getD k 0) (convS (n - i) i us.length (fun j => bs.getD j 0) (fun j => us.getD j 0) k + ls.getD k 0)
  nz : ¬ q ∣ much
  last : 0 < i → ¬ q ∣ bs.getD (i - 1) 0
  bb : ∀ x ∈ bs, x.natAbs * (2 * U) ≤ T * (2 * U) ^ i
  bl : ∀ x ∈ ls, x.natAbs ≤ T * (2 * U) ^ i
  bm : much.natAbs ≤ 1000 * (2 * U) ^ i
theorem getD_out {α : Type} {xs : List α} {k : Nat} {d : α} (h : xs.length ≤ k) : xs.getD k d = d := by
  rw [List.getD_eq_getElem?_getD, List.getElem?_eq_none h]
  rfl
theorem getD_bd {B : Nat} {xs : List Int} (h : ∀ x ∈ xs, x.natAbs ≤ B) (k : Nat) : (xs.getD k 0).natAbs ≤ B := by
  by_cases hk : k < xs.length
  · rw [getD_at hk]; exact h _ (List.getElem_mem _)
  · rw [getD_out (by omega)]; exact Nat.zero_le _
theorem getD_map0 {xs : List Int} {f : Int → Int} (h0 : f 0 = 0) (k : Nat) : (xs.map f).getD k 0 = f (xs.getD k 0) := by
  by_cases hk : k < xs.length
  · rw [getD_at (by simpa using hk), getD_at hk, List.getElem_map]
  · rw [getD_out (by simp; omega), getD_out (by omega), h0]
theorem PInv.start {q : Int} {ts us : List Int} {T U n : Nat} (hq : WheelN q) (hT : ∀ x ∈ ts, x.natAbs ≤ T) (hn : n = ts.length + 1 - us.length) : PInv q ts us T U n 0 [] ts 1 where
  lb := rfl
  ll := rfl
  eq := fun k => Cg.of_eq (by unfold convS sumN; omega)
  nz := fun h => by
    rcases hq with rfl | ⟨h2, _⟩
    · have := Int.zero_dvd.mp h
      omega
    · have := Int.le_of_dvd (by decide) h
      omega
  last := fun h => absurd h (by decide)
  bb := fun x hx => by simp at hx
  bl := fun x hx => by simpa using hT x hx
  bm := by simp
/-- what a turn makes of what is left -/
def lessOf (place : Nat) (head : Int) (us : List Int) : List Int := List.replicate place 0 ++ us.dropLast.map fun u => head * u
theorem lessOf_len {place : Nat} {head : Int} {us : List Int} : (lessOf place head us).length = place + (us.length - 1) := by
  unfold lessOf
  rw [List.length_append, List.length_replicate, List.length_map, List.length_dropLast]
theorem lessOf_get {place : Nat} {head : Int} {us : List Int} {k : Nat} (hk : k < place + (us.length - 1)) : (lessOf place head us).getD k 0 = if place ≤ k then head * us.getD (k - place) 0 else 0 := by
  unfold lessOf
  rw [List.getD_eq_getElem?_getD]
  by_cases h : place ≤ k
  · rw [if_pos h, List.getElem?_append_right (by simpa using h), List.length_replicate, List.getElem?_map, List.getElem?_dropLast, if_pos (by omega), List.getElem?_eq_getElem (show k - place < us.length by omega), getD_at (show k - place < us.length by omega)]
    rfl
  · rw [if_neg h, List.getElem?_append_left (by simp; omega), List.getElem?_replicate, if_pos (by omega)]
    rfl
theorem PInv.step {q : Int} {ts us : List Int} {T U n i : Nat} {bs ls : List Int} {much : Int} (h : PInv q ts us T U n i bs ls much) (hq : WheelN q) (hn : n = ts.length + 1 - us.length) (hi : i < n) (hu : 1 ≤ us.length)
    (hU : ∀ x ∈ us, x.natAbs ≤ U) (hU1 : 1 ≤ U) (hT1 : 1000 ≤ T) (lz : ¬ q ∣ us.getD (us.length - 1) 0) (tz : ¬ q ∣ ts.getD (ts.length - 1) 0) :
    PInv q ts us T U n (i + 1) (([ls.getD (ls.length - 1) 0] ++ bs.map fun x => us.getD (us.length - 1) 0 * x).map fun x => x % q)
      (((List.zip ls (lessOf (n - 1 - i) (ls.getD (ls.length - 1) 0) us)).map fun ab => us.getD (us.length - 1) 0 * ab.1 - ab.2).map fun x => x % q) (much * us.getD (us.length - 1) 0 % q) := by
  generalize hlead : us.getD (us.length - 1) 0 = lead at lz
  generalize hhead : ls.getD (ls.length - 1) 0 = head
  have hll := h.ll
  have hlb := h.lb
  have bhead : head.natAbs ≤ T * (2 * U) ^ i := by rw [← hhead]; exact getD_bd h.bl _
  have blead : lead.natAbs ≤ U := by rw [← hlead]; exact getD_bd hU _
  have pw : T * (2 * U) ^ (i + 1) = T * (2 * U) ^ i * (2 * U) := by rw [Nat.pow_succ, Nat.mul_assoc]
  have pp : 1 ≤ (2 * U) ^ i := Nat.pow_pos (by omega)
  have T1 : 1000 ≤ T * (2 * U) ^ i := Nat.le_trans hT1 (Nat.le_mul_of_pos_right _ pp)
  have T2 : T * (2 * U) ^ i ≤ T * (2 * U) ^ (i + 1) := by rw [pw]; exact Nat.le_mul_of_pos_right _ (by omega)
  have zl : (List.zip ls (lessOf (n - 1 - i) head us)).length = ts.length - (i + 1) := by
    rw [List.length_zip, lessOf_len, hll]
    omega
  refine ⟨?_, ?_, ?_, ?_, ?_, ?_, ?_, ?_⟩
  · simp [hlb]
  · rw [List.length_map, List.length_map, zl]
  · intro k
    have e0 := h.eq k
    -- the new left
    have el : ∀ k, Cg q ((((List.zip ls (lessOf (n - 1 - i) head us)).map fun ab => lead * ab.1 - ab.2).map fun x => x % q).getD k 0) (lead * ls.getD k 0 - convRow us.length head (fun j => us.getD j 0) (n - 1 - i) k) := fun k => by
      rw [convRow_at]
      by_cases hk : k < ts.length - (i + 1)
      · have hk2 : k < (List.zip ls (lessOf (n - 1 - i) head us)).length := by omega
        have k1 : k < ls.length := by omega
        have k2 : k < (lessOf (n - 1 - i) head us).length := by rw [lessOf_len]; omega
        rw [getD_at (by simpa using hk2), List.getElem_map, List.getElem_map, List.getElem_zip, getD_at k1]
        have e1 : (lessOf (n - 1 - i) head us)[k] = if n - 1 - i ≤ k ∧ k < n - 1 - i + us.length then head * us.getD (k - (n - 1 - i)) 0 else 0 := by
          rw [← getD_at (d := 0) k2, lessOf_get (by rw [lessOf_len] at k2; exact k2)]
          by_cases z : n - 1 - i ≤ k
          · rw [if_pos z, if_pos (by omega)]
          · rw [if_neg z, if_neg (by omega)]
        rw [e1]
        exact cg_mod _ _
      · rw [getD_out (by rw [List.length_map, List.length_map, zl]; omega)]
        by_cases hk2 : k = ts.length - (i + 1)
        · have e1 : ls.getD k 0 = head := by rw [← hhead, hll, hk2]; congr 1
          have e2 : k - (n - 1 - i) = us.length - 1 := by omega
          rw [if_pos (by omega), e1, e2, hlead, Int.mul_comm]
          exact Cg.of_eq (by omega)
        · rw [if_neg (by omega), getD_out (by omega)]
          exact Cg.of_eq (by simp)
    -- the new by
    have eb : ∀ j, Cg q ((([head] ++ bs.map fun x => lead * x).map fun x => x % q).getD j 0) (if j = 0 then head else lead * bs.getD (j - 1) 0) := fun j => by
      rw [getD_map0 (by simp)]
      refine (cg_mod _ _).trans (Cg.of_eq ?_)
      cases j with
      | zero => rfl
      | succ j =>
        rw [if_neg (by omega)]
        show ((head :: bs.map fun x => lead * x).getD (j + 1) 0) = _
        rw [List.getD_cons_succ, getD_map0 (by simp)]
        simp
    have ec : Cg q (convS (n - (i + 1)) (i + 1) us.length (fun j => (([head] ++ bs.map fun x => lead * x).map fun x => x % q).getD j 0) (fun j => us.getD j 0) k) (convRow us.length head (fun j => us.getD j 0) (n - 1 - i) k + lead * convS (n - i) i us.length (fun j => bs.getD j 0) (fun j => us.getD j 0) k) := by
      refine (convS_cg fun j _ => eb j).trans (Cg.of_eq ?_)
      rw [convS_cons, show n - (i + 1) + 1 = n - i by omega, show n - (i + 1) = n - 1 - i by omega, if_pos rfl]
      have : (fun j => if j + 1 = 0 then head else lead * bs.getD (j + 1 - 1) 0) = fun j => lead * bs.getD j 0 := funext fun j => by rw [if_neg (by omega), Nat.add_sub_cancel]
      rw [this, convS_mul]
    have em : Cg q (much * lead % q * ts.getD k 0) (lead * (much * ts.getD k 0)) := ((cg_mod q (much * lead)).mulR _).trans (Cg.of_eq (by grind))
    refine em.trans ((e0.mulL lead).trans (Cg.trans ?_ (ec.add (el k)).symm))
    exact Cg.of_eq (by rw [Int.mul_add]; omega)
  · exact (cg_mod q _).nz (nz_mul hq h.nz lz)
  · intro _
    rw [getD_map0 (by simp)]
    refine (cg_mod q _).nz ?_
    show ¬ q ∣ (head :: bs.map fun x => lead * x).getD i 0
    cases i with
    | zero =>
      rw [List.getD_cons_zero, ← hhead, show ls.length - 1 = ts.length - 1 by omega]
      have e0 := h.eq (ts.length - 1)
      have z : convS (n - 0) 0 us.length (fun j => bs.getD j 0) (fun j => us.getD j 0) (ts.length - 1) = 0 := rfl
      rw [z, Int.zero_add] at e0
      exact e0.symm.nz (nz_mul hq h.nz tz)
    | succ i =>
      rw [List.getD_cons_succ, getD_map0 (by simp)]
      exact nz_mul hq lz (h.last (by omega))
  · intro x hx
    obtain ⟨y, hy, rfl⟩ := List.mem_map.mp hx
    refine Nat.le_trans (Nat.mul_le_mul_right (2 * U) (mod_bd (B := T * (2 * U) ^ i) hq T1 ?_)) (Nat.le_of_eq pw.symm)
    rcases List.mem_append.mp hy with hy | hy
    · rw [List.mem_singleton.mp hy]
      exact bhead
    · obtain ⟨w, hw, rfl⟩ := List.mem_map.mp hy
      rw [Int.natAbs_mul, Nat.mul_comm]
      exact Nat.le_trans (Nat.mul_le_mul_left _ (Nat.le_trans blead (show U ≤ 2 * U by omega))) (h.bb w hw)
  · intro x hx
    obtain ⟨y, hy, rfl⟩ := List.mem_map.mp hx
    refine mod_bd hq (Nat.le_trans T1 T2) ?_
    obtain ⟨ab, hab, rfl⟩ := List.mem_map.mp hy
    have m := List.of_mem_zip hab
    have b1 : (lead * ab.1).natAbs ≤ T * (2 * U) ^ i * U := by
      rw [Int.natAbs_mul, Nat.mul_comm]
      exact Nat.mul_le_mul (h.bl _ m.1) blead
    have b2 : ab.2.natAbs ≤ T * (2 * U) ^ i * U := by
      have m2 := m.2
      unfold lessOf at m2
      rcases List.mem_append.mp m2 with z | z
      · rw [(List.mem_replicate.mp z).2]; exact Nat.zero_le _
      · obtain ⟨u, hu', e⟩ := List.mem_map.mp z
        rw [← e, Int.natAbs_mul]
        exact Nat.mul_le_mul bhead (hU u (List.dropLast_subset _ hu'))
    have e : T * (2 * U) ^ i * (2 * U) = T * (2 * U) ^ i * U + T * (2 * U) ^ i * U := by rw [Nat.mul_left_comm, Nat.two_mul]
    rw [pw, e]
    show (lead * ab.1 - ab.2).natAbs ≤ _
    omega
  · refine mod_bd hq ?_ ?_
    · exact Nat.le_mul_of_pos_right _ (Nat.pow_pos (by omega))
    · rw [Int.natAbs_mul, Nat.pow_succ, ← Nat.mul_assoc]
      exact Nat.mul_le_mul h.bm (Nat.le_trans blead (by omega))
end My

/-! whole numbers of a list, one by one -/
namespace My
open PySem L2
theorem comp_int {wi : TI} {ρ : St → St} {te : TE} {σ : St} {H : Hp} {Q : VK} {ts : List Int} (g : Int → Int) (hn : ts.length ≤ 500)
    (hwi : ∀ R : It → Hp → Prop, (∀ J H1, Same H H1 → JSeq J (ts.map V.int) H1 → R J H1) → wi σ H R)
    (step : ∀ t ∈ ts, ∀ (Hc : Hp) (R : VK), Same H Hc → (∀ H3, Same Hc H3 → R (.int (g t)) H3) → te (some (.int t) :: ρ σ) Hc R)
    (fin : ∀ D Hc, H D = none → Same H Hc → Hc D = some (.lst ((ts.map g).map V.int)) → Q (.ref D) Hc) : tComp wi ρ (fun _ H Q => Q true H) te σ H Q := by
  refine comp_ofN (xs := ts.map V.int) hwi (by rw [List.length_map]; exact small1000 (by omega)) (fun _ i y _ => ∃ t, ts[i]? = some t ∧ y = .int (g t)) (fun _ _ _ _ _ _ h _ _ => h) ?_ ?_
  · intro D i v hi Hc R sc _ kc
    rw [List.getElem?_map] at hi
    cases e : ts[i]? with
    | none => rw [e] at hi; cases hi
    | some t =>
      rw [e] at hi
      cases hi
      exact step t (List.mem_of_getElem? e) Hc R sc fun H3 s3 => kc _ H3 s3 ⟨t, e, rfl⟩
  · intro D ys Hc nD sc lys hP eD
    have ey : ys = (ts.map g).map V.int := vals_of (by rw [lys, List.length_map, List.length_map]) fun i v e => by
      obtain ⟨t, e1, e2⟩ := hP i v e
      exact ⟨g t, by rw [List.getElem?_map, e1]; rfl, e2⟩
    rw [ey] at eD
    exact fin D Hc nD sc eD
end My
namespace My
open PySem L2
theorem comp2_int {K : PySem.W.Frag} {wi : TI} {ρ : St → St} {te : TE} {σ : St} {H : Hp} {Q : VK} {xs ys : List Int} (g : Int → Int → Int) (hn : xs.length ≤ 500)
    (hwi : ∀ R : It → Hp → Prop, (∀ J H1, Same H H1 → JSeq2 J ((xs.map V.int).zip (ys.map V.int)) H1 → R J H1) → wi σ H R)
    (step : ∀ x y, (x, y) ∈ xs.zip ys → ∀ (Hc : Hp) (R : VK), Same H Hc → (∀ H3, Same Hc H3 → R (.int (g x y)) H3) → te (some (.int x) :: some (.int y) :: ρ σ) Hc R)
    (fin : ∀ D Hc, Same H Hc → Hc D = some (.lst (((xs.zip ys).map fun ab => g ab.1 ab.2).map V.int)) → Q (.ref D) Hc) : tComp2 K wi ρ (fun _ H Q => Q true H) te σ H Q := by
  have lz : ((xs.map V.int).zip (ys.map V.int)).length = (xs.zip ys).length := by simp [List.length_zip]
  have at' : ∀ (i : Nat) (v u : V), ((xs.map V.int).zip (ys.map V.int))[i]? = some (v, u) → ∃ x y, (xs.zip ys)[i]? = some (x, y) ∧ v = .int x ∧ u = .int y := fun i v u e => by
    obtain ⟨h1, h2⟩ := List.getElem?_zip_eq_some.mp e
    rw [List.getElem?_map] at h1 h2
    cases e1 : xs[i]? with
    | none => rw [e1] at h1; cases h1
    | some x =>
      cases e2 : ys[i]? with
      | none => rw [e2] at h2; cases h2
      | some y =>
        rw [e1] at h1
        rw [e2] at h2
        cases h1
        cases h2
        exact ⟨x, y, List.getElem?_zip_eq_some.mpr ⟨e1, e2⟩, rfl, rfl⟩
  refine comp2_of (zs := (xs.map V.int).zip (ys.map V.int)) hwi (by rw [lz, List.length_zip]; exact small1000 (by omega)) (fun i v => ∃ x y, (xs.zip ys)[i]? = some (x, y) ∧ v = .int (g x y)) ?_ ?_
  · intro i v u hi Hc R sc kc
    obtain ⟨x, y, e, rfl, rfl⟩ := at' i v u hi
    exact step x y (List.mem_of_getElem? e) Hc R sc fun H3 s3 => kc _ H3 s3 ⟨x, y, e, rfl⟩
  · intro D vs Hc sc lvs hP eD
    have ey : vs = ((xs.zip ys).map fun ab => g ab.1 ab.2).map V.int := vals_of (by rw [lvs, lz, List.length_map]) fun i v e => by
      obtain ⟨x, y, e1, e2⟩ := hP i v e
      exact ⟨g x y, by rw [List.getElem?_map, e1]; rfl, e2⟩
    rw [ey] at eD
    exact fin D Hc sc eD
theorem cutV_front (xs : List V) : cutV xs none (some (-1)) = xs.dropLast := by
  have e : HT.sIx xs.length xs.length (some (-1)) = xs.length - 1 := by
    unfold HT.sIx
    simp
    omega
  unfold cutV
  rw [e, show HT.sIx xs.length 0 none = 0 from rfl, List.drop_zero, Nat.sub_zero, List.dropLast_eq_take]
theorem atI_back {xs : List Int} (h : 1 ≤ xs.length) : atI (xs.map V.int) (-1) = some (.int (xs.getD (xs.length - 1) 0)) := by
  obtain ⟨ys, y, rfl⟩ : ∃ ys y, xs = ys ++ [y] := ⟨xs.dropLast, xs.getLast (by intro e; simp [e] at h), (List.dropLast_concat_getLast _).symm⟩
  rw [List.map_append]
  show atI (ys.map V.int ++ [V.int y]) (-1) = _
  rw [atI_last, List.length_append, List.length_singleton, Nat.add_sub_cancel, getD_at (by simp)]
  simp
theorem mid520 {x : Int} (h : x.natAbs ≤ 4 * 10 ^ 520) : Mid x := Nat.lt_of_le_of_lt h (by decide +kernel)
theorem mul520 {x y : Int} (h1 : x.natAbs ≤ 10 ^ 260) (h2 : y.natAbs ≤ 10 ^ 260) : (x * y).natAbs ≤ 10 ^ 520 := by
  rw [Int.natAbs_mul]
  exact Nat.le_trans (Nat.mul_le_mul h1 h2) (by decide +kernel)
end My
namespace My
open PySem L2
theorem rep_flat : ∀ place : Nat, (List.replicate ((place : Int).toNat) [V.int 0]).flatten = (List.replicate place (0 : Int)).map V.int := fun place => by
  rw [Int.toNat_natCast, List.map_replicate]
  induction place with
  | zero => rfl
  | succ m ih => rw [List.replicate_succ, List.flatten_cons, ih, List.replicate_succ]; rfl
end My

/-! rows parted: what the told numbers are worth -/
namespace My
open PySem L2
theorem nz_cancel {q b x : Int} (hq : WheelN q) (nb : ¬ q ∣ b) (h : q ∣ b * x) : q ∣ x := Classical.byContradiction fun nx => nz_mul hq nb nx h
theorem weq_mid {q M x : Int} {p r : Int × Int} (hq : WheelN q) (nM : ¬ q ∣ M) (h1 : Weq q p (x, M)) (h2 : Weq q r (x, M)) (hr : True := trivial) : Weq q p r := by
  refine nz_cancel hq nM ?_
  obtain ⟨k, e1⟩ := h1
  obtain ⟨l, e2⟩ := h2
  dsimp only at e1 e2
  refine ⟨k * r.2 - l * p.2, ?_⟩
  grind
theorem of_any {B : Nat} {H : Hp} {q a b : Int} {v : V} (ho : OfAt H q v a b) (hq : WheelN q) (nb : ¬ q ∣ b) (ba : a.natAbs ≤ B) (bb : b.natAbs ≤ B) : ∃ p : Int × Int, NumAt B H q v p.1 p.2 ∧ Weq q p (a, b) := by
  rcases ho with ⟨rfl, r, rfl, e⟩ | ⟨q2, r, rfl, r0, r1, er⟩
  · have hb : b ≠ 0 := fun z => nb (z ▸ Int.dvd_refl 0)
    obtain ⟨l, w, b1, b2⟩ := low_fd (a := a) hb
    exact ⟨(lowU a b, lowD a b), .frac e l (Nat.le_trans b1 ba) (Nat.le_trans b2 bb), ⟨0, by dsimp only; omega⟩⟩
  · have q3 : q ≤ 997 := by rcases hq with h | h <;> omega
    refine ⟨(r, 1), .rem r0 r1 q3, ?_⟩
    show q ∣ r * b - a * 1
    have h1 : Cg q (r * (b % q)) a := (cg_mod q _).symm.trans (er ▸ cg_mod q a)
    have h2 : Cg q (r * b) (r * (b % q)) := ((cg_mod q b).mulL r).symm
    have h3 := h2.trans h1
    rw [Int.mul_one]
    exact h3
/-! ### cut rows -/
theorem cutTo_zero (ps : List (Int × Int)) : ∀ n k, cutTo ps n ≤ k → k < n → (ps.getD k o1).1 = 0
  | 0, _, _, h => by omega
  | n + 1, k, h1, h2 => by
    unfold cutTo at h1
    by_cases z : (ps.getD n o1).1 = 0
    · rw [if_pos z] at h1
      by_cases e : k = n
      · rw [e]; exact z
      · exact cutTo_zero ps n k h1 (by omega)
    · rw [if_neg z] at h1
      omega
theorem cutTo_last (ps : List (Int × Int)) : ∀ n, 0 < cutTo ps n → (ps.getD (cutTo ps n - 1) o1).1 ≠ 0
  | 0, h => by simp [cutTo] at h
  | n + 1, h => by
    unfold cutTo at h ⊢
    by_cases z : (ps.getD n o1).1 = 0
    · rw [if_pos z] at h ⊢
      exact cutTo_last ps n h
    · rw [if_neg z] at h ⊢
      exact z
theorem cutP_length (ps : List (Int × Int)) : (cutP ps).length = cutTo ps ps.length := by
  unfold cutP
  rw [List.length_take]
  have := cutTo_le ps ps.length
  omega
theorem cutP_get {ps : List (Int × Int)} {k : Nat} (h : k < (cutP ps).length) : (cutP ps).getD k o1 = ps.getD k o1 := by
  have h' := h
  rw [cutP_length] at h'
  unfold cutP
  rw [List.getD_eq_getElem?_getD, List.getElem?_take_of_lt h', ← List.getD_eq_getElem?_getD]
theorem cutP_out {ps : List (Int × Int)} {k : Nat} (h : (cutP ps).length ≤ k) : (ps.getD k o1).1 = 0 := by
  rw [cutP_length] at h
  by_cases hk : k < ps.length
  · exact cutTo_zero ps ps.length k h hk
  · rw [getD_out (by omega)]; rfl
theorem cutP_last {ps : List (Int × Int)} (h : 0 < (cutP ps).length) : ((cutP ps).getD ((cutP ps).length - 1) o1).1 ≠ 0 := by
  rw [cutP_get (by omega)]
  rw [cutP_length] at h ⊢
  exact cutTo_last ps ps.length h
theorem cutP_self {ps : List (Int × Int)} (h : 0 < ps.length → (ps.getD (ps.length - 1) o1).1 ≠ 0) : cutP ps = ps := by
  unfold cutP
  cases e : ps.length with
  | zero => rw [List.length_eq_zero_iff.mp e]; rfl
  | succ m =>
    unfold cutTo
    have z := h (by omega)
    rw [e, Nat.add_sub_cancel] at z
    rw [if_neg z, ← e, List.take_length]
theorem cutP_twice (ps : List (Int × Int)) : cutP (cutP ps) = cutP ps := cutP_self fun h => cutP_last h
theorem cutP_mem {ps : List (Int × Int)} {p : Int × Int} (h : p ∈ cutP ps) : p ∈ ps := List.mem_of_mem_take h
theorem cut_ext {xs ys : List (Int × Int)} (h : ∀ k, xs.getD k o1 = ys.getD k o1) : cutP xs = cutP ys := by
  have pad : ∀ (n : Nat) (zs : List (Int × Int)), cutP (zs ++ List.replicate n o1) = cutP zs := fun n zs => by
    induction n with
    | zero => simp
    | succ n ih =>
      rw [List.replicate_succ', ← List.append_assoc, cut_more (show (o1 : Int × Int).1 = 0 from rfl), ih]
  have e : xs ++ List.replicate ys.length o1 = ys ++ List.replicate xs.length o1 := by
    refine List.ext_getElem (by simp; omega) fun k h1 h2 => ?_
    have g : ∀ (zs : List (Int × Int)) (n k : Nat), k < zs.length + n → ∀ hk, (zs ++ List.replicate n o1)[k]'hk = zs.getD k o1 := fun zs n k hk h => by
      by_cases z : k < zs.length
      · rw [List.getElem_append_left z, getD_at z]
      · rw [List.getElem_append_right (by omega), List.getElem_replicate, getD_out (by omega)]
    rw [g xs _ k (by simpa using h1), g ys _ k (by simpa using h2), h k]
  rw [← pad ys.length xs, e, pad]
/-! ### the parting -/
theorem convRow_more {t : Int} {u : Nat → Int} {i k m m' : Nat} (h : m ≤ m') (z : ∀ j, m ≤ j → u j = 0) : convRow m' t u i k = convRow m t u i k := by
  rw [convRow_at, convRow_at]
  by_cases h1 : i ≤ k ∧ k < i + m
  · rw [if_pos h1, if_pos (by omega)]
  · rw [if_neg h1]
    split
    · rw [z _ (by omega), Int.mul_zero]
    · rfl
theorem convN_cg {q : Int} {n m : Nat} {f f' g : Nat → Int} {k : Nat} (h : ∀ i, i < n → Cg q (f i) (f' i)) : Cg q (convN n m f g k) (convN n m f' g k) :=
  cg_sum fun i hi => convRow_cg (h i hi) g m i k
theorem convN_mul (c : Int) (n m : Nat) (f g : Nat → Int) (k : Nat) : convN n m (fun i => c * f i) g k = c * convN n m f g k := by
  rw [← convS_zero, ← convS_zero, convS_mul]
structure PartD (q : Int) (ps rs bps lps : List (Int × Int)) (D : Int) (F G u : Nat → Int) : Prop where
  ok : BotOk q D
  prod : ∀ i j, i < bps.length → j < rs.length → Weq q ((bps.getD i o1).1 * (rs.getD j o1).1, (bps.getD i o1).2 * (rs.getD j o1).2) (F i * u j, D)
  left : ∀ k, Weq q (lps.getD k o1) (G k, D)
  whole : ∀ k, Weq q (ps.getD k o1) (convN bps.length rs.length F u k + G k, D)
theorem part_core {q : Int} (hq : WheelN q) {ps rs bps lps : List (Int × Int)} {ts us bs ls : List Int} {much b1 b2 D : Int} {F G : Nat → Int} (nm : ¬ q ∣ much) (ok1 : BotOk q b1) (ok2 : BotOk q b2) (okD : BotOk q D)
    (eq : ∀ k, Cg q (much * ts.getD k 0) (convN bps.length us.length (fun j => bs.getD j 0) (fun j => us.getD j 0) k + ls.getD k 0))
    (lu : us.length ≤ rs.length)
    (hP : ∀ k, Weq q (ps.getD k o1) (ts.getD k 0, b1)) (hR : ∀ k, Weq q (rs.getD k o1) (us.getD k 0, b2))
    (hb : ∀ i, i < bps.length → Weq q (bps.getD i o1) (bs.getD i 0 * b2, much * b1)) (hl : ∀ k, Weq q (lps.getD k o1) (ls.getD k 0, much * b1))
    (hF : ∀ i, i < bps.length → Weq q (F i, D) (bs.getD i 0, much * b1)) (hG : ∀ k, Weq q (G k, D) (ls.getD k 0, much * b1)) : PartD q ps rs bps lps D F G (fun j => us.getD j 0) := by
  have nb1 := ok1.nz hq
  have nM := nz_mul hq nm nb1
  refine ⟨okD, fun i j hi hj => ?_, fun k => weq_mid hq nM (hl k) (hG k), fun k => ?_⟩
  · refine nz_cancel hq (nz_mul hq nM (ok2.nz hq)) ?_
    obtain ⟨x, e1⟩ := hb i hi
    obtain ⟨y, e2⟩ := hR j
    obtain ⟨w, e3⟩ := hF i hi
    dsimp only at e1 e2 e3 ⊢
    generalize bps.getD i o1 = B at e1
    generalize rs.getD j o1 = R at e2
    generalize us.getD j 0 = u at e2 ⊢
    generalize bs.getD i 0 = b at e1 e3
    generalize much * b1 = M at e1 e3 ⊢
    refine ⟨x * (R.1 * b2 * D) + b * b2 * B.2 * D * y - w * (u * (B.2 * R.2) * b2), ?_⟩
    grind
  · have e : convN bps.length rs.length F (fun j => us.getD j 0) k = convN bps.length us.length F (fun j => us.getD j 0) k := sumN_congr fun i _ => convRow_more lu fun j hj => getD_out hj
    rw [e]
    -- (conv F + G) * M is D * (conv bs + ls)
    have hF' : ∀ i, i < bps.length → Cg q (much * b1 * F i) (D * bs.getD i 0) := fun i hi => by
      obtain ⟨w, e3⟩ := hF i hi
      dsimp only at e3
      exact ⟨w, by rw [← e3]; grind⟩
    have hG' : Cg q (much * b1 * G k) (D * ls.getD k 0) := by
      obtain ⟨w, e3⟩ := hG k
      dsimp only at e3
      exact ⟨w, by rw [← e3]; grind⟩
    have c1 := convN_cg (m := us.length) (g := fun j => us.getD j 0) (k := k) hF'
    rw [convN_mul, convN_mul] at c1
    have c2 := (c1.add hG').trans (Cg.of_eq (Int.mul_add D _ _).symm)
    have c3 := c2.trans ((eq k).symm.mulL D)
    generalize convN bps.length us.length F (fun j => us.getD j 0) k = S at c3 ⊢
    have w : Weq q (ts.getD k 0, b1) (S + G k, D) := by
      refine nz_cancel hq nm ?_
      obtain ⟨x, e1⟩ := c3
      refine ⟨-x, ?_⟩
      dsimp only
      grind
    exact (hP k).trans w ok1
end My
namespace My
open PySem L2
structure PartIn (q : Int) (ps rs : List (Int × Int)) (D1 D2 : Int) (f g : Nat → Int) (T U L : Nat) : Prop where
  lp : ps.length ≤ 50
  lr : rs.length ≤ 50
  ok1 : BotOk q D1
  ok2 : BotOk q D2
  dv1 : ∀ p ∈ ps, p.2 ∣ D1
  dv2 : ∀ p ∈ rs, p.2 ∣ D2
  w1 : ∀ i, Weq q (ps.getD i o1) (f i, D1)
  w2 : ∀ i, Weq q (rs.getD i o1) (g i, D2)
  t1 : ∀ i, (f i).natAbs ≤ T
  u2 : ∀ i, (g i).natAbs ≤ U
  hT : 1000 ≤ T
  hU : 1000 ≤ U
  d2 : D2.natAbs ≤ U
  d1 : D1.natAbs ≤ 10 ^ 150
  u150 : U ≤ 10 ^ 150
  len : (cutP ps).length ≤ L
  big : T * (2 * U) ^ L ≤ 10 ^ 260
  bigD : 1000 * (2 * U) ^ L * D1.natAbs ≤ 10 ^ 265
def spParted (C N : Addr) : Sp := fun vs H Q E => ∃ (z a b : Addr) (q : Int) (ps rs : List (Int × Int)) (D1 D2 : Int) (f g : Nat → Int) (T U L : Nat), vs = [.ref z, .ref a, .ref b] ∧ WorldAt C H z q ∧ WheelN q ∧ RowG (10 ^ 150) H q a ps ∧ RowG (10 ^ 150) H q b rs ∧ PartIn q ps rs D1 D2 f g T U L ∧
  (cutP rs = [] → ∀ H', Same H H' → E (.ref N) none H') ∧
  (cutP rs ≠ [] → ∀ (p l1 l2 : Addr) (bps lps : List (Int × Int)) (D : Int) (F G u : Nat → Int) (H' : Hp), Same H H' → H' p = some (.tup [.ref l1, .ref l2]) → H l1 = none → H l2 = none → l1 ≠ l2 → RowG B2 H' q l1 bps → RowG B2 H' q l2 lps → cutP bps = bps → cutP lps = lps → lps.length < (cutP rs).length → bps.length ≤ 60 →
    PartD q ps rs bps lps D F G u → D.natAbs ≤ 10 ^ 265 → (∀ i j, (F i * u j).natAbs ≤ 10 ^ 265) → (∀ k, (G k).natAbs ≤ 10 ^ 265) → Q (.ref p) H')
/-- whole numbers over a bottom that divides D are no greater than those over D -/
theorem whole_bd {q t b f D : Int} {p : Int × Int} {T : Nat} (hq : WheelN q) (hT : 1000 ≤ T) (hc : Canon q p) (e : t * p.2 = p.1 * b) (ok : BotOk q b) (okD : BotOk q D) (db : b ∣ D) (w : Weq q p (f, D)) (bf : f.natAbs ≤ T) : t.natAbs ≤ T := by
  by_cases z : q = 0
  · subst z
    have hp := (hc.bot).1 rfl
    have hb := ok.1 rfl
    have hD := okD.1 rfl
    obtain ⟨k, ek⟩ := w
    have e2 : p.1 * D = f * p.2 := by
      dsimp only at ek
      omega
    have e3 : t * D = f * b := by
      have : (t * D) * p.2 = (f * b) * p.2 := by grind
      exact Int.eq_of_mul_eq_mul_right (show p.2 ≠ 0 by omega) this
    have e4 : t.natAbs * D.natAbs = f.natAbs * b.natAbs := by rw [← Int.natAbs_mul, e3, Int.natAbs_mul]
    have e5 : b.natAbs ≤ D.natAbs := dvd_bd db (by omega)
    have e6 : t.natAbs * D.natAbs ≤ f.natAbs * D.natAbs := by rw [e4]; exact Nat.mul_le_mul_left _ e5
    exact Nat.le_trans (Nat.le_of_mul_le_mul_right e6 (by omega)) bf
  · have e1 := (hc.2 z)
    have q3 : q ≤ 997 := by rcases hq with h | h <;> omega
    rw [e1.1, ok.2 z] at e
    omega
theorem cut_weq {q b : Int} {ps : List (Int × Int)} {ts : List Int} (l : ts.length = (cutP ps).length) (h : ∀ k, k < (cutP ps).length → Weq q ((cutP ps).getD k o1) (ts.getD k 0, b)) (k : Nat) : Weq q (ps.getD k o1) (ts.getD k 0, b) := by
  by_cases hk : k < (cutP ps).length
  · rw [← cutP_get hk]
    exact h k hk
  · have z := cutP_out (ps := ps) (k := k) (by omega)
    rw [getD_out (xs := ts) (by omega)]
    exact ⟨0, by dsimp only; rw [z]; simp⟩
theorem RowG.canonP {B : Nat} {H : Hp} {q : Int} {a : Addr} {ps : List (Int × Int)} (h : RowG B H q a ps) : ∀ p ∈ ps, Canon q p := fun p hp => by
  obtain ⟨vs, e, l, k⟩ := h
  obtain ⟨i, hi, rfl⟩ := List.getElem_of_mem hp
  have hv : i < vs.length := by omega
  exact (k i vs[i] ps[i] (by simp [hv]) (by simp [hi])).canon
theorem canon_o1 {q : Int} (hq : WheelN q) : Canon q o1 := ⟨fun _ => ⟨by decide, by decide⟩, fun z => ⟨rfl, by decide, by rcases hq with h | h; exact absurd h z; show (0 : Int) < q; omega⟩⟩
theorem canonD {q : Int} (hq : WheelN q) {ps : List (Int × Int)} (h : ∀ p ∈ ps, Canon q p) (k : Nat) : Canon q (ps.getD k o1) := by
  by_cases hk : k < ps.length
  · rw [getD_at hk]; exact h _ (List.getElem_mem _)
  · rw [getD_out (by omega)]; exact canon_o1 hq
theorem top_nz {q x M : Int} {p : Int × Int} (hq : WheelN q) (hc : Canon q p) (nx : ¬ q ∣ x) (w : Weq q p (x, M)) : p.1 ≠ 0 := fun z => by
  obtain ⟨k, e⟩ := w
  dsimp only at e
  rw [z, Int.zero_mul, Int.zero_sub] at e
  refine nz_mul hq nx (hc.bot.nz hq) ⟨-k, ?_⟩
  rw [Int.mul_neg, ← e, Int.neg_neg]
end My

/-! rows parted: one bottom for what is told -/
namespace My
open PySem L2
theorem canon_nz {q : Int} {p : Int × Int} (hc : Canon q p) (h : p.1 ≠ 0) : ¬ q ∣ p.1 := fun d => by
  by_cases z : q = 0
  · subst z
    exact h (Int.zero_dvd.mp d)
  · have e := hc.2 z
    have := Int.le_of_dvd (by omega) d
    omega
theorem whole_nz {q t b : Int} {p : Int × Int} (hq : WheelN q) (hc : Canon q p) (h : p.1 ≠ 0) (e : t * p.2 = p.1 * b) (ok : BotOk q b) : ¬ q ∣ t := fun d => by
  refine nz_mul hq (canon_nz hc h) (ok.nz hq) ?_
  rw [← e]
  exact Int.dvd_trans d (Int.dvd_mul_right ..)
theorem cut_weq2 {q M : Int} (hq : WheelN q) {ps : List (Int × Int)} {ls : List Int} (hc : ∀ p ∈ ps, Canon q p) (l : ps.length = ls.length) (h : ∀ k, k < ls.length → Weq q (ps.getD k o1) (ls.getD k 0 * 1, M)) (k : Nat) : Weq q ((cutP ps).getD k o1) (ls.getD k 0, M) := by
  by_cases hk : k < (cutP ps).length
  · have := cutP_len ps
    have z := h k (by omega)
    rw [cutP_get hk]
    rw [Int.mul_one] at z
    exact z
  · rw [getD_out (xs := cutP ps) (by omega)]
    have z := cutP_out (ps := ps) (k := k) (by omega)
    have d : q ∣ ls.getD k 0 := by
      by_cases hk2 : k < ls.length
      · obtain ⟨x, e⟩ := h k hk2
        dsimp only at e
        rw [z, Int.mul_one, Int.zero_mul, Int.zero_sub] at e
        refine nz_cancel hq ((canonD hq hc k).bot.nz hq) ⟨-x, ?_⟩
        rw [Int.mul_neg, ← e]
        grind
      · rw [getD_out (by omega)]; exact Int.dvd_zero q
    obtain ⟨x, e⟩ := d
    refine ⟨-x, ?_⟩
    show 0 * M - ls.getD k 0 * 1 = _
    rw [e, Int.mul_neg]
    omega
theorem part_bot {q M b2 : Int} (hq : WheelN q) (nM : ¬ q ∣ M) (ok2 : BotOk q b2) {bps lps : List (Int × Int)} {bs ls : List Int} (cb : ∀ p ∈ bps, Canon q p) (cl : ∀ p ∈ lps, Canon q p)
    (hb : ∀ i, i < bps.length → Weq q (bps.getD i o1) (bs.getD i 0 * b2, M)) (hl : ∀ k, Weq q (lps.getD k o1) (ls.getD k 0, M)) :
    ∃ (D : Int) (F G : Nat → Int), BotOk q D ∧ (D.natAbs ≤ M.natAbs ∨ D.natAbs ≤ 1) ∧ (∀ i, i < bps.length → Weq q (F i, D) (bs.getD i 0, M)) ∧ (∀ k, Weq q (G k, D) (ls.getD k 0, M)) ∧ (∀ i, (F i).natAbs ≤ (bs.getD i 0).natAbs ∨ (F i).natAbs ≤ 1000) ∧ (∀ i, (G i).natAbs ≤ (ls.getD i 0).natAbs ∨ (G i).natAbs ≤ 1000) := by
  by_cases z : q = 0
  · subst z
    have hM : M ≠ 0 := fun e => nM (e ▸ Int.dvd_refl 0)
    obtain ⟨s, D, hs, eD, hD⟩ : ∃ s D : Int, (s = 1 ∨ s = -1) ∧ D = s * M ∧ 1 ≤ D := by
      by_cases h : 0 < M
      · exact ⟨1, M, .inl rfl, by omega, by omega⟩
      · exact ⟨-1, -M, .inr rfl, by omega, by omega⟩
    have ab : ∀ x : Int, (s * x).natAbs = x.natAbs := fun x => by
      rw [Int.natAbs_mul]
      rcases hs with rfl | rfl <;> simp
    refine ⟨D, fun i => s * bs.getD i 0, fun i => s * ls.getD i 0, ⟨fun _ => hD, fun h => absurd rfl h⟩, .inl (by rw [eD, ab]; exact Nat.le_refl _), fun i _ => ⟨0, ?_⟩, fun i => ⟨0, ?_⟩, fun i => .inl (by rw [ab]; exact Nat.le_refl _), fun i => .inl (by rw [ab]; exact Nat.le_refl _)⟩
    · dsimp only
      rw [eD]
      grind
    · dsimp only
      rw [eD]
      grind
  · have b1 := ok2.2 z
    have q3 : q ≤ 997 := by rcases hq with h | h <;> omega
    have cb' := fun i => canonD hq cb i
    have cl' := fun i => canonD hq cl i
    refine ⟨1, fun i => (bps.getD i o1).1, fun i => (lps.getD i o1).1, BotOk.one, .inr (by decide), fun i hi => ?_, fun i => ?_, fun i => .inr ?_, fun i => .inr ?_⟩
    · have h := hb i hi
      rw [b1, Int.mul_one] at h
      have e := ((cb' i).2 z).1
      have h' : Weq q ((bps.getD i o1).1, (bps.getD i o1).2) (bs.getD i 0, M) := h
      rw [e] at h'
      exact h'
    · have h := hl i
      have e := ((cl' i).2 z).1
      have h' : Weq q ((lps.getD i o1).1, (lps.getD i o1).2) (ls.getD i 0, M) := h
      rw [e] at h'
      exact h'
    · have e := (cb' i).2 z
      dsimp only
      omega
    · have e := (cl' i).2 z
      dsimp only
      omega
end My

/-! drawn rows: how great they are -/
namespace My
open PySem L2
theorem one_botC {q : Int} {F : Nat} (hF : 1 ≤ F) : ∀ (xs : List (Int × Int)), (∀ p ∈ xs, BotOk q p.2 ∧ p.2.natAbs ≤ F) → ∃ D : Int, BotOk q D ∧ (∀ p ∈ xs, p.2 ∣ D) ∧ D.natAbs ≤ F ^ xs.length ∧ ∀ p ∈ xs, D.natAbs ≤ p.2.natAbs * F ^ (xs.length - 1)
  | [], _ => ⟨1, BotOk.one, fun p hp => by simp at hp, by simp, fun p hp => by simp at hp⟩
  | x :: xs, h => by
    obtain ⟨D, h1, h2, h3, h4⟩ := one_botC hF xs (fun p hp => h p (List.mem_cons_of_mem _ hp))
    have hx := h x List.mem_cons_self
    refine ⟨x.2 * D, hx.1.mul h1, fun p hp => ?_, ?_, fun p hp => ?_⟩
    · rcases List.mem_cons.mp hp with e | e
      · rw [e]; exact Int.dvd_mul_right ..
      · exact Int.dvd_trans (h2 p e) (Int.dvd_mul_left ..)
    · rw [Int.natAbs_mul, List.length_cons, Nat.pow_succ, Nat.mul_comm]
      exact Nat.mul_le_mul h3 hx.2
    · rw [Int.natAbs_mul, List.length_cons, Nat.add_sub_cancel]
      rcases List.mem_cons.mp hp with e | e
      · rw [e]; exact Nat.mul_le_mul_left _ h3
      · have l : 1 ≤ xs.length := List.length_pos_of_mem e
        refine Nat.le_trans (Nat.mul_le_mul hx.2 (h4 p e)) (Nat.le_of_eq ?_)
        rw [show xs.length = xs.length - 1 + 1 by omega, Nat.pow_succ, Nat.add_sub_cancel]
        rw [Nat.mul_left_comm, Nat.mul_comm F]
def spERow53 (K : PySem.W.Frag) : Sp := fun vs H Q _ => ∃ (P a td : Addr) (ns : List Int) (q far : Int) (mN F : Nat), vs = [.ref P, .ref td, .int ((mN + 1 : Nat) : Int), .int far] ∧ PenC H P a ∧ SqL K (er P H) a (ns.map V.int) ∧ ToldAt (er P H) td q ∧ WheelN q ∧ mN ≤ 10 ∧ 1 ≤ far ∧ far ≤ (F : Int) ∧ 4 ≤ F ∧ F ≤ 10 ^ 20 ∧
  ∀ (r : Addr) (ps : List (Int × Int)) (D : Int) (H' : Hp), SameE P H H' → PenC H' P a → er P H r = none → ps.length ≤ 20 → RowG (F + 1000) (er P H') q r ps → BotOk q D → (∀ p ∈ ps, p.2 ∣ D) → D.natAbs ≤ F ^ mN → (∀ p ∈ ps, p.1 = 0 ∨ D.natAbs ≤ p.2.natAbs * F ^ (mN - 1)) → (∀ k, mN ≤ k → (ps.getD k o1).1 = 0) → Q (.ref r) H'
/-- a row, what it is worth over one bottom, and how great that is -/
structure RowW (q : Int) (ps : List (Int × Int)) (D : Int) (f : Nat → Int) (X Y L : Nat) : Prop where
  ok : BotOk q D
  dvd : ∀ p ∈ ps, p.2 ∣ D
  w : ∀ i, Weq q (ps.getD i o1) (f i, D)
  bf : ∀ i, (f i).natAbs ≤ X
  bD : D.natAbs ≤ Y
  out : ∀ i, L ≤ i → f i = 0
theorem rowW_of {q D : Int} (hq : WheelN q) {ps : List (Int × Int)} {F mN X Y : Nat} (hc : ∀ p ∈ ps, Canon q p) (hb : ∀ p ∈ ps, p.1.natAbs ≤ F + 1000) (ok : BotOk q D) (dv : ∀ p ∈ ps, p.2 ∣ D) (bD : D.natAbs ≤ F ^ mN) (bd : ∀ p ∈ ps, p.1 = 0 ∨ D.natAbs ≤ p.2.natAbs * F ^ (mN - 1)) (out : ∀ k, mN ≤ k → (ps.getD k o1).1 = 0)
    (hX : (F + 1000) * F ^ (mN - 1) ≤ X) (hY : F ^ mN ≤ Y) : RowW q ps D (fun i => (ps.getD i o1).1 * (D / (ps.getD i o1).2)) X Y mN := by
  have gd : ∀ i, ps.getD i o1 ∈ ps ∨ ps.getD i o1 = o1 := fun i => by
    by_cases hi : i < ps.length
    · rw [getD_at hi]; exact .inl (List.getElem_mem _)
    · exact .inr (getD_out (by omega))
  have dv' : ∀ i, (ps.getD i o1).2 ∣ D := fun i => by
    rcases gd i with h | h
    · exact dv _ h
    · rw [h]; exact Int.one_dvd D
  refine ⟨ok, dv, fun i => ⟨0, ?_⟩, fun i => ?_, Nat.le_trans bD hY, fun i hi => by rw [out i hi, Int.zero_mul]⟩
  · obtain ⟨k, e⟩ := dv' i
    have nz : (ps.getD i o1).2 ≠ 0 := fun z => (canonD hq hc i).bot.nz hq (by rw [z]; exact Int.dvd_zero q)
    dsimp only
    have e2 : D / (ps.getD i o1).2 = k := by rw [e, Int.mul_ediv_cancel_left _ nz]
    rw [e2, Int.mul_zero, e]
    grind
  · rcases gd i with h | h
    · rcases bd _ h with z | z
      · rw [z, Int.zero_mul]; exact Nat.zero_le _
      · obtain ⟨k, e⟩ := dv' i
        have nz : (ps.getD i o1).2 ≠ 0 := fun z => (canonD hq hc i).bot.nz hq (by rw [z]; exact Int.dvd_zero q)
        have e2 : D / (ps.getD i o1).2 = k := by rw [e, Int.mul_ediv_cancel_left _ nz]
        rw [e2, Int.natAbs_mul]
        rw [e, Int.natAbs_mul] at z
        have z2 := Nat.le_of_mul_le_mul_left z (Int.natAbs_pos.mpr nz)
        exact Nat.le_trans (Nat.mul_le_mul (hb _ h) z2) hX
    · rw [h]
      show ((0 : Int) * _).natAbs ≤ _
      rw [Int.zero_mul]
      exact Nat.zero_le _
theorem RowG.topB {B : Nat} (hB : 1000 ≤ B) {H : Hp} {q : Int} {a : Addr} {ps : List (Int × Int)} (h : RowG B H q a ps) : ∀ p ∈ ps, p.1.natAbs ≤ B := fun p hp => by
  obtain ⟨vs, e, l, k⟩ := h
  obtain ⟨i, hi, rfl⟩ := List.getElem_of_mem hp
  have hv : i < vs.length := by omega
  have z := k i vs[i] ps[i] (by simp [hv]) (by simp [hi])
  generalize ps[i] = p at z
  generalize vs[i] = v at z
  obtain ⟨x, m⟩ := p
  cases z with
  | frac e l bx bm => exact bx
  | rem h0 h1 h2 => dsimp only; omega
end My
namespace My
open PySem L2
theorem RowG.far {B : Nat} {H H' : Hp} {q : Int} {a D : Addr} {ps : List (Int × Int)} {ys : List V} (h : RowG B H q a ps) (n : a ≠ D) (eD : H D = some (.lst ys)) (k : ∀ b o, b ≠ D → H b = some o → H' b = some o) : RowG B H' q a ps := by
  obtain ⟨vs, e, l, f⟩ := h
  exact ⟨vs, k _ _ n e, l, fun i v p h1 h2 => (f i v p h1 h2).far eD k⟩
theorem canon_zero {q : Int} {p : Int × Int} (hc : Canon q p) (h : p.1 = 0) : p = o1 := by
  obtain ⟨x, m⟩ := p
  dsimp only at h
  subst h
  by_cases z : q = 0
  · have l := hc.1 z
    have e : m = 1 := by
      have l1 := l.pos
      have l2 := l.2
      simp at l2
      omega
    rw [e]
    rfl
  · rw [show m = 1 from (hc.2 z).1]
    rfl
theorem cutP_getC {q : Int} {ps : List (Int × Int)} (hq : WheelN q) (hc : ∀ p ∈ ps, Canon q p) (k : Nat) : (cutP ps).getD k o1 = ps.getD k o1 := by
  by_cases hk : k < (cutP ps).length
  · exact cutP_get hk
  · rw [getD_out (by omega), canon_zero (canonD hq hc k) (cutP_out (by omega))]
theorem zero_weq {q D : Int} : Weq q o1 (0, D) := ⟨0, by show (0 : Int) * D - 0 * 1 = _; simp⟩
theorem prodP_canon {q D : Int} {n m N : Nat} {f g : Nat → Int} (hq : WheelN q) (ok : BotOk q D) : ∀ p ∈ prodP q n m f g D N, Canon q p := fun p hp => by
  unfold prodP at hp
  obtain ⟨k, _, rfl⟩ := List.mem_map.mp hp
  exact canP_canon hq ok
theorem rng_getD {α : Type} {N k : Nat} {F : Nat → α} {d : α} (hk : k < N) : ((List.range N).map F).getD k d = F k := by
  rw [getD_at (by simpa using hk), List.getElem_map, List.getElem_range]
theorem prodP_worth {q D : Int} {n m : Nat} {f g : Nat → Int} (ok : BotOk q D) (k : Nat) : Weq q ((prodP q n m f g D (n + m - 1)).getD k o1) (convN n m f g k, D) := by
  by_cases hk : k < n + m - 1
  · unfold prodP
    rw [rng_getD hk]
    exact canP_worth ok
  · rw [getD_out (by simp [prodP]; omega), conv_out (by omega)]
    exact zero_weq
theorem zero_add {q x y D : Int} (ok : BotOk q D) (hq : WheelN q) (h1 : Weq q o1 (x, D)) (h2 : Weq q o1 (y, D)) : Weq q o1 (x + y, D) := by
  obtain ⟨a, e1⟩ := h1
  obtain ⟨b, e2⟩ := h2
  refine ⟨a + b, ?_⟩
  show (0 : Int) * D - (x + y) * 1 = _
  have e1 : (0 : Int) * D - x * 1 = q * a := e1
  have e2 : (0 : Int) * D - y * 1 = q * b := e2
  rw [Int.mul_add]
  omega
/-- a sum of rows, number by number -/
theorem sumP_can {q D : Int} {xs ys : List (Int × Int)} {x y : Nat → Int} (hq : WheelN q) (ok : BotOk q D) (cx : ∀ p ∈ xs, Canon q p) (cy : ∀ p ∈ ys, Canon q p) (wx : ∀ k, Weq q (xs.getD k o1) (x k, D)) (wy : ∀ k, Weq q (ys.getD k o1) (y k, D)) (k : Nat) : (sumP q xs ys).getD k o1 = canP q (x k + y k) D := by
  by_cases hk : k < max xs.length ys.length
  · unfold sumP
    rw [rng_getD hk]
    exact can_add hq ok (canonD hq cx k) (canonD hq cy k) (wx k) (wy k)
  · rw [getD_out (by simp [sumP]; omega)]
    have a := wx k
    have b := wy k
    rw [getD_out (by omega)] at a b
    exact canon_uniq hq (canon_o1 hq) (canP_canon hq ok) ((zero_add ok hq a b).trans (canP_worth ok).symm ok)
theorem part_eq {q D : Int} {ps rs bps lps : List (Int × Int)} {F G u : Nat → Int} (hq : WheelN q) (h : PartD q ps rs bps lps D F G u) (cp : ∀ p ∈ ps, Canon q p) (cl : ∀ p ∈ lps, Canon q p) :
    cutP (sumP q (cutP (prodP q bps.length rs.length F u D (bps.length + rs.length - 1))) lps) = cutP ps := by
  refine cut_ext fun k => ?_
  have cP := prodP_canon (n := bps.length) (m := rs.length) (N := bps.length + rs.length - 1) (f := F) (g := u) hq h.ok
  rw [sumP_can hq h.ok (fun p hp => cP p (cutP_mem hp)) cl (fun k => by rw [cutP_getC hq cP]; exact prodP_worth h.ok k) h.left k]
  exact canon_uniq hq (canP_canon hq h.ok) (canonD hq cp k) ((canP_worth h.ok).trans (h.whole k).symm h.ok)
def spRef53 (C : Addr) : Sp := fun vs H Q _ => ∃ (z a b : Addr) (q : Int) (ps rs : List (Int × Int)) (D1 D2 : Int) (f g : Nat → Int) (T U L : Nat), vs = [.ref z, .ref a, .ref b] ∧ WorldAt C H z q ∧ WheelN q ∧ RowG (10 ^ 150) H q a ps ∧ RowG (10 ^ 150) H q b rs ∧ PartIn q ps rs D1 D2 f g T U L ∧ cutP rs = [] ∧ ∀ H', Same H H' → Q (.bl true) H'
def spEPaR (C : Addr) : Sp := fun vs H Q _ => ∃ (td z a b : Addr) (q : Int) (ps rs : List (Int × Int)) (D1 D2 : Int) (f g : Nat → Int) (T U L : Nat), vs = [.ref td, .ref z, .ref a, .ref b] ∧ ToldAt H td q ∧ WorldAt C H z q ∧ WheelN q ∧ RowG (10 ^ 150) H q a ps ∧ RowG (10 ^ 150) H q b rs ∧ PartIn q ps rs D1 D2 f g T U L ∧ cutP rs ≠ [] ∧ ∀ H', Same H H' → Q (.bl true) H'
end My

namespace L2
open PySem PySem.Spec PyProof.Rows
/-- == of a list and an empty one -/
def rEqE (K : PySem.W.Frag) : R2 := fun x y H Q => ∃ a b xs, x = .ref a ∧ y = .ref b ∧ SqL K H a xs ∧ H b = some (.lst []) ∧ Q (.bl xs.isEmpty) H
theorem op_eqE {X : Cx} (hu : X.A.units + 64 < cLine) : OpR X (compareOp .Eq) (rEqE X.K) := by
  intro pins s σ H x y v u Q I rx ry h
  obtain ⟨a, b, xs, rfl, rfl, h1, h2, q⟩ := h
  cases rx
  cases ry
  obtain ⟨us, r1, t1, _⟩ := I.list h1
  obtain ⟨vs, r2, t2, _⟩ := I.list (SqL.of h2)
  have l1 := r1.length
  have l2 := r2.length
  cases xs with
  | nil =>
    refine SeqAt.RcAt.lists (e := fun _ => true) t1.isList t2.isList (by simp at l1 l2 ⊢; omega) (by omega) (fun j z1 z2 => ?_) _ _ _ _ ?_
    · simp at l1
      have : us = [] := List.length_eq_zero_iff.mp l1.symm
      subst this
      simp at z1
    · rw [all_range]
      exact ⟨.bl true, H, I, rfl, q⟩
  | cons w ws =>
    refine SeqAt.RcAt.lists_lengths t1.isList t2.isList ?_ (by omega) _ _ _ _ ⟨.bl false, H, I, rfl, q⟩
    simp at l1 l2 ⊢
    omega
theorem ifs_gen {c : TT} {t u : TS} {D : Ends} {σ : St} {H : Hp} (k : ∀ R : St → Hp → Prop, (∀ σ H, D.nx σ H → R σ H) → tIfS c t u { D with nx := R } σ H) : tIfS c t u D σ H := k D.nx fun _ _ h => h
theorem ifs_any {c : TT} {t u : TS} {D : Ends} {σ : St} {H : Hp} (hc : ∀ Q : Bool → Hp → Prop, (∀ b, Q b H) → c σ H Q) (ht : t D σ H) (hu : u D σ H) : tIfS c t u D σ H := hc _ fun b => by
  cases b with
  | true => rw [if_pos rfl]; exact ht
  | false => rw [if_neg Bool.false_ne_true]; exact hu
end L2
namespace My
open PySem L2
/-- how great the numbers of a round are: X and Y those of a drawn row of L numbers, T those of a product and a row -/
structure Sz (X Y L T : Nat) : Prop where
  x : 1000 ≤ X
  y1 : 1 ≤ Y
  yx : Y ≤ X
  x150 : X ≤ 10 ^ 100
  y150 : Y * Y * Y ≤ 10 ^ 150
  t150 : T ≤ 10 ^ 150
  l1 : 1 ≤ L
  sum : 20 * (20 * (X * X)) * Y + X * (Y * Y) ≤ T
  big : T * (2 * X) ^ (2 * L - 1) ≤ 10 ^ 260
  bigD : 1000 * (2 * X) ^ (2 * L - 1) * (Y * Y * Y) ≤ 10 ^ 265
theorem sz_a : Sz (10 ^ 41) (10 ^ 40) 2 (10 ^ 125) := ⟨by decide +kernel, by decide +kernel, by decide +kernel, by decide +kernel, by decide +kernel, by decide +kernel, by decide, by decide +kernel, by decide +kernel, by decide +kernel⟩
theorem sz_b : Sz (10 ^ 9) (10 ^ 6) 6 (10 ^ 27) := ⟨by decide +kernel, by decide +kernel, by decide +kernel, by decide +kernel, by decide +kernel, by decide +kernel, by decide, by decide +kernel, by decide +kernel, by decide +kernel⟩
theorem Sz.xt {X Y L T : Nat} (h : Sz X Y L T) : X ≤ T := by
  refine Nat.le_trans ?_ h.sum
  have : 1 ≤ Y * Y := Nat.mul_pos h.y1 h.y1
  exact Nat.le_trans (Nat.le_mul_of_pos_right X this) (Nat.le_add_left ..)
theorem RowW.weak {q : Int} {ps : List (Int × Int)} {D : Int} {f : Nat → Int} {X Y L X' Y' L' : Nat} (h : RowW q ps D f X Y L) (hx : X ≤ X') (hy : Y ≤ Y') (hl : L ≤ L') : RowW q ps D f X' Y' L' :=
  ⟨h.ok, h.dvd, h.w, fun i => Nat.le_trans (h.bf i) hx, Nat.le_trans h.bD hy, fun i hi => h.out i (by omega)⟩
theorem RowW.top {q : Int} (hq : WheelN q) {ps : List (Int × Int)} {D : Int} {f : Nat → Int} {X Y L : Nat} (h : RowW q ps D f X Y L) (hc : ∀ p ∈ ps, Canon q p) {i : Nat} (hi : L ≤ i) : (ps.getD i o1).1 = 0 := Classical.byContradiction fun n => by
  have w := h.w i
  rw [h.out i hi] at w
  obtain ⟨k, e⟩ := w
  dsimp only at e
  rw [Int.zero_mul, Int.sub_zero] at e
  exact nz_mul hq (canon_nz (canonD hq hc i) n) (h.ok.nz hq) ⟨k, e⟩
theorem cut_short {ps : List (Int × Int)} {L : Nat} (h : ∀ i, L ≤ i → (ps.getD i o1).1 = 0) : (cutP ps).length ≤ L := Nat.le_of_not_lt fun n => by
  have z := cutP_last (ps := ps) (by omega)
  rw [cutP_get (by omega)] at z
  exact z (h _ (by omega))
theorem partIn_of {q : Int} (hq : WheelN q) {ps rs : List (Int × Int)} {D1 D2 : Int} {f g : Nat → Int} {X Y L T L2 : Nat} (sz : Sz X Y L T) (h1 : RowW q ps D1 f T (Y * Y * Y) (2 * L - 1)) (h2 : RowW q rs D2 g X X L2) (c1 : ∀ p ∈ ps, Canon q p) (l1 : ps.length ≤ 50) (l2 : rs.length ≤ 50) : PartIn q ps rs D1 D2 f g T X (2 * L - 1) :=
  ⟨l1, l2, h1.ok, h2.ok, h1.dvd, h2.dvd, h1.w, h2.w, h1.bf, h2.bf, Nat.le_trans sz.x sz.xt, sz.x, h2.bD, Nat.le_trans h1.bD sz.y150, Nat.le_trans sz.x150 (by decide +kernel), cut_short fun i hi => h1.top hq c1 hi, sz.big, Nat.le_trans (Nat.mul_le_mul_left _ h1.bD) sz.bigD⟩
theorem conv_zero {n m k L : Nat} {f g : Nat → Int} (hf : ∀ i, L ≤ i → f i = 0) (hg : ∀ i, L ≤ i → g i = 0) (hk : 2 * L - 1 ≤ k) : convN n m f g k = 0 := by
  unfold convN
  rw [show (fun i => convRow m (f i) g i k) = fun _ => 0 from funext fun i => ?_, sumN_zero]
  rw [convRow_at]
  split
  · by_cases h : L ≤ i
    · rw [hf i h, Int.zero_mul]
    · rw [hg (k - i) (by omega), Int.mul_zero]
  · rfl
theorem weq_mul2 {q a b D1 D2 : Int} {p r : Int × Int} (h1 : Weq q p (a, D1)) (h2 : Weq q r (b, D2)) : Weq q (p.1 * r.1, p.2 * r.2) (a * b, D1 * D2) := by
  obtain ⟨k1, e1⟩ := h1
  obtain ⟨k2, e2⟩ := h2
  dsimp only at e1 e2
  refine ⟨k1 * (r.1 * D2) + a * p.2 * k2, ?_⟩
  dsimp only
  grind
theorem weq_scale {q x D : Int} {p : Int × Int} (c : Int) (h : Weq q p (x, D)) : Weq q p (x * c, D * c) := by
  obtain ⟨k, e⟩ := h
  dsimp only at e
  refine ⟨k * c, ?_⟩
  dsimp only
  grind
/-- a product and a row, summed -/
theorem sum_row {q : Int} (hq : WheelN q) {ps rs qs : List (Int × Int)} {D1 D2 D3 : Int} {f g h : Nat → Int} {X Y L T : Nat} (sz : Sz X Y L T) (h1 : RowW q ps D1 f X Y L) (h2 : RowW q rs D2 g X Y L) (h3 : RowW q qs D3 h X Y L) (cq : ∀ p ∈ qs, Canon q p) (l1 : ps.length ≤ 20) (l2 : rs.length ≤ 20) :
    RowW q (cutP (sumP q (cutP (prodP q ps.length rs.length f g (D1 * D2) (ps.length + rs.length - 1))) qs)) (D1 * D2 * D3) (fun k => convN ps.length rs.length f g k * D3 + h k * (D1 * D2)) T (Y * Y * Y) (2 * L - 1) ∧
    ∀ p ∈ cutP (sumP q (cutP (prodP q ps.length rs.length f g (D1 * D2) (ps.length + rs.length - 1))) qs), p.1.natAbs ≤ 10 ^ 150 ∧ p.2.natAbs ≤ 10 ^ 150 := by
  have ok12 := h1.ok.mul h2.ok
  have ok := ok12.mul h3.ok
  have cP := prodP_canon (n := ps.length) (m := rs.length) (N := ps.length + rs.length - 1) (f := f) (g := g) hq ok12
  have es : ∀ k, (sumP q (cutP (prodP q ps.length rs.length f g (D1 * D2) (ps.length + rs.length - 1))) qs).getD k o1 = canP q (convN ps.length rs.length f g k * D3 + h k * (D1 * D2)) (D1 * D2 * D3) := fun k =>
    sumP_can hq ok (fun p hp => cP p (cutP_mem hp)) cq (fun k => by rw [cutP_getC hq cP]; exact weq_scale D3 (prodP_worth ok12 k)) (fun k => by
      have := weq_scale (D1 * D2) (h3.w k)
      rw [Int.mul_comm D3] at this
      exact this) k
  have mem : ∀ p ∈ cutP (sumP q (cutP (prodP q ps.length rs.length f g (D1 * D2) (ps.length + rs.length - 1))) qs), ∃ k, p = canP q (convN ps.length rs.length f g k * D3 + h k * (D1 * D2)) (D1 * D2 * D3) := fun p hp => by
    obtain ⟨k, hk, rfl⟩ := List.getElem_of_mem (cutP_mem hp)
    exact ⟨k, by rw [← es k, getD_at hk]⟩
  have cS : ∀ p ∈ sumP q (cutP (prodP q ps.length rs.length f g (D1 * D2) (ps.length + rs.length - 1))) qs, Canon q p := fun p hp => by
    obtain ⟨k, hk, rfl⟩ := List.getElem_of_mem hp
    rw [← getD_at (d := o1) hk, es k]
    exact canP_canon hq ok
  have bD12 : (D1 * D2).natAbs ≤ Y * Y := by rw [Int.natAbs_mul]; exact Nat.mul_le_mul h1.bD h2.bD
  have bD : (D1 * D2 * D3).natAbs ≤ Y * Y * Y := by rw [Int.natAbs_mul]; exact Nat.mul_le_mul bD12 h3.bD
  have bS : ∀ k, (convN ps.length rs.length f g k * D3 + h k * (D1 * D2)).natAbs ≤ T := fun k => by
    refine Nat.le_trans (Nat.le_trans (Int.natAbs_add_le ..) (Nat.add_le_add ?_ ?_)) sz.sum
    · rw [Int.natAbs_mul]
      refine Nat.mul_le_mul (Nat.le_trans (conv_bd (M := X * X) fun i j _ _ => ?_) (Nat.mul_le_mul l1 (Nat.mul_le_mul_right _ l2))) h3.bD
      rw [Int.natAbs_mul]
      exact Nat.mul_le_mul (h1.bf i) (h2.bf j)
    · rw [Int.natAbs_mul]
      exact Nat.mul_le_mul (h3.bf k) bD12
  refine ⟨⟨ok, fun p hp => ?_, fun k => ?_, bS, bD, fun k hk => ?_⟩, fun p hp => ?_⟩
  · obtain ⟨k, rfl⟩ := mem p hp
    exact canP_dvd ok
  · rw [cutP_getC hq cS, es k]
    exact canP_worth ok
  · have hl := sz.l1
    rw [conv_zero h1.out h2.out hk, h3.out k (by omega), Int.zero_mul, Int.zero_mul]
    rfl
  · obtain ⟨k, rfl⟩ := mem p hp
    exact canP_bd hq ok (by decide +kernel) (Nat.le_trans (bS k) sz.t150) (Nat.le_trans bD sz.y150)
theorem rowW_none {q : Int} {n X : Nat} (hX : 1 ≤ X) (L : Nat) : RowW q (List.replicate n o1) 1 (fun _ => 0) X X L := by
  refine ⟨BotOk.one, fun p hp => ?_, fun i => ?_, fun _ => Nat.zero_le _, hX, fun _ _ => rfl⟩
  · rw [(List.mem_replicate.mp hp).2]; exact Int.one_dvd 1
  · have e : (List.replicate n o1).getD i o1 = o1 := by
      rw [List.getD_eq_getElem?_getD, List.getElem?_replicate]
      split <;> rfl
    rw [e]
    exact zero_weq
theorem rowW_one {q : Int} {X n : Nat} (hX : 1 ≤ X) {rs : List (Int × Int)} (h : ∀ k, rs.getD k o1 = o1) (hn : rs.length = n) : RowW q (rs ++ [((1 : Int), (1 : Int))]) 1 (fun k => if k = n then 1 else 0) X X (n + 1) := by
  have e : ∀ i, (rs ++ [((1 : Int), (1 : Int))]).getD i o1 = if i = n then ((1 : Int), (1 : Int)) else o1 := fun i => by
    rw [List.getD_eq_getElem?_getD]
    by_cases h1 : i < rs.length
    · rw [List.getElem?_append_left h1, ← List.getD_eq_getElem?_getD, h i, if_neg (by omega)]
    · rw [List.getElem?_append_right (by omega)]
      by_cases h2 : i = n
      · rw [if_pos h2, show i - rs.length = 0 by omega]
        rfl
      · rw [if_neg h2, List.getElem?_eq_none (by simp; omega)]
        rfl
  refine ⟨BotOk.one, fun p hp => ?_, fun i => ?_, fun i => ?_, hX, fun i hi => if_neg (by omega)⟩
  · rcases List.mem_append.mp hp with hp | hp
    · obtain ⟨k, hk, rfl⟩ := List.getElem_of_mem hp
      rw [← getD_at (d := o1) hk, h k]
      exact Int.one_dvd 1
    · rw [List.mem_singleton.mp hp]; exact Int.one_dvd 1
  · rw [e i]
    split
    · exact Weq.refl _
    · exact zero_weq
  · split
    · exact hX
    · exact Nat.zero_le _
end My

set_option maxRecDepth 100000
set_option maxHeartbeats 4000000
namespace My
open PySem L2
def top (i : Nat) : Stmt := PySem.Challenge.pw_bandwright_k53_rows_parted.main.body.getD i (.Pass ⟨0, 0, 0, 0⟩)
abbrev s_is_whole : Stmt := top 15
abbrev s_common_divisor : Stmt := top 17
abbrev s_is_prime : Stmt := top 18
abbrev s_ratio : Stmt := top 20
abbrev s_one_bottom : Stmt := top 23
abbrev s_remainder_back : Stmt := top 25
abbrev s_remainder_over : Stmt := top 26
abbrev s_is_fractions : Stmt := top 29
abbrev s_is_wheel : Stmt := top 30
abbrev s_trimmed : Stmt := top 9
abbrev s_numbers_of : Stmt := top 10
abbrev s_whole_parted : Stmt := top 7
abbrev s_parted : Stmt := top 11
abbrev s_law_e_fill : Stmt := top 33
abbrev s_law_e_next : Stmt := top 34
abbrev s_law_e_low : Stmt := top 35
abbrev s_law_e_of : Stmt := top 36
abbrev s_law_e_plus : Stmt := top 37
abbrev s_law_e_times : Stmt := top 38
abbrev s_law_e_is_number : Stmt := top 39
abbrev s_law_e_is_row : Stmt := top 40
abbrev s_law_e_world : Stmt := top 41
abbrev s_law_e_number : Stmt := top 42
abbrev s_law_e_row : Stmt := top 43
abbrev s_law_e_cut : Stmt := top 44
abbrev s_law_e_sum : Stmt := top 45
abbrev s_law_e_product : Stmt := top 46
abbrev s_law_e_parted_right : Stmt := top 47
abbrev s_law_e_refused : Stmt := top 48
abbrev s_law : Stmt := top 49
abbrev s_World___init__ : Stmt := inClass (top 31) 0
abbrev s_World_of : Stmt := inClass (top 31) 3
abbrev s_World_as_wholes : Stmt := inClass (top 31) 8
abbrev s_World_evenly : Stmt := inClass (top 31) 9
structure Adr where
  f_is_whole : Addr
  d_is_whole : FuncData
  f_common_divisor : Addr
  d_common_divisor : FuncData
  f_is_prime : Addr
  d_is_prime : FuncData
  f_ratio : Addr
  d_ratio : FuncData
  f_one_bottom : Addr
  d_one_bottom : FuncData
  f_remainder_back : Addr
  d_remainder_back : FuncData
  f_remainder_over : Addr
  d_remainder_over : FuncData
  f_is_fractions : Addr
  d_is_fractions : FuncData
  f_is_wheel : Addr
  d_is_wheel : FuncData
  f_trimmed : Addr
  d_trimmed : FuncData
  f_numbers_of : Addr
  d_numbers_of : FuncData
  f_whole_parted : Addr
  d_whole_parted : FuncData
  f_parted : Addr
  d_parted : FuncData
  f_law_e_fill : Addr
  d_law_e_fill : FuncData
  f_law_e_next : Addr
  d_law_e_next : FuncData
  f_law_e_low : Addr
  d_law_e_low : FuncData
  f_law_e_of : Addr
  d_law_e_of : FuncData
  f_law_e_plus : Addr
  d_law_e_plus : FuncData
  f_law_e_times : Addr
  d_law_e_times : FuncData
  f_law_e_is_number : Addr
  d_law_e_is_number : FuncData
  f_law_e_is_row : Addr
  d_law_e_is_row : FuncData
  f_law_e_world : Addr
  d_law_e_world : FuncData
  f_law_e_number : Addr
  d_law_e_number : FuncData
  f_law_e_row : Addr
  d_law_e_row : FuncData
  f_law_e_cut : Addr
  d_law_e_cut : FuncData
  f_law_e_sum : Addr
  d_law_e_sum : FuncData
  f_law_e_product : Addr
  d_law_e_product : FuncData
  f_law_e_parted_right : Addr
  d_law_e_parted_right : FuncData
  f_law_e_refused : Addr
  d_law_e_refused : FuncData
  f_law : Addr
  d_law : FuncData
  f_World___init__ : Addr
  d_World___init__ : FuncData
  f_World_of : Addr
  d_World_of : FuncData
  f_World_as_wholes : Addr
  d_World_as_wholes : FuncData
  f_World_evenly : Addr
  d_World_evenly : FuncData
  C_World : Addr
  C_NoWorld : Addr
  C_NoOver : Addr
  C_WrightError : Addr
  C_NoFit : Addr
structure Txt (K : PySem.W.Frag) (mg : Str → Option Value) (t : Adr) : Prop where
  F_is_whole : Fun K "is_whole" "is_whole" s_is_whole t.f_is_whole t.d_is_whole
  b_is_whole : Binds K t.d_is_whole ["thing"] []
  mg_is_whole : mg "is_whole" = some (.ref t.f_is_whole)
  F_common_divisor : Fun K "common_divisor" "common_divisor" s_common_divisor t.f_common_divisor t.d_common_divisor
  b_common_divisor : Binds K t.d_common_divisor ["one", "other"] []
  mg_common_divisor : mg "common_divisor" = some (.ref t.f_common_divisor)
  F_is_prime : Fun K "is_prime" "is_prime" s_is_prime t.f_is_prime t.d_is_prime
  b_is_prime : Binds K t.d_is_prime ["number"] []
  mg_is_prime : mg "is_prime" = some (.ref t.f_is_prime)
  F_ratio : Fun K "ratio" "ratio" s_ratio t.f_ratio t.d_ratio
  b_ratio : Binds K t.d_ratio ["top", "bottom"] []
  mg_ratio : mg "ratio" = some (.ref t.f_ratio)
  F_one_bottom : Fun K "one_bottom" "one_bottom" s_one_bottom t.f_one_bottom t.d_one_bottom
  b_one_bottom : Binds K t.d_one_bottom ["row"] []
  mg_one_bottom : mg "one_bottom" = some (.ref t.f_one_bottom)
  F_remainder_back : Fun K "remainder_back" "remainder_back" s_remainder_back t.f_remainder_back t.d_remainder_back
  b_remainder_back : Binds K t.d_remainder_back ["prime", "number"] []
  mg_remainder_back : mg "remainder_back" = some (.ref t.f_remainder_back)
  F_remainder_over : Fun K "remainder_over" "remainder_over" s_remainder_over t.f_remainder_over t.d_remainder_over
  b_remainder_over : Binds K t.d_remainder_over ["prime", "a", "b"] []
  mg_remainder_over : mg "remainder_over" = some (.ref t.f_remainder_over)
  F_is_fractions : Fun K "is_fractions" "is_fractions" s_is_fractions t.f_is_fractions t.d_is_fractions
  b_is_fractions : Binds K t.d_is_fractions ["told"] []
  mg_is_fractions : mg "is_fractions" = some (.ref t.f_is_fractions)
  F_is_wheel : Fun K "is_wheel" "is_wheel" s_is_wheel t.f_is_wheel t.d_is_wheel
  b_is_wheel : Binds K t.d_is_wheel ["told"] []
  mg_is_wheel : mg "is_wheel" = some (.ref t.f_is_wheel)
  F_trimmed : Fun K "trimmed" "trimmed" s_trimmed t.f_trimmed t.d_trimmed
  b_trimmed : Binds K t.d_trimmed ["world", "row"] []
  mg_trimmed : mg "trimmed" = some (.ref t.f_trimmed)
  F_numbers_of : Fun K "numbers_of" "numbers_of" s_numbers_of t.f_numbers_of t.d_numbers_of
  b_numbers_of : Binds K t.d_numbers_of ["world", "wholes", "times", "bottom"] []
  mg_numbers_of : mg "numbers_of" = some (.ref t.f_numbers_of)
  F_whole_parted : Fun K "whole_parted" "whole_parted" s_whole_parted t.f_whole_parted t.d_whole_parted
  b_whole_parted : Binds K t.d_whole_parted ["world", "one", "other"] []
  mg_whole_parted : mg "whole_parted" = some (.ref t.f_whole_parted)
  F_parted : Fun K "parted" "parted" s_parted t.f_parted t.d_parted
  b_parted : Binds K t.d_parted ["world", "one", "other"] []
  mg_parted : mg "parted" = some (.ref t.f_parted)
  F_law_e_fill : Fun K "_law_e_fill" "_law_e_fill" s_law_e_fill t.f_law_e_fill t.d_law_e_fill
  b_law_e_fill : Binds K t.d_law_e_fill ["cell", "at"] []
  mg_law_e_fill : mg "_law_e_fill" = some (.ref t.f_law_e_fill)
  F_law_e_next : Fun K "_law_e_next" "_law_e_next" s_law_e_next t.f_law_e_next t.d_law_e_next
  b_law_e_next : Binds K t.d_law_e_next ["pen", "many"] []
  mg_law_e_next : mg "_law_e_next" = some (.ref t.f_law_e_next)
  F_law_e_low : Fun K "_law_e_low" "_law_e_low" s_law_e_low t.f_law_e_low t.d_law_e_low
  b_law_e_low : Binds K t.d_law_e_low ["top", "bottom"] []
  mg_law_e_low : mg "_law_e_low" = some (.ref t.f_law_e_low)
  F_law_e_of : Fun K "_law_e_of" "_law_e_of" s_law_e_of t.f_law_e_of t.d_law_e_of
  b_law_e_of : Binds K t.d_law_e_of ["told", "number"] []
  mg_law_e_of : mg "_law_e_of" = some (.ref t.f_law_e_of)
  F_law_e_plus : Fun K "_law_e_plus" "_law_e_plus" s_law_e_plus t.f_law_e_plus t.d_law_e_plus
  b_law_e_plus : Binds K t.d_law_e_plus ["told", "a", "b"] []
  mg_law_e_plus : mg "_law_e_plus" = some (.ref t.f_law_e_plus)
  F_law_e_times : Fun K "_law_e_times" "_law_e_times" s_law_e_times t.f_law_e_times t.d_law_e_times
  b_law_e_times : Binds K t.d_law_e_times ["told", "a", "b"] []
  mg_law_e_times : mg "_law_e_times" = some (.ref t.f_law_e_times)
  F_law_e_is_number : Fun K "_law_e_is_number" "_law_e_is_number" s_law_e_is_number t.f_law_e_is_number t.d_law_e_is_number
  b_law_e_is_number : Binds K t.d_law_e_is_number ["told", "a"] []
  mg_law_e_is_number : mg "_law_e_is_number" = some (.ref t.f_law_e_is_number)
  F_law_e_is_row : Fun K "_law_e_is_row" "_law_e_is_row" s_law_e_is_row t.f_law_e_is_row t.d_law_e_is_row
  b_law_e_is_row : Binds K t.d_law_e_is_row ["told", "found"] []
  mg_law_e_is_row : mg "_law_e_is_row" = some (.ref t.f_law_e_is_row)
  F_law_e_world : Fun K "_law_e_world" "_law_e_world" s_law_e_world t.f_law_e_world t.d_law_e_world
  b_law_e_world : Binds K t.d_law_e_world ["pen"] []
  mg_law_e_world : mg "_law_e_world" = some (.ref t.f_law_e_world)
  F_law_e_number : Fun K "_law_e_number" "_law_e_number" s_law_e_number t.f_law_e_number t.d_law_e_number
  b_law_e_number : Binds K t.d_law_e_number ["pen", "told", "far"] []
  mg_law_e_number : mg "_law_e_number" = some (.ref t.f_law_e_number)
  F_law_e_row : Fun K "_law_e_row" "_law_e_row" s_law_e_row t.f_law_e_row t.d_law_e_row
  b_law_e_row : Binds K t.d_law_e_row ["pen", "told", "most", "far"] []
  mg_law_e_row : mg "_law_e_row" = some (.ref t.f_law_e_row)
  F_law_e_cut : Fun K "_law_e_cut" "_law_e_cut" s_law_e_cut t.f_law_e_cut t.d_law_e_cut
  b_law_e_cut : Binds K t.d_law_e_cut ["told", "row"] []
  mg_law_e_cut : mg "_law_e_cut" = some (.ref t.f_law_e_cut)
  F_law_e_sum : Fun K "_law_e_sum" "_law_e_sum" s_law_e_sum t.f_law_e_sum t.d_law_e_sum
  b_law_e_sum : Binds K t.d_law_e_sum ["told", "one", "other"] []
  mg_law_e_sum : mg "_law_e_sum" = some (.ref t.f_law_e_sum)
  F_law_e_product : Fun K "_law_e_product" "_law_e_product" s_law_e_product t.f_law_e_product t.d_law_e_product
  b_law_e_product : Binds K t.d_law_e_product ["told", "one", "other"] []
  mg_law_e_product : mg "_law_e_product" = some (.ref t.f_law_e_product)
  F_law_e_parted_right : Fun K "_law_e_parted_right" "_law_e_parted_right" s_law_e_parted_right t.f_law_e_parted_right t.d_law_e_parted_right
  b_law_e_parted_right : Binds K t.d_law_e_parted_right ["told", "world", "one", "other"] []
  mg_law_e_parted_right : mg "_law_e_parted_right" = some (.ref t.f_law_e_parted_right)
  F_law_e_refused : Fun K "_law_e_refused" "_law_e_refused" s_law_e_refused t.f_law_e_refused t.d_law_e_refused
  b_law_e_refused : Binds K t.d_law_e_refused ["world", "one", "other"] []
  mg_law_e_refused : mg "_law_e_refused" = some (.ref t.f_law_e_refused)
  F_law : Fun K "law" "law" s_law t.f_law t.d_law
  b_law : Binds K t.d_law ["script"] []
  mg_law : mg "law" = some (.ref t.f_law)
  F_World___init__ : Fun K "__init__" "World.__init__" s_World___init__ t.f_World___init__ t.d_World___init__
  b_World___init__ : Binds K t.d_World___init__ ["self", "told"] []
  M_World : Mk K t.C_World t.f_World___init__
  F_World_of : FunD K "of" "World.of" s_World_of 1 t.f_World_of t.d_World_of
  b_World_of : Binds K t.d_World_of ["self", "top", "bottom"] []
  b1_World_of : ∃ v, Vals [V.int 1] [v] ∧ Binds K t.d_World_of ["self", "top", "bottom"] [v]
  bk_World_of : ∀ (s : Shared) (us ws : List Value), K.In s.heap → ws.length = 1 → us.length + 1 = (["self", "top", "bottom"] : List Str).length → BindsTo s t.d_World_of ⟨us, [("bottom" : Str)].zip ws⟩ ((["self", "top", "bottom"] : List Str).zip (us ++ ws))
  m_World_of : Meth K t.C_World "of" t.f_World_of
  F_World_as_wholes : Fun K "as_wholes" "World.as_wholes" s_World_as_wholes t.f_World_as_wholes t.d_World_as_wholes
  b_World_as_wholes : Binds K t.d_World_as_wholes ["self", "row"] []
  m_World_as_wholes : Meth K t.C_World "as_wholes" t.f_World_as_wholes
  F_World_evenly : Fun K "evenly" "World.evenly" s_World_evenly t.f_World_evenly t.d_World_evenly
  b_World_evenly : Binds K t.d_World_evenly ["self", "row", "by"] []
  m_World_evenly : Meth K t.C_World "evenly" t.f_World_evenly
  cl_World : Cls K t.C_World
  mg_World : mg "World" = some (.ref t.C_World)
  na_World_prime : NoAttr K t.C_World "prime"
  mg_NoWorld : mg "NoWorld" = some (.ref t.C_NoWorld)
  mg_NoOver : mg "NoOver" = some (.ref t.C_NoOver)
  mg_WrightError : mg "WrightError" = some (.ref t.C_WrightError)
  mg_NoFit : mg "NoFit" = some (.ref t.C_NoFit)
  n_len : mg "len" = none
  n_isinstance : mg "isinstance" = none
  n_int : mg "int" = none
  n_bool : mg "bool" = none
  n_tuple : mg "tuple" = none
  n_list : mg "list" = none
  n_range : mg "range" = none
  n_abs : mg "abs" = none
  n_all : mg "all" = none
  n_zip : mg "zip" = none
  n_enumerate : mg "enumerate" = none
  n_ValueError : mg "ValueError" = none
  mg_GREATEST_PRIME : ∃ u, mg "GREATEST_PRIME" = some u ∧ RelV (.int 997) u
  mg_LONG : ∃ u, mg "LONG" = some u ∧ RelV (.int 2048) u
  x_NoWorld : PySem.W.excIn K t.C_NoWorld [.type "ValueError", .type "Exception", .type "BaseException", .type "object"] "ValueError.__new__" = true
  x_NoOver : PySem.W.excIn K t.C_NoOver [.type "ValueError", .type "Exception", .type "BaseException", .type "object"] "ValueError.__new__" = true
  x_WrightError : PySem.W.excIn K t.C_WrightError [.type "ValueError", .type "Exception", .type "BaseException", .type "object"] "ValueError.__new__" = true
  m_NO_NO : PySem.W.mroIn K t.C_NoOver (.ref t.C_NoOver) = some true
  m_NO_WE : PySem.W.mroIn K t.C_NoOver (.ref t.C_WrightError) = some true
  k_VE : PySem.W.kitOne K (.ref t.C_NoOver) (.type "ValueError") = some true
  k_NO : PySem.W.kitOne K (.ref t.C_NoOver) (.ref t.C_NoOver) = some true
  k_NoWorld : PySem.W.kitOne K (.ref t.C_NoOver) (.ref t.C_NoWorld) = some false
  k_NoFit : PySem.W.kitOne K (.ref t.C_NoOver) (.ref t.C_NoFit) = some false
  cx1 : PySem.W.hasDictIn K t.C_NoOver = true
  cx2 : PySem.W.findIn K (.ref t.C_NoOver) "__getattribute__" = some (some (.builtin "BaseException.__getattribute__"))
  cx3 : PySem.W.findIn K (.ref t.C_NoOver) "__getattr__" = some none
  cx4 : PySem.W.findIn K (.ref t.C_NoOver) "__class__" = some (some (.builtin "object.__class__"))
  cx5 : PySem.W.mroIn K t.C_NoOver (.type "object") = some true
  cx6 : PySem.W.mroIn K t.C_NoOver (.type "BaseException") = some true
section
variable {P : Program} {w : World} {K : PySem.W.Frag} {mg : Str → Option Value} {base : Heap} {t : Adr}
theorem sc_is_whole : FnScope ["thing"] ["thing"] (defScope s_is_whole) := ⟨rfl, rfl, rfl, by decide +kernel, rfl, by decide +kernel, by decide +kernel⟩
theorem ok_is_whole (T : Txt K mg t) : FnOk P w K mg base CX0 1 t.f_is_whole t.d_is_whole ["thing"] spWhole := by
  have S := sc_is_whole
  refine T.F_is_whole.ok S (fun vs H Q E h => ?_) (fun cdv A outer s H vs Q E hr h => ?_)
  · obtain ⟨v, rfl, _⟩ := h
    rfl
  · obtain ⟨v, rfl, ha, k⟩ := h
    refine ⟨_, (@pss_one _ _ _ (@ps_ret _ _ _ _ (@pe_and _ _ _ _ _ _ _ (pe_callB (call_isi (K := K)) rfl T.n_isinstance boot_isinstance (@pa_mor _ _ _ _ _ (by rfl) (pv 0) (@pa_mor _ _ _ _ _ (by rfl) (pe_bltn (v := .ty "int") rfl T.n_int boot_int rfl) pa_nil))) (@pe_one _ _ _ _ _ (@pe_not _ _ _ _ (pe_callB (call_isi (K := K)) rfl T.n_isinstance boot_isinstance (@pa_mor _ _ _ _ _ (by rfl) (pv 0) (@pa_mor _ _ _ _ _ (by rfl) (pe_bltn (v := .ty "bool") rfl T.n_bool boot_bool rfl) pa_nil)))))))), ?_⟩
    obtain ⟨Ty, ty, k1, k2, _⟩ := ha.kit (K := K)
    refine ⟨_, rfl, _, _, _, _, rfl, rfl, ty, k1, _, rfl, ite2 (fun h1 => ?_) (fun h1 => ?_)⟩
    · refine ⟨_, rfl, _, _, _, _, rfl, rfl, ty, k2, _, rfl, ?_⟩
      have e : (!isBlV v) = isIntV v := by
        cases h2 : isBlV v with
        | true => rw [bl_int h2]; rfl
        | false => rw [h2, Bool.or_false] at h1; rw [h1]; rfl
      show Q (.bl (!isBlV v)) H
      rw [e]
      exact k
    · have e : isIntV v = false := by
        cases h2 : isIntV v with
        | true => rw [h2] at h1; exact absurd rfl h1
        | false => rfl
      rw [e] at k
      exact k
theorem sc_common_divisor : FnScope ["one", "other", "left", "shorter"] ["one", "other"] (defScope s_common_divisor) := ⟨rfl, rfl, rfl, by decide +kernel, rfl, by decide +kernel, by decide +kernel⟩
theorem ok_common_divisor (T : Txt K mg t) : FnOk P w K mg base CX0 1 t.f_common_divisor t.d_common_divisor ["one", "other"] spGcd := by
  have S := sc_common_divisor
  obtain ⟨uL, hL, rL⟩ := T.mg_LONG
  refine T.F_common_divisor.ok S (fun vs H Q E h => ?_) (fun cdv A outer s H vs Q E hr h => ?_)
  · obtain ⟨a, b, rfl, _⟩ := h
    rfl
  · obtain ⟨a, b, rfl, mb, k⟩ := h
    refine ⟨_, (@pss_cons _ _ _ _ _ (@ps_put _ _ 0 _ _ _ _ (by rfl) (by first | exact .inl rfl | exact .inr rfl | assumption) S.nd rfl (Or.inl rfl) (pe_callB call_abs rfl T.n_abs boot_abs (@pa_mor _ _ _ _ _ (by rfl) (pv 0) pa_nil)))
      (@pss_cons _ _ _ _ _ (@ps_put _ _ 1 _ _ _ _ (by rfl) (by first | exact .inl rfl | exact .inr rfl | assumption) S.nd rfl (Or.inl rfl) (pe_callB call_abs rfl T.n_abs boot_abs (@pa_mor _ _ _ _ _ (by rfl) (pv 1) pa_nil)))
      (@pss_cons _ _ _ _ _ (@ps_while _ _ _ _ _ _ PassesOwn.never (@pt_cmpR _ _ _ _ _ _ _ _ op_gt (pv 1) pe_int (nomark _)) (@pss_cons _ _ _ _ _ (@ps_put _ _ 2 _ _ _ _ (by rfl) (by first | exact .inl rfl | exact .inr rfl | assumption) S.nd rfl (Or.inl rfl) (@pe_op _ _ _ _ _ _ _ _ op_mod (pv 0) (pv 1)))
      (@pss_cons _ _ _ _ _ (@ps_put _ _ 0 _ _ _ _ (by rfl) (by first | exact .inl rfl | exact .inr rfl | assumption) S.nd rfl (Or.inl rfl) (pv 1))
      (@pss_cons _ _ _ _ _ (@ps_put _ _ 1 _ _ _ _ (by rfl) (by first | exact .inl rfl | exact .inr rfl | assumption) S.nd rfl (Or.inl rfl) (pv 2))
      (@pss_one _ _ _ (@ps_if _ _ _ _ _ _ _ _ (@pt_cmpR _ _ _ _ _ _ _ _ op_gt (pe_bm0 PySem.F.plainAttrs_int PySem.F.slot_int_bit_length PySem.F.type_int_bit_length mt_bits (pv 0)) (pe_glob (v := .int 2048) rfl hL rL) (nomark _)) pss_never pss_nil))))))
      (@pss_one _ _ _ (@ps_ret _ _ _ _ (pv 0)))))), ?_⟩
    refine ⟨_, rfl, a, rfl, _, rfl, b, rfl, fun m σ H' => H' = H ∧ ∃ (x y : Nat) (v u : Option V), σ = [some (.int (x : Int)), some (.int (y : Int)), v, u] ∧ m = y ∧ y ≤ b.natAbs ∧ Nat.gcd x y = Int.gcd a b, ⟨b.natAbs, rfl, a.natAbs, b.natAbs, none, none, ?_, rfl, Nat.le_refl _, rfl⟩, ?_⟩
    · show [some (V.int (if a < 0 then -a else a)), some (V.int (if b < 0 then -b else b)), none, none] = _
      rw [abs_nat, abs_nat]
    · rintro m σ H' ⟨rfl, x, y, v, u, rfl, em, hb, hg⟩
      refine ⟨_, rfl, _, _, rfl, rfl, _, rfl, ite2 (fun hy => ?_) (fun hy => ?_)⟩
      · have hy : (0 : Int) < y := of_decide_eq_true hy
        refine ⟨fun σ' H2 => H2 = H' ∧ σ' = [some (.int (y : Int)), some (.int (((x % y : Nat)) : Int)), some (.int (((x % y : Nat)) : Int)), u], ?_, ?_⟩
        · rintro σ' H2 ⟨rfl, rfl⟩
          exact ⟨x % y, by rw [em]; exact Nat.mod_lt _ (by omega), rfl, y, x % y, _, _, rfl, rfl, Nat.le_trans (Nat.le_of_lt (Nat.mod_lt _ (by omega))) hb, by rw [gcd_step]; exact hg⟩
        · have hm : Mid (y : Int) := Nat.lt_of_le_of_lt (by rw [Int.natAbs_natCast]; exact hb) mb
          have hbt := bits_mid hm
          refine ⟨_, rfl, _, rfl, _, _, rfl, rfl, hy, _, rfl, _, rfl, _, rfl, rfl, _, rfl, rfl, _, _, rfl, rfl, _, rfl, ite2 (fun hz => ?_) (fun _ => ⟨rfl, rfl⟩)⟩
          have hz := of_decide_eq_true hz
          exact absurd hz (by omega)
      · have hy : ¬ (0 : Int) < y := fun z => hy (decide_eq_true z)
        have y0 : y = 0 := by omega
        subst y0
        rw [Nat.gcd_zero_right] at hg
        rw [← hg] at k
        exact ⟨_, rfl, k⟩
theorem sc_is_prime : FnScope ["number", "divisor"] ["number"] (defScope s_is_prime) := ⟨rfl, rfl, rfl, by decide +kernel, rfl, by decide +kernel, by decide +kernel⟩
theorem ok_is_prime (T : Txt K mg t) : FnOk P w K mg base CX0 1 t.f_is_prime t.d_is_prime ["number"] spPrime := by
  have S := sc_is_prime
  refine T.F_is_prime.ok S (fun vs H Q E h => ?_) (fun cdv A outer s H vs Q E hr h => ?_)
  · obtain ⟨n, rfl, _⟩ := h
    rfl
  · obtain ⟨n, rfl, hn1, hn2, k⟩ := h
    refine ⟨_, (@pss_cons _ _ _ _ _ (@ps_put _ _ 1 _ _ _ _ (by rfl) (by first | exact .inl rfl | exact .inr rfl | assumption) S.nd rfl (Or.inl rfl) pe_int)
      (@pss_cons _ _ _ _ _ (@ps_while _ _ _ _ _ _ PassesOwn.never (@pt_cmpR _ _ _ _ _ _ _ _ op_le (@pe_op _ _ _ _ _ _ _ _ op_mul (pv 1) (pv 1)) (pv 0) (nomark _)) (@pss_cons _ _ _ _ _ (@ps_if _ _ _ _ _ _ _ _ (@pt_cmpR _ _ _ _ _ _ _ _ op_eq (@pe_op _ _ _ _ _ _ _ _ op_mod (pv 0) (pv 1)) pe_int (nomark _)) (@pss_one _ _ _ (@ps_ret _ _ _ _ pe_bl)) pss_nil)
      (@pss_one _ _ _ (ps_aug (i := 1) S.nd rfl (Or.inl rfl) pe_int ip_add))))
      (@pss_one _ _ _ (@ps_ret _ _ _ _ (@pe_cmpR _ _ _ _ _ _ _ _ op_ge (pv 0) pe_int (nomark _)))))), ?_⟩
    refine ⟨fun m σ H' => H' = H ∧ ∃ d : Int, σ = [some (.int n), some (.int d)] ∧ 2 ≤ d ∧ d ≤ 32 ∧ m = (33 - d).toNat ∧ ∀ e : Int, 2 ≤ e → e < d → n % e ≠ 0, ⟨_, rfl, 2, rfl, by omega, by omega, rfl, fun e a b => by omega⟩, ?_⟩
    rintro m σ H' ⟨rfl, d, rfl, h1, h2, rfl, h3⟩
    refine ⟨_, rfl, _, rfl, _, _, rfl, rfl, .inl ⟨by omega, by omega⟩, _, rfl, _, _, rfl, rfl, _, rfl, ite2 (fun hq => ?_) (fun hq => ?_)⟩
    · have hq := of_decide_eq_true hq
      have hd : d < 32 := by
        by_cases z : d < 32
        · exact z
        · have : d = 32 := by omega
          subst this
          omega
      refine ⟨fun σ' H2 => H2 = H' ∧ σ' = [some (.int n), some (.int (d + 1))] ∧ n % d ≠ 0, ?_, ?_⟩
      · rintro σ' H2 ⟨rfl, rfl, hm⟩
        refine ⟨(33 - (d + 1)).toNat, by omega, rfl, d + 1, rfl, by omega, by omega, rfl, fun e a b => ?_⟩
        by_cases z : e = d
        · subst z; exact hm
        · exact h3 e a (by omega)
      · refine ⟨_, rfl, _, rfl, _, _, rfl, rfl, (show (0 : Int) < d by omega), rfl, _, rfl, ite2 (fun hm => ?_) (fun hm => ?_)⟩
        · have hm := V.int.inj (of_decide_eq_true hm)
          rw [primeB_no hn2 h1 hq hm] at k
          exact k
        · exact ⟨_, rfl, _, _, rfl, rfl, rfl, rfl, fun z => hm (decide_eq_true (congrArg V.int z))⟩
    · have hq : ¬ d * d ≤ n := fun z => hq (decide_eq_true z)
      refine ⟨_, rfl, _, _, rfl, rfl, ?_⟩
      rw [primeB_yes (n := n) (d := d) (by omega) h1 h3] at k
      have e : decide ((2 : Int) ≤ n) = true := decide_eq_true hn1
      show Q (.bl (decide ((2 : Int) ≤ n))) H'
      rw [e]
      exact k
theorem sc_is_fractions : FnScope ["told"] ["told"] (defScope s_is_fractions) := ⟨rfl, rfl, rfl, by decide +kernel, rfl, by decide +kernel, by decide +kernel⟩
theorem ok_is_fractions (T : Txt K mg t) : FnOk P w K mg base CX0 1 t.f_is_fractions t.d_is_fractions ["told"] spIsF := by
  have S := sc_is_fractions
  refine T.F_is_fractions.ok S (fun vs H Q E h => ?_) (fun cdv A outer s H vs Q E hr h => ?_)
  · obtain ⟨p, d, rfl, _⟩ := h
    rfl
  · obtain ⟨p, d, rfl, hp, k⟩ := h
    refine ⟨_, (@pss_one _ _ _ (@ps_ret _ _ _ _ (@pe_and _ _ _ _ _ _ _ (pe_callB (call_isi (K := K)) rfl T.n_isinstance boot_isinstance (@pa_mor _ _ _ _ _ (by rfl) (pv 0) (@pa_mor _ _ _ _ _ (by rfl) (pe_bltn (v := .ty "tuple") rfl T.n_tuple boot_tuple rfl) pa_nil))) (@pe_and _ _ _ _ _ _ _ (@pe_cmpR _ _ _ _ _ _ _ _ op_eq (pe_callB call_len_seq rfl T.n_len boot_len (@pa_mor _ _ _ _ _ (by rfl) (pv 0) pa_nil)) pe_int (nomark _)) (@pe_one _ _ _ _ _ (@pe_cmpR _ _ _ _ _ _ _ _ op_eq (@pe_ix _ _ _ _ _ _ _ ix_tup (pv 0) pe_int (fun _ _ => rfl)) pe_str (nomark _))))))), ?_⟩
    refine ⟨_, rfl, _, _, _, true, rfl, rfl, .of (.tup hp), kit_same, true, rfl, iteT ?_⟩
    cases d with
    | a x =>
      refine ⟨_, rfl, p, _, rfl, .inr (.of hp), rfl, true, rfl, iteT ?_⟩
      refine ⟨_, rfl, p, _, 0, .str x, rfl, rfl, .of hp, rfl, rfl, ?_⟩
      rw [dV_str]
      exact k
    | b x n =>
      exact ⟨_, rfl, p, _, rfl, .inr (.of hp), rfl, false, rfl, iteF k⟩
theorem sc_is_wheel : FnScope ["told"] ["told"] (defScope s_is_wheel) := ⟨rfl, rfl, rfl, by decide +kernel, rfl, by decide +kernel, by decide +kernel⟩
theorem ok_is_wheel (T : Txt K mg t) : FnOk P w K mg base CX0 2 t.f_is_wheel t.d_is_wheel ["told"] spIsW := by
  have S := sc_is_wheel
  have G_is_whole := ok_is_whole (P := P) (w := w) (base := base) T
  have G_is_prime := ok_is_prime (P := P) (w := w) (base := base) T
  obtain ⟨uG, hG, rG⟩ := T.mg_GREATEST_PRIME
  refine T.F_is_wheel.ok S (fun vs H Q E h => ?_) (fun cdv A outer s H vs Q E hr h => ?_)
  · obtain ⟨p, d, rfl, _⟩ := h
    rfl
  · obtain ⟨p, d, rfl, hp, k⟩ := h
    refine ⟨_, (@pss_cons _ _ _ _ _ (@ps_if _ _ _ _ _ _ _ _ (PW.pt (@pw_or _ _ _ _ _ _ _ (@pt_not _ _ _ _ (pt_val (pe_callB (call_isi (K := K)) rfl T.n_isinstance boot_isinstance (@pa_mor _ _ _ _ _ (by rfl) (pv 0) (@pa_mor _ _ _ _ _ (by rfl) (pe_bltn (v := .ty "tuple") rfl T.n_tuple boot_tuple rfl) pa_nil))))) (@pw_or _ _ _ _ _ _ _ (@pt_cmpR _ _ _ _ _ _ _ _ op_ne (pe_callB call_len_seq rfl T.n_len boot_len (@pa_mor _ _ _ _ _ (by rfl) (pv 0) pa_nil)) pe_int (nomark _)) (@pw_or1 _ _ _ _ (@pt_cmpR _ _ _ _ _ _ _ _ op_ne (@pe_ix _ _ _ _ _ _ _ ix_tup (pv 0) pe_int (fun _ _ => rfl)) pe_str (nomark _)))))) (@pss_one _ _ _ (@ps_ret _ _ _ _ pe_bl)) pss_nil)
      (@pss_one _ _ _ (@ps_ret _ _ _ _ (@pe_and _ _ _ _ _ _ _ (pe_call G_is_whole (hr.mono (by decide)) rfl T.mg_is_whole T.F_is_whole.kp T.b_is_whole .nil pass0 (@pa_mor _ _ _ _ _ (by rfl) (@pe_ix _ _ _ _ _ _ _ ix_tup (pv 0) pe_int (fun _ _ => rfl)) pa_nil)) (@pe_and _ _ _ _ _ _ _ (pe_chain op_le op_le pe_int (@pe_ix _ _ _ _ _ _ _ ix_tup (pv 0) pe_int (fun _ _ => rfl)) (pe_glob (v := .int 997) rfl hG rG)) (@pe_one _ _ _ _ _ (pe_call G_is_prime (hr.mono (by decide)) rfl T.mg_is_prime T.F_is_prime.kp T.b_is_prime .nil pass0 (@pa_mor _ _ _ _ _ (by rfl) (@pe_ix _ _ _ _ _ _ _ ix_tup (pv 0) pe_int (fun _ _ => rfl)) pa_nil)))))))), ?_⟩
    refine ⟨_, rfl, _, _, _, true, rfl, rfl, .of (.tup hp), kit_same, true, rfl, iteF ?_⟩
    cases d with
    | a x => exact ⟨_, rfl, p, _, rfl, .inr (.of hp), rfl, true, rfl, iteT (iteT k)⟩
    | b x n =>
      refine ⟨_, rfl, p, _, rfl, .inr (.of hp), rfl, false, rfl, iteF ?_⟩
      refine ⟨_, rfl, p, _, 0, .str x, rfl, rfl, .of hp, rfl, rfl, _, rfl, ite2 (fun hw => ?_) (fun hw => ?_)⟩
      · have hw : ¬ x = "wheel" := by
          rw [dV_str] at hw
          simpa using hw
        have e : (Td.b x n).isW = false := by simp [Td.isW, hw]
        rw [e] at k
        exact k
      · have hw : x = "wheel" := by
          rw [dV_str] at hw
          simpa using hw
        refine ⟨_, rfl, p, _, 1, .int n, rfl, rfl, .of hp, rfl, .int n, rfl, .int n, true, rfl, iteT ?_⟩
        refine ⟨_, rfl, p, _, 1, .int n, rfl, rfl, .of hp, rfl, _, _, rfl, rfl, _, rfl, ?_⟩
        refine ite2 (fun h2 => ?_) (fun h2 => ?_)
        · have h2 := of_decide_eq_true h2
          refine ⟨_, _, rfl, rfl, _, rfl, ite2 (fun h3 => ?_) (fun h3 => ?_)⟩
          · have h3 := of_decide_eq_true h3
            refine ⟨_, rfl, p, _, 1, .int n, rfl, rfl, .of hp, rfl, n, rfl, h2, h3, ?_⟩
            have e : (Td.b x n).isW = primeB n := by simp [Td.isW, hw, h2, h3]
            rw [e] at k
            exact k
          · have h3 : ¬ n ≤ 997 := fun z => h3 (decide_eq_true z)
            have e : (Td.b x n).isW = false := by simp [Td.isW, h3]
            rw [e] at k
            exact k
        · have h2 : ¬ 2 ≤ n := fun z => h2 (decide_eq_true z)
          have e : (Td.b x n).isW = false := by simp [Td.isW, h2]
          rw [e] at k
          exact ⟨false, rfl, iteF k⟩
theorem sc_init : FnScope ["self", "told"] ["self", "told"] (defScope s_World___init__) := ⟨rfl, rfl, rfl, by decide +kernel, rfl, by decide +kernel, by decide +kernel⟩
theorem ok_init (T : Txt K mg t) : FnOk P w K mg base (CXF P w) 3 t.f_World___init__ t.d_World___init__ ["self", "told"] (spInit t.C_World t.C_NoWorld) := by
  have S := sc_init
  have G_is_fractions := ok_is_fractions (P := P) (w := w) (base := base) T
  have G_is_wheel := ok_is_wheel (P := P) (w := w) (base := base) T
  refine T.F_World___init__.okX S (fun vs H Q E h => ?_) (fun cdv A outer s H vs Q E hr h L => ?_)
  · obtain ⟨x, dx, p, d, rfl, _⟩ := h
    rfl
  · obtain ⟨x, dx, p, d, rfl, hx, hp, k1, k2⟩ := h
    refine ⟨_, (@pss_one _ _ _ (@ps_if _ _ _ _ _ _ _ _ (pt_val (pe_call G_is_fractions (hr.mono (by decide)) rfl T.mg_is_fractions T.F_is_fractions.kp T.b_is_fractions .nil pass0 (@pa_mor _ _ _ _ _ (by rfl) (pv 1) pa_nil))) (@pss_one _ _ _ (@ps_fld _ _ _ _ _ _ _ _ (pv 0) pe_non rfl)) (@pss_one _ _ _ (@ps_if _ _ _ _ _ _ _ _ (pt_val (pe_call G_is_wheel (hr.mono (by decide)) rfl T.mg_is_wheel T.F_is_wheel.kp T.b_is_wheel .nil pass0 (@pa_mor _ _ _ _ _ (by rfl) (pv 1) pa_nil))) (@pss_one _ _ _ (@ps_fld _ _ _ _ _ _ _ _ (pv 0) (@pe_ix _ _ _ _ _ _ _ ix_tup (pv 1) pe_int (fun _ _ => rfl)) rfl)) (@pss_one _ _ _ (ps_raise L rfl PySem.F.excBase_ValueError T.x_NoWorld rfl T.mg_NoWorld (@pa_mor _ _ _ _ _ (by rfl) pe_str pa_nil))))))), ?_⟩
    refine ⟨_, rfl, p, d, rfl, hp, _, rfl, ite2 (fun hF => ?_) (fun hF => ?_)⟩
    · refine ⟨_, rfl, x, t.C_World, dx, [], rfl, hx, T.cl_World, T.na_World_prime, (by show 0 < 1000; decide), ?_⟩
      have e : d.prime = .non := by
        cases d with
        | a x => rfl
        | b x n => cases hF
      have k := k1 (by unfold Td.good; rw [hF]; rfl)
      rw [e] at k
      exact k
    · have hF : d.isF = false := by simpa using hF
      refine ⟨_, rfl, p, d, rfl, hp, _, rfl, ite2 (fun hW => ?_) (fun hW => ?_)⟩
      · have k := k1 (by unfold Td.good; rw [hW, Bool.or_true])
        cases d with
        | a x => cases hW
        | b y n =>
          exact ⟨_, rfl, p, _, 1, .int n, rfl, rfl, .of hp, rfl, _, rfl, x, t.C_World, dx, [], rfl, hx, T.cl_World, T.na_World_prime, (by show 0 < 1000; decide), k⟩
      · have hW : d.isW = false := by simpa using hW
        exact ⟨by show 1 ≤ sizeLine; decide, k2 (by unfold Td.good; rw [hF, hW]; rfl)⟩
theorem sc_ratio : FnScope ["top", "bottom", "shared"] ["top", "bottom"] (defScope s_ratio) := ⟨rfl, rfl, rfl, by decide +kernel, rfl, by decide +kernel, by decide +kernel⟩
theorem ok_ratio (T : Txt K mg t) : FnOk P w K mg base (CXF P w) 2 t.f_ratio t.d_ratio ["top", "bottom"] (spRatio t.C_NoOver) := by
  have S := sc_ratio
  have G_common_divisor := ok_common_divisor (P := P) (w := w) (base := base) T
  refine T.F_ratio.okX S (fun vs H Q E h => ?_) (fun cdv A outer s H vs Q E hr h L => ?_)
  · obtain ⟨a, b, rfl, _⟩ := h
    rfl
  · obtain ⟨a, b, rfl, mb, kE, k⟩ := h
    refine ⟨_, (@pss_cons _ _ _ _ _ (@ps_if _ _ _ _ _ _ _ _ (@pt_cmpR _ _ _ _ _ _ _ _ op_eq (pv 1) pe_int (nomark _)) (@pss_one _ _ _ (ps_raise L rfl PySem.F.excBase_ValueError T.x_NoOver rfl T.mg_NoOver (@pa_mor _ _ _ _ _ (by rfl) pe_str pa_nil))) pss_nil)
      (PSs.nox (@pss_cons _ _ _ _ _ (@ps_put _ _ 2 _ _ _ _ (by rfl) (by first | exact .inl rfl | exact .inr rfl | assumption) S.nd rfl (Or.inl rfl) (pe_call G_common_divisor (hr.mono (by decide)) rfl T.mg_common_divisor T.F_common_divisor.kp T.b_common_divisor .nil pass0 (@pa_mor _ _ _ _ _ (by rfl) (pv 0) (@pa_mor _ _ _ _ _ (by rfl) (pv 1) pa_nil))))
      (@pss_cons _ _ _ _ _ (@ps_if _ _ _ _ _ _ _ _ (@pt_cmpR _ _ _ _ _ _ _ _ op_lt (pv 1) pe_int (nomark _)) (@pss_one _ _ _ (@ps_put _ _ 2 _ _ _ _ (by rfl) (by first | exact .inl rfl | exact .inr rfl | assumption) S.nd rfl (Or.inl rfl) (@pe_un _ _ _ _ _ _ un_neg (pv 2)))) pss_nil)
      (@pss_one _ _ _ (@ps_ret _ _ _ _ (@pe_tup _ _ _ _ _ (@pa_mor _ _ _ _ _ (by rfl) (@pe_op _ _ _ _ _ _ _ _ op_fdivM (pv 0) (pv 2)) (@pa_mor _ _ _ _ _ (by rfl) (@pe_op _ _ _ _ _ _ _ _ op_fdivM (pv 1) (pv 2)) pa_nil))))))))), ?_⟩
    have n2 : 2 ≤ sizeLine := by decide
    refine ⟨_, rfl, rfl, _, rfl, ite2 (fun hz => ?_) (fun hz => ?_)⟩
    · have hz : b = 0 := V.int.inj (of_decide_eq_true hz)
      exact ⟨by show 1 ≤ sizeLine; decide, kE hz⟩
    have hz : b ≠ 0 := fun z => hz (decide_eq_true (by rw [z]))
    have ok := lowG_ok (a := a) hz mb
    have kk := k hz
    unfold lowU lowD at kk
    refine ⟨_, rfl, _, rfl, a, b, rfl, mb, _, rfl, _, _, rfl, rfl, _, rfl, ite2 (fun hn => ?_) (fun hn => ?_)⟩
    · have hn : b < 0 := of_decide_eq_true hn
      have e : lowG a b = -(Int.gcd a b : Int) := by unfold lowG; rw [if_pos hn, Int.zero_sub]
      rw [e] at ok kk
      refine ⟨_, rfl, _, rfl, _, rfl, _, rfl, _, _, rfl, rfl, ok, _, rfl, _, rfl, _, _, rfl, rfl, ok, n2, fun r hr => kk r _ (same_upd hr) upd_same⟩
    · have hn : ¬ b < 0 := fun z => hn (decide_eq_true z)
      have e : lowG a b = (Int.gcd a b : Int) := by unfold lowG; rw [if_neg hn]
      rw [e] at ok kk
      refine ⟨_, rfl, _, rfl, _, _, rfl, rfl, ok, _, rfl, _, rfl, _, _, rfl, rfl, ok, n2, fun r hr => kk r _ (same_upd hr) upd_same⟩
theorem sc_remainder_back : FnScope ["prime", "number", "last", "last_times", "now", "now_times", "fits", "left", "left_times"] ["prime", "number"] (defScope s_remainder_back) := ⟨rfl, rfl, rfl, by decide +kernel, rfl, by decide +kernel, by decide +kernel⟩
theorem ok_remainder_back (T : Txt K mg t) : FnOk P w K mg base (CXF P w) 1 t.f_remainder_back t.d_remainder_back ["prime", "number"] (spBack t.C_NoOver) := by
  have S := sc_remainder_back
  refine T.F_remainder_back.okX S (fun vs H Q E h => ?_) (fun cdv A outer s H vs Q E hr h L => ?_)
  · obtain ⟨q, b, rfl, _⟩ := h
    rfl
  · obtain ⟨q, b, rfl, q1, q2, q3, b0, b1, kE, k⟩ := h
    refine ⟨_, (@pss_cons _ _ _ _ _ (@ps_if _ _ _ _ _ _ _ _ (@pt_cmpR _ _ _ _ _ _ _ _ op_eq (pv 1) pe_int (nomark _)) (@pss_one _ _ _ (ps_raise L rfl PySem.F.excBase_ValueError T.x_NoOver rfl T.mg_NoOver (@pa_mor _ _ _ _ _ (by rfl) pe_str pa_nil))) pss_nil)
      (PSs.nox (@pss_cons _ _ _ _ _ (@ps_put _ _ 2 _ _ _ _ (by rfl) (by first | exact .inl rfl | exact .inr rfl | assumption) S.nd rfl (Or.inl rfl) (pv 0))
      (@pss_cons _ _ _ _ _ (@ps_put _ _ 3 _ _ _ _ (by rfl) (by first | exact .inl rfl | exact .inr rfl | assumption) S.nd rfl (Or.inl rfl) pe_int)
      (@pss_cons _ _ _ _ _ (@ps_put _ _ 4 _ _ _ _ (by rfl) (by first | exact .inl rfl | exact .inr rfl | assumption) S.nd rfl (Or.inl rfl) (pv 1))
      (@pss_cons _ _ _ _ _ (@ps_put _ _ 5 _ _ _ _ (by rfl) (by first | exact .inl rfl | exact .inr rfl | assumption) S.nd rfl (Or.inl rfl) pe_int)
      (@pss_cons _ _ _ _ _ (@ps_while _ _ _ _ _ _ PassesOwn.never (@pt_cmpR _ _ _ _ _ _ _ _ op_gt (pv 4) pe_int (nomark _)) (@pss_cons _ _ _ _ _ (@ps_put _ _ 6 _ _ _ _ (by rfl) (by first | exact .inl rfl | exact .inr rfl | assumption) S.nd rfl (Or.inl rfl) (@pe_op _ _ _ _ _ _ _ _ op_fdiv (pv 2) (pv 4)))
      (@pss_cons _ _ _ _ _ (@ps_put _ _ 7 _ _ _ _ (by rfl) (by first | exact .inl rfl | exact .inr rfl | assumption) S.nd rfl (Or.inl rfl) (@pe_op _ _ _ _ _ _ _ _ op_sub (pv 2) (@pe_op _ _ _ _ _ _ _ _ op_mul (pv 6) (pv 4))))
      (@pss_cons _ _ _ _ _ (@ps_put _ _ 8 _ _ _ _ (by rfl) (by first | exact .inl rfl | exact .inr rfl | assumption) S.nd rfl (Or.inl rfl) (@pe_op _ _ _ _ _ _ _ _ op_sub (pv 3) (@pe_op _ _ _ _ _ _ _ _ op_mul (pv 6) (pv 5))))
      (@pss_cons _ _ _ _ _ (@ps_put _ _ 2 _ _ _ _ (by rfl) (by first | exact .inl rfl | exact .inr rfl | assumption) S.nd rfl (Or.inl rfl) (pv 4))
      (@pss_cons _ _ _ _ _ (@ps_put _ _ 3 _ _ _ _ (by rfl) (by first | exact .inl rfl | exact .inr rfl | assumption) S.nd rfl (Or.inl rfl) (pv 5))
      (@pss_cons _ _ _ _ _ (@ps_put _ _ 4 _ _ _ _ (by rfl) (by first | exact .inl rfl | exact .inr rfl | assumption) S.nd rfl (Or.inl rfl) (pv 7))
      (@pss_one _ _ _ (@ps_put _ _ 5 _ _ _ _ (by rfl) (by first | exact .inl rfl | exact .inr rfl | assumption) S.nd rfl (Or.inl rfl) (pv 8))))))))))
      (@pss_one _ _ _ (@ps_ret _ _ _ _ (@pe_op _ _ _ _ _ _ _ _ op_mod (pv 5) (pv 0))))))))))), ?_⟩
    refine ⟨_, rfl, rfl, _, rfl, ite2 (fun hz => ?_) (fun hz => ?_)⟩
    · have hz : b = 0 := V.int.inj (of_decide_eq_true hz)
      exact ⟨by show 1 ≤ sizeLine; decide, kE hz⟩
    have hz : b ≠ 0 := fun z => hz (decide_eq_true (by rw [z]))
    refine ⟨_, rfl, _, rfl, fun m σ H' => H' = H ∧ ∃ (l lt n nt : Int) (v1 v2 v3 : Option V), σ = [some (.int q), some (.int b), some (.int l), some (.int lt), some (.int n), some (.int nt), v1, v2, v3] ∧ m = n.toNat ∧ Bond q b l lt n nt ∧ l ≤ 997,
      ⟨b.toNat, rfl, q, 0, b, 1, none, none, none, rfl, rfl, Bond.start q1 q2 q3 (by omega) b1, q2⟩, ?_⟩
    rintro m σ H' ⟨rfl, l, lt, n, nt, v1, v2, v3, rfl, em, hb, hl⟩
    have p1 := hb.pos
    have p2 := hb.less
    refine ⟨_, rfl, _, _, rfl, rfl, _, rfl, ite2 (fun hy => ?_) (fun hy => ?_)⟩
    · have hy : 1 < n := of_decide_eq_true hy
      have hs := hb.step hy
      have f0 : 0 ≤ l / n := Int.ediv_nonneg (by omega) (by omega)
      have f1 : l / n ≤ l := Int.ediv_le_self _ (by omega)
      refine ⟨fun σ' H2 => H2 = H' ∧ σ' = [some (.int q), some (.int b), some (.int n), some (.int nt), some (.int (l - l / n * n)), some (.int (lt - l / n * nt)), some (.int (l / n)), some (.int (l - l / n * n)), some (.int (lt - l / n * nt))], ?_, ?_⟩
      · rintro σ' H2 ⟨rfl, rfl⟩
        exact ⟨(l - l / n * n).toNat, by rw [em]; omega, rfl, _, _, _, _, _, _, _, rfl, rfl, hs.1, by omega⟩
      · exact ⟨_, rfl, _, rfl, _, _, rfl, rfl, ⟨by omega, by omega⟩, _, rfl, _, rfl, _, rfl, _, _, rfl, rfl, .inr ⟨by omega, by omega⟩, _, _, rfl, rfl,
          _, rfl, _, rfl, _, rfl, _, _, rfl, rfl, .inl ⟨by omega, by omega⟩, _, _, rfl, rfl, _, rfl, _, rfl, _, rfl, _, rfl, rfl, rfl⟩
    · have hy : ¬ 1 < n := fun z => hy (decide_eq_true z)
      have n1 : n = 1 := by omega
      subst n1
      exact ⟨_, rfl, _, rfl, _, _, rfl, rfl, (show (0 : Int) < q by omega), k hz _ (Int.emod_nonneg _ (by omega)) (Int.emod_lt_of_pos _ (by omega)) (hb.done q1)⟩
theorem sc_remainder_over : FnScope ["prime", "a", "b"] ["prime", "a", "b"] (defScope s_remainder_over) := ⟨rfl, rfl, rfl, by decide +kernel, rfl, by decide +kernel, by decide +kernel⟩
theorem ok_remainder_over (T : Txt K mg t) : FnOk P w K mg base (CXF P w) 2 t.f_remainder_over t.d_remainder_over ["prime", "a", "b"] (spRemOver t.C_NoOver) := by
  have S := sc_remainder_over
  have G_remainder_back := ok_remainder_back (P := P) (w := w) (base := base) T
  refine T.F_remainder_over.okX S (fun vs H Q E h => ?_) (fun cdv A outer s H vs Q E hr h L => ?_)
  · obtain ⟨q, i, j, rfl, _⟩ := h
    rfl
  · obtain ⟨q, i, j, rfl, q1, q2, q3, i0, i1, j0, j1, kE, k⟩ := h
    refine ⟨_, (@pss_one _ _ _ (@ps_ret _ _ _ _ (@pe_op _ _ _ _ _ _ _ _ op_mod (@pe_op _ _ _ _ _ _ _ _ op_mul (pv 1) (pe_call G_remainder_back (hr.mono (by decide)) rfl T.mg_remainder_back T.F_remainder_back.kp T.b_remainder_back .nil (passF L) (@pa_mor _ _ _ _ _ (by rfl) (pv 0) (@pa_mor _ _ _ _ _ (by rfl) (pv 2) pa_nil)))) (pv 0)))), ?_⟩
    exact ⟨_, rfl, _, rfl, _, rfl, q, j, rfl, q1, q2, q3, j0, j1, kE, fun hj r r0 r1 hr' => ⟨_, _, rfl, rfl, .inl ⟨by omega, by omega⟩, _, rfl, _, _, rfl, rfl, (show (0 : Int) < q by omega),
      k hj _ (Int.emod_nonneg _ (by omega)) (Int.emod_lt_of_pos _ (by omega)) (rem_over q1 i0 i1 hr')⟩⟩
theorem sc_of : FnScope ["self", "top", "bottom"] ["self", "top", "bottom"] (defScope s_World_of) := ⟨rfl, rfl, rfl, by decide +kernel, rfl, by decide +kernel, by decide +kernel⟩
theorem ok_of (T : Txt K mg t) : FnOk P w K mg base (CXF P w) 3 t.f_World_of t.d_World_of ["self", "top", "bottom"] (spOf t.C_World t.C_NoOver) := by
  have S := sc_of
  have G_ratio := ok_ratio (P := P) (w := w) (base := base) T
  have G_remainder_over := ok_remainder_over (P := P) (w := w) (base := base) T
  refine T.F_World_of.okX S (fun vs H Q E h => ?_) (fun cdv A outer s H vs Q E hr h L => ?_)
  · obtain ⟨z, q, a, b, rfl, _⟩ := h
    rfl
  · obtain ⟨z, q, a, b, rfl, ⟨dx, hx⟩, hq, mb, kE, k⟩ := h
    refine ⟨_, (@pss_cons _ _ _ _ _ (@ps_if _ _ _ _ _ _ _ _ (@pt_cmpR _ _ _ _ _ _ _ _ op_isN (@pe_fld _ _ _ _ _ (pv 0) rfl) pe_non (nomark _)) (@pss_one _ _ _ (@ps_ret _ _ _ _ (pe_call G_ratio (hr.mono (by decide)) rfl T.mg_ratio T.F_ratio.kp T.b_ratio .nil (passF L) (@pa_mor _ _ _ _ _ (by rfl) (pv 1) (@pa_mor _ _ _ _ _ (by rfl) (pv 2) pa_nil))))) pss_nil)
      (@pss_one _ _ _ (@ps_ret _ _ _ _ (pe_call G_remainder_over (hr.mono (by decide)) rfl T.mg_remainder_over T.F_remainder_over.kp T.b_remainder_over .nil (passF L) (@pa_mor _ _ _ _ _ (by rfl) (@pe_fld _ _ _ _ _ (pv 0) rfl) (@pa_mor _ _ _ _ _ (by rfl) (@pe_op _ _ _ _ _ _ _ _ op_mod (pv 1) (@pe_fld _ _ _ _ _ (pv 0) rfl)) (@pa_mor _ _ _ _ _ (by rfl) (@pe_op _ _ _ _ _ _ _ _ op_mod (pv 2) (@pe_fld _ _ _ _ _ (pv 0) rfl)) pa_nil))))))), ?_⟩
    refine ⟨_, rfl, z, t.C_World, dx, _, _, rfl, hx, T.cl_World, T.na_World_prime, lk_prime _, rfl, _, rfl, ?_⟩
    rcases hq with rfl | ⟨q2, q3, q4⟩
    · rw [if_pos rfl]
      refine iteT ⟨_, rfl, _, rfl, a, b, rfl, mb, fun hb => kE (by unfold NoOv; rw [if_pos rfl]; exact hb), fun hb r H' s' er => k (fun hn => hb (by unfold NoOv at hn; rw [if_pos rfl] at hn; exact hn)) _ H' s' (.inl ⟨rfl, r, rfl, er⟩)⟩
    · have hq : q ≠ 0 := by omega
      rw [if_neg hq] at hx ⊢
      have p0 : (0 : Int) < q := by omega
      refine iteF ⟨_, rfl, z, t.C_World, dx, _, _, rfl, hx, T.cl_World, T.na_World_prime, lk_prime _, _, rfl, _, rfl, z, t.C_World, dx, _, _, rfl, hx, T.cl_World, T.na_World_prime, lk_prime _, _, _, rfl, rfl, p0, _, rfl, _, rfl, z, t.C_World, dx, _, _, rfl, hx, T.cl_World, T.na_World_prime, lk_prime _, _, _, rfl, rfl, p0, ?_⟩
      have nv : NoOv q b ↔ b % q = 0 := by unfold NoOv; rw [if_neg hq]
      exact ⟨q, a % q, b % q, rfl, q2, q3, q4, Int.emod_nonneg _ hq, Int.emod_lt_of_pos _ p0, Int.emod_nonneg _ hq, Int.emod_lt_of_pos _ p0, fun hj => kE (nv.mpr hj), fun hj r r0 r1 hr' => k (fun z => hj (nv.mp z)) _ H (Same.refl H) (.inr ⟨q2, r, rfl, r0, r1, hr'⟩)⟩
theorem sc_one_bottom : FnScope ["row", "bottom", "number"] ["row"] (defScope s_one_bottom) := ⟨rfl, rfl, rfl, by decide +kernel, rfl, by decide +kernel, by decide +kernel⟩
theorem ok_one_bottom (T : Txt K mg t) : FnOk P w K mg base CX0 2 t.f_one_bottom t.d_one_bottom ["row"] spWh2 := by
  have S := sc_one_bottom
  have G_common_divisor := ok_common_divisor (P := P) (w := w) (base := base) T
  refine T.F_one_bottom.ok S (fun vs H Q E h => ?_) (fun cdv A outer s H vs Q E hr h => ?_)
  · obtain ⟨a, ps, B, D, rfl, _⟩ := h
    rfl
  · obtain ⟨a, ps, B, D, rfl, ⟨vs, ea, hl, hn⟩, h100, okD, hD, hB, bD, k⟩ := h
    refine ⟨_, (@pss_cons _ _ _ _ _ (@ps_put _ _ 1 _ _ _ _ (by rfl) (by first | exact .inl rfl | exact .inr rfl | assumption) S.nd rfl (Or.inr rfl) pe_int)
      (@pss_cons _ _ _ _ _ (ps_for PassesOwn.never rfl (pi_list (pv 0)) (pg_name (i := 2) S.nd rfl (Or.inl rfl))
        (@pss_one _ _ _ (@ps_put _ _ 1 _ _ _ _ (by rfl) (by first | exact .inl rfl | exact .inr rfl | assumption) S.nd rfl (Or.inr rfl) (@pe_op _ _ _ _ _ _ _ _ op_mulM (@pe_op _ _ _ _ _ _ _ _ op_fdivP (pv 1) (pe_call G_common_divisor (hr.mono (by decide)) rfl T.mg_common_divisor T.F_common_divisor.kp T.b_common_divisor .nil pass0 (@pa_mor _ _ _ _ _ (by rfl) (pv 1) (@pa_mor _ _ _ _ _ (by rfl) (@pe_ix _ _ _ _ _ _ _ ix_tup (pv 2) pe_int (fun _ _ => rfl)) pa_nil)))) (@pe_ix _ _ _ _ _ _ _ ix_tup (pv 2) pe_int (fun _ _ => rfl))))))
      (@pss_one _ _ _ (@ps_ret _ _ _ _ (@pe_tup _ _ _ _ _ (@pa_mor _ _ _ _ _ (by rfl) (pe_comp (N := ["number", "bottom"]) (ρ := (fun σ => [σ[1]?.join])) ⟨rfl, rfl, by decide +kernel, by decide +kernel, (List.forall_mem_cons.mpr ⟨rfl, (List.forall_mem_nil _)⟩), has_of (by rfl), rfl, by decide +kernel, rfl, (fun σ j v h => match j, h with | 0, h => ⟨1, _, rfl, rfl, join_some h, Or.inr (Or.inl rfl), .inl rfl, .inl rfl⟩ | j + 1, h => by cases h), (fun _ _ => rfl)⟩ rfl (pi_list (pv 0)) (fun s₃ H₃ fp => .nil) (fun s₃ H₃ fp => (@pe_op _ _ _ _ _ _ _ _ op_mulM (@pe_ix _ _ _ _ _ _ _ (ix_tupK (K := K)) (pv 0) pe_int (fun _ _ => rfl)) (@pe_op _ _ _ _ _ _ _ _ op_fdivP (pv 1) (@pe_ix _ _ _ _ _ _ _ (ix_tupK (K := K)) (pv 0) pe_int (fun _ _ => rfl)))))) (@pa_mor _ _ _ _ _ (by rfl) (pv 1) pa_nil))))))), ?_⟩
    have D1 := okD.1 rfl
    have parts : ∀ (i : Nat) (v : V), vs[i]? = some v → ∃ (r : Addr) (x m : Int), v = .ref r ∧ H r = some (.tup [.int x, .int m]) ∧ ps[i]? = some (x, m) ∧ Low x m ∧ x.natAbs ≤ B ∧ m ∣ D := fun i v e => by
      have hi : i < ps.length := by rw [← hl]; exact (List.getElem?_eq_some_iff.mp e).1
      have ep : ps[i]? = some ps[i] := by simp [hi]
      have h1 := hn i v ps[i] e ep
      have h2 := hD _ (List.getElem_mem hi)
      generalize ps[i] = p at h1 ep h2
      obtain ⟨x, m⟩ := p
      cases h1 with
      | frac er l bx bm => exact ⟨_, x, m, rfl, er, ep, l, bx, h2⟩
      | rem h0 h1 h2 => omega
    have midV : ∀ {y : Int}, y ∣ D → Mid y := fun h => Mid.of150 (Nat.le_trans (dvd_bd h (by omega)) bD)
    refine ⟨_, rfl, a, rfl, ⟨_, .of ea⟩, ?_⟩
    refine for_list (K := K) (a := a) (xs := vs) (fun i σ Hc => Hc = H ∧ ∃ (b : Int) (v2 : Option V), σ = [some (.ref a), some (.int b), v2] ∧ 1 ≤ b ∧ b ∣ D ∧ ∀ (j : Nat) (p : Int × Int), j < i → ps[j]? = some p → p.2 ∣ b)
      ⟨rfl, 1, none, rfl, by decide, Int.one_dvd D, fun j p hj => by omega⟩ (fun i σ Hc _ ⟨z, _⟩ => by rw [z]; exact .of ea) ?_ ?_
    · rintro i v σ Hc hi ⟨rfl, b, v2, rfl, b1, bb, hd⟩
      obtain ⟨r, x, m, rfl, er, ep, l, bx, bm⟩ := parts i v hi
      have m1 := l.pos
      obtain ⟨s1, s2, s3, s4⟩ := lcm_step b1 m1
      have gp := gcd_pos (a := b) (b := m) (by omega)
      have gm : Mid (Int.gcd b m : Int) := midV (Int.dvd_trans (Int.gcd_dvd_right ..) bm)
      refine ⟨_, rfl, _, rfl, _, rfl, r, _, _, _, rfl, rfl, .of er, rfl, b, m, rfl, midV bm, _, _, rfl, rfl, ⟨by omega, gm⟩, _, rfl, r, _, _, _, rfl, rfl, .of er, rfl, _, _, rfl, rfl, ⟨?_, midV bm⟩, ?_⟩
      · exact Nat.lt_of_le_of_lt (Int.natAbs_ediv_le_natAbs ..) (midV bb)
      · refine ⟨rfl, _, _, rfl, s1, lcm_dvd b1 m1 bb bm, fun j p hj hp => ?_⟩
        by_cases z : j = i
        · subst z
          rw [ep] at hp
          cases hp
          exact s2
        · exact Int.dvd_trans (hd j p (by omega) hp) s3
    · rintro σ Hc ⟨rfl, b, v2, rfl, b1, bb, hd⟩
      rw [hl] at hd
      have mb : Mid b := midV bb
      dsimp only
      refine ret_of (tup1_of (comp_ofN (xs := vs) (fun R h => ⟨_, rfl, a, rfl, ⟨_, .of ea⟩, h _ _ (Same.refl _) (jseq_list (.of ea))⟩) (by rw [hl]; exact small1000 (by omega)) (fun _ i y _ => ∃ (p : Int × Int), ps[i]? = some p ∧ y = .int (p.1 * (b / p.2))) (fun _ _ _ _ _ _ h _ _ => h) ?_ ?_))
      · intro D' i v hi Hd R sd _ kd
        obtain ⟨r, x, m, rfl, er, ep, l, bx, bm⟩ := parts i v hi
        have m1 := l.pos
        have hbm : Mid (b / m) := Nat.lt_of_le_of_lt (Int.natAbs_ediv_le_natAbs ..) mb
        exact ⟨_, rfl, r, _, _, _, rfl, rfl, .of (sd _ _ er), rfl, _, rfl, _, rfl, r, _, _, _, rfl, rfl, .of (sd _ _ er), rfl, _, _, rfl, rfl, ⟨by omega, midV bm⟩, _, _, rfl, rfl, ⟨Mid.of150 (Nat.le_trans bx hB), hbm⟩, kd _ Hd (Same.refl _) ⟨(x, m), ep, rfl⟩⟩
      · intro D' ys Hd nD sd hys hP eD
        have ey : ys = (ps.map fun p => p.1 * (b / p.2)).map V.int := vals_of (by rw [hys, hl, List.length_map]) fun i v e => by
          obtain ⟨p, e1, e2⟩ := hP i v e
          exact ⟨p.1 * (b / p.2), by rw [List.getElem?_map, e1]; rfl, e2⟩
        refine ⟨_, rfl, by show 2 ≤ sizeLine; decide, fun r hr' => ?_⟩
        refine k _ _ (ps.map fun p => p.1 * (b / p.2)) b (sd.trans (same_upd hr')) ⟨r, D', rfl, upd_same, same_upd hr' _ _ (by rw [eD, ey]), nD⟩ ⟨by rw [List.length_map], ⟨fun _ => b1, fun z => absurd rfl z⟩, bb, fun i hi => ?_⟩
        have hi2 : i < vs.length := by omega
        have e1 : (ps.map fun p => p.1 * (b / p.2)).getD i 0 = ps[i].1 * (b / ps[i].2) := by rw [getD_at (by rw [List.length_map]; exact hi), List.getElem_map]
        rw [e1, getD_at hi]
        obtain ⟨r', x, m, _, _, ep, l, bx, bm⟩ := parts i vs[i] (by simp [hi2])
        have ep2 : ps[i] = (x, m) := by
          rw [show ps[i]? = some ps[i] by simp [hi]] at ep
          exact Option.some.inj ep
        rw [ep2]
        dsimp only
        have m1 := l.pos
        obtain ⟨c, ec⟩ := hd i (x, m) hi (by rw [← ep2]; simp [hi])
        dsimp only at ec
        have eq : b / m = c := by rw [ec]; exact Int.mul_ediv_cancel_left _ (by omega)
        refine ⟨by rw [eq, ec]; grind, ?_⟩
        rw [Int.natAbs_mul]
        exact Nat.mul_le_mul bx (Nat.le_trans (Int.natAbs_ediv_le_natAbs ..) (dvd_bd bb (by omega)))
theorem sc_as_wholes : FnScope ["self", "row"] ["self", "row"] (defScope s_World_as_wholes) := ⟨rfl, rfl, rfl, by decide +kernel, rfl, by decide +kernel, by decide +kernel⟩
theorem ok_as_wholes (T : Txt K mg t) : FnOk P w K mg base CX0 3 t.f_World_as_wholes t.d_World_as_wholes ["self", "row"] (spAsW2 t.C_World) := by
  have S := sc_as_wholes
  have G_one_bottom := ok_one_bottom (P := P) (w := w) (base := base) T
  refine T.F_World_as_wholes.ok S (fun vs H Q E h => ?_) (fun cdv A outer s H vs Q E hr h => ?_)
  · obtain ⟨z, a, q, ps, B, D, rfl, _⟩ := h
    rfl
  · obtain ⟨z, a, q, ps, B, D, rfl, ⟨dx, hx⟩, hq, hrow, h100, okD, hD, hB, b1, bD, k⟩ := h
    refine ⟨_, (@pss_cons _ _ _ _ _ (@ps_if _ _ _ _ _ _ _ _ (@pt_cmpR _ _ _ _ _ _ _ _ op_isN (@pe_fld _ _ _ _ _ (pv 0) rfl) pe_non (nomark _)) (@pss_one _ _ _ (@ps_ret _ _ _ _ (pe_call G_one_bottom (hr.mono (by decide)) rfl T.mg_one_bottom T.F_one_bottom.kp T.b_one_bottom .nil pass0 (@pa_mor _ _ _ _ _ (by rfl) (pv 1) pa_nil)))) pss_nil)
      (@pss_one _ _ _ (@ps_ret _ _ _ _ (@pe_tup _ _ _ _ _ (@pa_mor _ _ _ _ _ (by rfl) (pe_callTy call_list_of rfl T.n_list boot_list (@pa_mor _ _ _ _ _ (by rfl) (pv 1) pa_nil)) (@pa_mor _ _ _ _ _ (by rfl) pe_int pa_nil)))))), ?_⟩
    refine ⟨_, rfl, z, t.C_World, dx, _, _, rfl, hx, T.cl_World, T.na_World_prime, lk_prime _, rfl, _, rfl, ?_⟩
    rcases hq with rfl | ⟨q2, q3, q4⟩
    · rw [if_pos rfl]
      exact iteT ⟨_, rfl, a, ps, B, D, rfl, hrow, h100, okD, hD, hB, bD, k⟩
    · have hq : q ≠ 0 := by omega
      rw [if_neg hq] at hx ⊢
      obtain ⟨vs, ea, hl, hn⟩ := hrow
      have parts : ∀ (i : Nat) (v : V), vs[i]? = some v → ∃ x : Int, v = .int x ∧ ps[i]? = some (x, 1) ∧ 0 ≤ x ∧ x < q := fun i v e => by
        have hi : i < ps.length := by rw [← hl]; exact (List.getElem?_eq_some_iff.mp e).1
        have ep : ps[i]? = some ps[i] := by simp [hi]
        have h1 := hn i v ps[i] e ep
        generalize ps[i] = p at h1 ep
        obtain ⟨x, m⟩ := p
        cases h1 with
        | frac er l bx bm => exact absurd rfl hq
        | rem h0 h1 h2 => exact ⟨x, rfl, ep, h0, h1⟩
      have ey : vs = (ps.map fun p => p.1).map V.int := vals_of (by rw [hl, List.length_map]) fun i v e => by
        obtain ⟨x, e1, e2, _⟩ := parts i v e
        exact ⟨x, by rw [List.getElem?_map, e2]; rfl, e1⟩
      have eD := okD.2 hq
      refine iteF ⟨_, rfl, a, vs, rfl, .inl (.of ea), fun l nl => ⟨by show 2 ≤ sizeLine; decide, fun r hr' => ?_⟩⟩
      refine k _ _ (ps.map fun p => p.1) 1 ((same_upd nl).trans (same_upd hr')) ⟨r, l, rfl, upd_same, same_upd hr' _ _ (by rw [upd_same, ey]), nl⟩ ⟨by rw [List.length_map], BotOk.one, Int.one_dvd D, fun i hi => ?_⟩
      have hi2 : i < vs.length := by omega
      rw [getD_at (by rw [List.length_map]; exact hi), List.getElem_map, getD_at hi]
      obtain ⟨x, _, ep, x0, x1⟩ := parts i vs[i] (by simp [hi2])
      have ep2 : ps[i] = (x, 1) := by
        rw [show ps[i]? = some ps[i] by simp [hi]] at ep
        exact Option.some.inj ep
      rw [ep2]
      refine ⟨rfl, ?_⟩
      rw [eD]
      show x.natAbs ≤ B * 1
      omega
theorem sc_trimmed : FnScope ["world", "row", "many"] ["world", "row"] (defScope s_trimmed) := ⟨rfl, rfl, rfl, by decide +kernel, rfl, by decide +kernel, by decide +kernel⟩
theorem ok_trimmed (T : Txt K mg t) : FnOk P w K mg base CX0 4 t.f_trimmed t.d_trimmed ["world", "row"] (spTrim t.C_World) := by
  have S := sc_trimmed
  have G_World_of := ok_of (P := P) (w := w) (base := base) T
  obtain ⟨dv, hd1, hb1⟩ := T.b1_World_of
  refine T.F_trimmed.ok S (fun vs H Q E h => ?_) (fun cdv A outer s H vs Q E hr h => ?_)
  · obtain ⟨z, a, q, ps, B, rfl, _⟩ := h
    rfl
  · obtain ⟨z, a, q, ps, B, rfl, hz, hq, hR, h1000, k⟩ := h
    have hu := hr.units0
    refine ⟨_, (@pss_cons _ _ _ _ _ (@ps_put _ _ 2 _ _ _ _ (by rfl) (by first | exact .inl rfl | exact .inr rfl | assumption) S.nd rfl (Or.inl rfl) (pe_callB call_len_seq rfl T.n_len boot_len (@pa_mor _ _ _ _ _ (by rfl) (pv 1) pa_nil)))
      (@pss_cons _ _ _ _ _ (@ps_while _ _ _ _ _ _ PassesOwn.never (PW.pt (pw_and (@pt_cmpR _ _ _ _ _ _ _ _ op_gt (pv 2) pe_int (nomark _)) (pw_and1 (@pt_cmpR _ _ _ _ _ _ _ _ (op_eqM hu) (@pe_ix _ _ _ _ _ _ _ ix_list (pv 1) (@pe_op _ _ _ _ _ _ _ _ op_sub (pv 2) pe_int) (fun _ _ => rfl)) (pe_meth (pv 0) T.cl_World T.m_World_of G_World_of (hr.mono (by decide)) hb1 hd1 passN (@pa_mor _ _ _ _ _ (by rfl) pe_int pa_nil)) (nomark _))))) (@pss_one _ _ _ (ps_aug (i := 2) S.nd rfl (Or.inl rfl) pe_int ip_sub)))
      (@pss_one _ _ _ (@ps_ret _ _ _ _ (@pe_slice _ _ _ _ _ _ _ _ _ _ sl_list (pv 1) po_none (po_some (pv 2))))))), ?_⟩
    obtain ⟨vs, ea, hl, hn⟩ := id hR
    refine ⟨_, rfl, a, vs, rfl, .inl (.of ea), ?_⟩
    refine ⟨fun c σ Hc => Same H Hc ∧ c ≤ ps.length ∧ cutTo ps c = cutTo ps ps.length ∧ σ = [some (.ref z), some (.ref a), some (.int (c : Int))], ⟨ps.length, Same.refl H, Nat.le_refl _, rfl, by rw [← hl]; rfl⟩, ?_⟩
    rintro c σ Hc ⟨sc, hc, hcut, rfl⟩
    refine ⟨_, rfl, _, _, rfl, rfl, _, rfl, ite2 (fun h0 => ?_) (fun h0 => ?_)⟩
    · have h0 : (0 : Int) < (c : Int) := of_decide_eq_true h0
      obtain ⟨d, rfl⟩ : ∃ d, c = d + 1 := ⟨c - 1, by omega⟩
      have hd : d < vs.length := by omega
      have hd' : d < ps.length := by omega
      refine ⟨_, rfl, _, rfl, _, _, rfl, rfl, a, vs, _, vs[d], rfl, rfl, .of (sc _ _ ea), (by show atI vs (((d + 1 : Nat) : Int) - 1) = _; rw [show ((d + 1 : Nat) : Int) - 1 = (d : Int) by omega]; exact atI_nat (by simp [hd])), ?_⟩
      have hv := hn d vs[d] ps[d] (by simp [hd]) (by simp [hd'])
      obtain ⟨dz, hdz⟩ := hz.mono sc
      have nv := one_noOv hq
      refine ⟨_, rfl, z, dz, _, rfl, hdz, lk_no (by decide +kernel), z, q, 0, 1, rfl, ⟨dz, hdz⟩, hq, Mid.of_lt (by decide) (by decide), fun h => absurd h nv, fun _ v0 H1 s1 ho => ?_⟩
      have h0' := of_small (B := 1000) (by decide) ho hq (.inl rfl)
      have gd : ps.getD d o1 = ps[d] := getD_at hd'
      refine eqM_zero (hv.mono (sc.trans s1)) h0' ⟨_, rfl, ite2 (fun hz0 => ?_) (fun hz0 => ?_)⟩
      · have hz0 : ps[d].1 = 0 := of_decide_eq_true hz0
        refine ⟨fun σ' H2 => Same H H2 ∧ σ' = [some (.ref z), some (.ref a), some (.int (d : Int))], ?_, ?_⟩
        · rintro σ' H2 ⟨s2, rfl⟩
          refine ⟨d, by omega, s2, by omega, ?_, rfl⟩
          rw [← hcut]
          show _ = if (ps.getD d o1).1 = 0 then cutTo ps d else d + 1
          rw [gd, if_pos hz0]
        · exact ⟨_, rfl, _, _, rfl, rfl, sc.trans s1, by show List.set _ 2 (some (V.int (((d + 1 : Nat) : Int) - 1))) = _; rw [show ((d + 1 : Nat) : Int) - 1 = (d : Int) by omega]; rfl⟩
      · have hz0 : ¬ ps[d].1 = 0 := fun e => hz0 (decide_eq_true e)
        have e : cutTo ps ps.length = d + 1 := by
          rw [← hcut]
          show (if (ps.getD d o1).1 = 0 then cutTo ps d else d + 1) = _
          rw [gd, if_neg hz0]
        refine ⟨_, rfl, _, rfl, _, rfl, a, vs, rfl, .of ((sc.trans s1) _ _ ea), fun r nr => ?_⟩
        rw [cutV_take vs (d + 1) (by omega)]
        have sr := (sc.trans s1).trans (same_upd (o := .lst (vs.take (d + 1))) nr)
        refine k r _ sr (none_of (sc.trans s1) nr) ?_
        unfold cutP
        rw [e]
        exact RowG.take upd_same hl fun i v p h1 h2 => (hn i v p h1 h2).mono sr
    · have h0 : ¬ (0 : Int) < (c : Int) := fun z => h0 (decide_eq_true z)
      have c0 : c = 0 := by omega
      subst c0
      refine ⟨_, rfl, _, rfl, _, rfl, a, vs, rfl, .of (sc _ _ ea), fun r nr => ?_⟩
      rw [cutV_take vs 0 (by omega)]
      have sr := sc.trans (same_upd (o := .lst (vs.take 0)) nr)
      refine k r _ sr (none_of sc nr) ?_
      unfold cutP
      rw [← hcut]
      exact RowG.take upd_same hl fun i v p h1 h2 => (hn i v p h1 h2).mono sr
def spEven (C : Addr) : Sp := fun vs H Q _ => ∃ (z a : Addr) (q : Int) (ts : List Int), vs = [.ref z, .ref a, .int 1] ∧ WorldAt C H z q ∧ WheelN q ∧ H a = some (.lst (ts.map V.int)) ∧ ts.length ≤ 500 ∧ (∀ t ∈ ts, Mid t) ∧ ∀ (c : Addr) (H' : Hp), Same H H' → H c = none → H' c = some (.lst ((ts.map fun x => x % q).map V.int)) → Q (.ref c) H'
theorem sc_evenly : FnScope ["self", "row", "by", "back"] ["self", "row", "by"] (defScope s_World_evenly) := ⟨rfl, rfl, rfl, by decide +kernel, rfl, by decide +kernel, by decide +kernel⟩
theorem ok_evenly (T : Txt K mg t) : FnOk P w K mg base CX0 4 t.f_World_evenly t.d_World_evenly ["self", "row", "by"] (spEven t.C_World) := by
  have S := sc_evenly
  have G_World_of := ok_of (P := P) (w := w) (base := base) T
  refine T.F_World_evenly.ok S (fun vs H Q E h => ?_) (fun cdv A outer s H vs Q E hr h => ?_)
  · obtain ⟨z, a, q, ts, rfl, _⟩ := h
    rfl
  · obtain ⟨z, a, q, ts, rfl, ⟨dx, hx⟩, hq, ea, l500, hm, k⟩ := h
    refine ⟨_, (@pss_cons _ _ _ _ _ (@ps_if _ _ _ _ _ _ _ _ (@pt_cmpR _ _ _ _ _ _ _ _ op_isN (@pe_fld _ _ _ _ _ (pv 0) rfl) pe_non (nomark _)) (@pss_one _ _ _ (@ps_ret _ _ _ _ (pe_comp (N := ["number", "by"]) (ρ := (fun σ => [σ[2]?.join])) ⟨rfl, rfl, by decide +kernel, by decide +kernel, (List.forall_mem_cons.mpr ⟨rfl, (List.forall_mem_nil _)⟩), has_of (by rfl), rfl, by decide +kernel, rfl, (fun σ j v h => match j, h with | 0, h => ⟨2, _, rfl, rfl, join_some h, Or.inr (Or.inl rfl), .inl rfl, .inl rfl⟩ | j + 1, h => by cases h), (fun _ _ => rfl)⟩ rfl (pi_list (pv 1)) (fun s₃ H₃ fp => .nil) (fun s₃ H₃ fp => (@pe_op _ _ _ _ _ _ _ _ op_fdivP (pv 0) (pv 1)))))) pss_nil)
      (@pss_cons _ _ _ _ _ (@ps_put _ _ 3 _ _ _ _ (by rfl) (by first | exact .inl rfl | exact .inr rfl | assumption) S.nd rfl (Or.inr rfl) (pe_meth (pv 0) T.cl_World T.m_World_of G_World_of (hr.mono (by decide)) T.b_World_of .nil passN (@pa_mor _ _ _ _ _ (by rfl) pe_int (@pa_mor _ _ _ _ _ (by rfl) (pv 2) pa_nil))))
      (@pss_one _ _ _ (@ps_ret _ _ _ _ (pe_comp (N := ["number", "back", "self"]) (ρ := (fun σ => [σ[3]?.join, σ[0]?.join])) ⟨rfl, rfl, by decide +kernel, by decide +kernel, (List.forall_mem_cons.mpr ⟨rfl, (List.forall_mem_cons.mpr ⟨rfl, (List.forall_mem_nil _)⟩)⟩), has_of (by rfl), rfl, by decide +kernel, rfl, (fun σ j v h => match j, h with | 0, h => ⟨3, _, rfl, rfl, join_some h, Or.inr (Or.inl rfl), .inl rfl, .inl rfl⟩ | 1, h => ⟨0, _, rfl, rfl, join_some h, Or.inr (Or.inl rfl), .inl rfl, .inl rfl⟩ | j + 2, h => by cases h), (fun _ _ => rfl)⟩ rfl (pi_list (pv 1)) (fun s₃ H₃ fp => .nil) (fun s₃ H₃ fp => (@pe_op _ _ _ _ _ _ _ _ op_mod (@pe_op _ _ _ _ _ _ _ _ op_mulM (pv 0) (pv 1)) (pe_fldK (K := K) (pv 2) rfl)))))))), ?_⟩
    refine ⟨_, rfl, z, t.C_World, dx, _, _, rfl, hx, T.cl_World, T.na_World_prime, lk_prime _, rfl, _, rfl, ?_⟩
    have hd : Mid 1 := Mid.of_lt (by decide) (by decide)
    rcases id hq with rfl | ⟨q2, q3, q4⟩
    · rw [if_pos rfl]
      refine iteT (ret_of (comp_int (ts := ts) (fun x => x % 0) l500 (fun R h => ⟨_, rfl, a, rfl, ⟨_, .of ea⟩, h _ _ (Same.refl _) (jseq_list (.of ea))⟩) ?_ ?_))
      · intro x hxm Hc R sc kc
        refine ⟨_, rfl, _, rfl, _, _, rfl, rfl, ⟨by decide, hd⟩, ?_⟩
        have := kc Hc (Same.refl _)
        rw [Int.emod_zero] at this
        show R (.int (x / 1)) Hc
        rw [Int.ediv_one]
        exact this
      · exact fun D Hc nD sc eD => k D Hc sc nD eD
    · have hq0 : q ≠ 0 := by omega
      rw [if_neg hq0] at hx ⊢
      have hz : WorldAt t.C_World H z q := ⟨dx, by rw [if_neg hq0]; exact hx⟩
      refine iteF ⟨_, rfl, z, dx, _, rfl, hx, lk_no (by decide +kernel), _, rfl, z, q, 1, 1, rfl, hz, hq, hd, fun h => absurd h (one_noOv hq), fun _ v H1 s1 ho => ?_⟩
      rcases ho with ⟨e, _⟩ | ⟨_, r, rfl, r0, r1, er⟩
      · exact absurd e hq0
      rw [Int.emod_eq_of_lt (show (0 : Int) ≤ 1 by decide) (show (1 : Int) < q by omega), Int.mul_one, Int.emod_eq_of_lt r0 r1] at er
      subst er
      dsimp only [gName]
      refine ret_of (comp_int (ts := ts) (fun x => x % q) l500 (fun R h => ⟨_, rfl, a, rfl, ⟨_, .of (s1 _ _ ea)⟩, h _ _ (Same.refl _) (jseq_list (.of (s1 _ _ ea)))⟩) ?_ ?_)
      · intro x hxm Hc R sc kc
        refine ⟨_, rfl, _, rfl, _, _, rfl, rfl, ⟨hm x hxm, hd⟩, _, rfl, z, t.C_World, dx, _, _, rfl, sc _ _ (s1 _ _ hx), T.cl_World, T.na_World_prime, lk_prime _, _, _, rfl, rfl, (show (0 : Int) < q by omega), ?_⟩
        have := kc Hc (Same.refl _)
        show R (.int (x * 1 % q)) Hc
        rw [Int.mul_one]
        exact this
      · exact fun D Hc nD sc eD => k D Hc (s1.trans sc) (none_of s1 nD) eD
def spWP (C : Addr) : Sp := fun vs H Q _ => ∃ (z a b : Addr) (q : Int) (ts us : List Int) (T U : Nat), vs = [.ref z, .ref a, .ref b] ∧ WorldAt C H z q ∧ WheelN q ∧ H a = some (.lst (ts.map V.int)) ∧ H b = some (.lst (us.map V.int)) ∧ ts.length ≤ 100 ∧ us.length ≤ 100 ∧ 1 ≤ us.length ∧ (∀ x ∈ ts, x.natAbs ≤ T) ∧ (∀ x ∈ us, x.natAbs ≤ U) ∧ 1 ≤ U ∧ 1000 ≤ T ∧ T * (2 * U) ^ (ts.length + 1 - us.length) ≤ 10 ^ 260 ∧ U ≤ 10 ^ 260 ∧ ¬ q ∣ us.getD (us.length - 1) 0 ∧ (1 ≤ ts.length → ¬ q ∣ ts.getD (ts.length - 1) 0) ∧
  ∀ (p l1 l2 : Addr) (bs ls : List Int) (much : Int) (H' : Hp), Same H H' → H' p = some (.tup [.ref l1, .ref l2, .int much]) → H' l1 = some (.lst (bs.map V.int)) → H' l2 = some (.lst (ls.map V.int)) → PInv q ts us T U (ts.length + 1 - us.length) (ts.length + 1 - us.length) bs ls much → Q (.ref p) H'
theorem sc_whole_parted : FnScope ["world", "one", "other", "lead", "left", "by", "much", "place", "head", "less"] ["world", "one", "other"] (defScope s_whole_parted) := ⟨rfl, rfl, rfl, by decide +kernel, rfl, by decide +kernel, by decide +kernel⟩
theorem ok_whole_parted (T : Txt K mg t) : FnOk P w K mg base CX0 5 t.f_whole_parted t.d_whole_parted ["world", "one", "other"] (spWP t.C_World) := by
  have S := sc_whole_parted
  have G_World_evenly := ok_evenly (P := P) (w := w) (base := base) T
  refine T.F_whole_parted.ok S (fun vs H Q E h => ?_) (fun cdv A outer s H vs Q E hr h => ?_)
  · obtain ⟨z, a, b, q, ts, us, T, U, rfl, _⟩ := h
    rfl
  · obtain ⟨z, a, b, q, ts, us, TT, U, rfl, hz, hq, ea, eb, t100, u100, u1, hT, hU, hU1, hT1, hTU, hU2, lz, tz, k⟩ := h
    refine ⟨_, (@pss_cons _ _ _ _ _ (@ps_put _ _ 3 _ _ _ _ (by rfl) (by first | exact .inl rfl | exact .inr rfl | assumption) S.nd rfl (Or.inr rfl) (@pe_ix _ _ _ _ _ _ _ ix_list (pv 2) (@pe_un _ _ _ _ _ _ un_neg pe_int) (fun _ _ => rfl)))
      (@pss_cons _ _ _ _ _ (@ps_put _ _ 4 _ _ _ _ (by rfl) (by first | exact .inl rfl | exact .inr rfl | assumption) S.nd rfl (Or.inl rfl) (pv 1))
      (@pss_cons _ _ _ _ _ (@ps_put _ _ 5 _ _ _ _ (by rfl) (by first | exact .inl rfl | exact .inr rfl | assumption) S.nd rfl (Or.inl rfl) (@pe_lst _ _ _ _ pa_nil))
      (@pss_cons _ _ _ _ _ (@ps_put _ _ 6 _ _ _ _ (by rfl) (by first | exact .inl rfl | exact .inr rfl | assumption) S.nd rfl (Or.inl rfl) pe_int)
      (@pss_cons _ _ _ _ _ (ps_for PassesOwn.never rfl (pi_down rfl T.n_range (@pa_mor _ _ _ _ _ (by rfl) (@pe_op _ _ _ _ _ _ _ _ op_sub (pe_callB call_len_seq rfl T.n_len boot_len (@pa_mor _ _ _ _ _ (by rfl) (pv 1) pa_nil)) (pe_callB call_len_seq rfl T.n_len boot_len (@pa_mor _ _ _ _ _ (by rfl) (pv 2) pa_nil))) (@pa_mor _ _ _ _ _ (by rfl) (@pe_un _ _ _ _ _ _ un_neg pe_int) (@pa_mor _ _ _ _ _ (by rfl) (@pe_un _ _ _ _ _ _ un_neg pe_int) pa_nil)))) (pg_name (i := 7) S.nd rfl (Or.inl rfl))
        (@pss_cons _ _ _ _ _ (@ps_put _ _ 8 _ _ _ _ (by rfl) (by first | exact .inl rfl | exact .inr rfl | assumption) S.nd rfl (Or.inr rfl) (@pe_ix _ _ _ _ _ _ _ ix_list (pv 4) (@pe_un _ _ _ _ _ _ un_neg pe_int) (fun _ _ => rfl)))
      (@pss_cons _ _ _ _ _ (@ps_put _ _ 9 _ _ _ _ (by rfl) (by first | exact .inl rfl | exact .inr rfl | assumption) S.nd rfl (Or.inl rfl) (@pe_op _ _ _ _ _ _ _ _ op_cat (@pe_op _ _ _ _ _ _ _ _ op_rep (@pe_lst _ _ _ _ (@pa_mor _ _ _ _ _ (by rfl) pe_int pa_nil)) (pv 7)) (pe_comp (N := ["number", "head"]) (ρ := (fun σ => [σ[8]?.join])) ⟨rfl, rfl, by decide +kernel, by decide +kernel, (List.forall_mem_cons.mpr ⟨rfl, (List.forall_mem_nil _)⟩), has_of (by rfl), rfl, by decide +kernel, rfl, (fun σ j v h => match j, h with | 0, h => ⟨8, _, rfl, rfl, join_some h, Or.inr (Or.inl rfl), .inl rfl, .inl rfl⟩ | j + 1, h => by cases h), (fun _ _ => rfl)⟩ rfl (pi_list (@pe_slice _ _ _ _ _ _ _ _ _ _ sl_list (pv 2) po_none (po_some (@pe_un _ _ _ _ _ _ un_neg pe_int)))) (fun s₃ H₃ fp => .nil) (fun s₃ H₃ fp => (@pe_op _ _ _ _ _ _ _ _ op_mulM (pv 1) (pv 0))))))
      (@pss_cons _ _ _ _ _ (@ps_put _ _ 4 _ _ _ _ (by rfl) (by first | exact .inl rfl | exact .inr rfl | assumption) S.nd rfl (Or.inl rfl) (pe_meth (pv 0) T.cl_World T.m_World_evenly G_World_evenly (hr.mono (by decide)) T.b_World_evenly .nil pass0 (@pa_mor _ _ _ _ _ (by rfl) (pe_comp2 (N := ["a", "b", "lead"]) (ρ := (fun σ => [σ[3]?.join])) ⟨rfl, rfl, by decide +kernel, by decide +kernel, (List.forall_mem_cons.mpr ⟨rfl, (List.forall_mem_nil _)⟩), has_of (by rfl), rfl, rfl, by decide +kernel, rfl, rfl, (fun σ j v h => match j, h with | 0, h => ⟨3, _, rfl, rfl, join_some h, Or.inr (Or.inl rfl), .inl rfl, .inl rfl⟩ | j + 1, h => by cases h), (fun _ _ => rfl)⟩ rfl (pi_zip rfl T.n_zip (@pa_mor _ _ _ _ _ (by rfl) (pv 4) (@pa_mor _ _ _ _ _ (by rfl) (pv 9) pa_nil))) (fun s₃ H₃ fp => .nil) (fun s₃ H₃ fp => (@pe_op _ _ _ _ _ _ _ _ op_sub (@pe_op _ _ _ _ _ _ _ _ op_mulM (pv 2) (pv 0)) (pv 1)))) (@pa_mor _ _ _ _ _ (by rfl) pe_int pa_nil))))
      (@pss_cons _ _ _ _ _ (@ps_put _ _ 5 _ _ _ _ (by rfl) (by first | exact .inl rfl | exact .inr rfl | assumption) S.nd rfl (Or.inl rfl) (pe_meth (pv 0) T.cl_World T.m_World_evenly G_World_evenly (hr.mono (by decide)) T.b_World_evenly .nil pass0 (@pa_mor _ _ _ _ _ (by rfl) (@pe_op _ _ _ _ _ _ _ _ op_cat (@pe_lst _ _ _ _ (@pa_mor _ _ _ _ _ (by rfl) (pv 8) pa_nil)) (pe_comp (N := ["number", "lead"]) (ρ := (fun σ => [σ[3]?.join])) ⟨rfl, rfl, by decide +kernel, by decide +kernel, (List.forall_mem_cons.mpr ⟨rfl, (List.forall_mem_nil _)⟩), has_of (by rfl), rfl, by decide +kernel, rfl, (fun σ j v h => match j, h with | 0, h => ⟨3, _, rfl, rfl, join_some h, Or.inr (Or.inl rfl), .inl rfl, .inl rfl⟩ | j + 1, h => by cases h), (fun _ _ => rfl)⟩ rfl (pi_list (pv 5)) (fun s₃ H₃ fp => .nil) (fun s₃ H₃ fp => (@pe_op _ _ _ _ _ _ _ _ op_mulM (pv 1) (pv 0))))) (@pa_mor _ _ _ _ _ (by rfl) pe_int pa_nil))))
      (@pss_one _ _ _ (@ps_put _ _ 6 _ _ _ _ (by rfl) (by first | exact .inl rfl | exact .inr rfl | assumption) S.nd rfl (Or.inl rfl) (@pe_ix _ _ _ _ _ _ _ ix_list (pe_meth (pv 0) T.cl_World T.m_World_evenly G_World_evenly (hr.mono (by decide)) T.b_World_evenly .nil pass0 (@pa_mor _ _ _ _ _ (by rfl) (@pe_lst _ _ _ _ (@pa_mor _ _ _ _ _ (by rfl) (@pe_op _ _ _ _ _ _ _ _ op_mulM (pv 6) (pv 3)) pa_nil)) (@pa_mor _ _ _ _ _ (by rfl) pe_int pa_nil))) pe_int (fun _ _ => rfl)))))))))
      (@pss_one _ _ _ (@ps_ret _ _ _ _ (@pe_tup _ _ _ _ _ (@pa_mor _ _ _ _ _ (by rfl) (pv 5) (@pa_mor _ _ _ _ _ (by rfl) (pv 4) (@pa_mor _ _ _ _ _ (by rfl) (pv 6) pa_nil))))))))))), ?_⟩
    obtain ⟨dz, hd⟩ := id hz
    generalize hlead : us.getD (us.length - 1) 0 = lead at lz
    generalize hn : ts.length + 1 - us.length = n at hTU k
    have pU : ∀ i, i ≤ n → TT * (2 * U) ^ i ≤ 10 ^ 260 := fun i hi => Nat.le_trans (Nat.mul_le_mul_left TT (Nat.pow_le_pow_right (by omega) hi)) hTU
    have blead : lead.natAbs ≤ 10 ^ 260 := by rw [← hlead]; exact Nat.le_trans (getD_bd hU _) hU2
    have mlead : Mid lead := mid520 (Nat.le_trans blead (by decide +kernel))
    refine ⟨_, rfl, _, rfl, b, us.map V.int, _, _, rfl, rfl, .of eb, atI_back u1, ?_⟩
    rw [hlead]
    refine ⟨_, rfl, by show 0 ≤ sizeLine; decide, fun l0 nl0 => ?_⟩
    have s0 : Same H (upd H l0 (.lst [])) := same_upd nl0
    have el0 : upd H l0 (.lst []) l0 = some (.lst (([] : List Int).map V.int)) := upd_same
    generalize upd H l0 (.lst []) = H0 at s0 el0 ⊢
    dsimp only [gName]
    refine ⟨_, rfl, a, ts.map V.int, rfl, .inl (.of (s0 _ _ ea)), _, rfl, b, us.map V.int, rfl, .inl (.of (s0 _ _ eb)), _, _, rfl, rfl, _, rfl, _, rfl, _, _, rfl, ⟨by simp; omega, by simp; omega, by decide, by decide⟩, ?_⟩
    have en : ((((ts.map V.int).length : Int) - ((us.map V.int).length : Int)) - -1).toNat = n := by rw [List.length_map, List.length_map]; omega
    rw [en]
    refine for_down (fun i σ Hc => Same H Hc ∧ ∃ (l1 l2 : Addr) (bs ls : List Int) (much : Int) (v7 v8 v9 : Option V), σ = [some (.ref z), some (.ref a), some (.ref b), some (.int lead), some (.ref l2), some (.ref l1), some (.int much), v7, v8, v9] ∧ Hc l1 = some (.lst (bs.map V.int)) ∧ Hc l2 = some (.lst (ls.map V.int)) ∧ PInv q ts us TT U n i bs ls much)
      ⟨s0, l0, a, [], ts, 1, none, none, none, rfl, el0, s0 _ _ ea, PInv.start hq hT hn.symm⟩ ?_ ?_
    · rintro i σ Hc hi ⟨sc, l1, l2, bs, ls, much, v7, v8, v9, rfl, e1, e2, I⟩
      have ll := I.ll
      have lb := I.lb
      have l1' : 1 ≤ ls.length := by omega
      have bX := pU i (by omega)
      have bls : ∀ x ∈ ls, x.natAbs ≤ 10 ^ 260 := fun x hx => Nat.le_trans (I.bl x hx) bX
      have bbs : ∀ x ∈ bs, x.natAbs ≤ 10 ^ 260 := fun x hx => Nat.le_trans (Nat.le_trans (Nat.le_mul_of_pos_right _ (by omega)) (I.bb x hx)) bX
      have bmu : much.natAbs ≤ 10 ^ 260 := Nat.le_trans I.bm (Nat.le_trans (Nat.mul_le_mul_right _ hT1) bX)
      have bus : ∀ x ∈ us, x.natAbs ≤ 10 ^ 260 := fun x hx => Nat.le_trans (hU x hx) hU2
      have m260 : ∀ {x : Int}, x.natAbs ≤ 10 ^ 260 → Mid x := fun h => mid520 (Nat.le_trans h (by decide +kernel))
      have I' := I.step hq hn.symm hi u1 hU hU1 hT1 (by rw [hlead]; exact lz) (tz (by omega))
      rw [hlead] at I'
      have ep : (((ts.map V.int).length : Int) - ((us.map V.int).length : Int)) - (i : Int) = ((n - 1 - i : Nat) : Int) := by rw [List.length_map, List.length_map]; omega
      rw [ep]
      refine ⟨_, rfl, _, rfl, l2, ls.map V.int, _, _, rfl, rfl, .of e2, atI_back l1', ?_⟩
      generalize hhead : ls.getD (ls.length - 1) 0 = head at I'
      have bhead : head.natAbs ≤ 10 ^ 260 := by rw [← hhead]; exact getD_bd bls _
      generalize hpl : n - 1 - i = place at I'
      dsimp only [gName]
      simp only [List.set_cons_zero, List.set_cons_succ]
      refine ⟨by show 1 ≤ sizeLine; decide, fun la nla => ?_⟩
      have sa : Same Hc (upd Hc la (.lst [.int 0])) := same_upd nla
      refine ⟨_, rfl, la, (place : Int), [.int 0], rfl, rfl, upd_same, by omega, by omega, ?_, fun lr nlr => ?_⟩
      · rw [Int.toNat_natCast]
        exact Nat.le_trans (show [V.int 0].length * place ≤ 200 by simp; omega) (by decide)
      rw [rep_flat]
      have sr : Same Hc (upd (upd Hc la (.lst [.int 0])) lr (.lst ((List.replicate place (0 : Int)).map V.int))) := sa.trans (same_upd nlr)
      have elr : upd (upd Hc la (.lst [.int 0])) lr (.lst ((List.replicate place (0 : Int)).map V.int)) lr = some (.lst ((List.replicate place (0 : Int)).map V.int)) := upd_same
      generalize upd (upd Hc la (.lst [.int 0])) lr (.lst ((List.replicate place (0 : Int)).map V.int)) = Hd at sr elr ⊢
      refine comp_int (ts := us.dropLast) (fun u => head * u) (by rw [List.length_dropLast]; omega) (fun R h => ⟨_, rfl, _, rfl, _, rfl, b, _, rfl, .of (sr _ _ (sc _ _ eb)), fun r nr => ?_⟩) ?_ ?_
      · rw [cutV_front, List.map_dropLast] at *
        exact ⟨r, rfl, ⟨_, .of upd_same⟩, h _ _ (same_upd nr) (jseq_list (.of upd_same))⟩
      · intro u hu Hx R sx kx
        exact ⟨_, rfl, _, rfl, _, _, rfl, rfl, ⟨m260 bhead, m260 (bus u (List.dropLast_subset _ hu))⟩, kx Hx (Same.refl _)⟩
      intro D He nD se eD
      refine ⟨lr, D, _, _, rfl, rfl, se _ _ elr, eD, ?_, fun ls1 nls1 => ?_⟩
      · rw [List.length_map, List.length_map, List.length_map, List.length_replicate, List.length_dropLast]
        exact Nat.le_trans (show _ ≤ 300 by omega) (by decide)
      have eL : (List.replicate place (0 : Int)).map V.int ++ (us.dropLast.map fun u => head * u).map V.int = (lessOf place head us).map V.int := by unfold lessOf; rw [List.map_append]
      rw [eL]
      have s1 : Same Hc (upd He ls1 (.lst ((lessOf place head us).map V.int))) := sr.trans (se.trans (same_upd nls1))
      have eles : upd He ls1 (.lst ((lessOf place head us).map V.int)) ls1 = some (.lst ((lessOf place head us).map V.int)) := upd_same
      dsimp only [gName]
      generalize upd He ls1 (.lst ((lessOf place head us).map V.int)) = Hf at s1 eles ⊢
      simp only [List.set_cons_zero, List.set_cons_succ]
      have bless : ∀ x ∈ lessOf place head us, x.natAbs ≤ 10 ^ 520 := fun x hx => by
        unfold lessOf at hx
        rcases List.mem_append.mp hx with z | z
        · rw [(List.mem_replicate.mp z).2]; exact Nat.zero_le _
        · obtain ⟨u, hu', e⟩ := List.mem_map.mp z
          rw [← e]
          exact mul520 bhead (bus u (List.dropLast_subset _ hu'))
      have hdf := s1 _ _ (sc _ _ hd)
      refine seq_of (asg_of ⟨_, rfl, z, dz, _, rfl, hdf, lk_no (by decide +kernel), comp2_int (xs := ls) (ys := lessOf place head us) (fun x y => lead * x - y) (by omega) (fun R h => ⟨_, rfl, _, rfl, l2, ls1, rfl, ⟨_, .of (s1 _ _ e2)⟩, ⟨_, .of eles⟩, h _ _ (Same.refl _) (jseq_zip (.of (s1 _ _ e2)) (.of eles))⟩) ?_ ?_⟩)
      · intro x y hxy Hx R sx kx
        exact ⟨_, rfl, _, rfl, _, _, rfl, rfl, ⟨mlead, m260 (bls x (List.of_mem_zip hxy).1)⟩, _, rfl, _, _, rfl, rfl, kx Hx (Same.refl _)⟩
      intro D2 Hg sg eD2
      refine ⟨z, D2, q, _, rfl, ⟨dz, sg _ _ hdf⟩, hq, eD2, ?_, ?_, fun c2 Hh sh nc2 ec2 => ?_⟩
      · rw [List.length_map, List.length_zip]; omega
      · intro x hx
        obtain ⟨ab, hab, rfl⟩ := List.mem_map.mp hx
        have m := List.of_mem_zip hab
        have b1 := mul520 blead (bls _ m.1)
        have b2 := bless _ m.2
        exact mid520 (by omega)
      have s2 := s1.trans (sg.trans sh)
      have hdh := s2 _ _ (sc _ _ hd)
      dsimp only [gName]
      simp only [List.set_cons_zero, List.set_cons_succ]
      refine seq_of (asg_of ⟨_, rfl, z, dz, _, rfl, hdh, lk_no (by decide +kernel), _, rfl, by show 1 ≤ sizeLine; decide, fun lh nlh => ?_⟩)
      have s3 : Same Hc (upd Hh lh (.lst [.int head])) := s2.trans (same_upd nlh)
      have sh3 : Same Hh (upd Hh lh (.lst [.int head])) := same_upd nlh
      have elh : upd Hh lh (.lst [.int head]) lh = some (.lst (([head] : List Int).map V.int)) := upd_same
      generalize upd Hh lh (.lst [.int head]) = Hi at s3 elh sh3 ⊢
      refine comp_int (ts := bs) (fun x => lead * x) (by omega) (fun R h => ⟨_, rfl, l1, rfl, ⟨_, .of (s3 _ _ e1)⟩, h _ _ (Same.refl _) (jseq_list (.of (s3 _ _ e1)))⟩) ?_ ?_
      · intro x hx Hx R sx kx
        exact ⟨_, rfl, _, rfl, _, _, rfl, rfl, ⟨mlead, m260 (bbs x hx)⟩, kx Hx (Same.refl _)⟩
      intro D3 Hj nD3 sj eD3
      refine ⟨lh, D3, _, _, rfl, rfl, sj _ _ elh, eD3, ?_, fun lc nlc => ?_⟩
      · rw [List.length_map, List.length_map, List.length_map]
        exact Nat.le_trans (show _ ≤ 300 by simp; omega) (by decide)
      rw [← List.map_append]
      have sl : Same Hj (upd Hj lc (.lst ((([head] : List Int) ++ bs.map fun x => lead * x).map V.int))) := same_upd nlc
      have elc : upd Hj lc (.lst ((([head] : List Int) ++ bs.map fun x => lead * x).map V.int)) lc = some (.lst ((([head] : List Int) ++ bs.map fun x => lead * x).map V.int)) := upd_same
      generalize upd Hj lc (.lst ((([head] : List Int) ++ bs.map fun x => lead * x).map V.int)) = Hk at sl elc ⊢
      have sk := sh3.trans (sj.trans sl)
      refine ⟨z, lc, q, _, rfl, ⟨dz, sk _ _ hdh⟩, hq, elc, by simp; omega, ?_, fun c3 Hl sl' nc3 ec3 => ?_⟩
      · intro x hx
        rcases List.mem_append.mp hx with z | z
        · rw [List.mem_singleton.mp z]; exact m260 bhead
        · obtain ⟨u, hu', e⟩ := List.mem_map.mp z
          rw [← e]
          exact mid520 (Nat.le_trans (mul520 blead (bbs u hu')) (by decide +kernel))
      have skl := sk.trans sl'
      have s4 := s2.trans skl
      have hdl := s4 _ _ (sc _ _ hd)
      dsimp only [gName]
      simp only [List.set_cons_zero, List.set_cons_succ]
      refine ⟨_, rfl, z, dz, _, rfl, hdl, lk_no (by decide +kernel), _, rfl, _, rfl, _, _, rfl, rfl, ⟨m260 bmu, mlead⟩, by show 1 ≤ sizeLine; decide, fun lm nlm => ?_⟩
      have sm : Same Hl (upd Hl lm (.lst [.int (much * lead)])) := same_upd nlm
      refine ⟨z, lm, q, [much * lead], rfl, ⟨dz, sm _ _ hdl⟩, hq, upd_same, by simp, fun x hx => ?_, fun c4 Hm sm' nc4 ec4 => ?_⟩
      · rw [List.mem_singleton.mp hx]
        exact mid520 (Nat.le_trans (mul520 bmu blead) (by decide +kernel))
      refine ⟨c4, _, _, _, rfl, rfl, .of ec4, rfl, ?_⟩
      have s5 := sm.trans sm'
      exact ⟨sc.trans (s4.trans s5), c3, c2, _, _, _, _, _, _, rfl, s5 _ _ ec3, (skl.trans s5) _ _ ec2, I'⟩
    · rintro σ Hc ⟨sc, l1, l2, bs, ls, much, v7, v8, v9, rfl, e1, e2, I⟩
      refine ⟨_, rfl, _, rfl, _, rfl, by show 3 ≤ sizeLine; decide, fun p np => ?_⟩
      have sp : Same Hc (upd Hc p (.tup [.ref l1, .ref l2, .int much])) := same_upd np
      exact k p l1 l2 bs ls much _ (sc.trans sp) upd_same (sp _ _ e1) (sp _ _ e2) I
def spNums53 (C : Addr) : Sp := fun vs H Q _ => ∃ (z a : Addr) (q c b : Int) (ts : List Int) (B : Nat), vs = [.ref z, .ref a, .int c, .int b] ∧ WorldAt C H z q ∧ WheelN q ∧ H a = some (.lst (ts.map V.int)) ∧ ts.length ≤ 500 ∧ ¬ q ∣ b ∧ Mid b ∧ Mid c ∧ (∀ t ∈ ts, Mid t) ∧ b.natAbs ≤ B ∧ (∀ t ∈ ts, (t * c).natAbs ≤ B) ∧
  ∀ (r : Addr) (ps : List (Int × Int)) (H' : Hp), Same H H' → H r = none → RowG B H' q r ps → ps.length = ts.length → (∀ i, i < ts.length → Weq q (ps.getD i o1) (ts.getD i 0 * c, b)) → Q (.ref r) H'
theorem sc_numbers_of : FnScope ["world", "wholes", "times", "bottom"] ["world", "wholes", "times", "bottom"] (defScope s_numbers_of) := ⟨rfl, rfl, rfl, by decide +kernel, rfl, by decide +kernel, by decide +kernel⟩
theorem ok_numbers_of (T : Txt K mg t) : FnOk P w K mg base CX0 4 t.f_numbers_of t.d_numbers_of ["world", "wholes", "times", "bottom"] (spNums53 t.C_World) := by
  have S := sc_numbers_of
  have G_World_of := ok_of (P := P) (w := w) (base := base) T
  refine T.F_numbers_of.ok S (fun vs H Q E h => ?_) (fun cdv A outer s H vs Q E hr h => ?_)
  · obtain ⟨z, a, q, c, b, ts, B, rfl, _⟩ := h
    rfl
  · obtain ⟨z, a, q, c, b, ts, B, rfl, ⟨dz, hd⟩, hq, ea, l500, nb, mb, mc, mt, bb, bt, k⟩ := h
    refine ⟨_, (@pss_one _ _ _ (@ps_ret _ _ _ _ (pe_comp (N := ["whole", "bottom", "world", "times"]) (ρ := (fun σ => [σ[3]?.join, σ[0]?.join, σ[2]?.join])) ⟨rfl, rfl, by decide +kernel, by decide +kernel, (List.forall_mem_cons.mpr ⟨rfl, (List.forall_mem_cons.mpr ⟨rfl, (List.forall_mem_cons.mpr ⟨rfl, (List.forall_mem_nil _)⟩)⟩)⟩), has_of (by rfl), rfl, by decide +kernel, rfl, (fun σ j v h => match j, h with | 0, h => ⟨3, _, rfl, rfl, join_some h, Or.inr (Or.inl rfl), .inl rfl, .inl rfl⟩ | 1, h => ⟨0, _, rfl, rfl, join_some h, Or.inr (Or.inl rfl), .inl rfl, .inl rfl⟩ | 2, h => ⟨2, _, rfl, rfl, join_some h, Or.inr (Or.inl rfl), .inl rfl, .inl rfl⟩ | j + 3, h => by cases h), (fun _ _ => rfl)⟩ rfl (pi_list (pv 1)) (fun s₃ H₃ fp => .nil) (fun s₃ H₃ fp => (pe_meth (pv 2) T.cl_World T.m_World_of G_World_of (hr.mono (by decide)) T.b_World_of .nil passN (@pa_mor _ _ _ _ _ (by rfl) (@pe_op _ _ _ _ _ _ _ _ op_mulM (pv 0) (pv 3)) (@pa_mor _ _ _ _ _ (by rfl) (pv 1) pa_nil))))))), ?_⟩
    refine ret_of (comp_ofN (xs := ts.map V.int) (fun R h => ⟨_, rfl, a, rfl, ⟨_, .of ea⟩, h _ _ (Same.refl _) (jseq_list (.of ea))⟩) (by rw [List.length_map]; exact small1000 (by omega)) (fun _ i y Hx => ∃ p : Int × Int, NumAt B Hx q y p.1 p.2 ∧ Weq q p (ts.getD i 0 * c, b)) (fun _ _ _ _ _ _ ⟨p, h0, h1⟩ e f => ⟨p, h0.far e f, h1⟩) ?_ ?_)
    · intro D i v hi Hc R sc _ kc
      have hi' : i < ts.length := by
        have := (List.getElem?_eq_some_iff.mp hi).1
        simpa using this
      have ev : v = .int ts[i] := by
        rw [List.getElem?_map] at hi
        simp [hi'] at hi
        exact hi.symm
      subst ev
      have tm := List.getElem_mem hi'
      refine ⟨_, rfl, z, dz, _, rfl, sc _ _ hd, lk_no (by decide +kernel), _, rfl, _, rfl, _, _, rfl, rfl, ⟨mt _ tm, mc⟩, _, rfl, z, q, ts[i] * c, b, rfl, ⟨dz, sc _ _ hd⟩, hq, mb, fun h => absurd h (no_ov nb), fun _ v' H' s' ho => kc v' H' s' ?_⟩
      rw [getD_at hi']
      exact of_any ho hq nb (bt _ tm) bb
    · intro D ys Hc nD sc hys hP eD
      obtain ⟨ps, lp, hp⟩ := pick (R := fun i y p => NumAt B Hc q y (Prod.fst p) (Prod.snd p) ∧ Weq q p (ts.getD i 0 * c, b)) hP
      rw [List.length_map] at hys
      refine k D ps Hc sc nD ⟨ys, eD, lp.symm, fun i v p h1 h2 => (hp i v p h1 h2).1⟩ (by omega) fun i hi => ?_
      have i1 : i < ys.length := by omega
      have i2 : i < ps.length := by omega
      rw [getD_at i2]
      exact (hp i ys[i] ps[i] (by simp [i1]) (by simp [i2])).2
theorem sc_parted : FnScope ["world", "one", "other", "first", "second", "told", "bottom", "by"] ["world", "one", "other"] (defScope s_parted) := ⟨rfl, rfl, rfl, by decide +kernel, rfl, by decide +kernel, by decide +kernel⟩
theorem ok_parted (T : Txt K mg t) : FnOk P w K mg base (CXF P w) 7 t.f_parted t.d_parted ["world", "one", "other"] (spParted t.C_World t.C_NoOver) := by
  have S := sc_parted
  have G_World_as_wholes := ok_as_wholes (P := P) (w := w) (base := base) T
  have G_whole_parted := ok_whole_parted (P := P) (w := w) (base := base) T
  have G_numbers_of := ok_numbers_of (P := P) (w := w) (base := base) T
  have G_trimmed := ok_trimmed (P := P) (w := w) (base := base) T
  refine T.F_parted.okX S (fun vs H Q E h => ?_) (fun cdv A outer s H vs Q E hr h L => ?_)
  · obtain ⟨z, a, b, q, ps, rs, D1, D2, f, g, T, U, L, rfl, _⟩ := h
    rfl
  · obtain ⟨z, a, b, q, ps, rs, D1, D2, f, g, TT, U, LL, rfl, hz, hq, hA, hB, hin, kE, k⟩ := h
    refine ⟨_, (@pss_cons _ _ _ _ _ (@ps_put _ _ 3 _ _ _ _ (by rfl) (by first | exact .inl rfl | exact .inr rfl | assumption) S.nd rfl (Or.inl rfl) (pe_meth (pv 0) T.cl_World T.m_World_as_wholes G_World_as_wholes (hr.mono (by decide)) T.b_World_as_wholes .nil pass0 (@pa_mor _ _ _ _ _ (by rfl) (pe_call G_trimmed (hr.mono (by decide)) rfl T.mg_trimmed T.F_trimmed.kp T.b_trimmed .nil pass0 (@pa_mor _ _ _ _ _ (by rfl) (pv 0) (@pa_mor _ _ _ _ _ (by rfl) (pv 1) pa_nil))) pa_nil)))
      (@pss_cons _ _ _ _ _ (@ps_put _ _ 4 _ _ _ _ (by rfl) (by first | exact .inl rfl | exact .inr rfl | assumption) S.nd rfl (Or.inl rfl) (pe_meth (pv 0) T.cl_World T.m_World_as_wholes G_World_as_wholes (hr.mono (by decide)) T.b_World_as_wholes .nil pass0 (@pa_mor _ _ _ _ _ (by rfl) (pe_call G_trimmed (hr.mono (by decide)) rfl T.mg_trimmed T.F_trimmed.kp T.b_trimmed .nil pass0 (@pa_mor _ _ _ _ _ (by rfl) (pv 0) (@pa_mor _ _ _ _ _ (by rfl) (pv 2) pa_nil))) pa_nil)))
      (@pss_cons _ _ _ _ _ (@ps_if _ _ _ _ _ _ _ _ (@pt_cmpR _ _ _ _ _ _ _ _ op_eq (pe_callB call_len_seq rfl T.n_len boot_len (@pa_mor _ _ _ _ _ (by rfl) (@pe_ix _ _ _ _ _ _ _ ix_tup (pv 4) pe_int (fun _ _ => rfl)) pa_nil)) pe_int (nomark _)) (@pss_one _ _ _ (ps_raise L rfl PySem.F.excBase_ValueError T.x_NoOver rfl T.mg_NoOver (@pa_mor _ _ _ _ _ (by rfl) pe_str pa_nil))) pss_nil)
      (@pss_cons _ _ _ _ _ (@ps_put _ _ 5 _ _ _ _ (by rfl) (by first | exact .inl rfl | exact .inr rfl | assumption) S.nd rfl (Or.inl rfl) (pe_call G_whole_parted (hr.mono (by decide)) rfl T.mg_whole_parted T.F_whole_parted.kp T.b_whole_parted .nil pass0 (@pa_mor _ _ _ _ _ (by rfl) (pv 0) (@pa_mor _ _ _ _ _ (by rfl) (@pe_ix _ _ _ _ _ _ _ ix_tup (pv 3) pe_int (fun _ _ => rfl)) (@pa_mor _ _ _ _ _ (by rfl) (@pe_ix _ _ _ _ _ _ _ ix_tup (pv 4) pe_int (fun _ _ => rfl)) pa_nil)))))
      (@pss_cons _ _ _ _ _ (@ps_put _ _ 6 _ _ _ _ (by rfl) (by first | exact .inl rfl | exact .inr rfl | assumption) S.nd rfl (Or.inl rfl) (@pe_op _ _ _ _ _ _ _ _ op_mulM (@pe_ix _ _ _ _ _ _ _ ix_tup (pv 5) pe_int (fun _ _ => rfl)) (@pe_ix _ _ _ _ _ _ _ ix_tup (pv 3) pe_int (fun _ _ => rfl))))
      (@pss_cons _ _ _ _ _ (@ps_put _ _ 7 _ _ _ _ (by rfl) (by first | exact .inl rfl | exact .inr rfl | assumption) S.nd rfl (Or.inl rfl) (pe_call G_numbers_of (hr.mono (by decide)) rfl T.mg_numbers_of T.F_numbers_of.kp T.b_numbers_of .nil pass0 (@pa_mor _ _ _ _ _ (by rfl) (pv 0) (@pa_mor _ _ _ _ _ (by rfl) (@pe_ix _ _ _ _ _ _ _ ix_tup (pv 5) pe_int (fun _ _ => rfl)) (@pa_mor _ _ _ _ _ (by rfl) (@pe_ix _ _ _ _ _ _ _ ix_tup (pv 4) pe_int (fun _ _ => rfl)) (@pa_mor _ _ _ _ _ (by rfl) (pv 6) pa_nil))))))
      (@pss_one _ _ _ (@ps_ret _ _ _ _ (@pe_tup _ _ _ _ _ (@pa_mor _ _ _ _ _ (by rfl) (pv 7) (@pa_mor _ _ _ _ _ (by rfl) (pe_call G_trimmed (hr.mono (by decide)) rfl T.mg_trimmed T.F_trimmed.kp T.b_trimmed .nil pass0 (@pa_mor _ _ _ _ _ (by rfl) (pv 0) (@pa_mor _ _ _ _ _ (by rfl) (pe_call G_numbers_of (hr.mono (by decide)) rfl T.mg_numbers_of T.F_numbers_of.kp T.b_numbers_of .nil pass0 (@pa_mor _ _ _ _ _ (by rfl) (pv 0) (@pa_mor _ _ _ _ _ (by rfl) (@pe_ix _ _ _ _ _ _ _ ix_tup (pv 5) pe_int (fun _ _ => rfl)) (@pa_mor _ _ _ _ _ (by rfl) pe_int (@pa_mor _ _ _ _ _ (by rfl) (pv 6) pa_nil))))) pa_nil))) pa_nil))))))))))), ?_⟩
    obtain ⟨dz, hd⟩ := id hz
    obtain ⟨lp, lr, ok1, ok2, dv1, dv2, w1, w2, t1, u2, hT, hU, d2, d1, u150, len, big, bigD⟩ := id hin
    have cl1 := cutP_len ps
    have cl2 := cutP_len rs
    refine ⟨_, rfl, z, dz, _, rfl, hd, lk_no (by decide +kernel), _, rfl, _, rfl, z, a, q, ps, 10 ^ 150, rfl, hz, hq, hA, by omega, fun ca H1 s1 nca hCa => ?_⟩
    refine ⟨z, ca, q, cutP ps, 10 ^ 150, D1, rfl, hz.mono s1, hq, hCa, by omega, ok1, fun p hp => dv1 p (cutP_mem hp), Nat.le_refl _, by decide +kernel, d1, fun v1 H2 ts b1 s2 n1 W1 => ?_⟩
    have s12 := s1.trans s2
    have hd2 := s12 _ _ hd
    refine ⟨_, rfl, z, dz, _, rfl, hd2, lk_no (by decide +kernel), _, rfl, _, rfl, z, b, q, rs, 10 ^ 150, rfl, ⟨dz, hd2⟩, hq, hB.mono s12, by omega, fun cb H3 s3 ncb hCb => ?_⟩
    refine ⟨z, cb, q, cutP rs, 10 ^ 150, D2, rfl, ⟨dz, s3 _ _ hd2⟩, hq, hCb, by omega, ok2, fun p hp => dv2 p (cutP_mem hp), Nat.le_refl _, by decide +kernel, Nat.le_trans d2 u150, fun v2 H4 us b2 s4 n2 W2 => ?_⟩
    obtain ⟨tp, l, rfl, e1, e2, _⟩ := n1
    obtain ⟨tp', l', rfl, e1', e2', _⟩ := n2
    have s34 := s3.trans s4
    have e1 := s34 _ _ e1
    have e2 := s34 _ _ e2
    have s14 := s12.trans s34
    have hd4 := s14 _ _ hd
    have lt := W1.len
    have lu := W2.len
    dsimp only [gName]
    refine ⟨_, rfl, tp', _, _, _, rfl, rfl, .of e1', rfl, l', us.map V.int, rfl, .inl (.of e2'), rfl, _, rfl, ite2 (fun h0 => ?_) (fun h0 => ?_)⟩
    · have z0 : us.length = 0 := by simpa using h0
      have hc : cutP rs = [] := List.length_eq_zero_iff.mp (by omega)
      exact ⟨by show 1 ≤ sizeLine; decide, kE hc H4 s14⟩
    · have u1 : 1 ≤ us.length := by
        have : ¬ us.length = 0 := fun e => h0 (by simp [e])
        omega
      have hc : cutP rs ≠ [] := fun e => by
        rw [e, List.length_nil] at lu
        omega
      dsimp only [tNext]
      have cA := hCa.canonP
      have cB := hCb.canonP
      have bT : ∀ x ∈ ts, x.natAbs ≤ TT := fun x hx => by
        obtain ⟨i, hi, rfl⟩ := List.getElem_of_mem hx
        have hi' : i < (cutP ps).length := by omega
        have e := (W1.each i hi').1
        rw [getD_at hi, cutP_get hi'] at e
        exact whole_bd hq hT (by rw [← cutP_get hi']; exact canonD hq cA i) e W1.ok ok1 W1.dvd (w1 i) (t1 i)
      have bU : ∀ x ∈ us, x.natAbs ≤ U := fun x hx => by
        obtain ⟨i, hi, rfl⟩ := List.getElem_of_mem hx
        have hi' : i < (cutP rs).length := by omega
        have e := (W2.each i hi').1
        rw [getD_at hi, cutP_get hi'] at e
        exact whole_bd hq hU (by rw [← cutP_get hi']; exact canonD hq cB i) e W2.ok ok2 W2.dvd (w2 i) (u2 i)
      have lz : ¬ q ∣ us.getD (us.length - 1) 0 := by
        have hi' : us.length - 1 < (cutP rs).length := by omega
        have e := (W2.each _ hi').1
        refine whole_nz hq (canonD hq cB _) ?_ e W2.ok
        rw [lu]
        exact cutP_last (by omega)
      have tz : 1 ≤ ts.length → ¬ q ∣ ts.getD (ts.length - 1) 0 := fun t1 => by
        have hi' : ts.length - 1 < (cutP ps).length := by omega
        have e := (W1.each _ hi').1
        refine whole_nz hq (canonD hq cA _) ?_ e W1.ok
        rw [lt]
        exact cutP_last (by omega)
      generalize hn : ts.length + 1 - us.length = n
      have nL : n ≤ LL := by omega
      have pw : (2 * U) ^ n ≤ (2 * U) ^ LL := Nat.pow_le_pow_right (by omega) nL
      have hTU : TT * (2 * U) ^ n ≤ 10 ^ 260 := Nat.le_trans (Nat.mul_le_mul_left TT pw) big
      have nz1 : D1 ≠ 0 := fun e => ok1.nz hq (by rw [e]; exact Int.dvd_zero q)
      have nz2 : D2 ≠ 0 := fun e => ok2.nz hq (by rw [e]; exact Int.dvd_zero q)
      have bb1 : b1.natAbs ≤ D1.natAbs := dvd_bd W1.dvd nz1
      have bb2 : b2.natAbs ≤ U := Nat.le_trans (dvd_bd W2.dvd nz2) d2
      have M150 : ∀ {x : Int}, x.natAbs ≤ 10 ^ 150 → Mid x := fun h => mid520 (Nat.le_trans h (by decide +kernel))
      have M260 : ∀ {x : Int}, x.natAbs ≤ 10 ^ 260 → Mid x := fun h => mid520 (Nat.le_trans h (by decide +kernel))
      have M265 : ∀ {x : Int}, x.natAbs ≤ 10 ^ 265 → Mid x := fun h => mid520 (Nat.le_trans h (by decide +kernel))
      refine ⟨_, rfl, _, rfl, tp, _, _, _, rfl, rfl, .of e1, rfl, _, rfl, tp', _, _, _, rfl, rfl, .of e1', rfl, z, l, l', q, ts, us, TT, U, rfl, ⟨dz, hd4⟩, hq, e2, e2', by omega, by omega, u1, bT, bU, by omega, hT, by rw [hn]; exact hTU, Nat.le_trans u150 (by decide +kernel), lz, tz, fun p l1 l2 bs ls much H5 s5 ep el1 el2 I => ?_⟩
      rw [hn] at I
      have hd5 := s5 _ _ hd4
      have bmu : much.natAbs ≤ 10 ^ 260 := Nat.le_trans I.bm (Nat.le_trans (Nat.mul_le_mul_right _ hT) hTU)
      have bM : (much * b1).natAbs ≤ 10 ^ 265 := by
        rw [Int.natAbs_mul]
        exact Nat.le_trans (Nat.mul_le_mul (Nat.le_trans I.bm (Nat.mul_le_mul_left 1000 pw)) bb1) bigD
      have nM := nz_mul hq I.nz (W1.ok.nz hq)
      have bbs : ∀ x ∈ bs, x.natAbs ≤ 10 ^ 260 := fun x hx => Nat.le_trans (Nat.le_trans (Nat.le_mul_of_pos_right _ (by omega)) (I.bb x hx)) hTU
      have bls : ∀ x ∈ ls, x.natAbs ≤ 10 ^ 260 := fun x hx => Nat.le_trans (I.bl x hx) hTU
      have big2 : (10 : Nat) ^ 260 ≤ B2 := by decide +kernel
      have big3 : (10 : Nat) ^ 265 ≤ B2 := by decide +kernel
      have lbs := I.lb
      have lls' := I.ll
      dsimp only [gName]
      refine ⟨_, rfl, p, _, _, _, rfl, rfl, .of ep, rfl, _, rfl, tp, _, _, _, rfl, rfl, .of (s5 _ _ e1), rfl, _, _, rfl, rfl, ⟨M260 bmu, M150 (Nat.le_trans bb1 d1)⟩, ?_⟩
      refine ⟨_, rfl, _, rfl, p, _, _, _, rfl, rfl, .of ep, rfl, _, rfl, tp', _, _, _, rfl, rfl, .of (s5 _ _ e1'), rfl, _, rfl, z, l1, q, b2, much * b1, bs, B2, rfl, ⟨dz, hd5⟩, hq, el1, by omega, nM, M265 bM, M150 (Nat.le_trans bb2 u150), fun x hx => M260 (bbs x hx), Nat.le_trans bM big3, fun x hx => ?_, fun r1 bps H6 s6 nr1 hBy lby wby => ?_⟩
      · rw [Int.natAbs_mul]
        exact Nat.le_trans (Nat.le_trans (Nat.mul_le_mul_left _ (Nat.le_trans bb2 (show U ≤ 2 * U by omega))) (Nat.le_trans (I.bb x hx) hTU)) big2
      have hd6 := s6 _ _ hd5
      dsimp only [gName]
      refine ⟨_, rfl, _, rfl, _, rfl, _, rfl, p, _, _, _, rfl, rfl, .of (s6 _ _ ep), rfl, _, rfl, z, l2, q, 1, much * b1, ls, B2, rfl, ⟨dz, hd6⟩, hq, s6 _ _ el2, by omega, nM, M265 bM, M150 (by decide), fun x hx => M260 (bls x hx), Nat.le_trans bM big3, fun x hx => ?_, fun r2 lps0 H7 s7 nr2 hLs lls wls => ?_⟩
      · rw [Int.mul_one]
        exact Nat.le_trans (bls x hx) big2
      refine ⟨z, r2, q, lps0, B2, rfl, ⟨dz, s7 _ _ hd6⟩, hq, hLs, by omega, fun r3 H8 s8 nr3 hCut => ?_⟩
      refine ⟨by show 2 ≤ sizeLine; decide, fun pp npp => ?_⟩
      have sp : Same H8 (upd H8 pp (.tup [.ref r1, .ref r3])) := same_upd npp
      have s15 := s14.trans s5
      have s78 := s7.trans s8
      have clps := cutP_len lps0
      have cb' := hBy.canonP
      have cl0 := hLs.canonP
      have wls' := cut_weq2 hq cl0 lls (fun k hk => wls k hk)
      obtain ⟨D, F, G, okD, bD, hF, hG, bF, bG⟩ := part_bot hq nM W2.ok cb' hCut.canonP (fun i hi => wby i (by omega)) wls'
      have hP := cut_weq (q := q) (b := b1) lt fun k hk => ⟨0, by have := (W1.each k hk).1; dsimp only; omega⟩
      have hR := cut_weq (q := q) (b := b2) lu fun k hk => ⟨0, by have := (W2.each k hk).1; dsimp only; omega⟩
      have lbp : bps.length = n := by omega
      have PD := part_core hq I.nz W1.ok W2.ok okD (fun k => by
        have e := I.eq k
        rw [Nat.sub_self, convS_zero, ← lbp] at e
        exact e) (by omega) hP hR (fun i hi => wby i (by omega)) wls' hF hG
      refine k hc pp r1 r3 bps (cutP lps0) D F G _ _ (s15.trans (s6.trans (s78.trans sp))) upd_same (none_of s15 nr1) (none_of (s15.trans (s6.trans s7)) nr3) (fun e => ?_) (hBy.mono (s78.trans sp)) (hCut.mono sp) ?_ (cutP_twice _) (by omega) (by omega) PD ?_ (fun i j => ?_) (fun j => ?_)
      · obtain ⟨_, e6, _⟩ := hBy
        rw [← e, s7 _ _ e6] at nr3
        cases nr3
      · refine cutP_self fun h => ?_
        refine top_nz hq (canonD hq cb' _) ?_ (wby _ (by omega))
        rw [lbp]
        exact nz_mul hq (I.last (by omega)) (W2.ok.nz hq)
      · rcases bD with h | h
        · exact Nat.le_trans h bM
        · exact Nat.le_trans h (by decide +kernel)
      · have bu : (us.getD j 0).natAbs ≤ 2 * U := Nat.le_trans (getD_bd bU j) (by omega)
        rw [Int.natAbs_mul]
        rcases bF i with h | h
        · by_cases hi : i < bs.length
          · have m : bs.getD i 0 ∈ bs := by rw [getD_at hi]; exact List.getElem_mem _
            exact Nat.le_trans (Nat.mul_le_mul h bu) (Nat.le_trans (I.bb _ m) (Nat.le_trans hTU (by decide +kernel)))
          · rw [getD_out (by omega)] at h
            rw [show (F i).natAbs = 0 by simpa using h, Nat.zero_mul]
            exact Nat.zero_le _
        · exact Nat.le_trans (Nat.mul_le_mul h (Nat.le_trans bu (Nat.mul_le_mul_left 2 u150))) (by decide +kernel)
      · rcases bG j with h | h
        · exact Nat.le_trans h (Nat.le_trans (getD_bd bls j) (by decide +kernel))
        · exact Nat.le_trans h (by decide +kernel)
theorem sc_law_e_fill : FnScope ["cell", "at", "x"] ["cell", "at"] (defScope s_law_e_fill) := ⟨rfl, rfl, rfl, by decide +kernel, rfl, by decide +kernel, by decide +kernel⟩
theorem ok_law_e_fill (T : Txt K mg t) : FnOk P w K mg base CX0 1 t.f_law_e_fill t.d_law_e_fill ["cell", "at"] spFill := by
  have S := sc_law_e_fill
  refine T.F_law_e_fill.ok S (fun vs H Q E h => ?_) (fun cdv A outer s H vs Q E hr h => ?_)
  · obtain ⟨c, a, rfl, _⟩ := h
    rfl
  · obtain ⟨c, a, rfl, ha, k⟩ := h
    refine ⟨_, (@pss_cons _ _ _ _ _ (@ps_if _ _ _ _ _ _ _ _ (@pt_cmpR _ _ _ _ _ _ _ _ op_ge (pv 0) (@pe_op _ _ _ _ _ _ _ _ op_pow pe_int pe_int) (nomark _)) (@pss_one _ _ _ (@ps_ret _ _ _ _ (pv 0))) pss_nil)
      (@pss_cons _ _ _ _ _ (@ps_put _ _ 2 _ _ _ _ (by rfl) (by first | exact .inl rfl | exact .inr rfl | assumption) S.nd rfl (Or.inl rfl) (@pe_op _ _ _ _ _ _ _ _ op_mod (@pe_op _ _ _ _ _ _ _ _ op_add (@pe_op _ _ _ _ _ _ _ _ op_add (@pe_op _ _ _ _ _ _ _ _ op_mul (@pe_op _ _ _ _ _ _ _ _ op_mod (pv 0) pe_int) pe_int) (@pe_op _ _ _ _ _ _ _ _ op_mul (pv 1) pe_int)) pe_int) pe_int))
      (@pss_cons _ _ _ _ _ (@ps_put _ _ 2 _ _ _ _ (by rfl) (by first | exact .inl rfl | exact .inr rfl | assumption) S.nd rfl (Or.inl rfl) (@pe_op _ _ _ _ _ _ _ _ op_mod (@pe_op _ _ _ _ _ _ _ _ op_add (@pe_op _ _ _ _ _ _ _ _ op_add (@pe_op _ _ _ _ _ _ _ _ op_add (@pe_op _ _ _ _ _ _ _ _ op_mul (pv 2) (pv 2)) (@pe_op _ _ _ _ _ _ _ _ op_mul pe_int (pv 2))) (pv 1)) pe_int) pe_int))
      (@pss_one _ _ _ (@ps_ret _ _ _ _ (@pe_op _ _ _ _ _ _ _ _ op_add (@pe_op _ _ _ _ _ _ _ _ op_mul (pv 2) pe_int) (@pe_op _ _ _ _ _ _ _ _ op_mod (@pe_op _ _ _ _ _ _ _ _ op_add (@pe_op _ _ _ _ _ _ _ _ op_add (@pe_op _ _ _ _ _ _ _ _ op_mul (pv 2) (pv 2)) (@pe_op _ _ _ _ _ _ _ _ op_mul pe_int (pv 1))) pe_int) pe_int))))))), ?_⟩
    refine ⟨_, rfl, _, _, rfl, rfl, ⟨by decide, by decide, by decide⟩, _, _, rfl, rfl, _, rfl, ite2 (fun h => ?_) (fun h => ?_)⟩
    · have h := of_decide_eq_true h
      exact ⟨_, rfl, k _ (Int.le_trans (by decide) h)⟩
    · refine ⟨_, rfl, _, _, rfl, rfl, (by show (0 : Int) < 2147483647; decide), _, _, rfl, rfl, .inr ⟨by decide, by decide⟩, _, rfl, _, _, rfl, rfl, .inr ⟨by decide, by decide⟩, _, _, rfl, rfl, _, _, rfl, rfl, _, _, rfl, rfl, (by show (0 : Int) < 2147483399; decide), ?_⟩
      have b0 := Int.emod_nonneg (c % 2147483647 * 40692 + a * 65539 + 7) (show (2147483399 : Int) ≠ 0 by decide)
      have b1 := Int.emod_lt_of_pos (c % 2147483647 * 40692 + a * 65539 + 7) (show (0 : Int) < 2147483399 by decide)
      generalize (c % 2147483647 * 40692 + a * 65539 + 7) % 2147483399 = x at b0 b1 ⊢
      refine ⟨_, rfl, _, rfl, _, _, rfl, rfl, .inl ⟨by omega, by omega⟩, _, rfl, _, _, rfl, rfl, .inl ⟨by decide, by decide⟩, _, _, rfl, rfl, _, rfl, _, _, rfl, rfl, _, _, rfl, rfl, _, _, rfl, rfl, (by show (0 : Int) < 2147483563; decide), ?_⟩
      have c0 := Int.emod_nonneg (x * x + 40014 * x + a + 1) (show (2147483563 : Int) ≠ 0 by decide)
      have c1 := Int.emod_lt_of_pos (x * x + 40014 * x + a + 1) (show (0 : Int) < 2147483563 by decide)
      generalize (x * x + 40014 * x + a + 1) % 2147483563 = y at c0 c1 ⊢
      refine ⟨_, rfl, _, _, rfl, rfl, .inr ⟨by decide, by decide⟩, _, rfl, _, rfl, _, _, rfl, rfl, .inl ⟨by omega, by omega⟩, _, rfl, _, _, rfl, rfl, .inl ⟨by decide, by decide⟩, _, _, rfl, rfl, _, _, rfl, rfl, _, _, rfl, rfl, (by show (0 : Int) < 2147483543; decide), _, _, rfl, rfl, k _ (Int.add_nonneg (Int.mul_nonneg (Int.emod_nonneg _ (by decide)) (by decide)) (Int.emod_nonneg _ (by decide)))⟩
theorem sc_law_e_next : FnScope ["pen", "many", "at", "cell", "found"] ["pen", "many"] (defScope s_law_e_next) := ⟨rfl, rfl, rfl, by decide +kernel, rfl, by decide +kernel, by decide +kernel⟩
theorem ok_law_e_next (T : Txt K mg t) : FnOk P w K mg base CX0 2 t.f_law_e_next t.d_law_e_next ["pen", "many"] (spNext K) := by
  have S := sc_law_e_next
  have G_law_e_fill := ok_law_e_fill (P := P) (w := w) (base := base) T
  refine T.F_law_e_next.ok S (fun vs H Q E h => ?_) (fun cdv A outer s H vs Q E hr h => ?_)
  · obtain ⟨P0, a, ns, many, rfl, _⟩ := h
    rfl
  · obtain ⟨P0, a, ns, many, rfl, ⟨x, y, eP, hx, hy⟩, hS, m1, mm, k⟩ := h
    have hu8 := hr.units
    refine ⟨_, (@pss_cons _ _ _ _ _ (@ps_if _ _ _ _ _ _ _ _ (@pt_cmpR _ _ _ _ _ _ _ _ op_lt (@pe_ix _ _ _ _ _ _ _ ix_list (pv 0) pe_int (fun _ _ => rfl)) (pv 1) (nomark _)) (@pss_cons _ _ _ _ _ (@ps_put _ _ 2 _ _ _ _ (by rfl) (by first | exact .inl rfl | exact .inr rfl | assumption) S.nd rfl (Or.inl rfl) (@pe_ix _ _ _ _ _ _ _ ix_list (pv 0) pe_int (fun _ _ => rfl)))
      (@pss_cons _ _ _ _ _ (@ps_put _ _ 3 _ _ _ _ (by rfl) (by first | exact .inl rfl | exact .inr rfl | assumption) S.nd rfl (Or.inl rfl) pe_int)
      (@pss_cons _ _ _ _ _ (@ps_if _ _ _ _ _ _ _ _ (@pt_cmpR _ _ _ _ _ _ _ _ op_lt (pv 2) (pe_callB call_len_seq rfl T.n_len boot_len (@pa_mor _ _ _ _ _ (by rfl) (@pe_ix _ _ _ _ _ _ _ ix_list (pv 0) pe_int (fun _ _ => rfl)) pa_nil)) (nomark _)) (@pss_one _ _ _ (@ps_put _ _ 3 _ _ _ _ (by rfl) (by first | exact .inl rfl | exact .inr rfl | assumption) S.nd rfl (Or.inl rfl) (@pe_ix _ _ _ _ _ _ _ ix_list (@pe_ix _ _ _ _ _ _ _ ix_list (pv 0) pe_int (fun _ _ => rfl)) (pv 2) (fun _ _ => rfl)))) (@pss_one _ _ _ (@ps_if _ _ _ _ _ _ _ _ (@pt_cmpR _ _ _ _ _ _ _ _ (op_neE hu8) (@pe_ix _ _ _ _ _ _ _ ix_list (pv 0) pe_int (fun _ _ => rfl)) (@pe_lst _ _ _ _ pa_nil) (nomark _)) (@pss_one _ _ _ (@ps_put _ _ 3 _ _ _ _ (by rfl) (by first | exact .inl rfl | exact .inr rfl | assumption) S.nd rfl (Or.inl rfl) (@pe_op _ _ _ _ _ _ _ _ op_add (@pe_op _ _ _ _ _ _ _ _ op_mod (@pe_ix _ _ _ _ _ _ _ ix_list (@pe_ix _ _ _ _ _ _ _ ix_list (pv 0) pe_int (fun _ _ => rfl)) (@pe_op _ _ _ _ _ _ _ _ op_mod (@pe_op _ _ _ _ _ _ _ _ op_mul (pv 2) pe_int) (pe_callB call_len_seq rfl T.n_len boot_len (@pa_mor _ _ _ _ _ (by rfl) (@pe_ix _ _ _ _ _ _ _ ix_list (pv 0) pe_int (fun _ _ => rfl)) pa_nil))) (fun _ _ => rfl)) pe_int) (@pe_op _ _ _ _ _ _ _ _ op_mul (pv 2) pe_int)))) pss_nil)))
      (@pss_cons _ _ _ _ _ (@ps_asg _ _ _ _ _ _ (@pe_op _ _ _ _ _ _ _ _ op_add (pv 2) pe_int) (pg_sub (pv 0) pe_int set_list) (by rfl) (by rfl) (by rfl))
      (@pss_one _ _ _ (@ps_asg _ _ _ _ _ _ (pe_call G_law_e_fill (hr.mono (by decide)) rfl T.mg_law_e_fill T.F_law_e_fill.kp T.b_law_e_fill .nil pass0 (@pa_mor _ _ _ _ _ (by rfl) (pv 3) (@pa_mor _ _ _ _ _ (by rfl) (pv 2) pa_nil))) (pg_sub (pv 0) pe_int set_list) (by rfl) (by rfl) (by rfl))))))) pss_nil)
      (@pss_cons _ _ _ _ _ (@ps_put _ _ 4 _ _ _ _ (by rfl) (by first | exact .inl rfl | exact .inr rfl | assumption) S.nd rfl (Or.inl rfl) (@pe_op _ _ _ _ _ _ _ _ op_mod (@pe_ix _ _ _ _ _ _ _ ix_list (pv 0) pe_int (fun _ _ => rfl)) (pv 1)))
      (@pss_cons _ _ _ _ _ (@ps_asg _ _ _ _ _ _ (@pe_op _ _ _ _ _ _ _ _ op_fdivP (@pe_ix _ _ _ _ _ _ _ ix_list (pv 0) pe_int (fun _ _ => rfl)) (pv 1)) (pg_sub (pv 0) pe_int set_list) (by rfl) (by rfl) (by rfl))
      (@pss_one _ _ _ (@ps_ret _ _ _ _ (pv 4)))))), ?_⟩
    have hS' := er_le.seq hS
    refine ⟨_, rfl, P0, _, _, _, rfl, rfl, .of eP, rfl, _, rfl, _, _, rfl, rfl, _, rfl, ite2 (fun hlt => ?_) (fun hlt => ?_)⟩
    · refine ⟨_, rfl, P0, _, _, _, rfl, rfl, .of eP, rfl, ?_⟩
      refine ⟨_, rfl, _, rfl, P0, _, _, _, rfl, rfl, .of eP, rfl, a, ns.map V.int, rfl, .inl hS', _, _, rfl, rfl, _, rfl, ite2 (fun h1 => ?_) (fun h1 => ?_)⟩
      · have h1 : x < ((ns.map V.int).length : Int) := of_decide_eq_true h1
        obtain ⟨v, hv, mv⟩ := atI_some (xs := ns.map V.int) hx h1
        obtain ⟨c, _, rfl⟩ := List.mem_map.mp mv
        refine ⟨_, rfl, P0, _, _, _, rfl, rfl, .of eP, rfl, _, rfl, a, ns.map V.int, _, _, rfl, rfl, hS', hv, ?_⟩
        refine ⟨_, rfl, _, _, rfl, rfl, _, rfl, P0, _, 1, 1, rfl, rfl, eP, rfl, ?_⟩
        refine ⟨_, rfl, _, rfl, c, x, rfl, hx, fun r hr' => ⟨_, rfl, P0, _, 2, 2, rfl, rfl, upd_same, rfl, ?_⟩⟩
        have q0 := Int.emod_nonneg (r) (show many ≠ 0 by omega)
        have q1 := Int.emod_lt_of_pos (r) (show 0 < many by omega)
        have q2 := Int.ediv_nonneg (hr') (show 0 ≤ many by omega)
        refine ⟨_, rfl, P0, _, _, _, rfl, rfl, .of upd_same, rfl, _, rfl, _, _, rfl, rfl, (show 0 < many by omega), ?_⟩
        refine ⟨_, rfl, P0, _, _, _, rfl, rfl, .of upd_same, rfl, _, rfl, _, _, rfl, rfl, ⟨show 0 < many by omega, mm⟩, _, rfl, P0, _, 2, 2, rfl, rfl, upd_same, rfl, ?_⟩
        exact ⟨_, rfl, k _ _ q0 q1 (((SameE.refl H).trans SameE.pen).trans (SameE.pen.trans SameE.pen)) ⟨x + 1, r / many, upd_same, by omega, q2⟩⟩
      · refine ⟨_, rfl, P0, _, _, _, rfl, rfl, .of eP, rfl, by show 0 ≤ sizeLine; decide, fun l nl => ?_⟩
        have sl : Same H (upd H l (.lst [])) := same_upd nl
        refine ⟨a, l, ns.map V.int, rfl, rfl, sl.seq hS', upd_same, fun v hv => ?_, _, rfl, ?_⟩
        · obtain ⟨c, _, rfl⟩ := List.mem_map.mp hv
          exact ⟨c, rfl⟩
        have eP2 := sl _ _ eP
        have hS2 := sl.seq hS'
        generalize upd H l (.lst []) = H2 at sl eP2 hS2 ⊢
        refine ite2 (fun h2 => ?_) (fun h2 => ?_)
        · have hl : 0 < (ns.map V.int).length := by
            cases ns with
            | nil => simp at h2
            | cons => simp
          have hm0 := Int.emod_nonneg (x * 5) (show ((ns.map V.int).length : Int) ≠ 0 by omega)
          have hm1 := Int.emod_lt_of_pos (x * 5) (show (0 : Int) < ((ns.map V.int).length : Int) by omega)
          obtain ⟨v, hv, mv⟩ := atI_some (xs := ns.map V.int) hm0 hm1
          obtain ⟨c, _, rfl⟩ := List.mem_map.mp mv
          refine ⟨_, rfl, P0, _, _, _, rfl, rfl, .of eP2, rfl, _, rfl, _, _, rfl, rfl, .inr ⟨by decide, by decide⟩, _, rfl, P0, _, _, _, rfl, rfl, .of eP2, rfl, a, ns.map V.int, rfl, .inl hS2, _, _, rfl, rfl, (show (0 : Int) < ((ns.map V.int).length : Int) by omega), a, ns.map V.int, _, _, rfl, rfl, hS2, hv, _, _, rfl, rfl, (show (0 : Int) < 1000003 by decide), _, rfl, _, _, rfl, rfl, .inr ⟨by decide, by decide⟩, _, _, rfl, rfl, ?_⟩
          refine ⟨_, rfl, _, _, rfl, rfl, _, rfl, P0, _, 1, 1, rfl, rfl, eP2, rfl, ?_⟩
          refine ⟨_, rfl, _, rfl, _, x, rfl, hx, fun r hr' => ⟨_, rfl, P0, _, 2, 2, rfl, rfl, upd_same, rfl, ?_⟩⟩
          have q0 := Int.emod_nonneg (r) (show many ≠ 0 by omega)
          have q1 := Int.emod_lt_of_pos (r) (show 0 < many by omega)
          have q2 := Int.ediv_nonneg (hr') (show 0 ≤ many by omega)
          refine ⟨_, rfl, P0, _, _, _, rfl, rfl, .of upd_same, rfl, _, rfl, _, _, rfl, rfl, (show 0 < many by omega), ?_⟩
          refine ⟨_, rfl, P0, _, _, _, rfl, rfl, .of upd_same, rfl, _, rfl, _, _, rfl, rfl, ⟨show 0 < many by omega, mm⟩, _, rfl, P0, _, 2, 2, rfl, rfl, upd_same, rfl, ?_⟩
          exact ⟨_, rfl, k _ _ q0 q1 (((SameE.of sl).trans SameE.pen).trans (SameE.pen.trans SameE.pen)) ⟨x + 1, r / many, upd_same, by omega, q2⟩⟩
        ·
          refine ⟨_, rfl, _, _, rfl, rfl, _, rfl, P0, _, 1, 1, rfl, rfl, eP2, rfl, ?_⟩
          refine ⟨_, rfl, _, rfl, 0, x, rfl, hx, fun r hr' => ⟨_, rfl, P0, _, 2, 2, rfl, rfl, upd_same, rfl, ?_⟩⟩
          have q0 := Int.emod_nonneg (r) (show many ≠ 0 by omega)
          have q1 := Int.emod_lt_of_pos (r) (show 0 < many by omega)
          have q2 := Int.ediv_nonneg (hr') (show 0 ≤ many by omega)
          refine ⟨_, rfl, P0, _, _, _, rfl, rfl, .of upd_same, rfl, _, rfl, _, _, rfl, rfl, (show 0 < many by omega), ?_⟩
          refine ⟨_, rfl, P0, _, _, _, rfl, rfl, .of upd_same, rfl, _, rfl, _, _, rfl, rfl, ⟨show 0 < many by omega, mm⟩, _, rfl, P0, _, 2, 2, rfl, rfl, upd_same, rfl, ?_⟩
          exact ⟨_, rfl, k _ _ q0 q1 (((SameE.of sl).trans SameE.pen).trans (SameE.pen.trans SameE.pen)) ⟨x + 1, r / many, upd_same, by omega, q2⟩⟩
    · dsimp only [tNext]
      have q0 := Int.emod_nonneg (y) (show many ≠ 0 by omega)
      have q1 := Int.emod_lt_of_pos (y) (show 0 < many by omega)
      have q2 := Int.ediv_nonneg (hy) (show 0 ≤ many by omega)
      refine ⟨_, rfl, P0, _, _, _, rfl, rfl, .of eP, rfl, _, rfl, _, _, rfl, rfl, (show 0 < many by omega), ?_⟩
      refine ⟨_, rfl, P0, _, _, _, rfl, rfl, .of eP, rfl, _, rfl, _, _, rfl, rfl, ⟨show 0 < many by omega, mm⟩, _, rfl, P0, _, 2, 2, rfl, rfl, eP, rfl, ?_⟩
      exact ⟨_, rfl, k _ _ q0 q1 (SameE.pen) ⟨x, y / many, upd_same, hx, q2⟩⟩
theorem sc_law_e_low : FnScope ["top", "bottom", "one", "other"] ["top", "bottom"] (defScope s_law_e_low) := ⟨rfl, rfl, rfl, by decide +kernel, rfl, by decide +kernel, by decide +kernel⟩
theorem ok_law_e_low (T : Txt K mg t) : FnOk P w K mg base CX0 1 t.f_law_e_low t.d_law_e_low ["top", "bottom"] spLow := by
  have S := sc_law_e_low
  refine T.F_law_e_low.ok S (fun vs H Q E h => ?_) (fun cdv A outer s H vs Q E hr h => ?_)
  · obtain ⟨a, b, rfl, _⟩ := h
    rfl
  · obtain ⟨a, b, rfl, hb, mb, k⟩ := h
    refine ⟨_, (@pss_cons _ _ _ _ _ (@ps_put _ _ 2 _ _ _ _ (by rfl) (by first | exact .inl rfl | exact .inr rfl | assumption) S.nd rfl (Or.inl rfl) (pe_callB call_abs rfl T.n_abs boot_abs (@pa_mor _ _ _ _ _ (by rfl) (pv 0) pa_nil)))
      (@pss_cons _ _ _ _ _ (@ps_put _ _ 3 _ _ _ _ (by rfl) (by first | exact .inl rfl | exact .inr rfl | assumption) S.nd rfl (Or.inl rfl) (pe_callB call_abs rfl T.n_abs boot_abs (@pa_mor _ _ _ _ _ (by rfl) (pv 1) pa_nil)))
      (@pss_cons _ _ _ _ _ (@ps_while _ _ _ _ _ _ PassesOwn.never (@pt_cmpR _ _ _ _ _ _ _ _ op_ne (pv 3) pe_int (nomark _)) (@pss_one _ _ _ (ps_par (i := 2) (j := 3) rfl S.nd rfl rfl (by decide) rfl rfl (@pa_mor _ _ _ _ _ (by rfl) (pv 3) (@pa_mor _ _ _ _ _ (by rfl) (@pe_op _ _ _ _ _ _ _ _ op_mod (pv 2) (pv 3)) pa_nil)) rfl)))
      (@pss_cons _ _ _ _ _ (@ps_if _ _ _ _ _ _ _ _ (@pt_cmpR _ _ _ _ _ _ _ _ op_lt (pv 1) pe_int (nomark _)) (@pss_one _ _ _ (@ps_put _ _ 2 _ _ _ _ (by rfl) (by first | exact .inl rfl | exact .inr rfl | assumption) S.nd rfl (Or.inl rfl) (@pe_un _ _ _ _ _ _ un_neg (pv 2)))) pss_nil)
      (@pss_one _ _ _ (@ps_ret _ _ _ _ (@pe_tup _ _ _ _ _ (@pa_mor _ _ _ _ _ (by rfl) (@pe_op _ _ _ _ _ _ _ _ op_fdivM (pv 0) (pv 2)) (@pa_mor _ _ _ _ _ (by rfl) (@pe_op _ _ _ _ _ _ _ _ op_fdivM (pv 1) (pv 2)) pa_nil))))))))), ?_⟩
    have ok := lowG_ok (a := a) hb mb
    refine ⟨_, rfl, a, rfl, _, rfl, b, rfl, fun m σ H' => H' = H ∧ ∃ (x y : Nat), σ = [some (.int a), some (.int b), some (.int (x : Int)), some (.int (y : Int))] ∧ m = y ∧ Nat.gcd x y = Int.gcd a b, ⟨b.natAbs, rfl, a.natAbs, b.natAbs, ?_, rfl, rfl⟩, ?_⟩
    · show [some (V.int a), some (V.int b), some (V.int (if a < 0 then -a else a)), some (V.int (if b < 0 then -b else b))] = _
      rw [abs_nat, abs_nat]
    · rintro m σ H' ⟨rfl, x, y, rfl, em, hg⟩
      refine ⟨_, rfl, rfl, _, rfl, ite2 (fun hy => ?_) (fun hy => ?_)⟩
      · have hy : y ≠ 0 := fun z => by subst z; revert hy; decide
        refine ⟨fun σ' H2 => H2 = H' ∧ σ' = [some (.int a), some (.int b), some (.int (y : Int)), some (.int (((x % y : Nat)) : Int))], ?_, ?_⟩
        · rintro σ' H2 ⟨rfl, rfl⟩
          exact ⟨x % y, by rw [em]; exact Nat.mod_lt _ (by omega), rfl, y, x % y, rfl, rfl, by rw [gcd_step]; exact hg⟩
        · exact ⟨_, rfl, _, rfl, _, rfl, _, _, rfl, rfl, (show (0 : Int) < y by omega), _, _, rfl, rfl, rfl⟩
      · have y0 : y = 0 := by
          by_cases z : y = 0
          · exact z
          · refine absurd ?_ hy
            rw [dV_int, decide_eq_false (by omega)]
            rfl
        subst y0
        rw [Nat.gcd_zero_right] at hg
        have fin1 : ∀ (g : Int), g = lowG a b → ∀ (p : Addr), H' p = none → Q (.ref p) (upd H' p (.tup [.int (a.fdiv g), .int (b.fdiv g)])) := fun g e p hp => by
          rw [e]
          exact k p _ (same_upd hp) upd_same
        refine ⟨_, rfl, _, _, rfl, rfl, _, rfl, ite2 (fun hn => ?_) (fun hn => ?_)⟩
        · have hn : b < 0 := of_decide_eq_true hn
          have eg : -(x : Int) = lowG a b := by unfold lowG; rw [if_pos hn, hg, Int.zero_sub]
          have ok2 : CDivM 0 (-(x : Int)) := by rw [eg]; exact ok
          exact ⟨_, rfl, _, rfl, _, rfl, _, rfl, _, _, rfl, rfl, ok2, _, rfl, _, rfl, _, _, rfl, rfl, ok2, by show 2 ≤ sizeLine; decide, fin1 _ eg⟩
        · have hn : ¬ b < 0 := fun z => hn (decide_eq_true z)
          have eg : (x : Int) = lowG a b := by unfold lowG; rw [if_neg hn, hg]
          have ok2 : CDivM 0 (x : Int) := by rw [eg]; exact ok
          exact ⟨_, rfl, _, rfl, _, _, rfl, rfl, ok2, _, rfl, _, rfl, _, _, rfl, rfl, ok2, by show 2 ≤ sizeLine; decide, fin1 _ eg⟩
theorem sc_law_e_of : FnScope ["told", "number"] ["told", "number"] (defScope s_law_e_of) := ⟨rfl, rfl, rfl, by decide +kernel, rfl, by decide +kernel, by decide +kernel⟩
theorem ok_law_e_of (T : Txt K mg t) {B : Nat} : FnOk P w K mg base CX0 1 t.f_law_e_of t.d_law_e_of ["told", "number"] (spEOf B) := by
  have S := sc_law_e_of
  refine T.F_law_e_of.ok S (fun vs H Q E h => ?_) (fun cdv A outer s H vs Q E hr h => ?_)
  · obtain ⟨td, q, i, rfl, _⟩ := h
    rfl
  · obtain ⟨td, q, i, rfl, ht, hq, bi, b1, k⟩ := h
    refine ⟨_, (@pss_cons _ _ _ _ _ (@ps_if _ _ _ _ _ _ _ _ (@pt_cmpR _ _ _ _ _ _ _ _ op_eq (@pe_ix _ _ _ _ _ _ _ ix_tup (pv 0) pe_int (fun _ _ => rfl)) pe_str (nomark _)) (@pss_one _ _ _ (@ps_ret _ _ _ _ (@pe_op _ _ _ _ _ _ _ _ op_mod (pv 1) (@pe_ix _ _ _ _ _ _ _ ix_tup (pv 0) pe_int (fun _ _ => rfl))))) pss_nil)
      (@pss_one _ _ _ (@ps_ret _ _ _ _ (@pe_tup _ _ _ _ _ (@pa_mor _ _ _ _ _ (by rfl) (pv 1) (@pa_mor _ _ _ _ _ (by rfl) pe_int pa_nil)))))), ?_⟩
    unfold ToldAt at ht
    by_cases z : q = 0
    · subst z
      rw [tdOf_zero] at ht
      refine ⟨_, rfl, td, _, _, _, rfl, rfl, .of ht, rfl, rfl, false, by decide +kernel, iteF ?_⟩
      refine ⟨_, rfl, by show 2 ≤ sizeLine; decide, fun r nr => k _ _ (same_upd nr) ?_⟩
      unfold ofP
      rw [if_pos rfl]
      exact .frac upd_same ⟨show (1 : Int) ≤ 1 by decide, Int.gcd_one_right ..⟩ bi (by show Int.natAbs 1 ≤ B; omega)
    · rw [tdOf_pos z] at ht
      obtain ⟨q2, q3, q4⟩ := hq.resolve_left z
      refine ⟨_, rfl, td, _, _, _, rfl, rfl, .of ht, rfl, rfl, true, by decide +kernel, iteT ?_⟩
      refine ⟨_, rfl, _, rfl, td, _, _, _, rfl, rfl, .of ht, rfl, _, _, rfl, rfl, (show 0 < q by omega), k _ H (Same.refl H) ?_⟩
      unfold ofP
      rw [if_neg z]
      exact .rem (Int.emod_nonneg _ z) (Int.emod_lt_of_pos _ (by omega)) q3
theorem sc_law_e_plus : FnScope ["told", "a", "b"] ["told", "a", "b"] (defScope s_law_e_plus) := ⟨rfl, rfl, rfl, by decide +kernel, rfl, by decide +kernel, by decide +kernel⟩
theorem ok_law_e_plus (T : Txt K mg t) : FnOk P w K mg base CX0 2 t.f_law_e_plus t.d_law_e_plus ["told", "a", "b"] (spEArith3 addP) := by
  have S := sc_law_e_plus
  have G_law_e_low := ok_law_e_low (P := P) (w := w) (base := base) T
  refine T.F_law_e_plus.ok S (fun vs H Q E h => ?_) (fun cdv A outer s H vs Q E hr h => ?_)
  · obtain ⟨td, q, v, u, p, r, B, rfl, _⟩ := h
    rfl
  · obtain ⟨td, q, v, u, ⟨x, m⟩, ⟨y, n⟩, B, rfl, ht, hq, hv, hu, b1, b60, k⟩ := h
    refine ⟨_, (@pss_cons _ _ _ _ _ (@ps_if _ _ _ _ _ _ _ _ (@pt_cmpR _ _ _ _ _ _ _ _ op_eq (@pe_ix _ _ _ _ _ _ _ ix_tup (pv 0) pe_int (fun _ _ => rfl)) pe_str (nomark _)) (@pss_one _ _ _ (@ps_ret _ _ _ _ (@pe_op _ _ _ _ _ _ _ _ op_mod (@pe_op _ _ _ _ _ _ _ _ op_add (pv 1) (pv 2)) (@pe_ix _ _ _ _ _ _ _ ix_tup (pv 0) pe_int (fun _ _ => rfl))))) pss_nil)
      (@pss_one _ _ _ (@ps_ret _ _ _ _ (pe_call G_law_e_low (hr.mono (by decide)) rfl T.mg_law_e_low T.F_law_e_low.kp T.b_law_e_low .nil pass0 (@pa_mor _ _ _ _ _ (by rfl) (@pe_op _ _ _ _ _ _ _ _ op_add (@pe_op _ _ _ _ _ _ _ _ op_mulM (@pe_ix _ _ _ _ _ _ _ ix_tup (pv 1) pe_int (fun _ _ => rfl)) (@pe_ix _ _ _ _ _ _ _ ix_tup (pv 2) pe_int (fun _ _ => rfl))) (@pe_op _ _ _ _ _ _ _ _ op_mulM (@pe_ix _ _ _ _ _ _ _ ix_tup (pv 2) pe_int (fun _ _ => rfl)) (@pe_ix _ _ _ _ _ _ _ ix_tup (pv 1) pe_int (fun _ _ => rfl)))) (@pa_mor _ _ _ _ _ (by rfl) (@pe_op _ _ _ _ _ _ _ _ op_mulM (@pe_ix _ _ _ _ _ _ _ ix_tup (pv 1) pe_int (fun _ _ => rfl)) (@pe_ix _ _ _ _ _ _ _ ix_tup (pv 2) pe_int (fun _ _ => rfl))) pa_nil)))))), ?_⟩
    unfold ToldAt at ht
    have bB : B ≤ 2 * B * B := Nat.le_trans (Nat.le_mul_of_pos_left B (by omega)) (Nat.le_mul_of_pos_right _ (by omega))
    have big : ∀ {x : Int}, x.natAbs ≤ B → Mid x := fun h => Mid.of300 b60 (Nat.le_trans h bB)
    by_cases z : q = 0
    · subst z
      rw [tdOf_zero] at ht
      refine ⟨_, rfl, td, _, _, _, rfl, rfl, .of ht, rfl, rfl, false, by decide +kernel, iteF ?_⟩
      dsimp only at hv hu
      cases hv with
      | frac e l bx bm =>
        rename_i p
        cases hu with
        | frac e' l' bx' bm' =>
          rename_i p'
          have m0 := l.pos
          have n0 := l'.pos
          have mn : 0 < m * n := Int.mul_pos (by omega) (by omega)
          have bmn : (m * n).natAbs ≤ 2 * B * B := by
            rw [Int.natAbs_mul]
            exact Nat.le_trans (Nat.mul_le_mul bm bm') (Nat.mul_le_mul_right _ (by omega))
          have bt : (x * n + y * m).natAbs ≤ 2 * B * B := by
            refine Nat.le_trans (Int.natAbs_add_le ..) ?_
            rw [Int.natAbs_mul, Int.natAbs_mul]
            refine Nat.le_trans (Nat.add_le_add (Nat.mul_le_mul bx bm') (Nat.mul_le_mul bx' bm)) (Nat.le_of_eq ?_)
            rw [Nat.mul_assoc, Nat.two_mul]
          refine ⟨_, rfl, p, _, _, _, rfl, rfl, .of e, rfl, _, rfl, p', _, _, _, rfl, rfl, .of e', rfl, _, _, rfl, rfl, ⟨big bx, big bm'⟩, _, rfl, p', _, _, _, rfl, rfl, .of e', rfl, _, rfl, p, _, _, _, rfl, rfl, .of e, rfl, _, _, rfl, rfl, ⟨big bx', big bm⟩, _, _, rfl, rfl, _, rfl, p, _, _, _, rfl, rfl, .of e, rfl, _, rfl, p', _, _, _, rfl, rfl, .of e', rfl, _, _, rfl, rfl, ⟨big bm, big bm'⟩, _, _, rfl, Int.ne_of_gt mn, Mid.of300 b60 bmn, fun r H' s' er' => k _ H' s' ?_⟩
          unfold addP
          rw [if_pos rfl]
          exact low_num er' (show 1 ≤ m * n by omega) bt bmn
        | rem h0 h1 h2 => omega
      | rem h0 h1 h2 => omega
    · rw [tdOf_pos z] at ht
      obtain ⟨q2, q3, q4⟩ := hq.resolve_left z
      refine ⟨_, rfl, td, _, _, _, rfl, rfl, .of ht, rfl, rfl, true, by decide +kernel, iteT ?_⟩
      dsimp only at hv hu
      cases hv with
      | frac => omega
      | rem h0 h1 h2 =>
        cases hu with
        | frac => omega
        | rem h0' h1' h2' =>
          refine ⟨_, rfl, _, rfl, _, _, rfl, rfl, _, rfl, td, _, _, _, rfl, rfl, .of ht, rfl, _, _, rfl, rfl, (show 0 < q by omega), k _ H (Same.refl H) ?_⟩
          unfold addP
          rw [if_neg z]
          exact .rem (Int.emod_nonneg _ z) (Int.emod_lt_of_pos _ (by omega)) q3
theorem sc_law_e_times : FnScope ["told", "a", "b"] ["told", "a", "b"] (defScope s_law_e_times) := ⟨rfl, rfl, rfl, by decide +kernel, rfl, by decide +kernel, by decide +kernel⟩
theorem ok_law_e_times (T : Txt K mg t) : FnOk P w K mg base CX0 2 t.f_law_e_times t.d_law_e_times ["told", "a", "b"] (spEArith3 mulQ) := by
  have S := sc_law_e_times
  have G_law_e_low := ok_law_e_low (P := P) (w := w) (base := base) T
  refine T.F_law_e_times.ok S (fun vs H Q E h => ?_) (fun cdv A outer s H vs Q E hr h => ?_)
  · obtain ⟨td, q, v, u, p, r, B, rfl, _⟩ := h
    rfl
  · obtain ⟨td, q, v, u, ⟨x, m⟩, ⟨y, n⟩, B, rfl, ht, hq, hv, hu, b1, b60, k⟩ := h
    refine ⟨_, (@pss_cons _ _ _ _ _ (@ps_if _ _ _ _ _ _ _ _ (@pt_cmpR _ _ _ _ _ _ _ _ op_eq (@pe_ix _ _ _ _ _ _ _ ix_tup (pv 0) pe_int (fun _ _ => rfl)) pe_str (nomark _)) (@pss_one _ _ _ (@ps_ret _ _ _ _ (@pe_op _ _ _ _ _ _ _ _ op_mod (@pe_op _ _ _ _ _ _ _ _ op_mul (pv 1) (pv 2)) (@pe_ix _ _ _ _ _ _ _ ix_tup (pv 0) pe_int (fun _ _ => rfl))))) pss_nil)
      (@pss_one _ _ _ (@ps_ret _ _ _ _ (pe_call G_law_e_low (hr.mono (by decide)) rfl T.mg_law_e_low T.F_law_e_low.kp T.b_law_e_low .nil pass0 (@pa_mor _ _ _ _ _ (by rfl) (@pe_op _ _ _ _ _ _ _ _ op_mulM (@pe_ix _ _ _ _ _ _ _ ix_tup (pv 1) pe_int (fun _ _ => rfl)) (@pe_ix _ _ _ _ _ _ _ ix_tup (pv 2) pe_int (fun _ _ => rfl))) (@pa_mor _ _ _ _ _ (by rfl) (@pe_op _ _ _ _ _ _ _ _ op_mulM (@pe_ix _ _ _ _ _ _ _ ix_tup (pv 1) pe_int (fun _ _ => rfl)) (@pe_ix _ _ _ _ _ _ _ ix_tup (pv 2) pe_int (fun _ _ => rfl))) pa_nil)))))), ?_⟩
    unfold ToldAt at ht
    have bB : B ≤ 2 * B * B := Nat.le_trans (Nat.le_mul_of_pos_left B (by omega)) (Nat.le_mul_of_pos_right _ (by omega))
    have big : ∀ {x : Int}, x.natAbs ≤ B → Mid x := fun h => Mid.of300 b60 (Nat.le_trans h bB)
    by_cases z : q = 0
    · subst z
      rw [tdOf_zero] at ht
      refine ⟨_, rfl, td, _, _, _, rfl, rfl, .of ht, rfl, rfl, false, by decide +kernel, iteF ?_⟩
      dsimp only at hv hu
      cases hv with
      | frac e l bx bm =>
        rename_i p
        cases hu with
        | frac e' l' bx' bm' =>
          rename_i p'
          have m0 := l.pos
          have n0 := l'.pos
          have mn : 0 < m * n := Int.mul_pos (by omega) (by omega)
          have bmn : (m * n).natAbs ≤ 2 * B * B := by
            rw [Int.natAbs_mul]
            exact Nat.le_trans (Nat.mul_le_mul bm bm') (Nat.mul_le_mul_right _ (by omega))
          have bt : (x * y).natAbs ≤ 2 * B * B := by
            rw [Int.natAbs_mul]
            exact Nat.le_trans (Nat.mul_le_mul bx bx') (Nat.mul_le_mul_right _ (by omega))
          refine ⟨_, rfl, p, _, _, _, rfl, rfl, .of e, rfl, _, rfl, p', _, _, _, rfl, rfl, .of e', rfl, _, _, rfl, rfl, ⟨big bx, big bx'⟩, _, rfl, p, _, _, _, rfl, rfl, .of e, rfl, _, rfl, p', _, _, _, rfl, rfl, .of e', rfl, _, _, rfl, rfl, ⟨big bm, big bm'⟩, _, _, rfl, Int.ne_of_gt mn, Mid.of300 b60 bmn, fun r H' s' er' => k _ H' s' ?_⟩
          unfold mulQ
          rw [if_pos rfl]
          exact low_num er' (show 1 ≤ m * n by omega) bt bmn
        | rem h0 h1 h2 => omega
      | rem h0 h1 h2 => omega
    · rw [tdOf_pos z] at ht
      obtain ⟨q2, q3, q4⟩ := hq.resolve_left z
      refine ⟨_, rfl, td, _, _, _, rfl, rfl, .of ht, rfl, rfl, true, by decide +kernel, iteT ?_⟩
      dsimp only at hv hu
      cases hv with
      | frac => omega
      | rem h0 h1 h2 =>
        cases hu with
        | frac => omega
        | rem h0' h1' h2' =>
          refine ⟨_, rfl, _, rfl, _, _, rfl, rfl, .inl ⟨by omega, by omega⟩, _, rfl, td, _, _, _, rfl, rfl, .of ht, rfl, _, _, rfl, rfl, (show 0 < q by omega), k _ H (Same.refl H) ?_⟩
          unfold mulQ
          rw [if_neg z]
          exact .rem (Int.emod_nonneg _ z) (Int.emod_lt_of_pos _ (by omega)) q3
theorem sc_law_e_is_number : FnScope ["told", "a", "part"] ["told", "a"] (defScope s_law_e_is_number) := ⟨rfl, rfl, rfl, by decide +kernel, rfl, by decide +kernel, by decide +kernel⟩
theorem ok_law_e_is_number (T : Txt K mg t) : FnOk P w K mg base CX0 2 t.f_law_e_is_number t.d_law_e_is_number ["told", "a"] spEIs := by
  have S := sc_law_e_is_number
  have G_law_e_low := ok_law_e_low (P := P) (w := w) (base := base) T
  refine T.F_law_e_is_number.ok S (fun vs H Q E h => ?_) (fun cdv A outer s H vs Q E hr h => ?_)
  · obtain ⟨td, q, v, x, m, B, rfl, _⟩ := h
    rfl
  · obtain ⟨td, q, v, x, m, B, rfl, ht, hq, hv, hB, k⟩ := h
    have hu := hr.units0
    refine ⟨_, (@pss_cons _ _ _ _ _ (@ps_if _ _ _ _ _ _ _ _ (@pt_cmpR _ _ _ _ _ _ _ _ op_eq (@pe_ix _ _ _ _ _ _ _ ix_tup (pv 0) pe_int (fun _ _ => rfl)) pe_str (nomark _)) (@pss_one _ _ _ (@ps_ret _ _ _ _ (@pe_and _ _ _ _ _ _ _ (pe_callB (call_isi (K := K)) rfl T.n_isinstance boot_isinstance (@pa_mor _ _ _ _ _ (by rfl) (pv 1) (@pa_mor _ _ _ _ _ (by rfl) (pe_bltn (v := .ty "int") rfl T.n_int boot_int rfl) pa_nil))) (@pe_and _ _ _ _ _ _ _ (@pe_not _ _ _ _ (pe_callB (call_isi (K := K)) rfl T.n_isinstance boot_isinstance (@pa_mor _ _ _ _ _ (by rfl) (pv 1) (@pa_mor _ _ _ _ _ (by rfl) (pe_bltn (v := .ty "bool") rfl T.n_bool boot_bool rfl) pa_nil)))) (@pe_one _ _ _ _ _ (pe_chain op_le op_lt pe_int (pv 1) (@pe_ix _ _ _ _ _ _ _ ix_tup (pv 0) pe_int (fun _ _ => rfl)))))))) pss_nil)
      (@pss_cons _ _ _ _ _ (@ps_if _ _ _ _ _ _ _ _ (PW.pt (@pw_or _ _ _ _ _ _ _ (@pt_not _ _ _ _ (pt_val (pe_callB (call_isi (K := K)) rfl T.n_isinstance boot_isinstance (@pa_mor _ _ _ _ _ (by rfl) (pv 1) (@pa_mor _ _ _ _ _ (by rfl) (pe_bltn (v := .ty "tuple") rfl T.n_tuple boot_tuple rfl) pa_nil))))) (@pw_or1 _ _ _ _ (@pt_cmpR _ _ _ _ _ _ _ _ op_ne (pe_callB call_len_seq rfl T.n_len boot_len (@pa_mor _ _ _ _ _ (by rfl) (pv 1) pa_nil)) pe_int (nomark _))))) (@pss_one _ _ _ (@ps_ret _ _ _ _ pe_bl)) pss_nil)
      (@pss_cons _ _ _ _ _ (ps_for PassesOwn.never rfl (pi_tup (pv 1)) (pg_name (i := 2) S.nd rfl (Or.inl rfl))
        (@pss_one _ _ _ (@ps_if _ _ _ _ _ _ _ _ (PW.pt (@pw_or _ _ _ _ _ _ _ (@pt_not _ _ _ _ (pt_val (pe_callB (call_isi (K := K)) rfl T.n_isinstance boot_isinstance (@pa_mor _ _ _ _ _ (by rfl) (pv 2) (@pa_mor _ _ _ _ _ (by rfl) (pe_bltn (v := .ty "int") rfl T.n_int boot_int rfl) pa_nil))))) (@pw_or1 _ _ _ _ (pt_val (pe_callB (call_isi (K := K)) rfl T.n_isinstance boot_isinstance (@pa_mor _ _ _ _ _ (by rfl) (pv 2) (@pa_mor _ _ _ _ _ (by rfl) (pe_bltn (v := .ty "bool") rfl T.n_bool boot_bool rfl) pa_nil))))))) (@pss_one _ _ _ (@ps_ret _ _ _ _ pe_bl)) pss_nil)))
      (@pss_one _ _ _ (@ps_ret _ _ _ _ (@pe_and _ _ _ _ _ _ _ (@pe_cmpR _ _ _ _ _ _ _ _ op_gt (@pe_ix _ _ _ _ _ _ _ ix_tup (pv 1) pe_int (fun _ _ => rfl)) pe_int (nomark _)) (@pe_one _ _ _ _ _ (@pe_cmpR _ _ _ _ _ _ _ _ (op_eqT hu) (pv 1) (pe_call G_law_e_low (hr.mono (by decide)) rfl T.mg_law_e_low T.F_law_e_low.kp T.b_law_e_low .nil pass0 (@pa_mor _ _ _ _ _ (by rfl) (@pe_ix _ _ _ _ _ _ _ ix_tup (pv 1) pe_int (fun _ _ => rfl)) (@pa_mor _ _ _ _ _ (by rfl) (@pe_ix _ _ _ _ _ _ _ ix_tup (pv 1) pe_int (fun _ _ => rfl)) pa_nil))) (nomark _))))))))), ?_⟩
    unfold ToldAt at ht
    cases hv with
    | frac e l bx bm =>
      rename_i p
      rw [tdOf_zero] at ht
      refine ⟨_, rfl, td, _, _, _, rfl, rfl, .of ht, rfl, rfl, false, by decide +kernel, iteF ?_⟩
      refine ⟨_, rfl, _, _, _, true, rfl, rfl, .of (.tup e), kit_same, true, rfl, iteF ?_⟩
      refine ⟨_, rfl, p, _, rfl, .inr (.of e), rfl, false, by rw [dV_int]; rfl, iteF ?_⟩
      refine ⟨_, rfl, p, rfl, ⟨_, .of e⟩, ?_⟩
      refine for_tup (K := K) (a := p) (xs := [.int x, .int m]) (fun i σ Hc => Hc = H ∧ ∃ v2 : Option V, σ = [some (.ref td), some (.ref p), v2]) ⟨rfl, _, rfl⟩ (fun i σ Hc _ ⟨z, _⟩ => by rw [z]; exact .of e) ?_ ?_
      · rintro i v σ Hc hi ⟨rfl, v2, rfl⟩
        obtain ⟨c, rfl⟩ : ∃ c : Int, v = .int c := by
          match i, hi with
          | 0, h => cases h; exact ⟨_, rfl⟩
          | 1, h => cases h; exact ⟨_, rfl⟩
          | i + 2, h => cases h
        refine ⟨_, rfl, _, _, _, true, rfl, rfl, .of (.int c), rfl, true, rfl, iteF ?_⟩
        refine ⟨_, rfl, _, _, _, false, rfl, rfl, .of (.int c), rfl, false, rfl, iteF ?_⟩
        exact ⟨rfl, _, rfl⟩
      · rintro σ Hc ⟨rfl, v2, rfl⟩
        have m0 := l.pos
        refine ⟨_, rfl, p, _, _, _, rfl, rfl, .of e, rfl, _, _, rfl, rfl, true, by show V.bl (decide ((0 : Int) < m)) = _; rw [decide_eq_true (show (0 : Int) < m by omega)], iteT ?_⟩
        refine ⟨_, rfl, _, rfl, p, _, _, _, rfl, rfl, .of e, rfl, _, rfl, p, _, _, _, rfl, rfl, .of e, rfl, x, m, rfl, by omega, Nat.lt_of_le_of_lt (Nat.le_trans bm hB) pow300, fun r H' s' er' => ?_⟩
        have e1 : lowG x m = 1 := by unfold lowG; rw [if_neg (by omega), l.cop]; rfl
        rw [e1, Int.fdiv_one, Int.fdiv_one] at er'
        refine ⟨p, r, _, _, rfl, rfl, .of (s' _ _ e), .of er', rfl, rfl, ?_⟩
        show Q (.bl (eqL [V.int x, V.int m] [V.int x, V.int m])) H'
        rw [eqL_self]
        exact k H' s'
    | rem h0 h1 h2 =>
      have z : q ≠ 0 := by omega
      rw [tdOf_pos z] at ht
      refine ⟨_, rfl, td, _, _, _, rfl, rfl, .of ht, rfl, rfl, true, by decide +kernel, iteT ?_⟩
      refine ⟨_, rfl, _, _, _, true, rfl, rfl, .of (.int x), rfl, true, rfl, iteT ?_⟩
      refine ⟨_, rfl, _, _, _, false, rfl, rfl, .of (.int x), rfl, false, rfl, _, rfl, iteT ?_⟩
      refine ⟨_, rfl, _, _, rfl, rfl, true, by show V.bl (decide ((0 : Int) ≤ x)) = _; rw [decide_eq_true h0], iteT ?_⟩
      refine ⟨_, rfl, td, _, _, _, rfl, rfl, .of ht, rfl, _, _, rfl, rfl, ?_⟩
      show Q (.bl (decide (x < q))) H
      rw [decide_eq_true h1]
      exact k H (Same.refl H)
theorem sc_law_e_is_row : FnScope ["told", "found"] ["told", "found"] (defScope s_law_e_is_row) := ⟨rfl, rfl, rfl, by decide +kernel, rfl, by decide +kernel, by decide +kernel⟩
theorem ok_law_e_is_row (T : Txt K mg t) : FnOk P w K mg base CX0 3 t.f_law_e_is_row t.d_law_e_is_row ["told", "found"] spERowIs := by
  have S := sc_law_e_is_row
  have G_law_e_is_number := ok_law_e_is_number (P := P) (w := w) (base := base) T
  refine T.F_law_e_is_row.ok S (fun vs H Q E h => ?_) (fun cdv A outer s H vs Q E hr h => ?_)
  · obtain ⟨td, a, q, ps, B, rfl, _⟩ := h
    rfl
  · obtain ⟨td, a, q, ps, B, rfl, ht, hq, ⟨vs, ea, hl, hn⟩, h1000, hB, k⟩ := h
    refine ⟨_, (@pss_one _ _ _ (@ps_ret _ _ _ _ (@pe_and _ _ _ _ _ _ _ (pe_callB (call_isi (K := K)) rfl T.n_isinstance boot_isinstance (@pa_mor _ _ _ _ _ (by rfl) (pv 1) (@pa_mor _ _ _ _ _ (by rfl) (pe_bltn (v := .ty "list") rfl T.n_list boot_list rfl) pa_nil))) (@pe_one _ _ _ _ _ (pe_callB (call_all (K := K) rfl) rfl T.n_all boot_all (@pa_mor _ _ _ _ _ (by rfl) (pe_comp (N := ["a", "told"]) (ρ := (fun σ => [σ[0]?.join])) ⟨rfl, rfl, by decide +kernel, by decide +kernel, (List.forall_mem_cons.mpr ⟨rfl, (List.forall_mem_nil _)⟩), has_of (by rfl), rfl, by decide +kernel, rfl, (fun σ j v h => match j, h with | 0, h => ⟨0, _, rfl, rfl, join_some h, Or.inr (Or.inl rfl), .inl rfl, .inl rfl⟩ | j + 1, h => by cases h), (fun _ _ => rfl)⟩ rfl (pi_list (pv 1)) (fun s₃ H₃ fp => .nil) (fun s₃ H₃ fp => (pe_call G_law_e_is_number (hr.mono (by decide)) rfl T.mg_law_e_is_number T.F_law_e_is_number.kp T.b_law_e_is_number .nil pass0 (@pa_mor _ _ _ _ _ (by rfl) (pv 1) (@pa_mor _ _ _ _ _ (by rfl) (pv 0) pa_nil))))) pa_nil)))))), ?_⟩
    refine ⟨_, rfl, _, _, _, true, rfl, rfl, .of (.lst ea), kit_same, true, rfl, iteT ?_⟩
    refine cb_of (comp_of (xs := vs) (fun R h => ⟨_, rfl, a, rfl, ⟨_, .of ea⟩, h _ _ (Same.refl _) (jseq_list (.of ea))⟩) (by rw [hl]; exact small1000 (by omega)) (fun _ i y _ => y = .bl true) (fun _ _ _ _ _ _ h _ _ => h) ?_ ?_)
    · intro D i v hi Hc R sc _ kc
      have hi' : i < ps.length := by rw [← hl]; exact (List.getElem?_eq_some_iff.mp hi).1
      exact ⟨_, rfl, _, rfl, td, q, v, _, _, B, rfl, ht.mono sc, hq, (hn i v ps[i] hi (by simp [hi'])).mono sc, hB, fun H' s' => kc _ H' s' rfl⟩
    · intro D ys Hc sc hys hP eD
      refine ⟨D, List.replicate ys.length true, rfl, .of (by rw [eD]; exact congrArg _ (congrArg _ (bls_of hP))), ?_⟩
      rw [all_yes]
      exact k Hc sc
theorem sc_law_e_world : FnScope ["pen", "way"] ["pen"] (defScope s_law_e_world) := ⟨rfl, rfl, rfl, by decide +kernel, rfl, by decide +kernel, by decide +kernel⟩
theorem ok_law_e_world (T : Txt K mg t) : FnOk P w K mg base CX0 3 t.f_law_e_world t.d_law_e_world ["pen"] (spEWorld K) := by
  have S := sc_law_e_world
  have G_law_e_next := ok_law_e_next (P := P) (w := w) (base := base) T
  refine T.F_law_e_world.ok S (fun vs H Q E h => ?_) (fun cdv A outer s H vs Q E hr h => ?_)
  · obtain ⟨P0, a, ns, rfl, _⟩ := h
    rfl
  · obtain ⟨P0, a, ns, rfl, pc, hS, k⟩ := h
    refine ⟨_, (@pss_cons _ _ _ _ _ (@ps_put _ _ 1 _ _ _ _ (by rfl) (by first | exact .inl rfl | exact .inr rfl | assumption) S.nd rfl (Or.inl rfl) (pe_call G_law_e_next (hr.mono (by decide)) rfl T.mg_law_e_next T.F_law_e_next.kp T.b_law_e_next .nil pass0 (@pa_mor _ _ _ _ _ (by rfl) (pv 0) (@pa_mor _ _ _ _ _ (by rfl) pe_int pa_nil))))
      (@pss_cons _ _ _ _ _ (@ps_if _ _ _ _ _ _ _ _ (@pt_cmpR _ _ _ _ _ _ _ _ op_lt (pv 1) pe_int (nomark _)) (@pss_one _ _ _ (@ps_ret _ _ _ _ (@pe_tup _ _ _ _ _ (@pa_mor _ _ _ _ _ (by rfl) pe_str pa_nil)))) pss_nil)
      (@pss_cons _ _ _ _ _ (@ps_if _ _ _ _ _ _ _ _ (@pt_cmpR _ _ _ _ _ _ _ _ op_lt (pv 1) pe_int (nomark _)) (@pss_one _ _ _ (@ps_ret _ _ _ _ (@pe_tup _ _ _ _ _ (@pa_mor _ _ _ _ _ (by rfl) pe_str (@pa_mor _ _ _ _ _ (by rfl) (@pe_ix _ _ _ _ _ _ _ ix_list (@pe_lst _ _ _ _ (@pa_mor _ _ _ _ _ (by rfl) pe_int (@pa_mor _ _ _ _ _ (by rfl) pe_int (@pa_mor _ _ _ _ _ (by rfl) pe_int (@pa_mor _ _ _ _ _ (by rfl) pe_int pa_nil))))) (pe_call G_law_e_next (hr.mono (by decide)) rfl T.mg_law_e_next T.F_law_e_next.kp T.b_law_e_next .nil pass0 (@pa_mor _ _ _ _ _ (by rfl) (pv 0) (@pa_mor _ _ _ _ _ (by rfl) pe_int pa_nil))) (fun _ _ => rfl)) pa_nil))))) pss_nil)
      (@pss_one _ _ _ (@ps_ret _ _ _ _ (@pe_tup _ _ _ _ _ (@pa_mor _ _ _ _ _ (by rfl) pe_str (@pa_mor _ _ _ _ _ (by rfl) (@pe_ix _ _ _ _ _ _ _ ix_list (@pe_lst _ _ _ _ (@pa_mor _ _ _ _ _ (by rfl) pe_int (@pa_mor _ _ _ _ _ (by rfl) pe_int (@pa_mor _ _ _ _ _ (by rfl) pe_int (@pa_mor _ _ _ _ _ (by rfl) pe_int (@pa_mor _ _ _ _ _ (by rfl) pe_int (@pa_mor _ _ _ _ _ (by rfl) pe_int (@pa_mor _ _ _ _ _ (by rfl) pe_int (@pa_mor _ _ _ _ _ (by rfl) pe_int (@pa_mor _ _ _ _ _ (by rfl) pe_int (@pa_mor _ _ _ _ _ (by rfl) pe_int pa_nil))))))))))) (pe_call G_law_e_next (hr.mono (by decide)) rfl T.mg_law_e_next T.F_law_e_next.kp T.b_law_e_next .nil pass0 (@pa_mor _ _ _ _ _ (by rfl) (pv 0) (@pa_mor _ _ _ _ _ (by rfl) pe_int pa_nil))) (fun _ _ => rfl)) pa_nil)))))))), ?_⟩
    refine ⟨_, rfl, P0, a, ns, 5, rfl, pc, hS, by decide, Mid.of_lt (by decide) (by decide), fun r H1 r0 r1 sA p1 => ?_⟩
    have hS1 : SqL K (er P0 H1) a (ns.map V.int) := Same.seq sA hS
    refine ⟨_, rfl, _, _, rfl, rfl, _, rfl, ite2 (fun _ => ?_) (fun _ => ?_)⟩
    · refine ⟨by show 1 ≤ sizeLine; decide, fun td ntd => ?_⟩
      have np := p1.ne ntd
      refine k td 0 _ (.inl rfl) (sA.trans (SameE.of (same_upd ntd))) (p1.mono (same_upd ntd)) ?_
      unfold ToldAt
      rw [tdOf_zero, er_ne np]
      exact upd_same
    refine ⟨_, rfl, _, _, rfl, rfl, _, rfl, ite2 (fun _ => ?_) (fun _ => ?_)⟩
    · refine ⟨by show 4 ≤ sizeLine; decide, fun l nl => ?_⟩
      have nP := p1.ne nl
      have sl : Same H1 (upd H1 l (.lst [.int 2, .int 3, .int 5, .int 7])) := same_upd nl
      have el : upd H1 l (.lst [.int 2, .int 3, .int 5, .int 7]) l = some (.lst [.int 2, .int 3, .int 5, .int 7]) := upd_same
      have pl := p1.mono sl
      have hSl : SqL K (er P0 (upd H1 l (.lst [.int 2, .int 3, .int 5, .int 7]))) a (ns.map V.int) := Same.seq (er_same sl) hS1
      generalize upd H1 l (.lst [.int 2, .int 3, .int 5, .int 7]) = H2 at sl el pl hSl ⊢
      refine ⟨_, rfl, P0, a, ns, 4, rfl, pl, hSl, by decide, Mid.of_lt (by decide) (by decide), fun r H3 r0 r1 s3 p3 => ?_⟩
      obtain ⟨q, hat, hq, hq0⟩ : ∃ q : Int, atI ([.int 2, .int 3, .int 5, .int 7] : List V) r = some (.int q) ∧ WheelN q ∧ q ≠ 0 := by
        rcases (show r = 0 ∨ r = 1 ∨ r = 2 ∨ r = 3 by omega) with rfl | rfl | rfl | rfl
        · exact ⟨2, rfl, .inr ⟨by decide, by decide, by decide⟩, by decide⟩
        · exact ⟨3, rfl, .inr ⟨by decide, by decide, by decide⟩, by decide⟩
        · exact ⟨5, rfl, .inr ⟨by decide, by decide, by decide⟩, by decide⟩
        · exact ⟨7, rfl, .inr ⟨by decide, by decide, by decide⟩, by decide⟩
      refine ⟨l, _, _, _, rfl, rfl, .of (s3.at nP el), hat, by show 2 ≤ sizeLine; decide, fun td ntd => ?_⟩
      have np := p3.ne ntd
      refine k td q _ hq ((sA.trans (SameE.of sl)).trans (s3.trans (SameE.of (same_upd ntd)))) (p3.mono (same_upd ntd)) ?_
      unfold ToldAt
      rw [tdOf_pos hq0, er_ne np]
      exact upd_same
    · refine ⟨by show 10 ≤ sizeLine; decide, fun l nl => ?_⟩
      have nP := p1.ne nl
      have sl : Same H1 (upd H1 l (.lst [.int 11, .int 13, .int 29, .int 97, .int 101, .int 257, .int 499, .int 743, .int 991, .int 997])) := same_upd nl
      have el : upd H1 l (.lst [.int 11, .int 13, .int 29, .int 97, .int 101, .int 257, .int 499, .int 743, .int 991, .int 997]) l = some (.lst [.int 11, .int 13, .int 29, .int 97, .int 101, .int 257, .int 499, .int 743, .int 991, .int 997]) := upd_same
      have pl := p1.mono sl
      have hSl : SqL K (er P0 (upd H1 l (.lst [.int 11, .int 13, .int 29, .int 97, .int 101, .int 257, .int 499, .int 743, .int 991, .int 997]))) a (ns.map V.int) := Same.seq (er_same sl) hS1
      generalize upd H1 l (.lst [.int 11, .int 13, .int 29, .int 97, .int 101, .int 257, .int 499, .int 743, .int 991, .int 997]) = H2 at sl el pl hSl ⊢
      refine ⟨_, rfl, P0, a, ns, 10, rfl, pl, hSl, by decide, Mid.of_lt (by decide) (by decide), fun r H3 r0 r1 s3 p3 => ?_⟩
      obtain ⟨q, hat, hq, hq0⟩ : ∃ q : Int, atI ([.int 11, .int 13, .int 29, .int 97, .int 101, .int 257, .int 499, .int 743, .int 991, .int 997] : List V) r = some (.int q) ∧ WheelN q ∧ q ≠ 0 := by
        rcases (show r = 0 ∨ r = 1 ∨ r = 2 ∨ r = 3 ∨ r = 4 ∨ r = 5 ∨ r = 6 ∨ r = 7 ∨ r = 8 ∨ r = 9 by omega) with rfl | rfl | rfl | rfl | rfl | rfl | rfl | rfl | rfl | rfl
        · exact ⟨11, rfl, .inr ⟨by decide, by decide, by decide⟩, by decide⟩
        · exact ⟨13, rfl, .inr ⟨by decide, by decide, by decide⟩, by decide⟩
        · exact ⟨29, rfl, .inr ⟨by decide, by decide, by decide⟩, by decide⟩
        · exact ⟨97, rfl, .inr ⟨by decide, by decide, by decide⟩, by decide⟩
        · exact ⟨101, rfl, .inr ⟨by decide, by decide, by decide⟩, by decide⟩
        · exact ⟨257, rfl, .inr ⟨by decide, by decide, by decide⟩, by decide⟩
        · exact ⟨499, rfl, .inr ⟨by decide, by decide, by decide⟩, by decide⟩
        · exact ⟨743, rfl, .inr ⟨by decide, by decide, by decide⟩, by decide⟩
        · exact ⟨991, rfl, .inr ⟨by decide, by decide, by decide⟩, by decide⟩
        · exact ⟨997, rfl, .inr ⟨by decide, by decide, by decide⟩, by decide⟩
      refine ⟨l, _, _, _, rfl, rfl, .of (s3.at nP el), hat, by show 2 ≤ sizeLine; decide, fun td ntd => ?_⟩
      have np := p3.ne ntd
      refine k td q _ hq ((sA.trans (SameE.of sl)).trans (s3.trans (SameE.of (same_upd ntd)))) (p3.mono (same_upd ntd)) ?_
      unfold ToldAt
      rw [tdOf_pos hq0, er_ne np]
      exact upd_same
theorem sc_law_e_number : FnScope ["pen", "told", "far", "kind", "top"] ["pen", "told", "far"] (defScope s_law_e_number) := ⟨rfl, rfl, rfl, by decide +kernel, rfl, by decide +kernel, by decide +kernel⟩
theorem ok_law_e_number (T : Txt K mg t) : FnOk P w K mg base CX0 3 t.f_law_e_number t.d_law_e_number ["pen", "told", "far"] (spENumberF K) := by
  have S := sc_law_e_number
  have G_law_e_next := ok_law_e_next (P := P) (w := w) (base := base) T
  have G_law_e_low := ok_law_e_low (P := P) (w := w) (base := base) T
  refine T.F_law_e_number.ok S (fun vs H Q E h => ?_) (fun cdv A outer s H vs Q E hr h => ?_)
  · obtain ⟨P0, a, td, ns, q, far, F, rfl, _⟩ := h
    rfl
  · obtain ⟨P0, a, td, ns, q, far, F, rfl, pc, hS, ht, hq, f1, f2, f3, f4, k⟩ := h
    refine ⟨_, (@pss_cons _ _ _ _ _ (@ps_put _ _ 3 _ _ _ _ (by rfl) (by first | exact .inl rfl | exact .inr rfl | assumption) S.nd rfl (Or.inl rfl) (pe_call G_law_e_next (hr.mono (by decide)) rfl T.mg_law_e_next T.F_law_e_next.kp T.b_law_e_next .nil pass0 (@pa_mor _ _ _ _ _ (by rfl) (pv 0) (@pa_mor _ _ _ _ _ (by rfl) pe_int pa_nil))))
      (@pss_cons _ _ _ _ _ (@ps_if _ _ _ _ _ _ _ _ (@pt_cmpR _ _ _ _ _ _ _ _ op_eq (@pe_ix _ _ _ _ _ _ _ ix_tup (pv 1) pe_int (fun _ _ => rfl)) pe_str (nomark _)) (@pss_cons _ _ _ _ _ (@ps_if _ _ _ _ _ _ _ _ (@pt_cmpR _ _ _ _ _ _ _ _ op_lt (pv 3) pe_int (nomark _)) (@pss_one _ _ _ (@ps_ret _ _ _ _ pe_int)) pss_nil)
      (@pss_one _ _ _ (@ps_ret _ _ _ _ (pe_call G_law_e_next (hr.mono (by decide)) rfl T.mg_law_e_next T.F_law_e_next.kp T.b_law_e_next .nil pass0 (@pa_mor _ _ _ _ _ (by rfl) (pv 0) (@pa_mor _ _ _ _ _ (by rfl) (@pe_ix _ _ _ _ _ _ _ ix_tup (pv 1) pe_int (fun _ _ => rfl)) pa_nil)))))) pss_nil)
      (@pss_cons _ _ _ _ _ (@ps_if _ _ _ _ _ _ _ _ (@pt_cmpR _ _ _ _ _ _ _ _ op_lt (pv 3) pe_int (nomark _)) (@pss_one _ _ _ (@ps_ret _ _ _ _ (@pe_tup _ _ _ _ _ (@pa_mor _ _ _ _ _ (by rfl) pe_int (@pa_mor _ _ _ _ _ (by rfl) pe_int pa_nil))))) pss_nil)
      (@pss_cons _ _ _ _ _ (@ps_if _ _ _ _ _ _ _ _ (@pt_cmpR _ _ _ _ _ _ _ _ op_eq (pv 3) pe_int (nomark _)) (@pss_cons _ _ _ _ _ (@ps_put _ _ 4 _ _ _ _ (by rfl) (by first | exact .inl rfl | exact .inr rfl | assumption) S.nd rfl (Or.inl rfl) (@pe_op _ _ _ _ _ _ _ _ op_mul (@pe_op _ _ _ _ _ _ _ _ op_sub pe_int (@pe_op _ _ _ _ _ _ _ _ op_mul pe_int (pe_call G_law_e_next (hr.mono (by decide)) rfl T.mg_law_e_next T.F_law_e_next.kp T.b_law_e_next .nil pass0 (@pa_mor _ _ _ _ _ (by rfl) (pv 0) (@pa_mor _ _ _ _ _ (by rfl) pe_int pa_nil))))) (pe_call G_law_e_next (hr.mono (by decide)) rfl T.mg_law_e_next T.F_law_e_next.kp T.b_law_e_next .nil pass0 (@pa_mor _ _ _ _ _ (by rfl) (pv 0) (@pa_mor _ _ _ _ _ (by rfl) (pv 2) pa_nil)))))
      (@pss_one _ _ _ (@ps_ret _ _ _ _ (pe_call G_law_e_low (hr.mono (by decide)) rfl T.mg_law_e_low T.F_law_e_low.kp T.b_law_e_low .nil pass0 (@pa_mor _ _ _ _ _ (by rfl) (pv 4) (@pa_mor _ _ _ _ _ (by rfl) (@pe_op _ _ _ _ _ _ _ _ op_add pe_int (pe_call G_law_e_next (hr.mono (by decide)) rfl T.mg_law_e_next T.F_law_e_next.kp T.b_law_e_next .nil pass0 (@pa_mor _ _ _ _ _ (by rfl) (pv 0) (@pa_mor _ _ _ _ _ (by rfl) (pv 2) pa_nil)))) pa_nil)))))) pss_nil)
      (@pss_one _ _ _ (@ps_ret _ _ _ _ (pe_call G_law_e_low (hr.mono (by decide)) rfl T.mg_law_e_low T.F_law_e_low.kp T.b_law_e_low .nil pass0 (@pa_mor _ _ _ _ _ (by rfl) (@pe_op _ _ _ _ _ _ _ _ op_sub (pe_call G_law_e_next (hr.mono (by decide)) rfl T.mg_law_e_next T.F_law_e_next.kp T.b_law_e_next .nil pass0 (@pa_mor _ _ _ _ _ (by rfl) (pv 0) (@pa_mor _ _ _ _ _ (by rfl) pe_int pa_nil))) pe_int) (@pa_mor _ _ _ _ _ (by rfl) (@pe_ix _ _ _ _ _ _ _ ix_list (@pe_lst _ _ _ _ (@pa_mor _ _ _ _ _ (by rfl) pe_int (@pa_mor _ _ _ _ _ (by rfl) pe_int (@pa_mor _ _ _ _ _ (by rfl) pe_int (@pa_mor _ _ _ _ _ (by rfl) pe_int pa_nil))))) (pe_call G_law_e_next (hr.mono (by decide)) rfl T.mg_law_e_next T.F_law_e_next.kp T.b_law_e_next .nil pass0 (@pa_mor _ _ _ _ _ (by rfl) (pv 0) (@pa_mor _ _ _ _ _ (by rfl) pe_int pa_nil))) (fun _ _ => rfl)) pa_nil))))))))), ?_⟩
    have mf : Mid far := Mid.of_lt (by omega) (by omega)
    refine ⟨_, rfl, P0, a, ns, 16, rfl, pc, hS, by decide, Mid.of_lt (by decide) (by decide), fun kd H1 kd0 kd1 s1 p1 => ?_⟩
    have hS1 : SqL K (er P0 H1) a (ns.map V.int) := Same.seq s1 hS
    have ht1 := ht.mono s1
    unfold ToldAt at ht1
    by_cases z : q = 0
    · subst z
      rw [tdOf_zero] at ht1
      refine ⟨_, rfl, td, _, _, _, rfl, rfl, .of (er_le _ _ ht1), rfl, rfl, false, by decide +kernel, iteF ?_⟩
      refine ⟨_, rfl, _, _, rfl, rfl, _, rfl, ite2 (fun _ => ?_) (fun _ => ?_)⟩
      · refine ⟨by show 2 ≤ sizeLine; decide, fun r nr => ?_⟩
        have np := p1.ne nr
        exact k _ 0 1 _ (s1.trans (SameE.of (same_upd nr))) (p1.mono (same_upd nr)) (.frac (er_some np upd_same) ⟨by decide, by decide⟩ (by show Int.natAbs 0 ≤ F; omega) (by show Int.natAbs 1 ≤ F; omega))
      refine ⟨_, rfl, rfl, _, rfl, ite2 (fun _ => ?_) (fun _ => ?_)⟩
      · refine ⟨_, rfl, P0, a, ns, 2, rfl, p1, hS1, by decide, Mid.of_lt (by decide) (by decide), fun sg H2 sg0 sg1 s2 p2 => ?_⟩
        refine ⟨_, _, rfl, rfl, .inl ⟨by decide, by decide⟩, _, _, rfl, rfl, _, rfl, _, rfl, P0, a, ns, far, rfl, p2, Same.seq s2 hS1, f1, mf, fun tp H3 tp0 tp1 s3 p3 => ?_⟩
        refine ⟨_, _, rfl, rfl, .inl ⟨by omega, by omega⟩, ?_⟩
        refine ⟨_, rfl, _, rfl, _, rfl, P0, a, ns, far, rfl, p3, Same.seq s3 (Same.seq s2 hS1), f1, mf, fun bt H4 bt0 bt1 s4 p4 => ?_⟩
        refine ⟨_, _, rfl, rfl, _, _, rfl, (show 1 + bt ≠ 0 by omega), Mid.of_lt (by omega) (by omega), fun r H5 s5 er' => ?_⟩
        have b1 : ((1 - 2 * sg) * tp).natAbs ≤ F := by
          rcases (show sg = 0 ∨ sg = 1 by omega) with rfl | rfl
          · rw [show (1 - 2 * (0 : Int)) * tp = tp by omega]; omega
          · rw [show (1 - 2 * (1 : Int)) * tp = -tp by omega]; omega
        refine k _ _ _ H5 (s1.trans (s2.trans (s3.trans (s4.trans (SameE.of s5))))) (p4.mono s5) ((low_num (B := F) er' (show 1 ≤ 1 + bt by omega) b1 (by omega)).er (H' := H5) (p4.mono s5))
      · refine ⟨_, rfl, P0, a, ns, 9, rfl, p1, hS1, by decide, Mid.of_lt (by decide) (by decide), fun tp H2 tp0 tp1 s2 p2 => ?_⟩
        refine ⟨_, _, rfl, rfl, by show 4 ≤ sizeLine; decide, fun l nl => ?_⟩
        have nP := p2.ne nl
        have sl : Same H2 (upd H2 l (.lst [.int 1, .int 1, .int 2, .int 3])) := same_upd nl
        have el : upd H2 l (.lst [.int 1, .int 1, .int 2, .int 3]) l = some (.lst [.int 1, .int 1, .int 2, .int 3]) := upd_same
        have pl := p2.mono sl
        have hSl : SqL K (er P0 (upd H2 l (.lst [.int 1, .int 1, .int 2, .int 3]))) a (ns.map V.int) := Same.seq (er_same sl) (Same.seq s2 hS1)
        generalize upd H2 l (.lst [.int 1, .int 1, .int 2, .int 3]) = H3 at sl el pl hSl ⊢
        refine ⟨_, rfl, P0, a, ns, 4, rfl, pl, hSl, by decide, Mid.of_lt (by decide) (by decide), fun r H4 r0 r1 s4 p4 => ?_⟩
        obtain ⟨b, hat, b1, b3⟩ : ∃ b : Int, atI ([.int 1, .int 1, .int 2, .int 3] : List V) r = some (.int b) ∧ 1 ≤ b ∧ b ≤ 3 := by
          rcases (show r = 0 ∨ r = 1 ∨ r = 2 ∨ r = 3 by omega) with rfl | rfl | rfl | rfl
          · exact ⟨1, rfl, by decide, by decide⟩
          · exact ⟨1, rfl, by decide, by decide⟩
          · exact ⟨2, rfl, by decide, by decide⟩
          · exact ⟨3, rfl, by decide, by decide⟩
        refine ⟨l, _, _, _, rfl, rfl, .of (s4.at nP el), hat, _, _, rfl, by omega, Mid.of_lt (by omega) (by omega), fun r' H5 s5 er' => ?_⟩
        exact k _ _ _ H5 (s1.trans (s2.trans ((SameE.of sl).trans (s4.trans (SameE.of s5))))) (p4.mono s5) ((low_num (B := F) er' b1 (show (tp - 4).natAbs ≤ _ by omega) (by omega)).er (H' := H5) (p4.mono s5))
    · rw [tdOf_pos z] at ht1
      obtain ⟨q2, q3, q4⟩ := hq.resolve_left z
      refine ⟨_, rfl, td, _, _, _, rfl, rfl, .of (er_le _ _ ht1), rfl, rfl, true, by decide +kernel, iteT ?_⟩
      refine ⟨_, rfl, _, _, rfl, rfl, _, rfl, ite2 (fun _ => ?_) (fun _ => ?_)⟩
      · exact k _ 0 1 H1 s1 p1 (.rem (by decide) (by omega) q3)
      · refine ⟨_, rfl, _, rfl, td, _, _, _, rfl, rfl, .of (er_le _ _ ht1), rfl, P0, a, ns, q, rfl, p1, hS1, by omega, Mid.of_lt (by omega) (by omega), fun r H2 r0 r1 s2 p2 => ?_⟩
        exact k _ r 1 H2 (s1.trans s2) p2 (.rem r0 r1 q3)
theorem sc_law_e_cut : FnScope ["told", "row", "many"] ["told", "row"] (defScope s_law_e_cut) := ⟨rfl, rfl, rfl, by decide +kernel, rfl, by decide +kernel, by decide +kernel⟩
theorem ok_law_e_cut (T : Txt K mg t) : FnOk P w K mg base CX0 4 t.f_law_e_cut t.d_law_e_cut ["told", "row"] spECut := by
  have S := sc_law_e_cut
  have G_law_e_of := ok_law_e_of (P := P) (w := w) (base := base) (B := 1000) T
  refine T.F_law_e_cut.ok S (fun vs H Q E h => ?_) (fun cdv A outer s H vs Q E hr h => ?_)
  · obtain ⟨z, a, q, ps, B, rfl, _⟩ := h
    rfl
  · obtain ⟨z, a, q, ps, B, rfl, hz, hq, hR, h1000, k⟩ := h
    have hu := hr.units0
    refine ⟨_, (@pss_cons _ _ _ _ _ (@ps_put _ _ 2 _ _ _ _ (by rfl) (by first | exact .inl rfl | exact .inr rfl | assumption) S.nd rfl (Or.inl rfl) (pe_callB call_len_seq rfl T.n_len boot_len (@pa_mor _ _ _ _ _ (by rfl) (pv 1) pa_nil)))
      (@pss_cons _ _ _ _ _ (@ps_while _ _ _ _ _ _ PassesOwn.never (PW.pt (pw_and (@pt_cmpR _ _ _ _ _ _ _ _ op_gt (pv 2) pe_int (nomark _)) (pw_and1 (@pt_cmpR _ _ _ _ _ _ _ _ (op_eqM hu) (@pe_ix _ _ _ _ _ _ _ ix_list (pv 1) (@pe_op _ _ _ _ _ _ _ _ op_sub (pv 2) pe_int) (fun _ _ => rfl)) (pe_call G_law_e_of (hr.mono (by decide)) rfl T.mg_law_e_of T.F_law_e_of.kp T.b_law_e_of .nil pass0 (@pa_mor _ _ _ _ _ (by rfl) (pv 0) (@pa_mor _ _ _ _ _ (by rfl) pe_int pa_nil))) (nomark _))))) (@pss_one _ _ _ (@ps_put _ _ 2 _ _ _ _ (by rfl) (by first | exact .inl rfl | exact .inr rfl | assumption) S.nd rfl (Or.inl rfl) (@pe_op _ _ _ _ _ _ _ _ op_sub (pv 2) pe_int))))
      (@pss_one _ _ _ (@ps_ret _ _ _ _ (@pe_slice _ _ _ _ _ _ _ _ _ _ sl_list (pv 1) po_none (po_some (pv 2))))))), ?_⟩
    obtain ⟨vs, ea, hl, hn⟩ := id hR
    refine ⟨_, rfl, a, vs, rfl, .inl (.of ea), ?_⟩
    refine ⟨fun c σ Hc => Same H Hc ∧ c ≤ ps.length ∧ cutTo ps c = cutTo ps ps.length ∧ σ = [some (.ref z), some (.ref a), some (.int (c : Int))], ⟨ps.length, Same.refl H, Nat.le_refl _, rfl, by rw [← hl]; rfl⟩, ?_⟩
    rintro c σ Hc ⟨sc, hc, hcut, rfl⟩
    refine ⟨_, rfl, _, _, rfl, rfl, _, rfl, ite2 (fun h0 => ?_) (fun h0 => ?_)⟩
    · have h0 : (0 : Int) < (c : Int) := of_decide_eq_true h0
      obtain ⟨d, rfl⟩ : ∃ d, c = d + 1 := ⟨c - 1, by omega⟩
      have hd : d < vs.length := by omega
      have hd' : d < ps.length := by omega
      refine ⟨_, rfl, _, rfl, _, _, rfl, rfl, a, vs, _, vs[d], rfl, rfl, .of (sc _ _ ea), (by show atI vs (((d + 1 : Nat) : Int) - 1) = _; rw [show ((d + 1 : Nat) : Int) - 1 = (d : Int) by omega]; exact atI_nat (by simp [hd])), ?_⟩
      have hv := hn d vs[d] ps[d] (by simp [hd]) (by simp [hd'])
      refine ⟨_, rfl, z, q, 0, rfl, hz.mono sc, hq, by decide, by decide, fun v0 H1 s1 ho => ?_⟩
      have h0' : NumAt 1000 H1 q v0 0 1 := by
        have e : ofP q 0 = (0, 1) := by unfold ofP; split <;> simp
        rw [e] at ho
        exact ho
      have gd : ps.getD d o1 = ps[d] := getD_at hd'
      refine eqM_zero (hv.mono (sc.trans s1)) h0' ⟨_, rfl, ite2 (fun hz0 => ?_) (fun hz0 => ?_)⟩
      · have hz0 : ps[d].1 = 0 := of_decide_eq_true hz0
        refine ⟨fun σ' H2 => Same H H2 ∧ σ' = [some (.ref z), some (.ref a), some (.int (d : Int))], ?_, ?_⟩
        · rintro σ' H2 ⟨s2, rfl⟩
          refine ⟨d, by omega, s2, by omega, ?_, rfl⟩
          rw [← hcut]
          show _ = if (ps.getD d o1).1 = 0 then cutTo ps d else d + 1
          rw [gd, if_pos hz0]
        · refine ⟨_, rfl, _, _, rfl, rfl, sc.trans s1, by show List.set _ 2 (some (V.int (((d + 1 : Nat) : Int) - 1))) = _; rw [show ((d + 1 : Nat) : Int) - 1 = (d : Int) by omega]; rfl⟩
      · have hz0 : ¬ ps[d].1 = 0 := fun e => hz0 (decide_eq_true e)
        have e : cutTo ps ps.length = d + 1 := by
          rw [← hcut]
          show (if (ps.getD d o1).1 = 0 then cutTo ps d else d + 1) = _
          rw [gd, if_neg hz0]
        refine ⟨_, rfl, _, rfl, _, rfl, a, vs, rfl, .of ((sc.trans s1) _ _ ea), fun r nr => ?_⟩
        rw [cutV_take vs (d + 1) (by omega)]
        have sr := (sc.trans s1).trans (same_upd (o := .lst (vs.take (d + 1))) nr)
        refine k r _ sr (none_of (sc.trans s1) nr) ?_
        unfold cutP
        rw [e]
        exact RowG.take upd_same hl fun i v p h1 h2 => (hn i v p h1 h2).mono sr
    · have h0 : ¬ (0 : Int) < (c : Int) := fun z => h0 (decide_eq_true z)
      have c0 : c = 0 := by omega
      subst c0
      refine ⟨_, rfl, _, rfl, _, rfl, a, vs, rfl, .of (sc _ _ ea), fun r nr => ?_⟩
      rw [cutV_take vs 0 (by omega)]
      have sr := sc.trans (same_upd (o := .lst (vs.take 0)) nr)
      refine k r _ sr (none_of sc nr) ?_
      unfold cutP
      rw [← hcut]
      exact RowG.take upd_same hl fun i v p h1 h2 => (hn i v p h1 h2).mono sr
def spESum3 : Sp := fun vs H Q _ => ∃ (td a b : Addr) (q : Int) (ps rs : List (Int × Int)) (B : Nat), vs = [.ref td, .ref a, .ref b] ∧ ToldAt H td q ∧ WheelN q ∧ RowG B H q a ps ∧ RowG B H q b rs ∧ 1000 ≤ B ∧ B ≤ 10 ^ 300 ∧ ps.length ≤ 200 ∧ rs.length ≤ 200 ∧ ∀ (c : Addr) (H' : Hp), Same H H' → H c = none → RowG (2 * B * B) H' q c (cutP (sumP q ps rs)) → Q (.ref c) H'
theorem sc_law_e_sum : FnScope ["told", "one", "other", "found", "k"] ["told", "one", "other"] (defScope s_law_e_sum) := ⟨rfl, rfl, rfl, by decide +kernel, rfl, by decide +kernel, by decide +kernel⟩
theorem ok_law_e_sum (T : Txt K mg t) : FnOk P w K mg base CX0 5 t.f_law_e_sum t.d_law_e_sum ["told", "one", "other"] spESum3 := by
  have S := sc_law_e_sum
  have G_law_e_plus := ok_law_e_plus (P := P) (w := w) (base := base) T
  have G_law_e_cut := ok_law_e_cut (P := P) (w := w) (base := base) T
  refine T.F_law_e_sum.ok S (fun vs H Q E h => ?_) (fun cdv A outer s H vs Q E hr h => ?_)
  · obtain ⟨td, a, b, q, ps, rs, B, rfl, _⟩ := h
    rfl
  · obtain ⟨td, a, b, q, ps, rs, B, rfl, ht, hq, hA, hB, b1, b60, p100, r100, k⟩ := h
    refine ⟨_, (@pss_cons _ _ _ _ _ (@ps_if _ _ _ _ _ _ _ _ (@pt_cmpR _ _ _ _ _ _ _ _ op_lt (pe_callB call_len_seq rfl T.n_len boot_len (@pa_mor _ _ _ _ _ (by rfl) (pv 1) pa_nil)) (pe_callB call_len_seq rfl T.n_len boot_len (@pa_mor _ _ _ _ _ (by rfl) (pv 2) pa_nil)) (nomark _)) (@pss_one _ _ _ (ps_par (i := 1) (j := 2) rfl S.nd rfl rfl (by decide) rfl rfl (@pa_mor _ _ _ _ _ (by rfl) (pv 2) (@pa_mor _ _ _ _ _ (by rfl) (pv 1) pa_nil)) rfl)) pss_nil)
      (@pss_cons _ _ _ _ _ (@ps_put _ _ 3 _ _ _ _ (by rfl) (by first | exact .inl rfl | exact .inr rfl | assumption) S.nd rfl (Or.inl rfl) (pe_callTy call_list_of rfl T.n_list boot_list (@pa_mor _ _ _ _ _ (by rfl) (pv 1) pa_nil)))
      (@pss_cons _ _ _ _ _ (ps_for PassesOwn.never rfl (pi_range1 rfl T.n_range (@pa_mor _ _ _ _ _ (by rfl) (pe_callB call_len_seq rfl T.n_len boot_len (@pa_mor _ _ _ _ _ (by rfl) (pv 2) pa_nil)) pa_nil)) (pg_name (i := 4) S.nd rfl (Or.inl rfl))
        (@pss_one _ _ _ (@ps_asg _ _ _ _ _ _ (pe_call G_law_e_plus (hr.mono (by decide)) rfl T.mg_law_e_plus T.F_law_e_plus.kp T.b_law_e_plus .nil pass0 (@pa_mor _ _ _ _ _ (by rfl) (pv 0) (@pa_mor _ _ _ _ _ (by rfl) (@pe_ix _ _ _ _ _ _ _ ix_list (pv 3) (pv 4) (fun _ _ => rfl)) (@pa_mor _ _ _ _ _ (by rfl) (@pe_ix _ _ _ _ _ _ _ ix_list (pv 2) (pv 4) (fun _ _ => rfl)) pa_nil)))) (pg_sub (pv 3) (pv 4) set_list) (by rfl) (by rfl) (by rfl))))
      (@pss_one _ _ _ (@ps_ret _ _ _ _ (pe_call G_law_e_cut (hr.mono (by decide)) rfl T.mg_law_e_cut T.F_law_e_cut.kp T.b_law_e_cut .nil pass0 (@pa_mor _ _ _ _ _ (by rfl) (pv 0) (@pa_mor _ _ _ _ _ (by rfl) (pv 3) pa_nil)))))))), ?_⟩
    obtain ⟨vs, ea, lv, fv⟩ := id hA
    obtain ⟨us, eb, lu, fu⟩ := id hB
    have bB : B ≤ 2 * B * B := Nat.le_trans (Nat.le_mul_of_pos_left B (by omega)) (Nat.le_mul_of_pos_right _ (by omega))
    refine ⟨_, rfl, a, vs, rfl, .inl (.of ea), _, rfl, b, us, rfl, .inl (.of eb), _, _, rfl, rfl, _, rfl, ite2 (fun hlt => ?_) (fun hlt => ?_)⟩
    · have hlt : (vs.length : Int) < (us.length : Int) := of_decide_eq_true hlt
      rw [sumP_comm] at k
      refine ⟨_, rfl, _, rfl, _, _, rfl, ?_⟩
      refine ⟨_, rfl, b, us, rfl, .inl (.of eb), fun fd nfd => ?_⟩
      have sf : Same H (upd H fd (.lst us)) := same_upd nfd
      have efd0 : upd H fd (.lst us) fd = some (.lst us) := upd_same
      generalize upd H fd (.lst us) = H0 at sf efd0 ⊢
      refine ⟨_, rfl, a, vs, rfl, .inl (.of (sf _ _ ea)), (vs.length : Int), rfl, by omega, by omega, ?_⟩
      rw [Int.toNat_natCast]
      refine for_range (fun i σ Hc => Same H Hc ∧ ∃ (v4 : Option V) (ws : List V), σ = [some (.ref td), some (.ref b), some (.ref a), some (.ref fd), v4] ∧ Hc fd = some (.lst ws) ∧ ws.length = rs.length ∧ ∀ (j : Nat) (w : V), ws[j]? = some w → (j < i → NumAt (2 * B * B) Hc q w (addP q (rs.getD j o1) (ps.getD j o1)).1 (addP q (rs.getD j o1) (ps.getD j o1)).2) ∧ (i ≤ j → NumAt B Hc q w (rs.getD j o1).1 (rs.getD j o1).2))
        ⟨sf, _, us, rfl, efd0, lu, fun j w hw => ⟨fun h => by omega, fun _ => by
          have hj : j < rs.length := by rw [← lu]; exact (List.getElem?_eq_some_iff.mp hw).1
          rw [getD_at hj]
          exact (fu j w rs[j] hw (by simp [hj])).mono sf⟩⟩ ?_ ?_
      · rintro i σ Hc hi ⟨sc, v4, ws, rfl, efd, lws, hws⟩
        have i1 : i < ws.length := by omega
        have i3 : i < ps.length := by omega
        have nv := (hws i ws[i] (by simp [i1])).2 (Nat.le_refl _)
        have nu := (fv i vs[i] ps[i] (by simp [hi]) (by simp [i3])).mono sc
        rw [← getD_at (d := o1) i3] at nu
        refine ⟨_, rfl, _, rfl, _, rfl, fd, ws, _, ws[i], rfl, rfl, .of efd, (by show atI ws (0 + (i : Int)) = _; rw [Int.zero_add]; exact atI_nat (by simp [i1])), _, rfl, _, rfl, a, vs, _, vs[i], rfl, rfl, .of (sc _ _ ea), (by show atI vs (0 + (i : Int)) = _; rw [Int.zero_add]; exact atI_nat (by simp [hi])), td, q, _, _, rs.getD i o1, ps.getD i o1, B, rfl, ht.mono sc, hq, nv, nu, b1, b60, fun v' H' s' hv => ?_⟩
        have efd' := s' _ _ efd
        refine ⟨_, rfl, _, rfl, fd, ws, _, i, rfl, rfl, efd', (by show ixN ws.length (0 + (i : Int)) = _; rw [Int.zero_add]; unfold ixN; rw [if_pos (by omega), if_pos (by omega), Int.toNat_natCast]), ?_⟩
        have far : ∀ b o, b ≠ fd → H' b = some o → upd H' fd (.lst (ws.set i v')) b = some o := fun b o nb e => by rw [upd_ne nb]; exact e
        refine ⟨same_but (sc.trans s') nfd, _, _, rfl, upd_same, by rw [List.length_set]; exact lws, fun j w hw => ?_⟩
        by_cases z : j = i
        · subst z
          rw [List.getElem?_set_self i1] at hw
          cases hw
          exact ⟨fun _ => hv.far efd' far, fun h => by omega⟩
        · rw [List.getElem?_set_ne (by omega)] at hw
          obtain ⟨g1, g2⟩ := hws j w hw
          exact ⟨fun h => ((g1 (by omega)).mono s').far efd' far, fun h => ((g2 (by omega)).mono s').far efd' far⟩
      · rintro σ Hc ⟨sc, v4, ws, rfl, efd, lws, hws⟩
        have hG : RowG (2 * B * B) Hc q fd (sumP q rs ps) := ⟨ws, efd, by rw [sumP_len]; omega, fun j w p h1 h2 => by
          have hj : j < rs.length := by rw [← lws]; exact (List.getElem?_eq_some_iff.mp h1).1
          rw [sumP_get (by omega)] at h2
          cases h2
          obtain ⟨g1, g2⟩ := hws j w h1
          by_cases z : j < vs.length
          · exact g1 z
          · have g := g2 (by omega)
            have e : ps.getD j o1 = o1 := by rw [List.getD_eq_getElem?_getD, List.getElem?_eq_none (by omega)]; rfl
            rw [e, addP_zero g]
            exact g.weak bB⟩
        exact ⟨_, rfl, _, rfl, td, fd, q, _, 2 * B * B, rfl, ht.mono sc, hq, hG, by rw [sumP_len]; omega, fun c H' s' nc hc => k c H' (sc.trans s') (none_of sc nc) hc⟩
    · have hlt : ¬ (vs.length : Int) < (us.length : Int) := fun z => hlt (decide_eq_true z)
      dsimp only [tNext]
      refine ⟨_, rfl, a, vs, rfl, .inl (.of ea), fun fd nfd => ?_⟩
      have sf : Same H (upd H fd (.lst vs)) := same_upd nfd
      have efd0 : upd H fd (.lst vs) fd = some (.lst vs) := upd_same
      generalize upd H fd (.lst vs) = H0 at sf efd0 ⊢
      refine ⟨_, rfl, b, us, rfl, .inl (.of (sf _ _ eb)), (us.length : Int), rfl, by omega, by omega, ?_⟩
      rw [Int.toNat_natCast]
      refine for_range (fun i σ Hc => Same H Hc ∧ ∃ (v4 : Option V) (ws : List V), σ = [some (.ref td), some (.ref a), some (.ref b), some (.ref fd), v4] ∧ Hc fd = some (.lst ws) ∧ ws.length = ps.length ∧ ∀ (j : Nat) (w : V), ws[j]? = some w → (j < i → NumAt (2 * B * B) Hc q w (addP q (ps.getD j o1) (rs.getD j o1)).1 (addP q (ps.getD j o1) (rs.getD j o1)).2) ∧ (i ≤ j → NumAt B Hc q w (ps.getD j o1).1 (ps.getD j o1).2))
        ⟨sf, _, vs, rfl, efd0, lv, fun j w hw => ⟨fun h => by omega, fun _ => by
          have hj : j < ps.length := by rw [← lv]; exact (List.getElem?_eq_some_iff.mp hw).1
          rw [getD_at hj]
          exact (fv j w ps[j] hw (by simp [hj])).mono sf⟩⟩ ?_ ?_
      · rintro i σ Hc hi ⟨sc, v4, ws, rfl, efd, lws, hws⟩
        have i1 : i < ws.length := by omega
        have i3 : i < rs.length := by omega
        have nv := (hws i ws[i] (by simp [i1])).2 (Nat.le_refl _)
        have nu := (fu i us[i] rs[i] (by simp [hi]) (by simp [i3])).mono sc
        rw [← getD_at (d := o1) i3] at nu
        refine ⟨_, rfl, _, rfl, _, rfl, fd, ws, _, ws[i], rfl, rfl, .of efd, (by show atI ws (0 + (i : Int)) = _; rw [Int.zero_add]; exact atI_nat (by simp [i1])), _, rfl, _, rfl, b, us, _, us[i], rfl, rfl, .of (sc _ _ eb), (by show atI us (0 + (i : Int)) = _; rw [Int.zero_add]; exact atI_nat (by simp [hi])), td, q, _, _, ps.getD i o1, rs.getD i o1, B, rfl, ht.mono sc, hq, nv, nu, b1, b60, fun v' H' s' hv => ?_⟩
        have efd' := s' _ _ efd
        refine ⟨_, rfl, _, rfl, fd, ws, _, i, rfl, rfl, efd', (by show ixN ws.length (0 + (i : Int)) = _; rw [Int.zero_add]; unfold ixN; rw [if_pos (by omega), if_pos (by omega), Int.toNat_natCast]), ?_⟩
        have far : ∀ b o, b ≠ fd → H' b = some o → upd H' fd (.lst (ws.set i v')) b = some o := fun b o nb e => by rw [upd_ne nb]; exact e
        refine ⟨same_but (sc.trans s') nfd, _, _, rfl, upd_same, by rw [List.length_set]; exact lws, fun j w hw => ?_⟩
        by_cases z : j = i
        · subst z
          rw [List.getElem?_set_self i1] at hw
          cases hw
          exact ⟨fun _ => hv.far efd' far, fun h => by omega⟩
        · rw [List.getElem?_set_ne (by omega)] at hw
          obtain ⟨g1, g2⟩ := hws j w hw
          exact ⟨fun h => ((g1 (by omega)).mono s').far efd' far, fun h => ((g2 (by omega)).mono s').far efd' far⟩
      · rintro σ Hc ⟨sc, v4, ws, rfl, efd, lws, hws⟩
        have hG : RowG (2 * B * B) Hc q fd (sumP q ps rs) := ⟨ws, efd, by rw [sumP_len]; omega, fun j w p h1 h2 => by
          have hj : j < ps.length := by rw [← lws]; exact (List.getElem?_eq_some_iff.mp h1).1
          rw [sumP_get (by omega)] at h2
          cases h2
          obtain ⟨g1, g2⟩ := hws j w h1
          by_cases z : j < us.length
          · exact g1 z
          · have g := g2 (by omega)
            have e : rs.getD j o1 = o1 := by rw [List.getD_eq_getElem?_getD, List.getElem?_eq_none (by omega)]; rfl
            rw [e, addP_zero g]
            exact g.weak bB⟩
        exact ⟨_, rfl, _, rfl, td, fd, q, _, 2 * B * B, rfl, ht.mono sc, hq, hG, by rw [sumP_len]; omega, fun c H' s' nc hc => k c H' (sc.trans s') (none_of sc nc) hc⟩
def spEProdG : Sp := fun vs H Q _ => ∃ (td a b : Addr) (q : Int) (ps rs : List (Int × Int)) (D : Int) (f g : Nat → Int), vs = [.ref td, .ref a, .ref b] ∧ ToldAt H td q ∧ WheelN q ∧ RowG B2 H q a ps ∧ RowG B2 H q b rs ∧ ps.length ≤ 60 ∧ rs.length ≤ 60 ∧ BotOk q D ∧ D.natAbs ≤ B2 ∧ (∀ i j, (f i * g j).natAbs ≤ 10 ^ 270) ∧ (∀ i j, i < ps.length → j < rs.length → Weq q ((ps.getD i o1).1 * (rs.getD j o1).1, (ps.getD i o1).2 * (rs.getD j o1).2) (f i * g j, D)) ∧
  ∀ (c : Addr) (H' : Hp), Same H H' → H c = none → RowG B2 H' q c (cutP (prodP q ps.length rs.length f g D (ps.length + rs.length - 1))) → Q (.ref c) H'
theorem sc_law_e_product : FnScope ["told", "one", "other", "found", "i", "j"] ["told", "one", "other"] (defScope s_law_e_product) := ⟨rfl, rfl, rfl, by decide +kernel, rfl, by decide +kernel, by decide +kernel⟩
theorem ok_law_e_product (T : Txt K mg t) : FnOk P w K mg base CX0 5 t.f_law_e_product t.d_law_e_product ["told", "one", "other"] spEProdG := by
  have S := sc_law_e_product
  have G_law_e_plus := ok_law_e_plus (P := P) (w := w) (base := base) T
  have G_law_e_times := ok_law_e_times (P := P) (w := w) (base := base) T
  have G_law_e_cut := ok_law_e_cut (P := P) (w := w) (base := base) T
  have G_law_e_of := ok_law_e_of (P := P) (w := w) (base := base) (B := B2) T
  refine T.F_law_e_product.ok S (fun vs H Q E h => ?_) (fun cdv A outer s H vs Q E hr h => ?_)
  · obtain ⟨td, a, b, q, ps, rs, D, f, g, rfl, _⟩ := h
    rfl
  · obtain ⟨td, a, b, q, ps, rs, D, f, g, rfl, ht, hq, hA, hB, p50, r50, okD, bD, hs, hw', k⟩ := h
    refine ⟨_, (@pss_cons _ _ _ _ _ (ps_comp (i0 := 3) (N := ["k", "told"]) (ρ := (fun σ => [σ[0]?.join])) ⟨rfl, rfl, by decide +kernel, by decide +kernel, (List.forall_mem_cons.mpr ⟨rfl, (List.forall_mem_nil _)⟩), has_of (by rfl), rfl, by decide +kernel, rfl, (fun σ j v h => match j, h with | 0, h => ⟨0, _, rfl, rfl, join_some h, Or.inr (Or.inl rfl), .inl rfl, .inl rfl⟩ | j + 1, h => by cases h), (fun _ _ => rfl)⟩ rfl S.nd rfl (Or.inl rfl) (pi_range1 rfl T.n_range (@pa_mor _ _ _ _ _ (by rfl) (@pe_op _ _ _ _ _ _ _ _ op_add (pe_callB call_len_seq rfl T.n_len boot_len (@pa_mor _ _ _ _ _ (by rfl) (pv 1) pa_nil)) (pe_callB call_len_seq rfl T.n_len boot_len (@pa_mor _ _ _ _ _ (by rfl) (pv 2) pa_nil))) pa_nil)) (fun s₃ H₃ fp => .nil) (fun s₃ H₃ fp => (pe_call G_law_e_of (hr.mono (by decide)) rfl T.mg_law_e_of T.F_law_e_of.kp T.b_law_e_of .nil pass0 (@pa_mor _ _ _ _ _ (by rfl) (pv 1) (@pa_mor _ _ _ _ _ (by rfl) pe_int pa_nil)))))
      (@pss_cons _ _ _ _ _ (ps_for PassesOwn.never rfl (pi_range1 rfl T.n_range (@pa_mor _ _ _ _ _ (by rfl) (pe_callB call_len_seq rfl T.n_len boot_len (@pa_mor _ _ _ _ _ (by rfl) (pv 1) pa_nil)) pa_nil)) (pg_name (i := 4) S.nd rfl (Or.inl rfl))
        (@pss_one _ _ _ (ps_for PassesOwn.never rfl (pi_range1 rfl T.n_range (@pa_mor _ _ _ _ _ (by rfl) (pe_callB call_len_seq rfl T.n_len boot_len (@pa_mor _ _ _ _ _ (by rfl) (pv 2) pa_nil)) pa_nil)) (pg_name (i := 5) S.nd rfl (Or.inl rfl))
        (@pss_one _ _ _ (@ps_asg _ _ _ _ _ _ (pe_call G_law_e_plus (hr.mono (by decide)) rfl T.mg_law_e_plus T.F_law_e_plus.kp T.b_law_e_plus .nil pass0 (@pa_mor _ _ _ _ _ (by rfl) (pv 0) (@pa_mor _ _ _ _ _ (by rfl) (@pe_ix _ _ _ _ _ _ _ ix_list (pv 3) (@pe_op _ _ _ _ _ _ _ _ op_add (pv 4) (pv 5)) (fun _ _ => rfl)) (@pa_mor _ _ _ _ _ (by rfl) (pe_call G_law_e_times (hr.mono (by decide)) rfl T.mg_law_e_times T.F_law_e_times.kp T.b_law_e_times .nil pass0 (@pa_mor _ _ _ _ _ (by rfl) (pv 0) (@pa_mor _ _ _ _ _ (by rfl) (@pe_ix _ _ _ _ _ _ _ ix_list (pv 1) (pv 4) (fun _ _ => rfl)) (@pa_mor _ _ _ _ _ (by rfl) (@pe_ix _ _ _ _ _ _ _ ix_list (pv 2) (pv 5) (fun _ _ => rfl)) pa_nil)))) pa_nil)))) (pg_sub (pv 3) (@pe_op _ _ _ _ _ _ _ _ op_add (pv 4) (pv 5)) set_list) (by rfl) (by rfl) (by rfl))))))
      (@pss_one _ _ _ (@ps_ret _ _ _ _ (pe_call G_law_e_cut (hr.mono (by decide)) rfl T.mg_law_e_cut T.F_law_e_cut.kp T.b_law_e_cut .nil pass0 (@pa_mor _ _ _ _ _ (by rfl) (pv 0) (@pa_mor _ _ _ _ _ (by rfl) (pv 3) pa_nil))))))), ?_⟩
    obtain ⟨vs, ea, lv, fv⟩ := id hA
    obtain ⟨us, eb, lu, fu⟩ := id hB
    have b1000 : 1000 ≤ B2 := by decide +kernel
    obtain ⟨N, eN⟩ : ∃ N, N = ps.length + rs.length := ⟨_, rfl⟩
    have e0 : canP q 0 D = ofP q 0 := by
      refine canon_uniq hq (canP_canon hq okD) ?_ ((canP_worth (T := 0) okD).trans ?_ okD)
      · unfold ofP
        refine ⟨fun z => ?_, fun z => ?_⟩
        · rw [if_pos z]; exact ⟨by decide, by decide⟩
        · rw [if_neg z]
          have q2 : 0 < q := by rcases hq with h | h <;> omega
          exact ⟨rfl, by simp, by simpa using q2⟩
      · have : ofP q 0 = (0, 1) := by unfold ofP; split <;> simp
        rw [this]
        exact ⟨0, by simp⟩
    have eLen : ((vs.length : Int) + (us.length : Int)) = (N : Int) := by omega
    refine seq_of (asg_of (comp_ofN (xs := (List.range N).map fun i : Nat => V.int (0 + (i : Int))) (fun R h => ⟨_, rfl, a, vs, rfl, .inl (.of ea), _, rfl, b, us, rfl, .inl (.of eb), _, _, rfl, rfl, (N : Int), congrArg (fun x => [V.int x]) eLen, by omega, by omega, h _ _ (Same.refl _) (by rw [Int.toNat_natCast]; exact jseq_rng)⟩) (by rw [List.length_map, List.length_range]; exact small1000 (by omega)) (fun _ j y Hx => NumAt B2 Hx q y (canP q 0 D).1 (canP q 0 D).2) (fun _ _ _ _ _ _ h1 e f => h1.far e f) ?_ ?_))
    · intro Dx i v hi Hc R sc _ kc
      refine ⟨_, rfl, td, q, 0, rfl, ht.mono sc, hq, Nat.zero_le _, b1000, fun u H' s' hu => kc u H' s' ?_⟩
      rw [e0]
      exact hu
    intro fd ys H1 nfd s1 lys hP efd
    rw [List.length_map, List.length_range] at lys
    dsimp only [gName]
    refine ⟨_, rfl, a, vs, rfl, .inl (.of (s1 _ _ ea)), (vs.length : Int), rfl, by omega, by omega, ?_⟩
    rw [Int.toNat_natCast]
    refine for_range (fun i σ Hc => Same H Hc ∧ ∃ (v4 v5 : Option V) (ws : List V), σ = [some (.ref td), some (.ref a), some (.ref b), some (.ref fd), v4, v5] ∧ Hc fd = some (.lst ws) ∧ ws.length = N ∧ ∀ (x : Nat) (w : V), ws[x]? = some w → NumAt B2 Hc q w (canP q (convN i rs.length f g x) D).1 (canP q (convN i rs.length f g x) D).2)
      ⟨s1, _, _, ys, rfl, efd, lys, fun x w hw => hP x w hw⟩ ?_ ?_
    · rintro i σ Hc hi ⟨sc, v4, v5, ws, rfl, ef, lws, hws⟩
      refine ⟨_, rfl, b, us, rfl, .inl (.of (sc _ _ eb)), (us.length : Int), rfl, by omega, by omega, ?_⟩
      rw [Int.toNat_natCast]
      refine for_range (fun j σ Hd => Same H Hd ∧ ∃ (v5 : Option V) (ws : List V), σ = [some (.ref td), some (.ref a), some (.ref b), some (.ref fd), some (.int (0 + (i : Int))), v5] ∧ Hd fd = some (.lst ws) ∧ ws.length = N ∧ ∀ (x : Nat) (w : V), ws[x]? = some w → NumAt B2 Hd q w (canP q (convN i rs.length f g x + convRow j (f i) g i x) D).1 (canP q (convN i rs.length f g x + convRow j (f i) g i x) D).2)
        ⟨sc, _, ws, rfl, ef, lws, fun x w hw => by
          have z := hws x w hw
          have e : convN i rs.length f g x + convRow 0 (f i) g i x = convN i rs.length f g x := by show _ + 0 = _; omega
          rw [e]
          exact z⟩ ?_ ?_
      · rintro j σ Hd hj ⟨sd, v5, ws, rfl, ed, lws, hws⟩
        have i1 : i < ps.length := by omega
        have j1 : j < rs.length := by omega
        have ij : i + j < ws.length := by omega
        have eij : (0 + (i : Int)) + (0 + (j : Int)) = ((i + j : Nat) : Int) := by omega
        have nA := (fv i vs[i] ps[i] (by simp [hi]) (by simp [i1])).mono sd
        have nB := (fu j us[j] rs[j] (by simp [hj]) (by simp [j1])).mono sd
        have nW := hws (i + j) ws[i + j] (by simp [ij])
        have cA := nA.canon
        have cB := nB.canon
        have rW := hw' i j i1 j1
        rw [getD_at i1, getD_at j1] at rW
        have fij := hs i j
        refine ⟨_, rfl, _, rfl, _, rfl, _, rfl, _, _, rfl, rfl, fd, ws, _, ws[i + j], rfl, rfl, .of ed, (by show atI ws ((0 + (i : Int)) + (0 + (j : Int))) = _; rw [eij]; exact atI_nat (by simp [ij])), _, rfl, _, rfl, _, rfl, a, vs, _, vs[i], rfl, rfl, .of (sd _ _ ea), (by show atI vs (0 + (i : Int)) = _; rw [Int.zero_add]; exact atI_nat (by simp [hi])), _, rfl, _, rfl, b, us, _, us[j], rfl, rfl, .of (sd _ _ eb), (by show atI us (0 + (j : Int)) = _; rw [Int.zero_add]; exact atI_nat (by simp [hj])), td, q, _, _, ps[i], rs[j], B2, rfl, ht.mono sd, hq, nA, nB, by decide +kernel, by decide +kernel, fun v' H' s' hv => ?_⟩
        have mW : Weq q (mulQ q ps[i] rs[j]) (f i * g j, D) := ((mulQ_canon hq cA cB).2).trans rW (cA.bot.mul cB.bot)
        have cM := hv.canon
        have eM : mulQ q ps[i] rs[j] = canP q (f i * g j) D := canon_uniq hq cM (canP_canon hq okD) (mW.trans (canP_worth okD).symm okD)
        have bM := canP_bd (T := f i * g j) hq okD b1000 (Nat.le_trans fij (by decide +kernel)) bD
        have hv2 := hv.sized (B' := B2) (by rw [eM]; exact bM.1) (by rw [eM]; exact bM.2)
        refine ⟨td, q, _, _, canP q (convN i rs.length f g (i + j) + convRow j (f i) g i (i + j)) D, mulQ q ps[i] rs[j], B2, rfl, ht.mono (sd.trans s'), hq, nW.mono s', hv2, b1000, by decide +kernel, fun v2 H2 s2 hw2 => ?_⟩
        have ed2 := s2 _ _ (s' _ _ ed)
        have eA := can_add hq okD (canP_canon (T := convN i rs.length f g (i + j) + convRow j (f i) g i (i + j)) hq okD) cM (canP_worth okD) mW
        rw [eA] at hw2
        refine ⟨_, rfl, _, rfl, _, rfl, _, _, rfl, rfl, fd, ws, _, i + j, rfl, rfl, ed2, (by show ixN ws.length ((0 + (i : Int)) + (0 + (j : Int))) = _; rw [eij]; unfold ixN; rw [if_pos (by omega), if_pos (by omega), Int.toNat_natCast]), ?_⟩
        have far : ∀ b o, b ≠ fd → H2 b = some o → upd H2 fd (.lst (ws.set (i + j) v2)) b = some o := fun b o nb e => by rw [upd_ne nb]; exact e
        refine ⟨same_but (sd.trans (s'.trans s2)) nfd, _, _, rfl, upd_same, by rw [List.length_set]; exact lws, fun x w hw => ?_⟩
        have eR : convRow (j + 1) (f i) g i x = convRow j (f i) g i x + if i + j = x then f i * g j else 0 := by
          unfold convRow
          rw [sumN_last]
        by_cases zx : i + j = x
        · subst zx
          rw [List.getElem?_set_self ij] at hw
          cases hw
          rw [eR, if_pos rfl, ← Int.add_assoc]
          have bd1 : (convN i rs.length f g (i + j)).natAbs ≤ 60 * (60 * 10 ^ 270) := Nat.le_trans (conv_bd (M := 10 ^ 270) fun x y _ _ => hs x y) (Nat.mul_le_mul (by omega) (Nat.mul_le_mul_right _ (by omega)))
          have bd2 : (convRow j (f i) g i (i + j)).natAbs ≤ 60 * 10 ^ 270 := by
            unfold convRow
            refine Nat.le_trans (sumN_bd (M := 10 ^ 270) j _ fun y hy => ?_) (Nat.mul_le_mul_right _ (by omega))
            by_cases zz : i + y = i + j
            · rw [if_pos zz]; exact hs i y
            · rw [if_neg zz]; exact Nat.zero_le _
          have bT : (convN i rs.length f g (i + j) + convRow j (f i) g i (i + j) + f i * g j).natAbs ≤ B2 := by
            refine Nat.le_trans (Nat.le_trans (Int.natAbs_add_le ..) (Nat.add_le_add (Nat.le_trans (Int.natAbs_add_le ..) (Nat.add_le_add bd1 bd2)) fij)) (by decide +kernel)
          have bb := canP_bd hq okD b1000 bT bD
          exact (hw2.sized bb.1 bb.2).far ed2 far
        · rw [List.getElem?_set_ne zx] at hw
          rw [eR, if_neg zx, Int.add_zero]
          exact ((hws x w hw).mono (s'.trans s2)).far ed2 far
      · rintro σ Hd ⟨sd, v5, ws, rfl, ed, lws, hws⟩
        refine ⟨sd, _, _, ws, rfl, ed, lws, fun x w hw => ?_⟩
        have e : convN (i + 1) rs.length f g x = convN i rs.length f g x + convRow us.length (f i) g i x := by
          unfold convN
          rw [sumN_last, lu]
        rw [e]
        exact hws x w hw
    · rintro σ Hc ⟨sc, v4, v5, ws, rfl, ef, lws, hws⟩
      have hG : RowG B2 Hc q fd (prodP q ps.length rs.length f g D (ps.length + rs.length)) := ⟨ws, ef, by unfold prodP; rw [List.length_map, List.length_range]; omega, fun x w p x1 x2 => by
        have hx : x < ps.length + rs.length := by rw [← eN, ← lws]; exact (List.getElem?_eq_some_iff.mp x1).1
        unfold prodP at x2
        rw [List.getElem?_map] at x2
        simp [hx] at x2
        subst x2
        have z := hws x w x1
        rw [lv] at z
        exact z⟩
      refine ⟨_, rfl, _, rfl, td, fd, q, _, B2, rfl, ht.mono sc, hq, hG, by unfold prodP; rw [List.length_map, List.length_range]; omega, fun c H' s' nc hc => k c H' (sc.trans s') (none_of sc nc) ?_⟩
      rw [cut_prod] at hc
      exact hc
theorem sc_law_e_row : FnScope ["pen", "told", "most", "far", "row"] ["pen", "told", "most", "far"] (defScope s_law_e_row) := ⟨rfl, rfl, rfl, by decide +kernel, rfl, by decide +kernel, by decide +kernel⟩
theorem ok_law_e_row (T : Txt K mg t) : FnOk P w K mg base CX0 4 t.f_law_e_row t.d_law_e_row ["pen", "told", "most", "far"] (spERow53 K) := by
  have S := sc_law_e_row
  refine T.F_law_e_row.ok S (fun vs H Q E h => ?_) (fun cdv A outer s H vs Q E hr h => ?_)
  · obtain ⟨P0, a, td, ns, q, far, mN, F, rfl, _⟩ := h
    rfl
  · obtain ⟨P0, a, td, ns, q, far, mN, F, rfl, pc, hS, ht, hq, m10, f1, f2, f3, f4, k⟩ := h
    have G_law_e_next := ok_law_e_next (P := P) (w := w) (base := base) T
    have G_law_e_number := ok_law_e_number (P := P) (w := w) (base := base) T
    have G_law_e_of := ok_law_e_of (P := P) (w := w) (base := base) (B := F + 1000) T
    refine ⟨_, (@pss_cons _ _ _ _ _ (ps_comp (i0 := 4) (N := ["k", "pen", "told", "far"]) (ρ := (fun σ => [σ[0]?.join, σ[1]?.join, σ[3]?.join])) ⟨rfl, rfl, by decide +kernel, by decide +kernel, (List.forall_mem_cons.mpr ⟨rfl, (List.forall_mem_cons.mpr ⟨rfl, (List.forall_mem_cons.mpr ⟨rfl, (List.forall_mem_nil _)⟩)⟩)⟩), has_of (by rfl), rfl, by decide +kernel, rfl, (fun σ j v h => match j, h with | 0, h => ⟨0, _, rfl, rfl, join_some h, Or.inr (Or.inl rfl), .inl rfl, .inl rfl⟩ | 1, h => ⟨1, _, rfl, rfl, join_some h, Or.inr (Or.inl rfl), .inl rfl, .inl rfl⟩ | 2, h => ⟨3, _, rfl, rfl, join_some h, Or.inr (Or.inl rfl), .inl rfl, .inl rfl⟩ | j + 3, h => by cases h), (fun _ _ => rfl)⟩ rfl S.nd rfl (Or.inl rfl) (pi_range1 rfl T.n_range (@pa_mor _ _ _ _ _ (by rfl) (pe_call G_law_e_next (hr.mono (by decide)) rfl T.mg_law_e_next T.F_law_e_next.kp T.b_law_e_next .nil pass0 (@pa_mor _ _ _ _ _ (by rfl) (pv 0) (@pa_mor _ _ _ _ _ (by rfl) (pv 2) pa_nil))) pa_nil)) (fun s₃ H₃ fp => .nil) (fun s₃ H₃ fp => (pe_call G_law_e_number (hr.mono (by decide)) rfl T.mg_law_e_number T.F_law_e_number.kp T.b_law_e_number .nil pass0 (@pa_mor _ _ _ _ _ (by rfl) (pv 1) (@pa_mor _ _ _ _ _ (by rfl) (pv 2) (@pa_mor _ _ _ _ _ (by rfl) (pv 3) pa_nil))))))
      (@pss_one _ _ _ (@ps_ret _ _ _ _ (@pe_op _ _ _ _ _ _ _ _ op_cat (pv 4) (pe_comp (N := ["k", "told"]) (ρ := (fun σ => [σ[1]?.join])) ⟨rfl, rfl, by decide +kernel, by decide +kernel, (List.forall_mem_cons.mpr ⟨rfl, (List.forall_mem_nil _)⟩), has_of (by rfl), rfl, by decide +kernel, rfl, (fun σ j v h => match j, h with | 0, h => ⟨1, _, rfl, rfl, join_some h, Or.inr (Or.inl rfl), .inl rfl, .inl rfl⟩ | j + 1, h => by cases h), (fun _ _ => rfl)⟩ rfl (pi_range1 rfl T.n_range (@pa_mor _ _ _ _ _ (by rfl) (@pe_op _ _ _ _ _ _ _ _ op_fdiv (pe_call G_law_e_next (hr.mono (by decide)) rfl T.mg_law_e_next T.F_law_e_next.kp T.b_law_e_next .nil pass0 (@pa_mor _ _ _ _ _ (by rfl) (pv 0) (@pa_mor _ _ _ _ _ (by rfl) pe_int pa_nil))) pe_int) pa_nil)) (fun s₃ H₃ fp => .nil) (fun s₃ H₃ fp => (pe_call G_law_e_of (hr.mono (by decide)) rfl T.mg_law_e_of T.F_law_e_of.kp T.b_law_e_of .nil pass0 (@pa_mor _ _ _ _ _ (by rfl) (pv 1) (@pa_mor _ _ _ _ _ (by rfl) pe_int pa_nil))))))))), ?_⟩
    refine seq_of (asg_of (comp_ofE (P := P0) (a := a) (N := mN) (Nat.lt_of_le_of_lt m10 (by decide)) (fun R h => ⟨_, rfl, _, rfl, P0, a, ns, _, rfl, pc, hS, by omega, Mid.of_lt (by omega) (by omega), fun r H1 r0 r1 s1 p1 => ⟨r, rfl, by omega, by omega, h r.toNat H1 (by omega) s1 p1⟩⟩) (fun _ i y Hx => ∃ xm : Int × Int, NumAt F (er P0 Hx) q y xm.1 xm.2) (fun _ _ _ _ _ _ ⟨xm, h1⟩ e _ f => ⟨xm, h1.farE e f⟩) ?_ ?_))
    · intro D i hi Hc R sc pcc _ nD kc
      exact ⟨_, rfl, _, rfl, _, rfl, P0, a, td, ns, q, far, F, rfl, pcc, Same.seq sc hS, ht.mono sc, hq, f1, f2, f3, f4, fun v x m H' s' p' hv => kc v H' s' p' ⟨(x, m), hv⟩⟩
    intro D1 ys H1 nD1 _ s1 p1 lys hP1 eD1
    obtain ⟨ps, hR1, lps⟩ := rowG_pick (er_some nD1 eD1) hP1
    obtain ⟨D, okD, dvD, bdD, bcD⟩ := one_botC (F := F) (by omega) ps (hR1.botF (by omega))
    dsimp only [gName]
    refine ret_of (op_of ⟨_, rfl, comp_ofE (P := P0) (a := a) (N := 10) (by decide) (fun R h => ⟨_, rfl, P0, a, ns, 7, rfl, p1, Same.seq s1 hS, by decide, Mid.of_lt (by decide) (by decide), fun r H2 r0 r1 s2 p2 => ⟨_, _, rfl, rfl, ⟨by decide, by decide⟩, r / 2, rfl, by omega, by omega, h (r / 2).toNat H2 (by omega) s2 p2⟩⟩) (fun _ i y Hx => NumAt (F + 1000) (er P0 Hx) q y (ofP q 0).1 (ofP q 0).2) (fun _ _ _ _ _ _ h1 e _ f => h1.farE e f) ?_ ?_⟩)
    · intro D i hi Hc R sc pcc _ nD kc
      exact ⟨_, rfl, td, q, 0, rfl, (ht.mono (s1.trans sc)).mono er_le, hq, by show Int.natAbs 0 ≤ _; omega, by omega, fun v H' s' hv => kc v H' (SameE.of s') (pcc.mono s') (hv.er (H' := H') (pcc.mono s'))⟩
    intro D2 zs H2 nD2 _ s2 p2 lzs hP2 eD2
    have eD1' := s2.at nD1 eD1
    refine ⟨D1, D2, ys, zs, rfl, rfl, eD1', eD2, Nat.le_trans (show _ ≤ 20 by omega) (by decide), fun r nr => ?_⟩
    have nP := p2.ne nr
    have sr : Same H2 (upd H2 r (.lst (ys ++ zs))) := same_upd nr
    have e0 : ofP q 0 = (0, 1) := by unfold ofP; split <;> simp
    refine k r (ps ++ List.replicate zs.length (0, 1)) D _ (s1.trans (s2.trans (SameE.of sr))) (p2.mono sr) (none_of (s1.trans s2) (by rw [er_ne nP]; exact nr)) (by rw [List.length_append, List.length_replicate]; omega) ?_ okD (fun p hp => ?_) (Nat.le_trans bdD (Nat.pow_le_pow_right (by omega) (by omega))) (fun p hp => ?_) (fun kk hk => ?_)
    · obtain ⟨vs1, e1, l1, g1⟩ := hR1.mono s2
      rw [er_ne nD1, eD1'] at e1
      cases e1
      refine RowG.cat (er_some nP upd_same) l1 (by rw [List.length_replicate]) (fun i v p h1 h2 => ((g1 i v p h1 h2).mono (er_same sr)).weak (by omega)) (fun i v p h1 h2 => ?_)
      rw [List.getElem?_replicate] at h2
      split at h2
      · cases h2
        have z := hP2 i v h1
        rw [e0] at z
        exact z.mono (er_same sr)
      · cases h2
    · rcases List.mem_append.mp hp with h | h
      · exact dvD p h
      · rw [(List.mem_replicate.mp h).2]
        exact Int.one_dvd D
    · rcases List.mem_append.mp hp with h | h
      · exact .inr (Nat.le_trans (bcD p h) (Nat.mul_le_mul_left _ (Nat.pow_le_pow_right (by omega) (by omega))))
      · rw [(List.mem_replicate.mp h).2]
        exact .inl rfl
    · rw [List.getD_eq_getElem?_getD, List.getElem?_append_right (by omega), List.getElem?_replicate]
      split <;> rfl
theorem Txt.cx_NoOver {K : PySem.W.Frag} {mg : Str → Option Value} {t : Adr} (T : Txt K mg t) : ClsX K t.C_NoOver := ⟨T.cx1, T.cx2, T.cx3, T.cx4, T.cx5, T.cx6⟩
theorem sc_law_e_refused : FnScope ["world", "one", "other", "refused", "e"] ["world", "one", "other"] (defScope s_law_e_refused) := ⟨rfl, rfl, rfl, by decide +kernel, rfl, by decide +kernel, by decide +kernel⟩
theorem ok_law_e_refused (T : Txt K mg t) : FnOk P w K mg base CX0 8 t.f_law_e_refused t.d_law_e_refused ["world", "one", "other"] (spRef53 t.C_World) := by
  have S := sc_law_e_refused
  have G_parted := ok_parted (P := P) (w := w) (base := base) T
  refine T.F_law_e_refused.ok S (fun vs H Q E h => ?_) (fun cdv A outer s H vs Q E hr h => ?_)
  · obtain ⟨z, a, b, q, ps, rs, D1, D2, f, g, T, U, L, rfl, _⟩ := h
    rfl
  · obtain ⟨z, a, b, q, ps, rs, D1, D2, f, g, TT, U, LL, rfl, hz, hq, hA, hB, hin, hc, k⟩ := h
    refine ⟨_, (@pss_cons _ _ _ _ _ (@ps_put _ _ 3 _ _ _ _ (by rfl) (by first | exact .inl rfl | exact .inr rfl | assumption) S.nd rfl (Or.inl rfl) pe_bl)
      (@pss_cons _ _ _ _ _ (ps_tryAs rfl rfl S.nd (i := 4) rfl rfl (psx_expr (pex_call G_parted (hr.mono (by decide)) rfl T.mg_parted T.F_parted.kp T.b_parted .nil (@pa_mor _ _ _ _ _ (by rfl) (pv 0) (@pa_mor _ _ _ _ _ (by rfl) (pv 1) (@pa_mor _ _ _ _ _ (by rfl) (pv 2) pa_nil)))))
        (fun ea => (@pss_cons _ _ _ _ _ (@ps_put _ _ 3 _ _ _ _ (by rfl) (by first | exact .inl rfl | exact .inr rfl | assumption) S.nd rfl (Or.inl rfl) (@pe_and _ _ _ _ _ _ _ (pe_callB (call_isi (K := K)) rfl T.n_isinstance boot_isinstance (@pa_mor _ _ _ _ _ (by rfl) (pv 4) (@pa_mor _ _ _ _ _ (by rfl) (pe_glob (v := .ref _) rfl T.mg_NoOver rfl) pa_nil))) (@pe_one _ _ _ _ _ (pe_callB (call_isi (K := K)) rfl T.n_isinstance boot_isinstance (@pa_mor _ _ _ _ _ (by rfl) (pv 4) (@pa_mor _ _ _ _ _ (by rfl) (pe_bltn (v := .ty "ValueError") rfl T.n_ValueError boot_ValueError rfl) pa_nil))))))
      (@pss_one _ _ _ (@ps_put _ _ 3 _ _ _ _ (by rfl) (by first | exact .inl rfl | exact .inr rfl | assumption) S.nd rfl (Or.inl rfl) (@pe_and _ _ _ _ _ _ _ (pv 3) (@pe_and _ _ _ _ _ _ _ (@pe_not _ _ _ _ (pe_callB (call_isi (K := K)) rfl T.n_isinstance boot_isinstance (@pa_mor _ _ _ _ _ (by rfl) (pv 4) (@pa_mor _ _ _ _ _ (by rfl) (pe_glob (v := .ref _) rfl T.mg_NoFit rfl) pa_nil)))) (@pe_one _ _ _ _ _ (@pe_not _ _ _ _ (pe_callB (call_isi (K := K)) rfl T.n_isinstance boot_isinstance (@pa_mor _ _ _ _ _ (by rfl) (pv 4) (@pa_mor _ _ _ _ _ (by rfl) (pe_glob (v := .ref _) rfl T.mg_NoWorld rfl) pa_nil))))))))))) rfl T.mg_WrightError T.x_WrightError PySem.F.excBase_ValueError.hasBase)
      (@pss_one _ _ _ (@ps_ret _ _ _ _ (pv 3))))), ?_⟩
    refine ⟨_, rfl, _, rfl, _, rfl, z, a, b, q, ps, rs, D1, D2, f, g, TT, U, LL, rfl, hz, hq, hA, hB, hin, fun _ H1 s1 => ⟨_, rfl, ⟨T.x_NoOver, T.m_NO_WE⟩, fun ea hea => ?_⟩, fun h => absurd hc h⟩
    have ty : TyX K (upd H1 ea (ExcO ea t.C_NoOver)) (.ref ea) (.ref t.C_NoOver) := .exc upd_same T.cx_NoOver
    refine ⟨_, rfl, _, _, _, true, rfl, rfl, ty, T.k_NO, true, rfl, iteT ?_⟩
    refine ⟨_, rfl, _, _, _, true, rfl, rfl, ty, T.k_VE, ?_⟩
    refine ⟨_, rfl, true, rfl, iteT ⟨_, rfl, _, _, _, false, rfl, rfl, ty, T.k_NoFit, false, rfl, true, rfl, iteT ?_⟩⟩
    refine ⟨_, rfl, _, _, _, false, rfl, rfl, ty, T.k_NoWorld, false, rfl, ?_⟩
    exact ⟨_, rfl, k _ (s1.trans (same_upd hea))⟩
theorem sc_law_e_parted_right : FnScope ["told", "world", "one", "other", "handed", "turn", "found", "held"] ["told", "world", "one", "other"] (defScope s_law_e_parted_right) := ⟨rfl, rfl, rfl, by decide +kernel, rfl, by decide +kernel, by decide +kernel⟩
theorem ok_law_e_parted_right (T : Txt K mg t) : FnOk P w K mg base CX0 8 t.f_law_e_parted_right t.d_law_e_parted_right ["told", "world", "one", "other"] (spEPaR t.C_World) := by
  have S := sc_law_e_parted_right
  have G_parted := ok_parted (P := P) (w := w) (base := base) T
  have G_law_e_is_row := ok_law_e_is_row (P := P) (w := w) (base := base) T
  have G_law_e_product := ok_law_e_product (P := P) (w := w) (base := base) T
  have G_law_e_sum := ok_law_e_sum (P := P) (w := w) (base := base) T
  have G_law_e_cut := ok_law_e_cut (P := P) (w := w) (base := base) T
  refine T.F_law_e_parted_right.ok S (fun vs H Q E h => ?_) (fun cdv A outer s H vs Q E hr h => ?_)
  · obtain ⟨td, z, a, b, q, ps, rs, D1, D2, f, g, T, U, L, rfl, _⟩ := h
    rfl
  · obtain ⟨td, z, a, b, q, ps, rs, D1, D2, f, g, TT, U, LL, rfl, ht, hz, hq, hA, hB, hin, hc, k⟩ := h
    have hu8 := hr.units
    refine ⟨_, (@pss_cons _ _ _ _ _ (@ps_put _ _ 4 _ _ _ _ (by rfl) (by first | exact .inl rfl | exact .inr rfl | assumption) S.nd rfl (Or.inl rfl) (@pe_lst _ _ _ _ (@pa_mor _ _ _ _ _ (by rfl) (pe_callTy call_list_of rfl T.n_list boot_list (@pa_mor _ _ _ _ _ (by rfl) (pv 2) pa_nil)) (@pa_mor _ _ _ _ _ (by rfl) (pe_callTy call_list_of rfl T.n_list boot_list (@pa_mor _ _ _ _ _ (by rfl) (pv 3) pa_nil)) pa_nil))))
      (@pss_cons _ _ _ _ _ (ps_for PassesOwn.never rfl (pi_range1 rfl T.n_range (@pa_mor _ _ _ _ _ (by rfl) pe_int pa_nil)) (pg_name (i := 5) S.nd rfl (Or.inl rfl))
        (@pss_cons _ _ _ _ _ (@ps_put _ _ 6 _ _ _ _ (by rfl) (by first | exact .inl rfl | exact .inr rfl | assumption) S.nd rfl (Or.inl rfl) (pe_call G_parted (hr.mono (by decide)) rfl T.mg_parted T.F_parted.kp T.b_parted .nil passN (@pa_mor _ _ _ _ _ (by rfl) (pv 1) (@pa_mor _ _ _ _ _ (by rfl) (@pe_ix _ _ _ _ _ _ _ ix_list (pv 4) pe_int (fun _ _ => rfl)) (@pa_mor _ _ _ _ _ (by rfl) (@pe_ix _ _ _ _ _ _ _ ix_list (pv 4) pe_int (fun _ _ => rfl)) pa_nil)))))
      (@pss_cons _ _ _ _ _ (@ps_if _ _ _ _ _ _ _ _ (PW.pt (@pw_or _ _ _ _ _ _ _ (@pt_not _ _ _ _ (pt_val (pe_callB (call_isi (K := K)) rfl T.n_isinstance boot_isinstance (@pa_mor _ _ _ _ _ (by rfl) (pv 6) (@pa_mor _ _ _ _ _ (by rfl) (pe_bltn (v := .ty "tuple") rfl T.n_tuple boot_tuple rfl) pa_nil))))) (@pw_or1 _ _ _ _ (@pt_cmpR _ _ _ _ _ _ _ _ op_ne (pe_callB call_len_seq rfl T.n_len boot_len (@pa_mor _ _ _ _ _ (by rfl) (pv 6) pa_nil)) pe_int (nomark _))))) (@pss_one _ _ _ (@ps_ret _ _ _ _ pe_bl)) pss_nil)
      (@pss_cons _ _ _ _ _ (@ps_if _ _ _ _ _ _ _ _ (PW.pt (@pw_or _ _ _ _ _ _ _ (@pt_not _ _ _ _ (pt_val (pe_call G_law_e_is_row (hr.mono (by decide)) rfl T.mg_law_e_is_row T.F_law_e_is_row.kp T.b_law_e_is_row .nil pass0 (@pa_mor _ _ _ _ _ (by rfl) (pv 0) (@pa_mor _ _ _ _ _ (by rfl) (@pe_ix _ _ _ _ _ _ _ ix_tup (pv 6) pe_int (fun _ _ => rfl)) pa_nil))))) (@pw_or1 _ _ _ _ (@pt_not _ _ _ _ (pt_val (pe_call G_law_e_is_row (hr.mono (by decide)) rfl T.mg_law_e_is_row T.F_law_e_is_row.kp T.b_law_e_is_row .nil pass0 (@pa_mor _ _ _ _ _ (by rfl) (pv 0) (@pa_mor _ _ _ _ _ (by rfl) (@pe_ix _ _ _ _ _ _ _ ix_tup (pv 6) pe_int (fun _ _ => rfl)) pa_nil)))))))) (@pss_one _ _ _ (@ps_ret _ _ _ _ pe_bl)) pss_nil)
      (@pss_cons _ _ _ _ _ (@ps_put _ _ 7 _ _ _ _ (by rfl) (by first | exact .inl rfl | exact .inr rfl | assumption) S.nd rfl (Or.inl rfl) (pe_callTy call_list_of rfl T.n_list boot_list (@pa_mor _ _ _ _ _ (by rfl) (@pe_ix _ _ _ _ _ _ _ ix_tup (pv 6) pe_int (fun _ _ => rfl)) pa_nil)))
      (@pss_cons _ _ _ _ _ (@ps_if _ _ _ _ _ _ _ _ (PW.pt (@pw_or _ _ _ _ _ _ _ (@pt_cmpR _ _ _ _ _ _ _ _ (op_neL (n := 1) hu8) (pe_call G_law_e_cut (hr.mono (by decide)) rfl T.mg_law_e_cut T.F_law_e_cut.kp T.b_law_e_cut .nil pass0 (@pa_mor _ _ _ _ _ (by rfl) (pv 0) (@pa_mor _ _ _ _ _ (by rfl) (@pe_ix _ _ _ _ _ _ _ ix_tup (pv 6) pe_int (fun _ _ => rfl)) pa_nil))) (@pe_ix _ _ _ _ _ _ _ ix_tup (pv 6) pe_int (fun _ _ => rfl)) (nomark _)) (@pw_or1 _ _ _ _ (@pt_cmpR _ _ _ _ _ _ _ _ (op_neL (n := 1) hu8) (pe_call G_law_e_cut (hr.mono (by decide)) rfl T.mg_law_e_cut T.F_law_e_cut.kp T.b_law_e_cut .nil pass0 (@pa_mor _ _ _ _ _ (by rfl) (pv 0) (@pa_mor _ _ _ _ _ (by rfl) (pv 7) pa_nil))) (pv 7) (nomark _))))) (@pss_one _ _ _ (@ps_ret _ _ _ _ pe_bl)) pss_nil)
      (@pss_cons _ _ _ _ _ (@ps_if _ _ _ _ _ _ _ _ (@pt_cmpR _ _ _ _ _ _ _ _ op_ge (pe_callB call_len_seq rfl T.n_len boot_len (@pa_mor _ _ _ _ _ (by rfl) (pv 7) pa_nil)) (pe_callB call_len_seq rfl T.n_len boot_len (@pa_mor _ _ _ _ _ (by rfl) (pe_call G_law_e_cut (hr.mono (by decide)) rfl T.mg_law_e_cut T.F_law_e_cut.kp T.b_law_e_cut .nil pass0 (@pa_mor _ _ _ _ _ (by rfl) (pv 0) (@pa_mor _ _ _ _ _ (by rfl) (pv 3) pa_nil))) pa_nil)) (nomark _)) (@pss_one _ _ _ (@ps_ret _ _ _ _ pe_bl)) pss_nil)
      (@pss_cons _ _ _ _ _ (@ps_if _ _ _ _ _ _ _ _ (@pt_cmpR _ _ _ _ _ _ _ _ (op_neL (n := 1) hu8) (pe_call G_law_e_sum (hr.mono (by decide)) rfl T.mg_law_e_sum T.F_law_e_sum.kp T.b_law_e_sum .nil pass0 (@pa_mor _ _ _ _ _ (by rfl) (pv 0) (@pa_mor _ _ _ _ _ (by rfl) (pe_call G_law_e_product (hr.mono (by decide)) rfl T.mg_law_e_product T.F_law_e_product.kp T.b_law_e_product .nil pass0 (@pa_mor _ _ _ _ _ (by rfl) (pv 0) (@pa_mor _ _ _ _ _ (by rfl) (@pe_ix _ _ _ _ _ _ _ ix_tup (pv 6) pe_int (fun _ _ => rfl)) (@pa_mor _ _ _ _ _ (by rfl) (pv 3) pa_nil)))) (@pa_mor _ _ _ _ _ (by rfl) (pv 7) pa_nil)))) (pe_call G_law_e_cut (hr.mono (by decide)) rfl T.mg_law_e_cut T.F_law_e_cut.kp T.b_law_e_cut .nil pass0 (@pa_mor _ _ _ _ _ (by rfl) (pv 0) (@pa_mor _ _ _ _ _ (by rfl) (pv 2) pa_nil))) (nomark _)) (@pss_one _ _ _ (@ps_ret _ _ _ _ pe_bl)) pss_nil)
      (@pss_cons _ _ _ _ _ (ps_expr (pe_bm PySem.F.plainAttrs_list PySem.F.slot_list_append PySem.F.type_list_append mt_append (@pe_ix _ _ _ _ _ _ _ ix_tup (pv 6) pe_int (fun _ _ => rfl)) (@pa_mor _ _ _ _ _ (by rfl) pe_non pa_nil)))
      (@pss_cons _ _ _ _ _ (@ps_if _ _ _ _ _ _ _ _ (PW.pt (@pw_or _ _ _ _ _ _ _ (@pt_cmpR _ _ _ _ _ _ _ _ (op_neL (n := 1) hu8) (@pe_ix _ _ _ _ _ _ _ ix_tup (pv 6) pe_int (fun _ _ => rfl)) (pv 7) (nomark _)) (@pw_or1 _ _ _ _ (@pt_cmpR _ _ _ _ _ _ _ _ (op_neL (n := 2) hu8) (pv 4) (@pe_lst _ _ _ _ (@pa_mor _ _ _ _ _ (by rfl) (pv 2) (@pa_mor _ _ _ _ _ (by rfl) (pv 3) pa_nil))) (nomark _))))) (@pss_one _ _ _ (@ps_ret _ _ _ _ pe_bl)) pss_nil)
      (@pss_one _ _ _ (ps_expr (pe_bm PySem.F.plainAttrs_list PySem.F.slot_list_append PySem.F.type_list_append mt_append (@pe_ix _ _ _ _ _ _ _ ix_tup (pv 6) pe_int (fun _ _ => rfl)) (@pa_mor _ _ _ _ _ (by rfl) pe_non pa_nil))))))))))))))
      (@pss_one _ _ _ (@ps_ret _ _ _ _ (@pe_cmpR _ _ _ _ _ _ _ _ (op_eqL (n := 2) hu8) (pv 4) (@pe_lst _ _ _ _ (@pa_mor _ _ _ _ _ (by rfl) (pv 2) (@pa_mor _ _ _ _ _ (by rfl) (pv 3) pa_nil))) (nomark _)))))), ?_⟩
    obtain ⟨vs, ea, lv, fv⟩ := id hA
    refine ⟨_, rfl, a, vs, rfl, .inl (.of ea), fun h0 nh0 => ?_⟩
    have s0 : Same H (upd H h0 (.lst vs)) := same_upd nh0
    have hD : RowG (10 ^ 150) (upd H h0 (.lst vs)) q h0 ps := ⟨vs, upd_same, lv, fun i v p h1 h2 => (fv i v p h1 h2).mono s0⟩
    generalize upd H h0 (.lst vs) = H0 at s0 hD ⊢
    obtain ⟨us, eb, lu, fu⟩ := id (hB.mono s0)
    refine ⟨_, rfl, b, us, rfl, .inl (.of eb), fun h1 nh1 => ?_⟩
    have s1 : Same H0 (upd H0 h1 (.lst us)) := same_upd nh1
    have hE : RowG (10 ^ 150) (upd H0 h1 (.lst us)) q h1 rs := ⟨us, upd_same, lu, fun i v p h1 h2 => (fu i v p h1 h2).mono s1⟩
    generalize upd H0 h1 (.lst us) = H1 at s1 hE ⊢
    refine ⟨by show 2 ≤ sizeLine; decide, fun hd nhd => ?_⟩
    have s2 : Same H1 (upd H1 hd (.lst [.ref h0, .ref h1])) := same_upd nhd
    have ehd : upd H1 hd (.lst [.ref h0, .ref h1]) hd = some (.lst [.ref h0, .ref h1]) := upd_same
    generalize upd H1 hd (.lst [.ref h0, .ref h1]) = H2 at s2 ehd ⊢
    have sA := s0.trans (s1.trans s2)
    have hD := hD.mono (s1.trans s2)
    have hE := hE.mono s2
    have hA2 := hA.mono sA
    have hB2 := hB.mono sA
    have ht2 := ht.mono sA
    have hz2 := hz.mono sA
    have b300 : B2 ≤ 10 ^ 300 := by decide +kernel
    have b1000 : 1000 ≤ B2 := by decide +kernel
    have b150 : 10 ^ 150 ≤ B2 := by decide +kernel
    have p50 := hin.lp
    have r50 := hin.lr
    have cp := hA.canonP
    have same : ∀ {Hx : Hp} {R : VK} {r : Bool}, Same H2 Hx → (∀ (l : Addr), Hx l = none → R (.bl r) (upd Hx l (.lst [.ref a, .ref b]))) → ∀ l, Hx l = none → rLike K 2 r (.ref hd) (.ref l) (upd Hx l (.lst [.ref a, .ref b])) R := fun {Hx R r} sx kx l nl => by
      have sl : Same Hx (upd Hx l (.lst [.ref a, .ref b])) := same_upd nl
      have sK := sx.trans sl
      refine ⟨hd, l, _, _, rfl, rfl, .of (sK _ _ ehd), .of upd_same, rfl, fun j x y hx hy => ?_, kx l nl⟩
      match j, hx, hy with
      | 0, hx, hy => cases hx; cases hy; exact rowG_like hq (hD.mono sK) (hA2.mono sK) 0
      | 1, hx, hy => cases hx; cases hy; exact rowG_like hq (hE.mono sK) (hB2.mono sK) 0
      | j + 2, hx, hy => cases hx
    refine ⟨2, rfl, by decide, by decide, ?_⟩
    refine for_range (fun i σ Hc => ∃ (v5 v6 v7 : Option V), σ = [some (.ref td), some (.ref z), some (.ref a), some (.ref b), some (.ref hd), v5, v6, v7] ∧ Same H2 Hc) ⟨_, _, _, rfl, Same.refl _⟩ ?_ ?_
    · rintro i σ Hc hi ⟨v5, v6, v7, rfl, sc⟩
      refine ⟨_, rfl, _, rfl, hd, _, _, _, rfl, rfl, .of (sc _ _ ehd), rfl, _, rfl, hd, _, _, _, rfl, rfl, .of (sc _ _ ehd), rfl, z, h0, h1, q, ps, rs, D1, D2, f, g, TT, U, LL, rfl, hz2.mono sc, hq, hD.mono sc, hE.mono sc, hin, fun e => absurd e hc, fun _ fp l1 l2 bps lps D F G u Hf sf efp nl1 nl2 n12 hBy hLe cby cle lle lby PD bD bFu bG => ?_⟩
      have sF := sc.trans sf
      have nl1 := none_of sc nl1
      have nl2 := none_of sc nl2
      have lcr := cutP_len rs
      dsimp only [gName]
      simp only [List.set_cons_zero, List.set_cons_succ]
      refine ⟨_, rfl, _, _, _, true, rfl, rfl, .of (.tup efp), kit_same, true, rfl, iteF ⟨_, rfl, fp, _, rfl, .inr (.of efp), rfl, false, by rw [dV_int]; rfl, iteF ?_⟩⟩
      refine ⟨_, rfl, _, rfl, fp, _, _, _, rfl, rfl, .of efp, rfl, td, l1, q, bps, B2, rfl, ht2.mono sF, hq, hBy, by omega, b300, fun Hg sg => ⟨true, rfl, iteF ?_⟩⟩
      refine ⟨_, rfl, _, rfl, fp, _, _, _, rfl, rfl, .of (sg _ _ efp), rfl, td, l2, q, lps, B2, rfl, ht2.mono (sF.trans sg), hq, hLe.mono sg, by omega, b300, fun Hh sh => ⟨true, rfl, iteF ?_⟩⟩
      have s3 := sg.trans sh
      obtain ⟨wl, el2, lwl, fwl⟩ := hLe.mono s3
      refine ⟨_, rfl, fp, _, _, _, rfl, rfl, .of (s3 _ _ efp), rfl, l2, wl, rfl, .inl (.of el2), fun hl nhl => ?_⟩
      have nehl : hl ≠ l1 := fun e => by
        obtain ⟨_, e1, _⟩ := hBy.mono s3
        rw [e, e1] at nhl
        cases nhl
      have s4' : Same Hh (upd Hh hl (.lst wl)) := same_upd nhl
      have hHe : RowG B2 (upd Hh hl (.lst wl)) q hl lps := ⟨wl, upd_same, lwl, fun i v p h1 h2 => (fwl i v p h1 h2).mono s4'⟩
      dsimp only [gName]
      generalize upd Hh hl (.lst wl) = Hi at s4' hHe ⊢
      have s4 := s3.trans s4'
      simp only [List.set_cons_zero, List.set_cons_succ]
      refine ⟨_, rfl, _, rfl, fp, _, _, _, rfl, rfl, .of (s4 _ _ efp), rfl, td, l1, q, bps, B2, rfl, ht2.mono (sF.trans s4), hq, hBy.mono s4, by omega, fun c1 Hj sj nc1 hC1 => ?_⟩
      rw [cby] at hC1
      have s5 := s4.trans sj
      refine ⟨_, rfl, fp, _, _, _, rfl, rfl, .of (s5 _ _ efp), rfl, rowG_rlike hq hC1 (hBy.mono s5) ⟨false, rfl, iteF ?_⟩⟩
      refine ⟨_, rfl, _, rfl, td, hl, q, lps, B2, rfl, ht2.mono (sF.trans s5), hq, hHe.mono sj, by omega, fun c2 Hk sk nc2 hC2 => ?_⟩
      rw [cle] at hC2
      have hHe := hHe.mono (sj.trans sk)
      refine ⟨_, rfl, rowG_rlike hq hC2 hHe ⟨false, rfl, iteF ?_⟩⟩
      have s6 := s5.trans sk
      obtain ⟨wh, ewh, lwh, _⟩ := id hHe
      refine ⟨_, rfl, hl, wh, rfl, .inl (.of ewh), _, rfl, _, rfl, td, b, q, rs, 10 ^ 150, rfl, ht2.mono (sF.trans s6), hq, hB2.mono (sF.trans s6), by omega, fun c3 Hl sl nc3 hC3 => ?_⟩
      obtain ⟨wc, ewc, lwc, _⟩ := id hC3
      refine ⟨c3, wc, rfl, .inl (.of ewc), _, _, rfl, rfl, _, rfl, ite2 (fun h => absurd (of_decide_eq_true h) (by omega)) (fun _ => ?_)⟩
      dsimp only [tNext]
      have s7 := s6.trans sl
      refine ⟨_, rfl, _, rfl, _, rfl, fp, _, _, _, rfl, rfl, .of (s7 _ _ efp), rfl, _, rfl, td, l1, b, q, bps, rs, D, F, u, rfl, ht2.mono (sF.trans s7), hq, hBy.mono s7, (hB2.mono (sF.trans s7)).weak b150, by omega, by omega, PD.ok, Nat.le_trans bD (by decide +kernel), fun i j => Nat.le_trans (bFu i j) (by decide +kernel), PD.prod, fun c4 Hm sm nc4 hC4 => ?_⟩
      have s8 := s7.trans sm
      have lpr : (prodP q bps.length rs.length F u D (bps.length + rs.length - 1)).length = bps.length + rs.length - 1 := by simp [prodP]
      have lcp := cutP_len (prodP q bps.length rs.length F u D (bps.length + rs.length - 1))
      refine ⟨_, rfl, td, c4, hl, q, _, lps, B2, rfl, ht2.mono (sF.trans s8), hq, hC4, hHe.mono (sl.trans sm), b1000, b300, by omega, by omega, fun c5 Hn sn nc5 hC5 => ?_⟩
      rw [part_eq hq PD cp hLe.canonP] at hC5
      have s9 := s8.trans sn
      refine ⟨_, rfl, _, rfl, td, a, q, ps, 10 ^ 150, rfl, ht2.mono (sF.trans s9), hq, hA2.mono (sF.trans s9), by omega, fun c6 Ho so nc6 hC6 => rowG_rlike hq (hC5.mono so) hC6 ⟨false, rfl, iteF ?_⟩⟩
      have s10 := s9.trans so
      have hHe := hHe.mono (sl.trans (sm.trans (sn.trans so)))
      obtain ⟨w1, ew1, lw1, _⟩ := hBy.mono s10
      refine ⟨_, rfl, fp, _, _, _, rfl, rfl, .of (s10 _ _ efp), rfl, .inl ⟨rfl, _, .of ew1⟩, l1, w1, _, rfl, rfl, ew1, small1000 (by omega), ?_⟩
      have far1 : ∀ b' o, b' ≠ l1 → Ho b' = some o → upd Ho l1 (.lst (w1 ++ [.non])) b' = some o := fun b' o nb e => by rw [upd_ne nb]; exact e
      have sP : Same H2 (upd Ho l1 (.lst (w1 ++ [.non]))) := same_but (sF.trans s10) nl1
      have fpne : fp ≠ l1 := fun e => by
        have e1 := s10 _ _ efp
        rw [e, ew1] at e1
        cases e1
      have hLe9 := (hLe.mono s10).far (Ne.symm n12) ew1 far1
      have hHe9 := hHe.far nehl ew1 far1
      have efp9 := far1 _ _ fpne (s10 _ _ efp)
      generalize upd Ho l1 (.lst (w1 ++ [.non])) = Hq at sP hLe9 hHe9 efp9 ⊢
      refine ⟨_, rfl, fp, _, _, _, rfl, rfl, .of efp9, rfl, _, rfl, rowG_rlike hq hLe9 hHe9 ⟨false, rfl, iteF ?_⟩⟩
      refine ⟨_, rfl, _, rfl, _, rfl, by show 2 ≤ sizeLine; decide, same sP fun l nl => ⟨false, rfl, iteF ?_⟩⟩
      have sl' : Same Hq (upd Hq l (.lst [.ref a, .ref b])) := same_upd nl
      obtain ⟨w2, ew2, lw2, _⟩ := hLe9.mono sl'
      refine ⟨_, rfl, fp, _, _, _, rfl, rfl, .of (sl' _ _ efp9), rfl, .inl ⟨rfl, _, .of ew2⟩, l2, w2, _, rfl, rfl, ew2, small1000 (by omega), ?_⟩
      exact ⟨_, _, _, rfl, same_but (sP.trans sl') nl2⟩
    · rintro σ Hc ⟨v5, v6, v7, rfl, sc⟩
      exact ⟨_, rfl, _, rfl, _, rfl, by show 2 ≤ sizeLine; decide, same sc fun l nl => k _ (sA.trans (sc.trans (same_upd nl)))⟩
theorem tdOf_prime (q : Int) : (tdOf q).prime = if q = 0 then .non else .int q := by
  unfold tdOf
  split <;> rfl
theorem RowG.er {B : Nat} {H : Hp} {q : Int} {c P a : Addr} {ps : List (Int × Int)} (h : RowG B H q c ps) (p : PenC H P a) (n : c ≠ P) : RowG B (My.er P H) q c ps := by
  obtain ⟨vs, e, l, f⟩ := h
  exact ⟨vs, er_some n e, l, fun i v x h1 h2 => (f i v x h1 h2).er (H' := H) p⟩
theorem ofP_one {q : Int} (hq : WheelN q) : ofP q 1 = (1, 1) := by
  unfold ofP
  rcases hq with rfl | ⟨h2, _⟩
  · rfl
  · rw [if_neg (by omega), Int.emod_eq_of_lt (by decide) (by omega)]
theorem ofP_zero (q : Int) : ofP q 0 = o1 := by
  unfold ofP
  split
  · rfl
  · rw [Int.zero_emod]; rfl
theorem sc_law : FnScope ["script", "pen", "k", "told", "world", "wide", "most", "far", "other", "one"] ["script"] (defScope s_law) := ⟨rfl, rfl, rfl, by decide +kernel, rfl, by decide +kernel, by decide +kernel⟩
theorem ok_law (T : Txt K mg t) : FnOk P w K mg base CX0 9 t.f_law t.d_law ["script"] (spLaw K) := by
  have S := sc_law
  have G_law_e_world := ok_law_e_world (P := P) (w := w) (base := base) T
  have G_law_e_row := ok_law_e_row (P := P) (w := w) (base := base) T
  have G_law_e_next := ok_law_e_next (P := P) (w := w) (base := base) T
  have G_law_e_of := ok_law_e_of (P := P) (w := w) (base := base) (B := 10 ^ 150) T
  have G_law_e_cut := ok_law_e_cut (P := P) (w := w) (base := base) T
  have G_law_e_sum := ok_law_e_sum (P := P) (w := w) (base := base) T
  have G_law_e_product := ok_law_e_product (P := P) (w := w) (base := base) T
  have G_law_e_refused := ok_law_e_refused (P := P) (w := w) (base := base) T
  have G_law_e_parted_right := ok_law_e_parted_right (P := P) (w := w) (base := base) T
  have G_World___init__ := ok_init (P := P) (w := w) (base := base) T
  refine T.F_law.ok S (fun vs H Q E h => ?_) (fun cdv A outer s H vs Q E hr h => ?_)
  · obtain ⟨a, ns, rfl, _⟩ := h
    rfl
  · obtain ⟨a, ns, rfl, hS, hlen, kQ⟩ := h
    have hu8 := hr.units
    refine ⟨_, (@pss_cons _ _ _ _ _ (@ps_put _ _ 1 _ _ _ _ (by rfl) (by first | exact .inl rfl | exact .inr rfl | assumption) S.nd rfl (Or.inl rfl) (@pe_lst _ _ _ _ (@pa_mor _ _ _ _ _ (by rfl) (pv 0) (@pa_mor _ _ _ _ _ (by rfl) pe_int (@pa_mor _ _ _ _ _ (by rfl) pe_int pa_nil)))))
      (@pss_cons _ _ _ _ _ (ps_for PassesOwn.never rfl (pi_range1 rfl T.n_range (@pa_mor _ _ _ _ _ (by rfl) pe_int pa_nil)) (pg_name (i := 2) S.nd rfl (Or.inl rfl))
        (@pss_cons _ _ _ _ _ (@ps_if _ _ _ _ _ _ _ _ (PW.pt (pw_and (@pt_cmpR _ _ _ _ _ _ _ _ op_gt (pv 2) pe_int (nomark _)) (pw_and1 (@pt_cmpR _ _ _ _ _ _ _ _ op_ge (@pe_ix _ _ _ _ _ _ _ ix_list (pv 1) pe_int (fun _ _ => rfl)) (pe_callB call_len_seq rfl T.n_len boot_len (@pa_mor _ _ _ _ _ (by rfl) (pv 0) pa_nil)) (nomark _))))) (@pss_one _ _ _ ps_break) pss_nil)
      (@pss_cons _ _ _ _ _ (@ps_put _ _ 3 _ _ _ _ (by rfl) (by first | exact .inl rfl | exact .inr rfl | assumption) S.nd rfl (Or.inr rfl) (pe_call G_law_e_world (hr.mono (by decide)) rfl T.mg_law_e_world T.F_law_e_world.kp T.b_law_e_world .nil pass0 (@pa_mor _ _ _ _ _ (by rfl) (pv 1) pa_nil)))
      (@pss_cons _ _ _ _ _ (@ps_put _ _ 4 _ _ _ _ (by rfl) (by first | exact .inl rfl | exact .inr rfl | assumption) S.nd rfl (Or.inl rfl) (pe_make T.M_World G_World___init__ (hr.mono (by decide)) rfl T.mg_World T.b_World___init__ .nil passN (@pa_mor _ _ _ _ _ (by rfl) (pv 3) pa_nil)))
      (@pss_cons _ _ _ _ _ (@ps_put _ _ 5 _ _ _ _ (by rfl) (by first | exact .inl rfl | exact .inr rfl | assumption) S.nd rfl (Or.inl rfl) (pe_call G_law_e_next (hr.mono (by decide)) rfl T.mg_law_e_next T.F_law_e_next.kp T.b_law_e_next .nil pass0 (@pa_mor _ _ _ _ _ (by rfl) (pv 1) (@pa_mor _ _ _ _ _ (by rfl) pe_int pa_nil))))
      (@pss_cons _ _ _ _ _ (@ps_put _ _ 6 _ _ _ _ (by rfl) (by first | exact .inl rfl | exact .inr rfl | assumption) S.nd rfl (Or.inl rfl) (@pe_ix _ _ _ _ _ _ _ ix_list (@pe_lst _ _ _ _ (@pa_mor _ _ _ _ _ (by rfl) pe_int (@pa_mor _ _ _ _ _ (by rfl) pe_int pa_nil))) (pv 5) (fun _ _ => rfl)))
      (@pss_cons _ _ _ _ _ (@ps_put _ _ 7 _ _ _ _ (by rfl) (by first | exact .inl rfl | exact .inr rfl | assumption) S.nd rfl (Or.inl rfl) (@pe_ix _ _ _ _ _ _ _ ix_list (@pe_lst _ _ _ _ (@pa_mor _ _ _ _ _ (by rfl) (@pe_op _ _ _ _ _ _ _ _ op_pow pe_int pe_int) (@pa_mor _ _ _ _ _ (by rfl) pe_int pa_nil))) (pv 5) (fun _ _ => rfl)))
      (@pss_cons _ _ _ _ _ (@ps_put _ _ 8 _ _ _ _ (by rfl) (by first | exact .inl rfl | exact .inr rfl | assumption) S.nd rfl (Or.inl rfl) (pe_call G_law_e_row (hr.mono (by decide)) rfl T.mg_law_e_row T.F_law_e_row.kp T.b_law_e_row .nil pass0 (@pa_mor _ _ _ _ _ (by rfl) (pv 1) (@pa_mor _ _ _ _ _ (by rfl) (pv 3) (@pa_mor _ _ _ _ _ (by rfl) (pv 6) (@pa_mor _ _ _ _ _ (by rfl) (pv 7) pa_nil))))))
      (@pss_cons _ _ _ _ _ (@ps_put _ _ 9 _ _ _ _ (by rfl) (by first | exact .inl rfl | exact .inr rfl | assumption) S.nd rfl (Or.inl rfl) (pe_call G_law_e_row (hr.mono (by decide)) rfl T.mg_law_e_row T.F_law_e_row.kp T.b_law_e_row .nil pass0 (@pa_mor _ _ _ _ _ (by rfl) (pv 1) (@pa_mor _ _ _ _ _ (by rfl) (pv 3) (@pa_mor _ _ _ _ _ (by rfl) (pv 6) (@pa_mor _ _ _ _ _ (by rfl) (pv 7) pa_nil))))))
      (@pss_cons _ _ _ _ _ (@ps_if _ _ _ _ _ _ _ _ (@pt_cmpR _ _ _ _ _ _ _ _ op_eq (pe_call G_law_e_next (hr.mono (by decide)) rfl T.mg_law_e_next T.F_law_e_next.kp T.b_law_e_next .nil pass0 (@pa_mor _ _ _ _ _ (by rfl) (pv 1) (@pa_mor _ _ _ _ _ (by rfl) pe_int pa_nil))) pe_int (nomark _)) (@pss_one _ _ _ (@ps_put _ _ 9 _ _ _ _ (by rfl) (by first | exact .inl rfl | exact .inr rfl | assumption) S.nd rfl (Or.inl rfl) (pe_call G_law_e_sum (hr.mono (by decide)) rfl T.mg_law_e_sum T.F_law_e_sum.kp T.b_law_e_sum .nil pass0 (@pa_mor _ _ _ _ _ (by rfl) (pv 3) (@pa_mor _ _ _ _ _ (by rfl) (pe_call G_law_e_product (hr.mono (by decide)) rfl T.mg_law_e_product T.F_law_e_product.kp T.b_law_e_product .nil pass0 (@pa_mor _ _ _ _ _ (by rfl) (pv 3) (@pa_mor _ _ _ _ _ (by rfl) (pv 9) (@pa_mor _ _ _ _ _ (by rfl) (pv 8) pa_nil)))) (@pa_mor _ _ _ _ _ (by rfl) (pe_call G_law_e_row (hr.mono (by decide)) rfl T.mg_law_e_row T.F_law_e_row.kp T.b_law_e_row .nil pass0 (@pa_mor _ _ _ _ _ (by rfl) (pv 1) (@pa_mor _ _ _ _ _ (by rfl) (pv 3) (@pa_mor _ _ _ _ _ (by rfl) (pv 6) (@pa_mor _ _ _ _ _ (by rfl) (pv 7) pa_nil))))) pa_nil)))))) pss_nil)
      (@pss_cons _ _ _ _ _ (@ps_if _ _ _ _ _ _ _ _ (@pt_cmpR _ _ _ _ _ _ _ _ op_eq (pe_call G_law_e_next (hr.mono (by decide)) rfl T.mg_law_e_next T.F_law_e_next.kp T.b_law_e_next .nil pass0 (@pa_mor _ _ _ _ _ (by rfl) (pv 1) (@pa_mor _ _ _ _ _ (by rfl) pe_int pa_nil))) pe_int (nomark _)) (@pss_one _ _ _ (ps_comp (i0 := 8) (N := ["turn", "told"]) (ρ := (fun σ => [σ[3]?.join])) ⟨rfl, rfl, by decide +kernel, by decide +kernel, (List.forall_mem_cons.mpr ⟨rfl, (List.forall_mem_nil _)⟩), has_of (by rfl), rfl, by decide +kernel, rfl, (fun σ j v h => match j, h with | 0, h => ⟨3, _, rfl, rfl, join_some h, Or.inr (Or.inl rfl), .inl rfl, .inl rfl⟩ | j + 1, h => by cases h), (fun _ _ => rfl)⟩ rfl S.nd rfl (Or.inl rfl) (pi_range1 rfl T.n_range (@pa_mor _ _ _ _ _ (by rfl) (pe_call G_law_e_next (hr.mono (by decide)) rfl T.mg_law_e_next T.F_law_e_next.kp T.b_law_e_next .nil pass0 (@pa_mor _ _ _ _ _ (by rfl) (pv 1) (@pa_mor _ _ _ _ _ (by rfl) pe_int pa_nil))) pa_nil)) (fun s₃ H₃ fp => .nil) (fun s₃ H₃ fp => (pe_call G_law_e_of (hr.mono (by decide)) rfl T.mg_law_e_of T.F_law_e_of.kp T.b_law_e_of .nil pass0 (@pa_mor _ _ _ _ _ (by rfl) (pv 1) (@pa_mor _ _ _ _ _ (by rfl) pe_int pa_nil)))))) pss_nil)
      (@pss_cons _ _ _ _ _ (@ps_if _ _ _ _ _ _ _ _ (@pt_cmpR _ _ _ _ _ _ _ _ (op_eqE hu8) (pe_call G_law_e_cut (hr.mono (by decide)) rfl T.mg_law_e_cut T.F_law_e_cut.kp T.b_law_e_cut .nil pass0 (@pa_mor _ _ _ _ _ (by rfl) (pv 3) (@pa_mor _ _ _ _ _ (by rfl) (pv 8) pa_nil))) (@pe_lst _ _ _ _ pa_nil) (nomark _)) (@pss_cons _ _ _ _ _ (@ps_if _ _ _ _ _ _ _ _ (PW.pt (@pw_or _ _ _ _ _ _ _ (@pt_not _ _ _ _ (pt_val (pe_call G_law_e_refused (hr.mono (by decide)) rfl T.mg_law_e_refused T.F_law_e_refused.kp T.b_law_e_refused .nil pass0 (@pa_mor _ _ _ _ _ (by rfl) (pv 4) (@pa_mor _ _ _ _ _ (by rfl) (pe_callTy call_list_of rfl T.n_list boot_list (@pa_mor _ _ _ _ _ (by rfl) (pv 9) pa_nil)) (@pa_mor _ _ _ _ _ (by rfl) (pe_callTy call_list_of rfl T.n_list boot_list (@pa_mor _ _ _ _ _ (by rfl) (pv 8) pa_nil)) pa_nil)))))) (@pw_or1 _ _ _ _ (@pt_not _ _ _ _ (pt_val (pe_call G_law_e_refused (hr.mono (by decide)) rfl T.mg_law_e_refused T.F_law_e_refused.kp T.b_law_e_refused .nil pass0 (@pa_mor _ _ _ _ _ (by rfl) (pv 4) (@pa_mor _ _ _ _ _ (by rfl) (pe_callTy call_list_of rfl T.n_list boot_list (@pa_mor _ _ _ _ _ (by rfl) (pv 9) pa_nil)) (@pa_mor _ _ _ _ _ (by rfl) (pe_callTy call_list_of rfl T.n_list boot_list (@pa_mor _ _ _ _ _ (by rfl) (pv 8) pa_nil)) pa_nil))))))))) (@pss_one _ _ _ (@ps_ret _ _ _ _ pe_bl)) pss_nil)
      (@pss_one _ _ _ (@ps_put _ _ 8 _ _ _ _ (by rfl) (by first | exact .inl rfl | exact .inr rfl | assumption) S.nd rfl (Or.inl rfl) (@pe_op _ _ _ _ _ _ _ _ op_cat (pv 8) (@pe_lst _ _ _ _ (@pa_mor _ _ _ _ _ (by rfl) (pe_call G_law_e_of (hr.mono (by decide)) rfl T.mg_law_e_of T.F_law_e_of.kp T.b_law_e_of .nil pass0 (@pa_mor _ _ _ _ _ (by rfl) (pv 3) (@pa_mor _ _ _ _ _ (by rfl) pe_int pa_nil))) pa_nil)))))) pss_nil)
      (@pss_one _ _ _ (@ps_if _ _ _ _ _ _ _ _ (@pt_not _ _ _ _ (pt_val (pe_call G_law_e_parted_right (hr.mono (by decide)) rfl T.mg_law_e_parted_right T.F_law_e_parted_right.kp T.b_law_e_parted_right .nil pass0 (@pa_mor _ _ _ _ _ (by rfl) (pv 3) (@pa_mor _ _ _ _ _ (by rfl) (pv 4) (@pa_mor _ _ _ _ _ (by rfl) (pv 9) (@pa_mor _ _ _ _ _ (by rfl) (pv 8) pa_nil))))))) (@pss_one _ _ _ (@ps_ret _ _ _ _ pe_bl)) pss_nil))))))))))))))
      (@pss_one _ _ _ (@ps_ret _ _ _ _ pe_bl)))), ?_⟩
    refine ⟨_, rfl, by show 3 ≤ sizeLine; decide, fun P0 nP => ?_⟩
    have p0 : PenC (upd H P0 (.lst [.ref a, .int 0, .int 0])) P0 a := ⟨0, 0, upd_same, by decide, by decide⟩
    have hS0 : SqL K (er P0 (upd H P0 (.lst [.ref a, .int 0, .int 0]))) a (ns.map V.int) := by
      rw [er_upd]
      exact Same.seq (fun b o e => er_some (ne_of_none e nP) e) hS
    generalize upd H P0 (.lst [.ref a, .int 0, .int 0]) = H0 at p0 hS0 ⊢
    refine ⟨6, rfl, by decide, by decide, ?_⟩
    refine for_range (fun i σ Hc => ∃ (v2 v3 v4 v5 v6 v7 v8 v9 : Option V), σ = [some (.ref a), some (.ref P0), v2, v3, v4, v5, v6, v7, v8, v9] ∧ SameE P0 H0 Hc ∧ PenC Hc P0 a) ⟨_, _, _, _, _, _, _, _, rfl, SameE.refl _, p0⟩ ?_ ?_
    · rintro i σ Hc hi ⟨v2, v3, v4, v5, v6, v7, v8, v9, rfl, sT, pc⟩
      have hS1 : SqL K (er P0 Hc) a (ns.map V.int) := Same.seq sT hS0
      refine seq_of (ifs_any (fun Q hQ => ?_) ?_ ?_)
      · obtain ⟨x, y, eP, _⟩ := id pc
        exact ⟨_, rfl, _, _, rfl, rfl, _, rfl, ite2 (fun _ => ⟨_, rfl, P0, _, _, _, rfl, rfl, .of eP, rfl, _, rfl, a, ns.map V.int, rfl, .inl (er_le.seq hS1), _, _, rfl, rfl, _, rfl, hQ _⟩) (fun _ => hQ _)⟩
      · exact kQ _
      dsimp only [tNext]
      refine ⟨_, rfl, P0, a, ns, rfl, pc, hS1, fun td q H1 hq s1 p1 ht1 => ?_⟩
      refine ⟨_, rfl, fun z dz nz ndz ne => ⟨z, dz, td, tdOf q, rfl, upd_same, ?_, fun _ => ⟨rfl, ?_⟩, fun hg => absurd ((tdOf_good hq).symm.trans hg) (by decide)⟩⟩
      · have e := er_le _ _ ht1
        rw [upd_ne (ne_of_none e nz), upd_ne (ne_of_none e ndz)]
        exact e
      have sz : Same H1 (upd (upd (upd H1 dz (.own z)) z (.ins t.C_World dz [])) z (.ins t.C_World dz [("prime", (tdOf q).prime)])) := fun b o e => by
        rw [upd_ne (ne_of_none e nz), upd_ne (ne_of_none e nz), upd_ne (ne_of_none e ndz)]
        exact e
      have hz2 : WorldAt t.C_World (upd (upd (upd H1 dz (.own z)) z (.ins t.C_World dz [])) z (.ins t.C_World dz [("prime", (tdOf q).prime)])) z q := ⟨dz, by rw [upd_same, tdOf_prime]⟩
      generalize (upd (upd (upd H1 dz (.own z)) z (.ins t.C_World dz [])) z (.ins t.C_World dz [("prime", (tdOf q).prime)])) = H2 at sz hz2 ⊢
      have p2 := p1.mono sz
      have nzP : z ≠ P0 := fun e => by
        obtain ⟨x, y, eP, _⟩ := p2
        obtain ⟨d', ez⟩ := hz2
        rw [e, eP] at ez
        cases ez
      have hzE : ∀ {Hx : Hp}, SameE P0 H2 Hx → WorldAt t.C_World Hx z q := fun {Hx} s => by
        obtain ⟨d', ez⟩ := hz2
        exact ⟨d', s.at nzP ez⟩
      have ht : ToldAt (er P0 H2) td q := ht1.mono (er_same sz)
      have hS2 : SqL K (er P0 H2) a (ns.map V.int) := Same.seq (s1.trans (SameE.of sz)) hS1
      have sT : SameE P0 H0 H2 := sT.trans (s1.trans (SameE.of sz))
      refine ⟨_, rfl, P0, a, ns, 2, rfl, p2, hS2, by decide, Mid.of_lt (by decide) (by decide), fun wd H3 w0 w1 s3 p3 => ?_⟩
      have hS3 : SqL K (er P0 H3) a (ns.map V.int) := Same.seq s3 hS2
      have ht3 := ht.mono s3
      dsimp only [gName]
      simp only [List.set_cons_zero, List.set_cons_succ]
      refine ⟨by show 2 ≤ sizeLine; decide, fun l1 nl1 => ?_⟩
      have t1 : Same H3 (upd H3 l1 (.lst [.int 3, .int 7])) := same_upd nl1
      have el1 : upd H3 l1 (.lst [.int 3, .int 7]) l1 = some (.lst [.int 3, .int 7]) := upd_same
      generalize upd H3 l1 (.lst [.int 3, .int 7]) = He at t1 el1 ⊢
      obtain ⟨mN, F, far, X, Y, TT, ha1, ha2, m10, f1, f2, f3, f4, hX, hY, sz⟩ : ∃ (mN F : Nat) (far : Int) (X Y TT : Nat), atI ([.int 3, .int 7] : List V) wd = some (.int ((mN + 1 : Nat) : Int)) ∧ atI ([.int (10 ^ 20), .int 9] : List V) wd = some (.int far) ∧ mN ≤ 10 ∧ 1 ≤ far ∧ far ≤ (F : Int) ∧ 4 ≤ F ∧ F ≤ 10 ^ 20 ∧ (F + 1000) * F ^ (mN - 1) ≤ X ∧ F ^ mN ≤ Y ∧ Sz X Y mN TT := by
        rcases (show wd = 0 ∨ wd = 1 by omega) with rfl | rfl
        · exact ⟨2, 10 ^ 20, 10 ^ 20, _, _, _, rfl, rfl, by decide, by decide, by decide, by decide, by decide, by decide +kernel, by decide +kernel, sz_a⟩
        · exact ⟨6, 9, 9, _, _, _, rfl, rfl, by decide, by decide, by decide, by decide, by decide, by decide +kernel, by decide +kernel, sz_b⟩
      refine ⟨_, rfl, l1, _, _, _, rfl, rfl, .of el1, ha1, ?_⟩
      refine ⟨_, _, rfl, rfl, ⟨by decide, by decide, by decide⟩, by show 2 ≤ sizeLine; decide, fun l2 nl2 => ?_⟩
      have t2 : Same He (upd He l2 (.lst [.int (10 ^ Int.toNat 20), .int 9])) := same_upd nl2
      have el2 : upd He l2 (.lst [.int (10 ^ Int.toNat 20), .int 9]) l2 = some (.lst [.int (10 ^ Int.toNat 20), .int 9]) := upd_same
      refine ⟨_, rfl, l2, _, _, _, rfl, rfl, .of el2, ha2, ?_⟩
      have t12 := t1.trans t2
      have p4 := p3.mono t12
      have sT4 := s3.trans (SameE.of t12)
      dsimp only [gName]
      generalize upd He l2 (.lst [.int (10 ^ Int.toNat 20), .int 9]) = H4 at t12 p4 sT4 ⊢
      simp only [List.set_cons_zero, List.set_cons_succ]
      have hS4 : SqL K (er P0 H4) a (ns.map V.int) := Same.seq sT4 hS2
      have ht4 : ToldAt (er P0 H4) td q := ht.mono sT4
      clear el1 el2 nl1 nl2 t1 t2 t12 hS3 ht3 p3 ha1 ha2
      refine ⟨_, rfl, _, rfl, _, rfl, _, rfl, P0, a, td, ns, q, far, mN, F, rfl, p4, hS4, ht4, hq, m10, f1, f2, f3, f4, fun r0 rs D2 H5 s5 p5 nr0 lrs hR0 okD2 dvD2 bdD2 bcD2 outD2 => ?_⟩
      have W2 := rowW_of hq hR0.canonP (hR0.topB (by omega)) okD2 dvD2 bdD2 bcD2 outD2 hX hY
      have hR0 := hR0.weak (B' := 10 ^ 150) (Nat.le_trans (Nat.add_le_add_right f4 1000) (by decide +kernel))
      have hS5 : SqL K (er P0 H5) a (ns.map V.int) := Same.seq s5 hS4
      have ht5 := ht4.mono s5
      clear okD2 dvD2 bdD2 bcD2 outD2 nr0
      refine ⟨_, rfl, _, rfl, _, rfl, _, rfl, P0, a, td, ns, q, far, mN, F, rfl, p5, hS5, ht5, hq, m10, f1, f2, f3, f4, fun r1 ps D1 H6 s6 p6 nr1 lps hR1 okD1 dvD1 bdD1 bcD1 outD1 => ?_⟩
      have W1 := rowW_of hq hR1.canonP (hR1.topB (by omega)) okD1 dvD1 bdD1 bcD1 outD1 hX hY
      have hR1 := hR1.weak (B' := 10 ^ 150) (Nat.le_trans (Nat.add_le_add_right f4 1000) (by decide +kernel))
      have hR0 := hR0.mono s6
      have hS6 : SqL K (er P0 H6) a (ns.map V.int) := Same.seq s6 hS5
      have ht6 := ht5.mono s6
      have sT6 := sT4.trans (s5.trans s6)
      clear okD1 dvD1 bdD1 bcD1 outD1 nr1 hS5 ht5 hS4 ht4
      have x1 : 1 ≤ X := Nat.le_trans (by decide) sz.x
      have b150 : (10 : Nat) ^ 150 ≤ B2 := by decide +kernel
      dsimp only [gName]
      simp only [List.set_cons_zero, List.set_cons_succ]
      refine seq_of (ifs_gen fun R hR => ?_)
      have rest : ∀ (on : Addr) (ps : List (Int × Int)) (D1 : Int) (f : Nat → Int) (Hx : Hp), SameE P0 H6 Hx → PenC Hx P0 a → RowG (10 ^ 150) (er P0 Hx) q on ps → ps.length ≤ 50 → RowW q ps D1 f TT (Y * Y * Y) (2 * mN - 1) → R [some (.ref a), some (.ref P0), some (.int (0 + (i : Int))), some (.ref td), some (.ref z), some (.int wd), some (.int ((mN + 1 : Nat) : Int)), some (.int far), some (.ref r0), some (.ref on)] Hx := by
        intro on ps D1 f Hx sx px hO lo W1
        apply hR
        dsimp only
        have sTx := sT6.trans sx
        have hSx : SqL K (er P0 Hx) a (ns.map V.int) := Same.seq sx hS6
        refine seq_of (ifs_gen fun R2 hR2 => ?_)
        have rest2 : ∀ (ot : Addr) (rs : List (Int × Int)) (D2 : Int) (g : Nat → Int) (L2 : Nat) (Hy : Hp), SameE P0 Hx Hy → PenC Hy P0 a → RowG (10 ^ 150) (er P0 Hy) q ot rs → rs.length ≤ 40 → RowW q rs D2 g X X L2 → R2 [some (.ref a), some (.ref P0), some (.int (0 + (i : Int))), some (.ref td), some (.ref z), some (.int wd), some (.int ((mN + 1 : Nat) : Int)), some (.int far), some (.ref ot), some (.ref on)] Hy := by
          intro ot rs D2 g L2 Hy sy py hT lt W2
          apply hR2
          dsimp only
          have sTy := sTx.trans sy
          have hO := hO.mono sy
          refine seq_of (ifs_gen fun R3 hR3 => ?_)
          have rest3 : ∀ (ot : Addr) (rs : List (Int × Int)) (D2 : Int) (g : Nat → Int) (L2 : Nat) (Hz : Hp), SameE P0 Hy Hz → PenC Hz P0 a → RowG (10 ^ 150) (er P0 Hz) q ot rs → rs.length ≤ 50 → RowW q rs D2 g X X L2 → cutP rs ≠ [] → R3 [some (.ref a), some (.ref P0), some (.int (0 + (i : Int))), some (.ref td), some (.ref z), some (.int wd), some (.int ((mN + 1 : Nat) : Int)), some (.int far), some (.ref ot), some (.ref on)] Hz := by
            intro ot rs D2 g L2 Hz sz' pz hT lt W2 hc
            apply hR3
            dsimp only
            have sTz := sTy.trans sz'
            refine ⟨_, rfl, _, rfl, _, rfl, _, rfl, td, z, on, ot, q, ps, rs, D1, D2, f, g, TT, X, 2 * mN - 1, rfl, (ht.mono sTz).mono er_le, hzE sTz, hq, (hO.mono sz').mono er_le, hT.mono er_le, partIn_of hq sz W1 W2 hO.canonP lo lt, hc, fun Hw sw => ⟨true, rfl, iteF ?_⟩⟩
            exact ⟨_, _, _, _, _, _, _, _, rfl, (sT.trans sTz).trans (SameE.of sw), pz.mono sw⟩
          have hTy := hT.mono er_le
          have hOy := hO.mono er_le
          refine ⟨_, rfl, _, rfl, td, ot, q, rs, 10 ^ 150, rfl, (ht.mono sTy).mono er_le, hq, hTy, by omega, fun c Hz sz' nc hC => ⟨by show 0 ≤ sizeLine; decide, fun l nl => ?_⟩⟩
          have sl : Same Hz (upd Hz l (.lst [])) := same_upd nl
          obtain ⟨wc, ewc, lwc, _⟩ := id hC
          refine ⟨c, l, wc, rfl, rfl, .of (sl _ _ ewc), upd_same, _, rfl, ite2 (fun h => ?_) (fun h => ?_)⟩
          · have hc : cutP rs = [] := by
              have e : wc = [] := List.isEmpty_iff.mp h
              rw [e] at lwc
              exact List.length_eq_zero_iff.mp lwc.symm
            have s1 := sz'.trans sl
            generalize upd Hz l (.lst []) = Ha at s1 ⊢
            have Pin := partIn_of hq sz W1 W2 hO.canonP lo (show rs.length ≤ 50 by omega)
            obtain ⟨wo, ewo, lwo, fwo⟩ := id hOy
            obtain ⟨wt, ewt, lwt, fwt⟩ := id hTy
            have hz1 := hzE (sTy.trans (SameE.of s1))
            refine ⟨_, rfl, _, rfl, on, wo, rfl, .inl (.of (s1 _ _ ewo)), fun k1 nk1 => ⟨_, rfl, ot, wt, rfl, .inl (.of (same_upd nk1 _ _ (s1 _ _ ewt))), fun k2 nk2 => ?_⟩⟩
            have s2 : Same Ha (upd (upd Ha k1 (.lst wo)) k2 (.lst wt)) := (same_upd nk1).trans (same_upd nk2)
            have e1 : upd (upd Ha k1 (.lst wo)) k2 (.lst wt) k1 = some (.lst wo) := same_upd nk2 _ _ upd_same
            have e2 : upd (upd Ha k1 (.lst wo)) k2 (.lst wt) k2 = some (.lst wt) := upd_same
            generalize upd (upd Ha k1 (.lst wo)) k2 (.lst wt) = Hb at s2 e1 e2 ⊢
            refine ⟨z, k1, k2, q, ps, rs, D1, D2, f, g, TT, X, 2 * mN - 1, rfl, hz1.mono s2, hq, ⟨wo, e1, lwo, fun i v p h1 h2 => ((fwo i v p h1 h2).mono s1).mono s2⟩, ⟨wt, e2, lwt, fun i v p h1 h2 => ((fwt i v p h1 h2).mono s1).mono s2⟩, Pin, hc, fun Hd sd => ⟨true, rfl, iteF ?_⟩⟩
            have s3 := s1.trans (s2.trans sd)
            have hz3 := hzE (sTy.trans (SameE.of s3))
            refine ⟨_, rfl, _, rfl, on, wo, rfl, .inl (.of (s3 _ _ ewo)), fun k1 nk1 => ⟨_, rfl, ot, wt, rfl, .inl (.of (same_upd nk1 _ _ (s3 _ _ ewt))), fun k2 nk2 => ?_⟩⟩
            have s4 : Same Hd (upd (upd Hd k1 (.lst wo)) k2 (.lst wt)) := (same_upd nk1).trans (same_upd nk2)
            have e1 : upd (upd Hd k1 (.lst wo)) k2 (.lst wt) k1 = some (.lst wo) := same_upd nk2 _ _ upd_same
            have e2 : upd (upd Hd k1 (.lst wo)) k2 (.lst wt) k2 = some (.lst wt) := upd_same
            generalize upd (upd Hd k1 (.lst wo)) k2 (.lst wt) = Hf at s4 e1 e2 ⊢
            refine ⟨z, k1, k2, q, ps, rs, D1, D2, f, g, TT, X, 2 * mN - 1, rfl, hz3.mono s4, hq, ⟨wo, e1, lwo, fun i v p h1 h2 => ((fwo i v p h1 h2).mono s3).mono s4⟩, ⟨wt, e2, lwt, fun i v p h1 h2 => ((fwt i v p h1 h2).mono s3).mono s4⟩, Pin, hc, fun Hg sg => ⟨true, rfl, iteF ?_⟩⟩
            have s5 := s3.trans (s4.trans sg)
            dsimp only [tNext]
            refine ⟨_, rfl, _, rfl, td, q, 1, rfl, ((ht.mono sTy).mono er_le).mono s5, hq, by decide +kernel, by decide +kernel, fun v Hh sh hv => ⟨by show 1 ≤ sizeLine; decide, fun k3 nk3 => ?_⟩⟩
            have s6' : Same Hh (upd Hh k3 (.lst [v])) := same_upd nk3
            have s6 := s5.trans (sh.trans s6')
            refine ⟨ot, k3, wt, [v], rfl, rfl, s6 _ _ ewt, upd_same, Nat.le_trans (show _ ≤ 100 by simp; omega) (by decide), fun p np => ?_⟩
            have s7 : Same (upd Hh k3 (.lst [v])) (upd (upd Hh k3 (.lst [v])) p (.lst (wt ++ [v]))) := same_upd np
            have ep : upd (upd Hh k3 (.lst [v])) p (.lst (wt ++ [v])) p = some (.lst (wt ++ [v])) := upd_same
            have s8 := s6.trans s7
            have hv := (hv.mono s6').mono s7
            have npP : p ≠ P0 := (py.mono s6).ne np
            generalize upd (upd Hh k3 (.lst [v])) p (.lst (wt ++ [v])) = Hi at s8 ep hv ⊢
            have hRow : RowG (10 ^ 150) Hi q p (rs ++ [((1 : Int), (1 : Int))]) := RowG.cat ep lwt rfl (fun i v p h1 h2 => (fwt i v p h1 h2).mono s8) (fun i v' p' h1 h2 => by
              match i, h1, h2 with
              | 0, h1, h2 =>
                cases h1
                cases h2
                rw [ofP_one hq] at hv
                exact hv
              | i + 1, h1, h2 => cases h1)
            have all0 : ∀ k, rs.getD k o1 = o1 := fun k => by
              rw [← cutP_getC hq hT.canonP k, hc]
              rfl
            refine rest3 p _ _ _ _ Hi (SameE.of s8) (py.mono s8) (hRow.er (py.mono s8) npP) (by simp; omega) (rowW_one (q := q) x1 all0 rfl) fun e => ?_
            rw [cutP_self (fun _ => by simp [getD_at])] at e
            simp at e
          · have hc : cutP rs ≠ [] := fun e => by
              rw [e] at lwc
              have : wc = [] := List.length_eq_zero_iff.mp lwc
              rw [this] at h
              exact h rfl
            have s1 := sz'.trans sl
            exact rest3 ot rs D2 g L2 _ (SameE.of s1) (py.mono s1) (hT.mono (SameE.of s1)) (by omega) W2 hc
        refine ⟨_, rfl, P0, a, ns, 6, rfl, px, hSx, by decide, Mid.of_lt (by decide) (by decide), fun w Hy w0 w1 sy py => ⟨rfl, _, rfl, ite2 (fun _ => ?_) (fun _ => ?_)⟩⟩
        · have hSy : SqL K (er P0 Hy) a (ns.map V.int) := Same.seq sy hSx
          refine asg_of (comp_ofE (P := P0) (a := a) (N := 10) (by decide) (fun R h => ⟨_, rfl, P0, a, ns, 4, rfl, py, hSy, by decide, Mid.of_lt (by decide) (by decide), fun r H2 r0 r1 s2 p2 => ⟨r, rfl, by omega, by omega, h r.toNat H2 (by omega) s2 p2⟩⟩) (fun _ i y Hx => NumAt (10 ^ 150) (er P0 Hx) q y (ofP q 0).1 (ofP q 0).2) (fun _ _ _ _ _ _ h1 e _ f => h1.farE e f) ?_ ?_)
          · intro D i hi Hc R sc pcc _ nD kc
            exact ⟨_, rfl, td, q, 0, rfl, (ht.mono ((sTx.trans sy).trans sc)).mono er_le, hq, Nat.zero_le _, by decide +kernel, fun v H' s' hv => kc v H' (SameE.of s') (pcc.mono s') (hv.er (H' := H') (pcc.mono s'))⟩
          intro D zs Hz nD _ sz' pz lzs hP eD
          have hRow : RowG (10 ^ 150) (er P0 Hz) q D (List.replicate zs.length o1) := ⟨zs, er_some nD eD, by simp, fun i v p h1 h2 => by
            rw [List.getElem?_replicate] at h2
            split at h2
            · cases h2
              have := hP i v h1
              rw [ofP_zero] at this
              exact this
            · cases h2⟩
          exact rest2 D _ _ _ 0 Hz (sy.trans sz') pz hRow (by rw [List.length_replicate]; omega) (rowW_none x1 0)
        · exact rest2 r0 rs D2 _ mN Hy sy py ((hR0.mono sx).mono sy) (by omega) (W2.weak (Nat.le_refl _) sz.yx (Nat.le_refl _))
      refine ⟨_, rfl, P0, a, ns, 2, rfl, p6, hS6, by decide, Mid.of_lt (by decide) (by decide), fun w H7 w0 w1 s7 p7 => ⟨rfl, _, rfl, ite2 (fun _ => ?_) (fun _ => ?_)⟩⟩
      · have hS7 : SqL K (er P0 H7) a (ns.map V.int) := Same.seq s7 hS6
        have ht7 := ht6.mono s7
        have hxx : (X * X : Nat) ≤ 10 ^ 270 := Nat.le_trans (Nat.mul_le_mul sz.x150 sz.x150) (by decide +kernel)
        refine ⟨_, rfl, _, rfl, _, rfl, _, rfl, td, r1, r0, q, ps, rs, D1 * D2, _, _, rfl, ht7.mono er_le, hq, ((hR1.mono s7).mono er_le).weak b150, ((hR0.mono s7).mono er_le).weak b150, by omega, by omega, W1.ok.mul W2.ok, ?_, fun i j => ?_, fun i j _ _ => weq_mul2 (W1.w i) (W2.w j), fun c H8 s8 nc hC => ?_⟩
        · rw [Int.natAbs_mul]
          exact Nat.le_trans (Nat.mul_le_mul (Nat.le_trans W1.bD (Nat.le_trans sz.yx sz.x150)) (Nat.le_trans W2.bD (Nat.le_trans sz.yx sz.x150))) (by decide +kernel)
        · rw [Int.natAbs_mul]
          exact Nat.le_trans (Nat.mul_le_mul (W1.bf i) (W2.bf j)) hxx
        have p8 := p7.mono s8
        have hC := hC.er p8 (p7.ne nc)
        refine ⟨_, rfl, _, rfl, _, rfl, _, rfl, P0, a, td, ns, q, far, mN, F, rfl, p8, Same.seq (SameE.of s8) hS7, ht7.mono (SameE.of s8), hq, m10, f1, f2, f3, f4, fun r2 qs D3 H9 s9 p9 nr2 lqs hR2 okD3 dvD3 bdD3 bcD3 outD3 => ?_⟩
        have W3 := rowW_of hq hR2.canonP (hR2.topB (by omega)) okD3 dvD3 bdD3 bcD3 outD3 hX hY
        have hR2 := hR2.weak (B' := B2) (Nat.le_trans (Nat.add_le_add_right f4 1000) (by decide +kernel))
        have lpr : (prodP q ps.length rs.length (fun i => (ps.getD i o1).1 * (D1 / (ps.getD i o1).2)) (fun i => (rs.getD i o1).1 * (D2 / (rs.getD i o1).2)) (D1 * D2) (ps.length + rs.length - 1)).length = ps.length + rs.length - 1 := by simp [prodP]
        have lcp := cutP_len (prodP q ps.length rs.length (fun i => (ps.getD i o1).1 * (D1 / (ps.getD i o1).2)) (fun i => (rs.getD i o1).1 * (D2 / (rs.getD i o1).2)) (D1 * D2) (ps.length + rs.length - 1))
        refine ⟨td, c, r2, q, _, qs, B2, rfl, ((ht7.mono (SameE.of s8)).mono s9).mono er_le, hq, (hC.mono s9).mono er_le, hR2.mono er_le, by decide +kernel, by decide +kernel, by omega, by omega, fun d H10 s10 nd hD => ?_⟩
        obtain ⟨WS, bS⟩ := sum_row hq sz W1 W2 W3 hR2.canonP lps lrs
        have hD := hD.sized bS
        have p10 := p9.mono s10
        have lsm := cutP_len (sumP q (cutP (prodP q ps.length rs.length (fun i => (ps.getD i o1).1 * (D1 / (ps.getD i o1).2)) (fun i => (rs.getD i o1).1 * (D2 / (rs.getD i o1).2)) (D1 * D2) (ps.length + rs.length - 1))) qs)
        have lsm2 : (sumP q (cutP (prodP q ps.length rs.length (fun i => (ps.getD i o1).1 * (D1 / (ps.getD i o1).2)) (fun i => (rs.getD i o1).1 * (D2 / (rs.getD i o1).2)) (D1 * D2) (ps.length + rs.length - 1))) qs).length ≤ 50 := by
          unfold sumP
          rw [List.length_map, List.length_range]
          omega
        exact rest d _ _ _ H10 (s7.trans ((SameE.of s8).trans (s9.trans (SameE.of s10)))) p10 (hD.er p10 (p9.ne nd)) (by omega) WS
      · exact rest r1 ps D1 _ H7 s7 p7 (hR1.mono s7) (by omega) (W1.weak sz.xt (Nat.le_trans (Nat.le_mul_of_pos_right Y (Nat.mul_pos sz.y1 sz.y1)) (Nat.le_of_eq (Nat.mul_assoc ..).symm)) (by have := sz.l1; omega))
    · rintro σ Hc ⟨v2, v3, v4, v5, v6, v7, v8, v9, rfl, sT, pc⟩
      exact kQ _
theorem law_all {l : PySem.W.OpenLaw} (T : Txt K mg t) : ∃ fd : FuncData, (∀ (s : Shared) (v : Value), BindsTo s fd ⟨[v], []⟩ [("script", v)]) ∧ ∀ base : Heap, K.In base → base.Ns mainGlobals mg → FnOk l.prog w K mg base CX0 9 t.f_law fd ["script"] (spLaw K) := by
  obtain ⟨oc, od, kV, doc, pm, an, cdv, ct, osl, e, lk, hcd⟩ := T.F_law.ex
  refine ⟨t.d_law, fun s v => ?_, fun base _ _ => ok_law T⟩
  rw [e]
  exact .of_eq rfl
end
theorem walk {l : PySem.W.OpenLaw} {q : Program} {loose : List Str} {XP : (Str → Option Value) → Heap → Prop} {YP : World → Heap → Prop} {d : DefRec} {K : Params → PySem.W.Frag} (hn : l.most = some 63) (hdf : d.params.defaults = [])
    (hY : ∀ (w : World) (h : Heap), YP w h → (K w.params).In h)
    (F : ∀ (w : World) (mg : Str → Option Value) (fa : Addr) (h : Heap), (K w.params).In h → h.Ns mainGlobals mg → mg d.name = some (.ref fa) →
      ∃ fd : FuncData, (∀ (s : Shared) (u : Value), BindsTo s fd ⟨[u], []⟩ [("script", u)]) ∧ ∀ base : Heap, (K w.params).In base → base.Ns mainGlobals mg → FnOk l.prog w (K w.params) mg base CX0 9 fa fd ["script"] (spLaw (K w.params))) :
    PySem.W.WalkO q loose XP YP l.row.toRowW d [] (fun f vs => PySem.call f vs) :=
  L2.walk_of (n := 63) (k := 9) (x := "script") (CX := fun _ => CX0) (sp := fun w => spLaw (K w.params)) hn (by decide) hdf ⟨rfl, by decide, by decide⟩ hY F (fun _ _ a ns hl _ hS => ⟨a, ns, rfl, hS, hl, fun _ => rfl⟩) fun _ _ _ _ _ z => z

theorem txt_mk {K : PySem.W.Frag} {h : Heap} {mg : Str → Option Value} (X : K.In h) (G : h.Ns mainGlobals mg)
    {C_World : Addr}
    {C_NoWorld : Addr}
    {C_NoOver : Addr}
    {C_WrightError : Addr}
    {C_NoFit : Addr}
    {f_is_whole : Addr} {od_is_whole an_is_whole : Option Addr} {sl_is_whole : Array (Option Value)} {oc_is_whole kV_is_whole dc_is_whole pm_is_whole cd_is_whole ct_is_whole : Value}
    {f_common_divisor : Addr} {od_common_divisor an_common_divisor : Option Addr} {sl_common_divisor : Array (Option Value)} {oc_common_divisor kV_common_divisor dc_common_divisor pm_common_divisor cd_common_divisor ct_common_divisor : Value}
    {f_is_prime : Addr} {od_is_prime an_is_prime : Option Addr} {sl_is_prime : Array (Option Value)} {oc_is_prime kV_is_prime dc_is_prime pm_is_prime cd_is_prime ct_is_prime : Value}
    {f_ratio : Addr} {od_ratio an_ratio : Option Addr} {sl_ratio : Array (Option Value)} {oc_ratio kV_ratio dc_ratio pm_ratio cd_ratio ct_ratio : Value}
    {f_one_bottom : Addr} {od_one_bottom an_one_bottom : Option Addr} {sl_one_bottom : Array (Option Value)} {oc_one_bottom kV_one_bottom dc_one_bottom pm_one_bottom cd_one_bottom ct_one_bottom : Value}
    {f_remainder_back : Addr} {od_remainder_back an_remainder_back : Option Addr} {sl_remainder_back : Array (Option Value)} {oc_remainder_back kV_remainder_back dc_remainder_back pm_remainder_back cd_remainder_back ct_remainder_back : Value}
    {f_remainder_over : Addr} {od_remainder_over an_remainder_over : Option Addr} {sl_remainder_over : Array (Option Value)} {oc_remainder_over kV_remainder_over dc_remainder_over pm_remainder_over cd_remainder_over ct_remainder_over : Value}
    {f_is_fractions : Addr} {od_is_fractions an_is_fractions : Option Addr} {sl_is_fractions : Array (Option Value)} {oc_is_fractions kV_is_fractions dc_is_fractions pm_is_fractions cd_is_fractions ct_is_fractions : Value}
    {f_is_wheel : Addr} {od_is_wheel an_is_wheel : Option Addr} {sl_is_wheel : Array (Option Value)} {oc_is_wheel kV_is_wheel dc_is_wheel pm_is_wheel cd_is_wheel ct_is_wheel : Value}
    {f_trimmed : Addr} {od_trimmed an_trimmed : Option Addr} {sl_trimmed : Array (Option Value)} {oc_trimmed kV_trimmed dc_trimmed pm_trimmed cd_trimmed ct_trimmed : Value}
    {f_numbers_of : Addr} {od_numbers_of an_numbers_of : Option Addr} {sl_numbers_of : Array (Option Value)} {oc_numbers_of kV_numbers_of dc_numbers_of pm_numbers_of cd_numbers_of ct_numbers_of : Value}
    {f_whole_parted : Addr} {od_whole_parted an_whole_parted : Option Addr} {sl_whole_parted : Array (Option Value)} {oc_whole_parted kV_whole_parted dc_whole_parted pm_whole_parted cd_whole_parted ct_whole_parted : Value}
    {f_parted : Addr} {od_parted an_parted : Option Addr} {sl_parted : Array (Option Value)} {oc_parted kV_parted dc_parted pm_parted cd_parted ct_parted : Value}
    {f_law_e_fill : Addr} {od_law_e_fill an_law_e_fill : Option Addr} {sl_law_e_fill : Array (Option Value)} {oc_law_e_fill kV_law_e_fill dc_law_e_fill pm_law_e_fill cd_law_e_fill ct_law_e_fill : Value}
    {f_law_e_next : Addr} {od_law_e_next an_law_e_next : Option Addr} {sl_law_e_next : Array (Option Value)} {oc_law_e_next kV_law_e_next dc_law_e_next pm_law_e_next cd_law_e_next ct_law_e_next : Value}
    {f_law_e_low : Addr} {od_law_e_low an_law_e_low : Option Addr} {sl_law_e_low : Array (Option Value)} {oc_law_e_low kV_law_e_low dc_law_e_low pm_law_e_low cd_law_e_low ct_law_e_low : Value}
    {f_law_e_of : Addr} {od_law_e_of an_law_e_of : Option Addr} {sl_law_e_of : Array (Option Value)} {oc_law_e_of kV_law_e_of dc_law_e_of pm_law_e_of cd_law_e_of ct_law_e_of : Value}
    {f_law_e_plus : Addr} {od_law_e_plus an_law_e_plus : Option Addr} {sl_law_e_plus : Array (Option Value)} {oc_law_e_plus kV_law_e_plus dc_law_e_plus pm_law_e_plus cd_law_e_plus ct_law_e_plus : Value}
    {f_law_e_times : Addr} {od_law_e_times an_law_e_times : Option Addr} {sl_law_e_times : Array (Option Value)} {oc_law_e_times kV_law_e_times dc_law_e_times pm_law_e_times cd_law_e_times ct_law_e_times : Value}
    {f_law_e_is_number : Addr} {od_law_e_is_number an_law_e_is_number : Option Addr} {sl_law_e_is_number : Array (Option Value)} {oc_law_e_is_number kV_law_e_is_number dc_law_e_is_number pm_law_e_is_number cd_law_e_is_number ct_law_e_is_number : Value}
    {f_law_e_is_row : Addr} {od_law_e_is_row an_law_e_is_row : Option Addr} {sl_law_e_is_row : Array (Option Value)} {oc_law_e_is_row kV_law_e_is_row dc_law_e_is_row pm_law_e_is_row cd_law_e_is_row ct_law_e_is_row : Value}
    {f_law_e_world : Addr} {od_law_e_world an_law_e_world : Option Addr} {sl_law_e_world : Array (Option Value)} {oc_law_e_world kV_law_e_world dc_law_e_world pm_law_e_world cd_law_e_world ct_law_e_world : Value}
    {f_law_e_number : Addr} {od_law_e_number an_law_e_number : Option Addr} {sl_law_e_number : Array (Option Value)} {oc_law_e_number kV_law_e_number dc_law_e_number pm_law_e_number cd_law_e_number ct_law_e_number : Value}
    {f_law_e_row : Addr} {od_law_e_row an_law_e_row : Option Addr} {sl_law_e_row : Array (Option Value)} {oc_law_e_row kV_law_e_row dc_law_e_row pm_law_e_row cd_law_e_row ct_law_e_row : Value}
    {f_law_e_cut : Addr} {od_law_e_cut an_law_e_cut : Option Addr} {sl_law_e_cut : Array (Option Value)} {oc_law_e_cut kV_law_e_cut dc_law_e_cut pm_law_e_cut cd_law_e_cut ct_law_e_cut : Value}
    {f_law_e_sum : Addr} {od_law_e_sum an_law_e_sum : Option Addr} {sl_law_e_sum : Array (Option Value)} {oc_law_e_sum kV_law_e_sum dc_law_e_sum pm_law_e_sum cd_law_e_sum ct_law_e_sum : Value}
    {f_law_e_product : Addr} {od_law_e_product an_law_e_product : Option Addr} {sl_law_e_product : Array (Option Value)} {oc_law_e_product kV_law_e_product dc_law_e_product pm_law_e_product cd_law_e_product ct_law_e_product : Value}
    {f_law_e_parted_right : Addr} {od_law_e_parted_right an_law_e_parted_right : Option Addr} {sl_law_e_parted_right : Array (Option Value)} {oc_law_e_parted_right kV_law_e_parted_right dc_law_e_parted_right pm_law_e_parted_right cd_law_e_parted_right ct_law_e_parted_right : Value}
    {f_law_e_refused : Addr} {od_law_e_refused an_law_e_refused : Option Addr} {sl_law_e_refused : Array (Option Value)} {oc_law_e_refused kV_law_e_refused dc_law_e_refused pm_law_e_refused cd_law_e_refused ct_law_e_refused : Value}
    {f_law : Addr} {od_law an_law : Option Addr} {sl_law : Array (Option Value)} {oc_law kV_law dc_law pm_law cd_law ct_law : Value}
    {f_World___init__ : Addr} {od_World___init__ an_World___init__ : Option Addr} {sl_World___init__ : Array (Option Value)} {oc_World___init__ kV_World___init__ dc_World___init__ pm_World___init__ cd_World___init__ ct_World___init__ : Value}
    {f_World_of : Addr} {od_World_of an_World_of : Option Addr} {sl_World_of : Array (Option Value)} {oc_World_of kV_World_of dc_World_of pm_World_of cd_World_of ct_World_of : Value}
    {dT_World_of : Addr} {tk_World_of : Tok} {oc2_World_of : Value} {od2_World_of : Option Addr} {n2_World_of : Nat} {sl2_World_of : Array (Option Value)}
    {f_World_as_wholes : Addr} {od_World_as_wholes an_World_as_wholes : Option Addr} {sl_World_as_wholes : Array (Option Value)} {oc_World_as_wholes kV_World_as_wholes dc_World_as_wholes pm_World_as_wholes cd_World_as_wholes ct_World_as_wholes : Value}
    {f_World_evenly : Addr} {od_World_evenly an_World_evenly : Option Addr} {sl_World_evenly : Array (Option Value)} {oc_World_evenly kV_World_evenly dc_World_evenly pm_World_evenly cd_World_evenly ct_World_evenly : Value}
    {tk_GREATEST_PRIME : Tok}
    {tk_LONG : Tok}
    (aC_World : PySem.W.nsIn K mainGlobals "World" = some (some (.ref C_World)))
    (aC_NoWorld : PySem.W.nsIn K mainGlobals "NoWorld" = some (some (.ref C_NoWorld)))
    (aC_NoOver : PySem.W.nsIn K mainGlobals "NoOver" = some (some (.ref C_NoOver)))
    (aC_WrightError : PySem.W.nsIn K mainGlobals "WrightError" = some (some (.ref C_WrightError)))
    (aC_NoFit : PySem.W.nsIn K mainGlobals "NoFit" = some (some (.ref C_NoFit)))
    (a_is_whole : PySem.W.nsIn K mainGlobals "is_whole" = some (some (.ref f_is_whole)))
    (l_is_whole : K.lookup f_is_whole = some ⟨oc_is_whole, od_is_whole, .func (PySem.W.fnOf "is_whole" "is_whole" (defArgs s_is_whole) (defBody s_is_whole) (defScope s_is_whole) .none kV_is_whole dc_is_whole pm_is_whole an_is_whole cd_is_whole ct_is_whole), sl_is_whole⟩)
    (c_is_whole : PySem.W.codeIn K cd_is_whole "is_whole" = true)
    (k_is_whole : PySem.W.keepIn K (.ref f_is_whole) = true)
    (a_common_divisor : PySem.W.nsIn K mainGlobals "common_divisor" = some (some (.ref f_common_divisor)))
    (l_common_divisor : K.lookup f_common_divisor = some ⟨oc_common_divisor, od_common_divisor, .func (PySem.W.fnOf "common_divisor" "common_divisor" (defArgs s_common_divisor) (defBody s_common_divisor) (defScope s_common_divisor) .none kV_common_divisor dc_common_divisor pm_common_divisor an_common_divisor cd_common_divisor ct_common_divisor), sl_common_divisor⟩)
    (c_common_divisor : PySem.W.codeIn K cd_common_divisor "common_divisor" = true)
    (k_common_divisor : PySem.W.keepIn K (.ref f_common_divisor) = true)
    (a_is_prime : PySem.W.nsIn K mainGlobals "is_prime" = some (some (.ref f_is_prime)))
    (l_is_prime : K.lookup f_is_prime = some ⟨oc_is_prime, od_is_prime, .func (PySem.W.fnOf "is_prime" "is_prime" (defArgs s_is_prime) (defBody s_is_prime) (defScope s_is_prime) .none kV_is_prime dc_is_prime pm_is_prime an_is_prime cd_is_prime ct_is_prime), sl_is_prime⟩)
    (c_is_prime : PySem.W.codeIn K cd_is_prime "is_prime" = true)
    (k_is_prime : PySem.W.keepIn K (.ref f_is_prime) = true)
    (a_ratio : PySem.W.nsIn K mainGlobals "ratio" = some (some (.ref f_ratio)))
    (l_ratio : K.lookup f_ratio = some ⟨oc_ratio, od_ratio, .func (PySem.W.fnOf "ratio" "ratio" (defArgs s_ratio) (defBody s_ratio) (defScope s_ratio) .none kV_ratio dc_ratio pm_ratio an_ratio cd_ratio ct_ratio), sl_ratio⟩)
    (c_ratio : PySem.W.codeIn K cd_ratio "ratio" = true)
    (k_ratio : PySem.W.keepIn K (.ref f_ratio) = true)
    (a_one_bottom : PySem.W.nsIn K mainGlobals "one_bottom" = some (some (.ref f_one_bottom)))
    (l_one_bottom : K.lookup f_one_bottom = some ⟨oc_one_bottom, od_one_bottom, .func (PySem.W.fnOf "one_bottom" "one_bottom" (defArgs s_one_bottom) (defBody s_one_bottom) (defScope s_one_bottom) .none kV_one_bottom dc_one_bottom pm_one_bottom an_one_bottom cd_one_bottom ct_one_bottom), sl_one_bottom⟩)
    (c_one_bottom : PySem.W.codeIn K cd_one_bottom "one_bottom" = true)
    (k_one_bottom : PySem.W.keepIn K (.ref f_one_bottom) = true)
    (a_remainder_back : PySem.W.nsIn K mainGlobals "remainder_back" = some (some (.ref f_remainder_back)))
    (l_remainder_back : K.lookup f_remainder_back = some ⟨oc_remainder_back, od_remainder_back, .func (PySem.W.fnOf "remainder_back" "remainder_back" (defArgs s_remainder_back) (defBody s_remainder_back) (defScope s_remainder_back) .none kV_remainder_back dc_remainder_back pm_remainder_back an_remainder_back cd_remainder_back ct_remainder_back), sl_remainder_back⟩)
    (c_remainder_back : PySem.W.codeIn K cd_remainder_back "remainder_back" = true)
    (k_remainder_back : PySem.W.keepIn K (.ref f_remainder_back) = true)
    (a_remainder_over : PySem.W.nsIn K mainGlobals "remainder_over" = some (some (.ref f_remainder_over)))
    (l_remainder_over : K.lookup f_remainder_over = some ⟨oc_remainder_over, od_remainder_over, .func (PySem.W.fnOf "remainder_over" "remainder_over" (defArgs s_remainder_over) (defBody s_remainder_over) (defScope s_remainder_over) .none kV_remainder_over dc_remainder_over pm_remainder_over an_remainder_over cd_remainder_over ct_remainder_over), sl_remainder_over⟩)
    (c_remainder_over : PySem.W.codeIn K cd_remainder_over "remainder_over" = true)
    (k_remainder_over : PySem.W.keepIn K (.ref f_remainder_over) = true)
    (a_is_fractions : PySem.W.nsIn K mainGlobals "is_fractions" = some (some (.ref f_is_fractions)))
    (l_is_fractions : K.lookup f_is_fractions = some ⟨oc_is_fractions, od_is_fractions, .func (PySem.W.fnOf "is_fractions" "is_fractions" (defArgs s_is_fractions) (defBody s_is_fractions) (defScope s_is_fractions) .none kV_is_fractions dc_is_fractions pm_is_fractions an_is_fractions cd_is_fractions ct_is_fractions), sl_is_fractions⟩)
    (c_is_fractions : PySem.W.codeIn K cd_is_fractions "is_fractions" = true)
    (k_is_fractions : PySem.W.keepIn K (.ref f_is_fractions) = true)
    (a_is_wheel : PySem.W.nsIn K mainGlobals "is_wheel" = some (some (.ref f_is_wheel)))
    (l_is_wheel : K.lookup f_is_wheel = some ⟨oc_is_wheel, od_is_wheel, .func (PySem.W.fnOf "is_wheel" "is_wheel" (defArgs s_is_wheel) (defBody s_is_wheel) (defScope s_is_wheel) .none kV_is_wheel dc_is_wheel pm_is_wheel an_is_wheel cd_is_wheel ct_is_wheel), sl_is_wheel⟩)
    (c_is_wheel : PySem.W.codeIn K cd_is_wheel "is_wheel" = true)
    (k_is_wheel : PySem.W.keepIn K (.ref f_is_wheel) = true)
    (a_trimmed : PySem.W.nsIn K mainGlobals "trimmed" = some (some (.ref f_trimmed)))
    (l_trimmed : K.lookup f_trimmed = some ⟨oc_trimmed, od_trimmed, .func (PySem.W.fnOf "trimmed" "trimmed" (defArgs s_trimmed) (defBody s_trimmed) (defScope s_trimmed) .none kV_trimmed dc_trimmed pm_trimmed an_trimmed cd_trimmed ct_trimmed), sl_trimmed⟩)
    (c_trimmed : PySem.W.codeIn K cd_trimmed "trimmed" = true)
    (k_trimmed : PySem.W.keepIn K (.ref f_trimmed) = true)
    (a_numbers_of : PySem.W.nsIn K mainGlobals "numbers_of" = some (some (.ref f_numbers_of)))
    (l_numbers_of : K.lookup f_numbers_of = some ⟨oc_numbers_of, od_numbers_of, .func (PySem.W.fnOf "numbers_of" "numbers_of" (defArgs s_numbers_of) (defBody s_numbers_of) (defScope s_numbers_of) .none kV_numbers_of dc_numbers_of pm_numbers_of an_numbers_of cd_numbers_of ct_numbers_of), sl_numbers_of⟩)
    (c_numbers_of : PySem.W.codeIn K cd_numbers_of "numbers_of" = true)
    (k_numbers_of : PySem.W.keepIn K (.ref f_numbers_of) = true)
    (a_whole_parted : PySem.W.nsIn K mainGlobals "whole_parted" = some (some (.ref f_whole_parted)))
    (l_whole_parted : K.lookup f_whole_parted = some ⟨oc_whole_parted, od_whole_parted, .func (PySem.W.fnOf "whole_parted" "whole_parted" (defArgs s_whole_parted) (defBody s_whole_parted) (defScope s_whole_parted) .none kV_whole_parted dc_whole_parted pm_whole_parted an_whole_parted cd_whole_parted ct_whole_parted), sl_whole_parted⟩)
    (c_whole_parted : PySem.W.codeIn K cd_whole_parted "whole_parted" = true)
    (k_whole_parted : PySem.W.keepIn K (.ref f_whole_parted) = true)
    (a_parted : PySem.W.nsIn K mainGlobals "parted" = some (some (.ref f_parted)))
    (l_parted : K.lookup f_parted = some ⟨oc_parted, od_parted, .func (PySem.W.fnOf "parted" "parted" (defArgs s_parted) (defBody s_parted) (defScope s_parted) .none kV_parted dc_parted pm_parted an_parted cd_parted ct_parted), sl_parted⟩)
    (c_parted : PySem.W.codeIn K cd_parted "parted" = true)
    (k_parted : PySem.W.keepIn K (.ref f_parted) = true)
    (a_law_e_fill : PySem.W.nsIn K mainGlobals "_law_e_fill" = some (some (.ref f_law_e_fill)))
    (l_law_e_fill : K.lookup f_law_e_fill = some ⟨oc_law_e_fill, od_law_e_fill, .func (PySem.W.fnOf "_law_e_fill" "_law_e_fill" (defArgs s_law_e_fill) (defBody s_law_e_fill) (defScope s_law_e_fill) .none kV_law_e_fill dc_law_e_fill pm_law_e_fill an_law_e_fill cd_law_e_fill ct_law_e_fill), sl_law_e_fill⟩)
    (c_law_e_fill : PySem.W.codeIn K cd_law_e_fill "_law_e_fill" = true)
    (k_law_e_fill : PySem.W.keepIn K (.ref f_law_e_fill) = true)
    (a_law_e_next : PySem.W.nsIn K mainGlobals "_law_e_next" = some (some (.ref f_law_e_next)))
    (l_law_e_next : K.lookup f_law_e_next = some ⟨oc_law_e_next, od_law_e_next, .func (PySem.W.fnOf "_law_e_next" "_law_e_next" (defArgs s_law_e_next) (defBody s_law_e_next) (defScope s_law_e_next) .none kV_law_e_next dc_law_e_next pm_law_e_next an_law_e_next cd_law_e_next ct_law_e_next), sl_law_e_next⟩)
    (c_law_e_next : PySem.W.codeIn K cd_law_e_next "_law_e_next" = true)
    (k_law_e_next : PySem.W.keepIn K (.ref f_law_e_next) = true)
    (a_law_e_low : PySem.W.nsIn K mainGlobals "_law_e_low" = some (some (.ref f_law_e_low)))
    (l_law_e_low : K.lookup f_law_e_low = some ⟨oc_law_e_low, od_law_e_low, .func (PySem.W.fnOf "_law_e_low" "_law_e_low" (defArgs s_law_e_low) (defBody s_law_e_low) (defScope s_law_e_low) .none kV_law_e_low dc_law_e_low pm_law_e_low an_law_e_low cd_law_e_low ct_law_e_low), sl_law_e_low⟩)
    (c_law_e_low : PySem.W.codeIn K cd_law_e_low "_law_e_low" = true)
    (k_law_e_low : PySem.W.keepIn K (.ref f_law_e_low) = true)
    (a_law_e_of : PySem.W.nsIn K mainGlobals "_law_e_of" = some (some (.ref f_law_e_of)))
    (l_law_e_of : K.lookup f_law_e_of = some ⟨oc_law_e_of, od_law_e_of, .func (PySem.W.fnOf "_law_e_of" "_law_e_of" (defArgs s_law_e_of) (defBody s_law_e_of) (defScope s_law_e_of) .none kV_law_e_of dc_law_e_of pm_law_e_of an_law_e_of cd_law_e_of ct_law_e_of), sl_law_e_of⟩)
    (c_law_e_of : PySem.W.codeIn K cd_law_e_of "_law_e_of" = true)
    (k_law_e_of : PySem.W.keepIn K (.ref f_law_e_of) = true)
    (a_law_e_plus : PySem.W.nsIn K mainGlobals "_law_e_plus" = some (some (.ref f_law_e_plus)))
    (l_law_e_plus : K.lookup f_law_e_plus = some ⟨oc_law_e_plus, od_law_e_plus, .func (PySem.W.fnOf "_law_e_plus" "_law_e_plus" (defArgs s_law_e_plus) (defBody s_law_e_plus) (defScope s_law_e_plus) .none kV_law_e_plus dc_law_e_plus pm_law_e_plus an_law_e_plus cd_law_e_plus ct_law_e_plus), sl_law_e_plus⟩)
    (c_law_e_plus : PySem.W.codeIn K cd_law_e_plus "_law_e_plus" = true)
    (k_law_e_plus : PySem.W.keepIn K (.ref f_law_e_plus) = true)
    (a_law_e_times : PySem.W.nsIn K mainGlobals "_law_e_times" = some (some (.ref f_law_e_times)))
    (l_law_e_times : K.lookup f_law_e_times = some ⟨oc_law_e_times, od_law_e_times, .func (PySem.W.fnOf "_law_e_times" "_law_e_times" (defArgs s_law_e_times) (defBody s_law_e_times) (defScope s_law_e_times) .none kV_law_e_times dc_law_e_times pm_law_e_times an_law_e_times cd_law_e_times ct_law_e_times), sl_law_e_times⟩)
    (c_law_e_times : PySem.W.codeIn K cd_law_e_times "_law_e_times" = true)
    (k_law_e_times : PySem.W.keepIn K (.ref f_law_e_times) = true)
    (a_law_e_is_number : PySem.W.nsIn K mainGlobals "_law_e_is_number" = some (some (.ref f_law_e_is_number)))
    (l_law_e_is_number : K.lookup f_law_e_is_number = some ⟨oc_law_e_is_number, od_law_e_is_number, .func (PySem.W.fnOf "_law_e_is_number" "_law_e_is_number" (defArgs s_law_e_is_number) (defBody s_law_e_is_number) (defScope s_law_e_is_number) .none kV_law_e_is_number dc_law_e_is_number pm_law_e_is_number an_law_e_is_number cd_law_e_is_number ct_law_e_is_number), sl_law_e_is_number⟩)
    (c_law_e_is_number : PySem.W.codeIn K cd_law_e_is_number "_law_e_is_number" = true)
    (k_law_e_is_number : PySem.W.keepIn K (.ref f_law_e_is_number) = true)
    (a_law_e_is_row : PySem.W.nsIn K mainGlobals "_law_e_is_row" = some (some (.ref f_law_e_is_row)))
    (l_law_e_is_row : K.lookup f_law_e_is_row = some ⟨oc_law_e_is_row, od_law_e_is_row, .func (PySem.W.fnOf "_law_e_is_row" "_law_e_is_row" (defArgs s_law_e_is_row) (defBody s_law_e_is_row) (defScope s_law_e_is_row) .none kV_law_e_is_row dc_law_e_is_row pm_law_e_is_row an_law_e_is_row cd_law_e_is_row ct_law_e_is_row), sl_law_e_is_row⟩)
    (c_law_e_is_row : PySem.W.codeIn K cd_law_e_is_row "_law_e_is_row" = true)
    (k_law_e_is_row : PySem.W.keepIn K (.ref f_law_e_is_row) = true)
    (a_law_e_world : PySem.W.nsIn K mainGlobals "_law_e_world" = some (some (.ref f_law_e_world)))
    (l_law_e_world : K.lookup f_law_e_world = some ⟨oc_law_e_world, od_law_e_world, .func (PySem.W.fnOf "_law_e_world" "_law_e_world" (defArgs s_law_e_world) (defBody s_law_e_world) (defScope s_law_e_world) .none kV_law_e_world dc_law_e_world pm_law_e_world an_law_e_world cd_law_e_world ct_law_e_world), sl_law_e_world⟩)
    (c_law_e_world : PySem.W.codeIn K cd_law_e_world "_law_e_world" = true)
    (k_law_e_world : PySem.W.keepIn K (.ref f_law_e_world) = true)
    (a_law_e_number : PySem.W.nsIn K mainGlobals "_law_e_number" = some (some (.ref f_law_e_number)))
    (l_law_e_number : K.lookup f_law_e_number = some ⟨oc_law_e_number, od_law_e_number, .func (PySem.W.fnOf "_law_e_number" "_law_e_number" (defArgs s_law_e_number) (defBody s_law_e_number) (defScope s_law_e_number) .none kV_law_e_number dc_law_e_number pm_law_e_number an_law_e_number cd_law_e_number ct_law_e_number), sl_law_e_number⟩)
    (c_law_e_number : PySem.W.codeIn K cd_law_e_number "_law_e_number" = true)
    (k_law_e_number : PySem.W.keepIn K (.ref f_law_e_number) = true)
    (a_law_e_row : PySem.W.nsIn K mainGlobals "_law_e_row" = some (some (.ref f_law_e_row)))
    (l_law_e_row : K.lookup f_law_e_row = some ⟨oc_law_e_row, od_law_e_row, .func (PySem.W.fnOf "_law_e_row" "_law_e_row" (defArgs s_law_e_row) (defBody s_law_e_row) (defScope s_law_e_row) .none kV_law_e_row dc_law_e_row pm_law_e_row an_law_e_row cd_law_e_row ct_law_e_row), sl_law_e_row⟩)
    (c_law_e_row : PySem.W.codeIn K cd_law_e_row "_law_e_row" = true)
    (k_law_e_row : PySem.W.keepIn K (.ref f_law_e_row) = true)
    (a_law_e_cut : PySem.W.nsIn K mainGlobals "_law_e_cut" = some (some (.ref f_law_e_cut)))
    (l_law_e_cut : K.lookup f_law_e_cut = some ⟨oc_law_e_cut, od_law_e_cut, .func (PySem.W.fnOf "_law_e_cut" "_law_e_cut" (defArgs s_law_e_cut) (defBody s_law_e_cut) (defScope s_law_e_cut) .none kV_law_e_cut dc_law_e_cut pm_law_e_cut an_law_e_cut cd_law_e_cut ct_law_e_cut), sl_law_e_cut⟩)
    (c_law_e_cut : PySem.W.codeIn K cd_law_e_cut "_law_e_cut" = true)
    (k_law_e_cut : PySem.W.keepIn K (.ref f_law_e_cut) = true)
    (a_law_e_sum : PySem.W.nsIn K mainGlobals "_law_e_sum" = some (some (.ref f_law_e_sum)))
    (l_law_e_sum : K.lookup f_law_e_sum = some ⟨oc_law_e_sum, od_law_e_sum, .func (PySem.W.fnOf "_law_e_sum" "_law_e_sum" (defArgs s_law_e_sum) (defBody s_law_e_sum) (defScope s_law_e_sum) .none kV_law_e_sum dc_law_e_sum pm_law_e_sum an_law_e_sum cd_law_e_sum ct_law_e_sum), sl_law_e_sum⟩)
    (c_law_e_sum : PySem.W.codeIn K cd_law_e_sum "_law_e_sum" = true)
    (k_law_e_sum : PySem.W.keepIn K (.ref f_law_e_sum) = true)
    (a_law_e_product : PySem.W.nsIn K mainGlobals "_law_e_product" = some (some (.ref f_law_e_product)))
    (l_law_e_product : K.lookup f_law_e_product = some ⟨oc_law_e_product, od_law_e_product, .func (PySem.W.fnOf "_law_e_product" "_law_e_product" (defArgs s_law_e_product) (defBody s_law_e_product) (defScope s_law_e_product) .none kV_law_e_product dc_law_e_product pm_law_e_product an_law_e_product cd_law_e_product ct_law_e_product), sl_law_e_product⟩)
    (c_law_e_product : PySem.W.codeIn K cd_law_e_product "_law_e_product" = true)
    (k_law_e_product : PySem.W.keepIn K (.ref f_law_e_product) = true)
    (a_law_e_parted_right : PySem.W.nsIn K mainGlobals "_law_e_parted_right" = some (some (.ref f_law_e_parted_right)))
    (l_law_e_parted_right : K.lookup f_law_e_parted_right = some ⟨oc_law_e_parted_right, od_law_e_parted_right, .func (PySem.W.fnOf "_law_e_parted_right" "_law_e_parted_right" (defArgs s_law_e_parted_right) (defBody s_law_e_parted_right) (defScope s_law_e_parted_right) .none kV_law_e_parted_right dc_law_e_parted_right pm_law_e_parted_right an_law_e_parted_right cd_law_e_parted_right ct_law_e_parted_right), sl_law_e_parted_right⟩)
    (c_law_e_parted_right : PySem.W.codeIn K cd_law_e_parted_right "_law_e_parted_right" = true)
    (k_law_e_parted_right : PySem.W.keepIn K (.ref f_law_e_parted_right) = true)
    (a_law_e_refused : PySem.W.nsIn K mainGlobals "_law_e_refused" = some (some (.ref f_law_e_refused)))
    (l_law_e_refused : K.lookup f_law_e_refused = some ⟨oc_law_e_refused, od_law_e_refused, .func (PySem.W.fnOf "_law_e_refused" "_law_e_refused" (defArgs s_law_e_refused) (defBody s_law_e_refused) (defScope s_law_e_refused) .none kV_law_e_refused dc_law_e_refused pm_law_e_refused an_law_e_refused cd_law_e_refused ct_law_e_refused), sl_law_e_refused⟩)
    (c_law_e_refused : PySem.W.codeIn K cd_law_e_refused "_law_e_refused" = true)
    (k_law_e_refused : PySem.W.keepIn K (.ref f_law_e_refused) = true)
    (a_law : PySem.W.nsIn K mainGlobals "law" = some (some (.ref f_law)))
    (l_law : K.lookup f_law = some ⟨oc_law, od_law, .func (PySem.W.fnOf "law" "law" (defArgs s_law) (defBody s_law) (defScope s_law) .none kV_law dc_law pm_law an_law cd_law ct_law), sl_law⟩)
    (c_law : PySem.W.codeIn K cd_law "law" = true)
    (k_law : PySem.W.keepIn K (.ref f_law) = true)
    (a_World___init__ : PySem.W.findIn K (.ref C_World) "__init__" = some (some (.ref f_World___init__)))
    (i_World___init__ : PySem.W.isFn K (.ref f_World___init__) = true)
    (l_World___init__ : K.lookup f_World___init__ = some ⟨oc_World___init__, od_World___init__, .func (PySem.W.fnOf "__init__" "World.__init__" (defArgs s_World___init__) (defBody s_World___init__) (defScope s_World___init__) .none kV_World___init__ dc_World___init__ pm_World___init__ an_World___init__ cd_World___init__ ct_World___init__), sl_World___init__⟩)
    (c_World___init__ : PySem.W.codeIn K cd_World___init__ "World.__init__" = true)
    (k_World___init__ : PySem.W.keepIn K (.ref f_World___init__) = true)
    (a_World_of : PySem.W.findIn K (.ref C_World) "of" = some (some (.ref f_World_of)))
    (i_World_of : PySem.W.isFn K (.ref f_World_of) = true)
    (l_World_of : K.lookup f_World_of = some ⟨oc_World_of, od_World_of, .func (PySem.W.fnOf "of" "World.of" (defArgs s_World_of) (defBody s_World_of) (defScope s_World_of) (.ref dT_World_of) kV_World_of dc_World_of pm_World_of an_World_of cd_World_of ct_World_of), sl_World_of⟩)
    (c_World_of : PySem.W.codeIn K cd_World_of "World.of" = true)
    (k_World_of : PySem.W.keepIn K (.ref f_World_of) = true)
    (ld_World_of : K.lookup dT_World_of = some ⟨oc2_World_of, od2_World_of, .seq #[.int 1 tk_World_of] n2_World_of, sl2_World_of⟩)
    (a_World_as_wholes : PySem.W.findIn K (.ref C_World) "as_wholes" = some (some (.ref f_World_as_wholes)))
    (i_World_as_wholes : PySem.W.isFn K (.ref f_World_as_wholes) = true)
    (l_World_as_wholes : K.lookup f_World_as_wholes = some ⟨oc_World_as_wholes, od_World_as_wholes, .func (PySem.W.fnOf "as_wholes" "World.as_wholes" (defArgs s_World_as_wholes) (defBody s_World_as_wholes) (defScope s_World_as_wholes) .none kV_World_as_wholes dc_World_as_wholes pm_World_as_wholes an_World_as_wholes cd_World_as_wholes ct_World_as_wholes), sl_World_as_wholes⟩)
    (c_World_as_wholes : PySem.W.codeIn K cd_World_as_wholes "World.as_wholes" = true)
    (k_World_as_wholes : PySem.W.keepIn K (.ref f_World_as_wholes) = true)
    (a_World_evenly : PySem.W.findIn K (.ref C_World) "evenly" = some (some (.ref f_World_evenly)))
    (i_World_evenly : PySem.W.isFn K (.ref f_World_evenly) = true)
    (l_World_evenly : K.lookup f_World_evenly = some ⟨oc_World_evenly, od_World_evenly, .func (PySem.W.fnOf "evenly" "World.evenly" (defArgs s_World_evenly) (defBody s_World_evenly) (defScope s_World_evenly) .none kV_World_evenly dc_World_evenly pm_World_evenly an_World_evenly cd_World_evenly ct_World_evenly), sl_World_evenly⟩)
    (c_World_evenly : PySem.W.codeIn K cd_World_evenly "World.evenly" = true)
    (k_World_evenly : PySem.W.keepIn K (.ref f_World_evenly) = true)
    (pg_World : PySem.W.plainGet K C_World Str.empty = true)
    (hd_World : PySem.W.hasDictIn K C_World = true)
    (po_World : PySem.W.plainOver K C_World = true)
    (sa_World : PySem.W.findIn K (.ref C_World) "__setattr__" = some (some (.builtin "object.__setattr__")))
    (mk_World : PySem.W.makesIn K C_World = true)
    (kc_World : PySem.W.keepIn K (.ref C_World) = true)
    (n_World_prime : PySem.W.findIn K (.ref C_World) "prime" = some none)
    (z_len : PySem.W.nsIn K mainGlobals "len" = some none)
    (z_isinstance : PySem.W.nsIn K mainGlobals "isinstance" = some none)
    (z_int : PySem.W.nsIn K mainGlobals "int" = some none)
    (z_bool : PySem.W.nsIn K mainGlobals "bool" = some none)
    (z_tuple : PySem.W.nsIn K mainGlobals "tuple" = some none)
    (z_list : PySem.W.nsIn K mainGlobals "list" = some none)
    (z_range : PySem.W.nsIn K mainGlobals "range" = some none)
    (z_abs : PySem.W.nsIn K mainGlobals "abs" = some none)
    (z_all : PySem.W.nsIn K mainGlobals "all" = some none)
    (z_zip : PySem.W.nsIn K mainGlobals "zip" = some none)
    (z_enumerate : PySem.W.nsIn K mainGlobals "enumerate" = some none)
    (z_ValueError : PySem.W.nsIn K mainGlobals "ValueError" = some none)
    (a_GREATEST_PRIME : PySem.W.nsIn K mainGlobals "GREATEST_PRIME" = some (some (.int 997 tk_GREATEST_PRIME)))
    (a_LONG : PySem.W.nsIn K mainGlobals "LONG" = some (some (.int 2048 tk_LONG)))
    (e_x_NoWorld : PySem.W.excIn K C_NoWorld [.type "ValueError", .type "Exception", .type "BaseException", .type "object"] "ValueError.__new__" = true)
    (e_x_NoOver : PySem.W.excIn K C_NoOver [.type "ValueError", .type "Exception", .type "BaseException", .type "object"] "ValueError.__new__" = true)
    (e_x_WrightError : PySem.W.excIn K C_WrightError [.type "ValueError", .type "Exception", .type "BaseException", .type "object"] "ValueError.__new__" = true)
    (e_m_NO_NO : PySem.W.mroIn K C_NoOver (.ref C_NoOver) = some true)
    (e_m_NO_WE : PySem.W.mroIn K C_NoOver (.ref C_WrightError) = some true)
    (e_k_VE : PySem.W.kitOne K (.ref C_NoOver) (.type "ValueError") = some true)
    (e_k_NO : PySem.W.kitOne K (.ref C_NoOver) (.ref C_NoOver) = some true)
    (e_k_NoWorld : PySem.W.kitOne K (.ref C_NoOver) (.ref C_NoWorld) = some false)
    (e_k_NoFit : PySem.W.kitOne K (.ref C_NoOver) (.ref C_NoFit) = some false)
    (e_cx1 : PySem.W.hasDictIn K C_NoOver = true)
    (e_cx2 : PySem.W.findIn K (.ref C_NoOver) "__getattribute__" = some (some (.builtin "BaseException.__getattribute__")))
    (e_cx3 : PySem.W.findIn K (.ref C_NoOver) "__getattr__" = some none)
    (e_cx4 : PySem.W.findIn K (.ref C_NoOver) "__class__" = some (some (.builtin "object.__class__")))
    (e_cx5 : PySem.W.mroIn K C_NoOver (.type "object") = some true)
    (e_cx6 : PySem.W.mroIn K C_NoOver (.type "BaseException") = some true)
    : ∃ t : Adr, Txt K mg t := by
  refine ⟨⟨f_is_whole, PySem.W.fnOf "is_whole" "is_whole" (defArgs s_is_whole) (defBody s_is_whole) (defScope s_is_whole) .none kV_is_whole dc_is_whole pm_is_whole an_is_whole cd_is_whole ct_is_whole, f_common_divisor, PySem.W.fnOf "common_divisor" "common_divisor" (defArgs s_common_divisor) (defBody s_common_divisor) (defScope s_common_divisor) .none kV_common_divisor dc_common_divisor pm_common_divisor an_common_divisor cd_common_divisor ct_common_divisor, f_is_prime, PySem.W.fnOf "is_prime" "is_prime" (defArgs s_is_prime) (defBody s_is_prime) (defScope s_is_prime) .none kV_is_prime dc_is_prime pm_is_prime an_is_prime cd_is_prime ct_is_prime, f_ratio, PySem.W.fnOf "ratio" "ratio" (defArgs s_ratio) (defBody s_ratio) (defScope s_ratio) .none kV_ratio dc_ratio pm_ratio an_ratio cd_ratio ct_ratio, f_one_bottom, PySem.W.fnOf "one_bottom" "one_bottom" (defArgs s_one_bottom) (defBody s_one_bottom) (defScope s_one_bottom) .none kV_one_bottom dc_one_bottom pm_one_bottom an_one_bottom cd_one_bottom ct_one_bottom, f_remainder_back, PySem.W.fnOf "remainder_back" "remainder_back" (defArgs s_remainder_back) (defBody s_remainder_back) (defScope s_remainder_back) .none kV_remainder_back dc_remainder_back pm_remainder_back an_remainder_back cd_remainder_back ct_remainder_back, f_remainder_over, PySem.W.fnOf "remainder_over" "remainder_over" (defArgs s_remainder_over) (defBody s_remainder_over) (defScope s_remainder_over) .none kV_remainder_over dc_remainder_over pm_remainder_over an_remainder_over cd_remainder_over ct_remainder_over, f_is_fractions, PySem.W.fnOf "is_fractions" "is_fractions" (defArgs s_is_fractions) (defBody s_is_fractions) (defScope s_is_fractions) .none kV_is_fractions dc_is_fractions pm_is_fractions an_is_fractions cd_is_fractions ct_is_fractions, f_is_wheel, PySem.W.fnOf "is_wheel" "is_wheel" (defArgs s_is_wheel) (defBody s_is_wheel) (defScope s_is_wheel) .none kV_is_wheel dc_is_wheel pm_is_wheel an_is_wheel cd_is_wheel ct_is_wheel, f_trimmed, PySem.W.fnOf "trimmed" "trimmed" (defArgs s_trimmed) (defBody s_trimmed) (defScope s_trimmed) .none kV_trimmed dc_trimmed pm_trimmed an_trimmed cd_trimmed ct_trimmed, f_numbers_of, PySem.W.fnOf "numbers_of" "numbers_of" (defArgs s_numbers_of) (defBody s_numbers_of) (defScope s_numbers_of) .none kV_numbers_of dc_numbers_of pm_numbers_of an_numbers_of cd_numbers_of ct_numbers_of, f_whole_parted, PySem.W.fnOf "whole_parted" "whole_parted" (defArgs s_whole_parted) (defBody s_whole_parted) (defScope s_whole_parted) .none kV_whole_parted dc_whole_parted pm_whole_parted an_whole_parted cd_whole_parted ct_whole_parted, f_parted, PySem.W.fnOf "parted" "parted" (defArgs s_parted) (defBody s_parted) (defScope s_parted) .none kV_parted dc_parted pm_parted an_parted cd_parted ct_parted, f_law_e_fill, PySem.W.fnOf "_law_e_fill" "_law_e_fill" (defArgs s_law_e_fill) (defBody s_law_e_fill) (defScope s_law_e_fill) .none kV_law_e_fill dc_law_e_fill pm_law_e_fill an_law_e_fill cd_law_e_fill ct_law_e_fill, f_law_e_next, PySem.W.fnOf "_law_e_next" "_law_e_next" (defArgs s_law_e_next) (defBody s_law_e_next) (defScope s_law_e_next) .none kV_law_e_next dc_law_e_next pm_law_e_next an_law_e_next cd_law_e_next ct_law_e_next, f_law_e_low, PySem.W.fnOf "_law_e_low" "_law_e_low" (defArgs s_law_e_low) (defBody s_law_e_low) (defScope s_law_e_low) .none kV_law_e_low dc_law_e_low pm_law_e_low an_law_e_low cd_law_e_low ct_law_e_low, f_law_e_of, PySem.W.fnOf "_law_e_of" "_law_e_of" (defArgs s_law_e_of) (defBody s_law_e_of) (defScope s_law_e_of) .none kV_law_e_of dc_law_e_of pm_law_e_of an_law_e_of cd_law_e_of ct_law_e_of, f_law_e_plus, PySem.W.fnOf "_law_e_plus" "_law_e_plus" (defArgs s_law_e_plus) (defBody s_law_e_plus) (defScope s_law_e_plus) .none kV_law_e_plus dc_law_e_plus pm_law_e_plus an_law_e_plus cd_law_e_plus ct_law_e_plus, f_law_e_times, PySem.W.fnOf "_law_e_times" "_law_e_times" (defArgs s_law_e_times) (defBody s_law_e_times) (defScope s_law_e_times) .none kV_law_e_times dc_law_e_times pm_law_e_times an_law_e_times cd_law_e_times ct_law_e_times, f_law_e_is_number, PySem.W.fnOf "_law_e_is_number" "_law_e_is_number" (defArgs s_law_e_is_number) (defBody s_law_e_is_number) (defScope s_law_e_is_number) .none kV_law_e_is_number dc_law_e_is_number pm_law_e_is_number an_law_e_is_number cd_law_e_is_number ct_law_e_is_number, f_law_e_is_row, PySem.W.fnOf "_law_e_is_row" "_law_e_is_row" (defArgs s_law_e_is_row) (defBody s_law_e_is_row) (defScope s_law_e_is_row) .none kV_law_e_is_row dc_law_e_is_row pm_law_e_is_row an_law_e_is_row cd_law_e_is_row ct_law_e_is_row, f_law_e_world, PySem.W.fnOf "_law_e_world" "_law_e_world" (defArgs s_law_e_world) (defBody s_law_e_world) (defScope s_law_e_world) .none kV_law_e_world dc_law_e_world pm_law_e_world an_law_e_world cd_law_e_world ct_law_e_world, f_law_e_number, PySem.W.fnOf "_law_e_number" "_law_e_number" (defArgs s_law_e_number) (defBody s_law_e_number) (defScope s_law_e_number) .none kV_law_e_number dc_law_e_number pm_law_e_number an_law_e_number cd_law_e_number ct_law_e_number, f_law_e_row, PySem.W.fnOf "_law_e_row" "_law_e_row" (defArgs s_law_e_row) (defBody s_law_e_row) (defScope s_law_e_row) .none kV_law_e_row dc_law_e_row pm_law_e_row an_law_e_row cd_law_e_row ct_law_e_row, f_law_e_cut, PySem.W.fnOf "_law_e_cut" "_law_e_cut" (defArgs s_law_e_cut) (defBody s_law_e_cut) (defScope s_law_e_cut) .none kV_law_e_cut dc_law_e_cut pm_law_e_cut an_law_e_cut cd_law_e_cut ct_law_e_cut, f_law_e_sum, PySem.W.fnOf "_law_e_sum" "_law_e_sum" (defArgs s_law_e_sum) (defBody s_law_e_sum) (defScope s_law_e_sum) .none kV_law_e_sum dc_law_e_sum pm_law_e_sum an_law_e_sum cd_law_e_sum ct_law_e_sum, f_law_e_product, PySem.W.fnOf "_law_e_product" "_law_e_product" (defArgs s_law_e_product) (defBody s_law_e_product) (defScope s_law_e_product) .none kV_law_e_product dc_law_e_product pm_law_e_product an_law_e_product cd_law_e_product ct_law_e_product, f_law_e_parted_right, PySem.W.fnOf "_law_e_parted_right" "_law_e_parted_right" (defArgs s_law_e_parted_right) (defBody s_law_e_parted_right) (defScope s_law_e_parted_right) .none kV_law_e_parted_right dc_law_e_parted_right pm_law_e_parted_right an_law_e_parted_right cd_law_e_parted_right ct_law_e_parted_right, f_law_e_refused, PySem.W.fnOf "_law_e_refused" "_law_e_refused" (defArgs s_law_e_refused) (defBody s_law_e_refused) (defScope s_law_e_refused) .none kV_law_e_refused dc_law_e_refused pm_law_e_refused an_law_e_refused cd_law_e_refused ct_law_e_refused, f_law, PySem.W.fnOf "law" "law" (defArgs s_law) (defBody s_law) (defScope s_law) .none kV_law dc_law pm_law an_law cd_law ct_law, f_World___init__, PySem.W.fnOf "__init__" "World.__init__" (defArgs s_World___init__) (defBody s_World___init__) (defScope s_World___init__) .none kV_World___init__ dc_World___init__ pm_World___init__ an_World___init__ cd_World___init__ ct_World___init__, f_World_of, PySem.W.fnOf "of" "World.of" (defArgs s_World_of) (defBody s_World_of) (defScope s_World_of) (.ref dT_World_of) kV_World_of dc_World_of pm_World_of an_World_of cd_World_of ct_World_of, f_World_as_wholes, PySem.W.fnOf "as_wholes" "World.as_wholes" (defArgs s_World_as_wholes) (defBody s_World_as_wholes) (defScope s_World_as_wholes) .none kV_World_as_wholes dc_World_as_wholes pm_World_as_wholes an_World_as_wholes cd_World_as_wholes ct_World_as_wholes, f_World_evenly, PySem.W.fnOf "evenly" "World.evenly" (defArgs s_World_evenly) (defBody s_World_evenly) (defScope s_World_evenly) .none kV_World_evenly dc_World_evenly pm_World_evenly an_World_evenly cd_World_evenly ct_World_evenly, C_World, C_NoWorld, C_NoOver, C_WrightError, C_NoFit⟩, ?_⟩
  exact {
    F_is_whole := fun_mk (st := s_is_whole) l_is_whole c_is_whole k_is_whole
    b_is_whole := (fun_mk (st := s_is_whole) l_is_whole c_is_whole k_is_whole).binds (ps := ["thing"]) fun _ _ _ _ _ _ us hl => match us, hl with | [_], _ => rfl
    mg_is_whole := PySem.W.mg_of X G a_is_whole
    F_common_divisor := fun_mk (st := s_common_divisor) l_common_divisor c_common_divisor k_common_divisor
    b_common_divisor := (fun_mk (st := s_common_divisor) l_common_divisor c_common_divisor k_common_divisor).binds (ps := ["one", "other"]) fun _ _ _ _ _ _ us hl => match us, hl with | [_, _], _ => rfl
    mg_common_divisor := PySem.W.mg_of X G a_common_divisor
    F_is_prime := fun_mk (st := s_is_prime) l_is_prime c_is_prime k_is_prime
    b_is_prime := (fun_mk (st := s_is_prime) l_is_prime c_is_prime k_is_prime).binds (ps := ["number"]) fun _ _ _ _ _ _ us hl => match us, hl with | [_], _ => rfl
    mg_is_prime := PySem.W.mg_of X G a_is_prime
    F_ratio := fun_mk (st := s_ratio) l_ratio c_ratio k_ratio
    b_ratio := (fun_mk (st := s_ratio) l_ratio c_ratio k_ratio).binds (ps := ["top", "bottom"]) fun _ _ _ _ _ _ us hl => match us, hl with | [_, _], _ => rfl
    mg_ratio := PySem.W.mg_of X G a_ratio
    F_one_bottom := fun_mk (st := s_one_bottom) l_one_bottom c_one_bottom k_one_bottom
    b_one_bottom := (fun_mk (st := s_one_bottom) l_one_bottom c_one_bottom k_one_bottom).binds (ps := ["row"]) fun _ _ _ _ _ _ us hl => match us, hl with | [_], _ => rfl
    mg_one_bottom := PySem.W.mg_of X G a_one_bottom
    F_remainder_back := fun_mk (st := s_remainder_back) l_remainder_back c_remainder_back k_remainder_back
    b_remainder_back := (fun_mk (st := s_remainder_back) l_remainder_back c_remainder_back k_remainder_back).binds (ps := ["prime", "number"]) fun _ _ _ _ _ _ us hl => match us, hl with | [_, _], _ => rfl
    mg_remainder_back := PySem.W.mg_of X G a_remainder_back
    F_remainder_over := fun_mk (st := s_remainder_over) l_remainder_over c_remainder_over k_remainder_over
    b_remainder_over := (fun_mk (st := s_remainder_over) l_remainder_over c_remainder_over k_remainder_over).binds (ps := ["prime", "a", "b"]) fun _ _ _ _ _ _ us hl => match us, hl with | [_, _, _], _ => rfl
    mg_remainder_over := PySem.W.mg_of X G a_remainder_over
    F_is_fractions := fun_mk (st := s_is_fractions) l_is_fractions c_is_fractions k_is_fractions
    b_is_fractions := (fun_mk (st := s_is_fractions) l_is_fractions c_is_fractions k_is_fractions).binds (ps := ["told"]) fun _ _ _ _ _ _ us hl => match us, hl with | [_], _ => rfl
    mg_is_fractions := PySem.W.mg_of X G a_is_fractions
    F_is_wheel := fun_mk (st := s_is_wheel) l_is_wheel c_is_wheel k_is_wheel
    b_is_wheel := (fun_mk (st := s_is_wheel) l_is_wheel c_is_wheel k_is_wheel).binds (ps := ["told"]) fun _ _ _ _ _ _ us hl => match us, hl with | [_], _ => rfl
    mg_is_wheel := PySem.W.mg_of X G a_is_wheel
    F_trimmed := fun_mk (st := s_trimmed) l_trimmed c_trimmed k_trimmed
    b_trimmed := (fun_mk (st := s_trimmed) l_trimmed c_trimmed k_trimmed).binds (ps := ["world", "row"]) fun _ _ _ _ _ _ us hl => match us, hl with | [_, _], _ => rfl
    mg_trimmed := PySem.W.mg_of X G a_trimmed
    F_numbers_of := fun_mk (st := s_numbers_of) l_numbers_of c_numbers_of k_numbers_of
    b_numbers_of := (fun_mk (st := s_numbers_of) l_numbers_of c_numbers_of k_numbers_of).binds (ps := ["world", "wholes", "times", "bottom"]) fun _ _ _ _ _ _ us hl => match us, hl with | [_, _, _, _], _ => rfl
    mg_numbers_of := PySem.W.mg_of X G a_numbers_of
    F_whole_parted := fun_mk (st := s_whole_parted) l_whole_parted c_whole_parted k_whole_parted
    b_whole_parted := (fun_mk (st := s_whole_parted) l_whole_parted c_whole_parted k_whole_parted).binds (ps := ["world", "one", "other"]) fun _ _ _ _ _ _ us hl => match us, hl with | [_, _, _], _ => rfl
    mg_whole_parted := PySem.W.mg_of X G a_whole_parted
    F_parted := fun_mk (st := s_parted) l_parted c_parted k_parted
    b_parted := (fun_mk (st := s_parted) l_parted c_parted k_parted).binds (ps := ["world", "one", "other"]) fun _ _ _ _ _ _ us hl => match us, hl with | [_, _, _], _ => rfl
    mg_parted := PySem.W.mg_of X G a_parted
    F_law_e_fill := fun_mk (st := s_law_e_fill) l_law_e_fill c_law_e_fill k_law_e_fill
    b_law_e_fill := (fun_mk (st := s_law_e_fill) l_law_e_fill c_law_e_fill k_law_e_fill).binds (ps := ["cell", "at"]) fun _ _ _ _ _ _ us hl => match us, hl with | [_, _], _ => rfl
    mg_law_e_fill := PySem.W.mg_of X G a_law_e_fill
    F_law_e_next := fun_mk (st := s_law_e_next) l_law_e_next c_law_e_next k_law_e_next
    b_law_e_next := (fun_mk (st := s_law_e_next) l_law_e_next c_law_e_next k_law_e_next).binds (ps := ["pen", "many"]) fun _ _ _ _ _ _ us hl => match us, hl with | [_, _], _ => rfl
    mg_law_e_next := PySem.W.mg_of X G a_law_e_next
    F_law_e_low := fun_mk (st := s_law_e_low) l_law_e_low c_law_e_low k_law_e_low
    b_law_e_low := (fun_mk (st := s_law_e_low) l_law_e_low c_law_e_low k_law_e_low).binds (ps := ["top", "bottom"]) fun _ _ _ _ _ _ us hl => match us, hl with | [_, _], _ => rfl
    mg_law_e_low := PySem.W.mg_of X G a_law_e_low
    F_law_e_of := fun_mk (st := s_law_e_of) l_law_e_of c_law_e_of k_law_e_of
    b_law_e_of := (fun_mk (st := s_law_e_of) l_law_e_of c_law_e_of k_law_e_of).binds (ps := ["told", "number"]) fun _ _ _ _ _ _ us hl => match us, hl with | [_, _], _ => rfl
    mg_law_e_of := PySem.W.mg_of X G a_law_e_of
    F_law_e_plus := fun_mk (st := s_law_e_plus) l_law_e_plus c_law_e_plus k_law_e_plus
    b_law_e_plus := (fun_mk (st := s_law_e_plus) l_law_e_plus c_law_e_plus k_law_e_plus).binds (ps := ["told", "a", "b"]) fun _ _ _ _ _ _ us hl => match us, hl with | [_, _, _], _ => rfl
    mg_law_e_plus := PySem.W.mg_of X G a_law_e_plus
    F_law_e_times := fun_mk (st := s_law_e_times) l_law_e_times c_law_e_times k_law_e_times
    b_law_e_times := (fun_mk (st := s_law_e_times) l_law_e_times c_law_e_times k_law_e_times).binds (ps := ["told", "a", "b"]) fun _ _ _ _ _ _ us hl => match us, hl with | [_, _, _], _ => rfl
    mg_law_e_times := PySem.W.mg_of X G a_law_e_times
    F_law_e_is_number := fun_mk (st := s_law_e_is_number) l_law_e_is_number c_law_e_is_number k_law_e_is_number
    b_law_e_is_number := (fun_mk (st := s_law_e_is_number) l_law_e_is_number c_law_e_is_number k_law_e_is_number).binds (ps := ["told", "a"]) fun _ _ _ _ _ _ us hl => match us, hl with | [_, _], _ => rfl
    mg_law_e_is_number := PySem.W.mg_of X G a_law_e_is_number
    F_law_e_is_row := fun_mk (st := s_law_e_is_row) l_law_e_is_row c_law_e_is_row k_law_e_is_row
    b_law_e_is_row := (fun_mk (st := s_law_e_is_row) l_law_e_is_row c_law_e_is_row k_law_e_is_row).binds (ps := ["told", "found"]) fun _ _ _ _ _ _ us hl => match us, hl with | [_, _], _ => rfl
    mg_law_e_is_row := PySem.W.mg_of X G a_law_e_is_row
    F_law_e_world := fun_mk (st := s_law_e_world) l_law_e_world c_law_e_world k_law_e_world
    b_law_e_world := (fun_mk (st := s_law_e_world) l_law_e_world c_law_e_world k_law_e_world).binds (ps := ["pen"]) fun _ _ _ _ _ _ us hl => match us, hl with | [_], _ => rfl
    mg_law_e_world := PySem.W.mg_of X G a_law_e_world
    F_law_e_number := fun_mk (st := s_law_e_number) l_law_e_number c_law_e_number k_law_e_number
    b_law_e_number := (fun_mk (st := s_law_e_number) l_law_e_number c_law_e_number k_law_e_number).binds (ps := ["pen", "told", "far"]) fun _ _ _ _ _ _ us hl => match us, hl with | [_, _, _], _ => rfl
    mg_law_e_number := PySem.W.mg_of X G a_law_e_number
    F_law_e_row := fun_mk (st := s_law_e_row) l_law_e_row c_law_e_row k_law_e_row
    b_law_e_row := (fun_mk (st := s_law_e_row) l_law_e_row c_law_e_row k_law_e_row).binds (ps := ["pen", "told", "most", "far"]) fun _ _ _ _ _ _ us hl => match us, hl with | [_, _, _, _], _ => rfl
    mg_law_e_row := PySem.W.mg_of X G a_law_e_row
    F_law_e_cut := fun_mk (st := s_law_e_cut) l_law_e_cut c_law_e_cut k_law_e_cut
    b_law_e_cut := (fun_mk (st := s_law_e_cut) l_law_e_cut c_law_e_cut k_law_e_cut).binds (ps := ["told", "row"]) fun _ _ _ _ _ _ us hl => match us, hl with | [_, _], _ => rfl
    mg_law_e_cut := PySem.W.mg_of X G a_law_e_cut
    F_law_e_sum := fun_mk (st := s_law_e_sum) l_law_e_sum c_law_e_sum k_law_e_sum
    b_law_e_sum := (fun_mk (st := s_law_e_sum) l_law_e_sum c_law_e_sum k_law_e_sum).binds (ps := ["told", "one", "other"]) fun _ _ _ _ _ _ us hl => match us, hl with | [_, _, _], _ => rfl
    mg_law_e_sum := PySem.W.mg_of X G a_law_e_sum
    F_law_e_product := fun_mk (st := s_law_e_product) l_law_e_product c_law_e_product k_law_e_product
    b_law_e_product := (fun_mk (st := s_law_e_product) l_law_e_product c_law_e_product k_law_e_product).binds (ps := ["told", "one", "other"]) fun _ _ _ _ _ _ us hl => match us, hl with | [_, _, _], _ => rfl
    mg_law_e_product := PySem.W.mg_of X G a_law_e_product
    F_law_e_parted_right := fun_mk (st := s_law_e_parted_right) l_law_e_parted_right c_law_e_parted_right k_law_e_parted_right
    b_law_e_parted_right := (fun_mk (st := s_law_e_parted_right) l_law_e_parted_right c_law_e_parted_right k_law_e_parted_right).binds (ps := ["told", "world", "one", "other"]) fun _ _ _ _ _ _ us hl => match us, hl with | [_, _, _, _], _ => rfl
    mg_law_e_parted_right := PySem.W.mg_of X G a_law_e_parted_right
    F_law_e_refused := fun_mk (st := s_law_e_refused) l_law_e_refused c_law_e_refused k_law_e_refused
    b_law_e_refused := (fun_mk (st := s_law_e_refused) l_law_e_refused c_law_e_refused k_law_e_refused).binds (ps := ["world", "one", "other"]) fun _ _ _ _ _ _ us hl => match us, hl with | [_, _, _], _ => rfl
    mg_law_e_refused := PySem.W.mg_of X G a_law_e_refused
    F_law := fun_mk (st := s_law) l_law c_law k_law
    b_law := (fun_mk (st := s_law) l_law c_law k_law).binds (ps := ["script"]) fun _ _ _ _ _ _ us hl => match us, hl with | [_], _ => rfl
    mg_law := PySem.W.mg_of X G a_law
    F_World___init__ := fun_mk (st := s_World___init__) l_World___init__ c_World___init__ k_World___init__
    b_World___init__ := (fun_mk (st := s_World___init__) l_World___init__ c_World___init__ k_World___init__).binds (ps := ["self", "told"]) fun _ _ _ _ _ _ us hl => match us, hl with | [_, _], _ => rfl
    M_World := ⟨mk_World, a_World___init__, i_World___init__, kc_World⟩
    F_World_of := (fund_mk (st := s_World_of) (i := 1) l_World_of c_World_of k_World_of ld_World_of)
    b_World_of := FunD.binds (ps := ["self", "top", "bottom"]) (fund_mk (st := s_World_of) (i := 1) l_World_of c_World_of k_World_of ld_World_of) fun s dT kV doc pm an cdv ct tk o n us ho hd hl => match us, hl with | [_, _, _], _ => .of_defaults rfl ho hd rfl rfl
    b1_World_of := FunD.binds1 (ps := ["self", "top", "bottom"]) (fund_mk (st := s_World_of) (i := 1) l_World_of c_World_of k_World_of ld_World_of) fun s dT kV doc pm an cdv ct tk o n us ho hd hl => match us, hl with | [_, _], _ => .of_defaults rfl ho hd rfl rfl
    bk_World_of := FunD.bindsK (ps := ["self", "top", "bottom"]) (y := "bottom") (fund_mk (st := s_World_of) (i := 1) l_World_of c_World_of k_World_of ld_World_of) fun s dT kV doc pm an cdv ct tk o n us ws ho hd hw hl => match ws, us, hw, hl with | [_], [_, _], _, _ => .of_defaults rfl ho hd rfl rfl
    m_World_of := ⟨a_World_of, i_World_of, k_World_of⟩
    F_World_as_wholes := fun_mk (st := s_World_as_wholes) l_World_as_wholes c_World_as_wholes k_World_as_wholes
    b_World_as_wholes := (fun_mk (st := s_World_as_wholes) l_World_as_wholes c_World_as_wholes k_World_as_wholes).binds (ps := ["self", "row"]) fun _ _ _ _ _ _ us hl => match us, hl with | [_, _], _ => rfl
    m_World_as_wholes := ⟨a_World_as_wholes, i_World_as_wholes, k_World_as_wholes⟩
    F_World_evenly := fun_mk (st := s_World_evenly) l_World_evenly c_World_evenly k_World_evenly
    b_World_evenly := (fun_mk (st := s_World_evenly) l_World_evenly c_World_evenly k_World_evenly).binds (ps := ["self", "row", "by"]) fun _ _ _ _ _ _ us hl => match us, hl with | [_, _, _], _ => rfl
    m_World_evenly := ⟨a_World_evenly, i_World_evenly, k_World_evenly⟩
    cl_World := ⟨pg_World, hd_World, po_World, sa_World⟩
    mg_World := PySem.W.mg_of X G aC_World
    na_World_prime := n_World_prime
    mg_NoWorld := PySem.W.mg_of X G aC_NoWorld
    mg_NoOver := PySem.W.mg_of X G aC_NoOver
    mg_WrightError := PySem.W.mg_of X G aC_WrightError
    mg_NoFit := PySem.W.mg_of X G aC_NoFit
    n_len := PySem.W.mg_none_of X G z_len
    n_isinstance := PySem.W.mg_none_of X G z_isinstance
    n_int := PySem.W.mg_none_of X G z_int
    n_bool := PySem.W.mg_none_of X G z_bool
    n_tuple := PySem.W.mg_none_of X G z_tuple
    n_list := PySem.W.mg_none_of X G z_list
    n_range := PySem.W.mg_none_of X G z_range
    n_abs := PySem.W.mg_none_of X G z_abs
    n_all := PySem.W.mg_none_of X G z_all
    n_zip := PySem.W.mg_none_of X G z_zip
    n_enumerate := PySem.W.mg_none_of X G z_enumerate
    n_ValueError := PySem.W.mg_none_of X G z_ValueError
    mg_GREATEST_PRIME := ⟨_, PySem.W.mg_of X G a_GREATEST_PRIME, _, rfl⟩
    mg_LONG := ⟨_, PySem.W.mg_of X G a_LONG, _, rfl⟩
    x_NoWorld := e_x_NoWorld
    x_NoOver := e_x_NoOver
    x_WrightError := e_x_WrightError
    m_NO_NO := e_m_NO_NO
    m_NO_WE := e_m_NO_WE
    k_VE := e_k_VE
    k_NO := e_k_NO
    k_NoWorld := e_k_NoWorld
    k_NoFit := e_k_NoFit
    cx1 := e_cx1
    cx2 := e_cx2
    cx3 := e_cx3
    cx4 := e_cx4
    cx5 := e_cx5
    cx6 := e_cx6
  }
end My
def PySem.W.Fast.tw9384652039801055388 : Unit := ()
def PySem.W.Fast.tw12886718556607580694 : Unit := ()
def PySem.W.Fast.tw12702073662438211266 : Unit := ()
def PySem.W.Fast.tw3130363959609550267 : Unit := ()
def PySem.W.Fast.tw11118645153308289822 : Unit := ()
def PySem.W.Fast.tw2918134868720367272 : Unit := ()
def PySem.W.Fast.tw7996204223353141568 : Unit := ()
def PySem.W.Fast.tw16423548471699016554 : Unit := ()
def PySem.W.Fast.tw6703386008042608528 : Unit := ()
def PySem.W.Fast.tw18218163695499488567 : Unit := ()
def PySem.W.Fast.tw1943113971553752603 : Unit := ()
def PySem.W.Fast.tw18021417579023091483 : Unit := ()
def PySem.W.Fast.tw6320780138405040259 : Unit := ()
def PySem.W.Fast.tw77495338653571934 : Unit := ()
def PySem.W.Fast.tw14249121855243669536 : Unit := ()
def PySem.W.Fast.tw9325107557629984463 : Unit := ()
def PySem.W.Fast.tw16611463963818069213 : Unit := ()
def PySem.W.Fast.tw9928496198383748224 : Unit := ()
def PySem.W.Fast.tw16916355732825782940 : Unit := ()
def PySem.W.Fast.tw7250227074753230392 : Unit := ()
def PySem.W.Fast.tw15315719123169547478 : Unit := ()
def PySem.W.Fast.tw12980601698352008956 : Unit := ()
def PySem.W.Fast.tw1542503927901998786 : Unit := ()
def PySem.W.Fast.tw13022853427268789045 : Unit := ()
def PySem.W.Fast.tw13560743261273815305 : Unit := ()
def PySem.W.Fast.tw10013838636019922825 : Unit := ()
def PySem.W.Fast.tw14534071130031736349 : Unit := ()
def PySem.W.Fast.tw14528850468466016959 : Unit := ()
def PySem.W.Fast.tw5171878332086575542 : Unit := ()
open PySem PySem.W PyProof.Rows
set_option maxRecDepth 100000 in
set_option maxHeartbeats 0 in
theorem PySem.Challenge.cw_bandwright_k53_rows_parted_holds : PySem.Challenge.rw_bandwright_k53_rows_parted.Holds := by
  w_on; o_law; k_head; (case hw => w_witness2)
  k_fill
  refine My.walk (l := PySem.Challenge.rw_bandwright_k53_rows_parted) rfl rfl (fun w h Y => PySem.W.kIn_of Y) ?F
  case F =>
    intro w mg fa h KX G hmg
    have T : ∃ t, My.Txt (L2.KOf KX) mg t := by
      dsimp only [L2.KOf]
      refine' My.txt_mk KX G ?aC_World ?aC_NoWorld ?aC_NoOver ?aC_WrightError ?aC_NoFit ?a_is_whole ?l_is_whole ?c_is_whole ?k_is_whole ?a_common_divisor ?l_common_divisor ?c_common_divisor ?k_common_divisor ?a_is_prime ?l_is_prime ?c_is_prime ?k_is_prime ?a_ratio ?l_ratio ?c_ratio ?k_ratio ?a_one_bottom ?l_one_bottom ?c_one_bottom ?k_one_bottom ?a_remainder_back ?l_remainder_back ?c_remainder_back ?k_remainder_back ?a_remainder_over ?l_remainder_over ?c_remainder_over ?k_remainder_over ?a_is_fractions ?l_is_fractions ?c_is_fractions ?k_is_fractions ?a_is_wheel ?l_is_wheel ?c_is_wheel ?k_is_wheel ?a_trimmed ?l_trimmed ?c_trimmed ?k_trimmed ?a_numbers_of ?l_numbers_of ?c_numbers_of ?k_numbers_of ?a_whole_parted ?l_whole_parted ?c_whole_parted ?k_whole_parted ?a_parted ?l_parted ?c_parted ?k_parted ?a_law_e_fill ?l_law_e_fill ?c_law_e_fill ?k_law_e_fill ?a_law_e_next ?l_law_e_next ?c_law_e_next ?k_law_e_next ?a_law_e_low ?l_law_e_low ?c_law_e_low ?k_law_e_low ?a_law_e_of ?l_law_e_of ?c_law_e_of ?k_law_e_of ?a_law_e_plus ?l_law_e_plus ?c_law_e_plus ?k_law_e_plus ?a_law_e_times ?l_law_e_times ?c_law_e_times ?k_law_e_times ?a_law_e_is_number ?l_law_e_is_number ?c_law_e_is_number ?k_law_e_is_number ?a_law_e_is_row ?l_law_e_is_row ?c_law_e_is_row ?k_law_e_is_row ?a_law_e_world ?l_law_e_world ?c_law_e_world ?k_law_e_world ?a_law_e_number ?l_law_e_number ?c_law_e_number ?k_law_e_number ?a_law_e_row ?l_law_e_row ?c_law_e_row ?k_law_e_row ?a_law_e_cut ?l_law_e_cut ?c_law_e_cut ?k_law_e_cut ?a_law_e_sum ?l_law_e_sum ?c_law_e_sum ?k_law_e_sum ?a_law_e_product ?l_law_e_product ?c_law_e_product ?k_law_e_product ?a_law_e_parted_right ?l_law_e_parted_right ?c_law_e_parted_right ?k_law_e_parted_right ?a_law_e_refused ?l_law_e_refused ?c_law_e_refused ?k_law_e_refused ?a_law ?l_law ?c_law ?k_law ?a_World___init__ ?i_World___init__ ?l_World___init__ ?c_World___init__ ?k_World___init__ ?a_World_of ?i_World_of ?l_World_of ?c_World_of ?k_World_of ?ld_World_of ?a_World_as_wholes ?i_World_as_wholes ?l_World_as_wholes ?c_World_as_wholes ?k_World_as_wholes ?a_World_evenly ?i_World_evenly ?l_World_evenly ?c_World_evenly ?k_World_evenly ?pg_World ?hd_World ?po_World ?sa_World ?mk_World ?kc_World ?n_World_prime ?z_len ?z_isinstance ?z_int ?z_bool ?z_tuple ?z_list ?z_range ?z_abs ?z_all ?z_zip ?z_enumerate ?z_ValueError ?a_GREATEST_PRIME ?a_LONG ?e_x_NoWorld ?e_x_NoOver ?e_x_WrightError ?e_m_NO_NO ?e_m_NO_WE ?e_k_VE ?e_k_NO ?e_k_NoWorld ?e_k_NoFit ?e_cx1 ?e_cx2 ?e_cx3 ?e_cx4 ?e_cx5 ?e_cx6
      (case aC_World => k_is)
      (case aC_NoWorld => k_is)
      (case aC_NoOver => k_is)
      (case aC_WrightError => k_is)
      (case aC_NoFit => k_is)
      (case a_is_whole => k_is)
      (case l_is_whole => k_is)
      (case c_is_whole => k_is)
      (case k_is_whole => k_is)
      (case a_common_divisor => k_is)
      (case l_common_divisor => k_is)
      (case c_common_divisor => k_is)
      (case k_common_divisor => k_is)
      (case a_is_prime => k_is)
      (case l_is_prime => k_is)
      (case c_is_prime => k_is)
      (case k_is_prime => k_is)
      (case a_ratio => k_is)
      (case l_ratio => k_is)
      (case c_ratio => k_is)
      (case k_ratio => k_is)
      (case a_one_bottom => k_is)
      (case l_one_bottom => k_is)
      (case c_one_bottom => k_is)
      (case k_one_bottom => k_is)
      (case a_remainder_back => k_is)
      (case l_remainder_back => k_is)
      (case c_remainder_back => k_is)
      (case k_remainder_back => k_is)
      (case a_remainder_over => k_is)
      (case l_remainder_over => k_is)
      (case c_remainder_over => k_is)
      (case k_remainder_over => k_is)
      (case a_is_fractions => k_is)
      (case l_is_fractions => k_is)
      (case c_is_fractions => k_is)
      (case k_is_fractions => k_is)
      (case a_is_wheel => k_is)
      (case l_is_wheel => k_is)
      (case c_is_wheel => k_is)
      (case k_is_wheel => k_is)
      (case a_trimmed => k_is)
      (case l_trimmed => k_is)
      (case c_trimmed => k_is)
      (case k_trimmed => k_is)
      (case a_numbers_of => k_is)
      (case l_numbers_of => k_is)
      (case c_numbers_of => k_is)
      (case k_numbers_of => k_is)
      (case a_whole_parted => k_is)
      (case l_whole_parted => k_is)
      (case c_whole_parted => k_is)
      (case k_whole_parted => k_is)
      (case a_parted => k_is)
      (case l_parted => k_is)
      (case c_parted => k_is)
      (case k_parted => k_is)
      (case a_law_e_fill => k_is)
      (case l_law_e_fill => k_is)
      (case c_law_e_fill => k_is)
      (case k_law_e_fill => k_is)
      (case a_law_e_next => k_is)
      (case l_law_e_next => k_is)
      (case c_law_e_next => k_is)
      (case k_law_e_next => k_is)
      (case a_law_e_low => k_is)
      (case l_law_e_low => k_is)
      (case c_law_e_low => k_is)
      (case k_law_e_low => k_is)
      (case a_law_e_of => k_is)
      (case l_law_e_of => k_is)
      (case c_law_e_of => k_is)
      (case k_law_e_of => k_is)
      (case a_law_e_plus => k_is)
      (case l_law_e_plus => k_is)
      (case c_law_e_plus => k_is)
      (case k_law_e_plus => k_is)
      (case a_law_e_times => k_is)
      (case l_law_e_times => k_is)
      (case c_law_e_times => k_is)
      (case k_law_e_times => k_is)
      (case a_law_e_is_number => k_is)
      (case l_law_e_is_number => k_is)
      (case c_law_e_is_number => k_is)
      (case k_law_e_is_number => k_is)
      (case a_law_e_is_row => k_is)
      (case l_law_e_is_row => k_is)
      (case c_law_e_is_row => k_is)
      (case k_law_e_is_row => k_is)
      (case a_law_e_world => k_is)
      (case l_law_e_world => k_is)
      (case c_law_e_world => k_is)
      (case k_law_e_world => k_is)
      (case a_law_e_number => k_is)
      (case l_law_e_number => k_is)
      (case c_law_e_number => k_is)
      (case k_law_e_number => k_is)
      (case a_law_e_row => k_is)
      (case l_law_e_row => k_is)
      (case c_law_e_row => k_is)
      (case k_law_e_row => k_is)
      (case a_law_e_cut => k_is)
      (case l_law_e_cut => k_is)
      (case c_law_e_cut => k_is)
      (case k_law_e_cut => k_is)
      (case a_law_e_sum => k_is)
      (case l_law_e_sum => k_is)
      (case c_law_e_sum => k_is)
      (case k_law_e_sum => k_is)
      (case a_law_e_product => k_is)
      (case l_law_e_product => k_is)
      (case c_law_e_product => k_is)
      (case k_law_e_product => k_is)
      (case a_law_e_parted_right => k_is)
      (case l_law_e_parted_right => k_is)
      (case c_law_e_parted_right => k_is)
      (case k_law_e_parted_right => k_is)
      (case a_law_e_refused => k_is)
      (case l_law_e_refused => k_is)
      (case c_law_e_refused => k_is)
      (case k_law_e_refused => k_is)
      (case a_law => k_is)
      (case l_law => k_is)
      (case c_law => k_is)
      (case k_law => k_is)
      (case a_World___init__ => k_is)
      (case i_World___init__ => k_is)
      (case l_World___init__ => k_is)
      (case c_World___init__ => k_is)
      (case k_World___init__ => k_is)
      (case a_World_of => k_is)
      (case i_World_of => k_is)
      (case l_World_of => k_is)
      (case c_World_of => k_is)
      (case k_World_of => k_is)
      (case ld_World_of => k_is)
      (case a_World_as_wholes => k_is)
      (case i_World_as_wholes => k_is)
      (case l_World_as_wholes => k_is)
      (case c_World_as_wholes => k_is)
      (case k_World_as_wholes => k_is)
      (case a_World_evenly => k_is)
      (case i_World_evenly => k_is)
      (case l_World_evenly => k_is)
      (case c_World_evenly => k_is)
      (case k_World_evenly => k_is)
      (case pg_World => k_is)
      (case hd_World => k_is)
      (case po_World => k_is)
      (case sa_World => k_is)
      (case mk_World => k_is)
      (case kc_World => k_is)
      (case n_World_prime => k_is)
      (case z_len => k_is)
      (case z_isinstance => k_is)
      (case z_int => k_is)
      (case z_bool => k_is)
      (case z_tuple => k_is)
      (case z_list => k_is)
      (case z_range => k_is)
      (case z_abs => k_is)
      (case z_all => k_is)
      (case z_zip => k_is)
      (case z_enumerate => k_is)
      (case z_ValueError => k_is)
      (case a_GREATEST_PRIME => k_is)
      (case a_LONG => k_is)
      (case e_x_NoWorld => k_exc)
      (case e_x_NoOver => k_exc)
      (case e_x_WrightError => k_exc)
      (case e_m_NO_NO => k_is)
      (case e_m_NO_WE => k_is)
      (case e_k_VE => kit_is)
      (case e_k_NO => kit_is)
      (case e_k_NoWorld => kit_is)
      (case e_k_NoFit => kit_is)
      (case e_cx1 => k_is)
      (case e_cx2 => k_is)
      (case e_cx3 => k_is)
      (case e_cx4 => k_is)
      (case e_cx5 => k_is)
      (case e_cx6 => k_is)
    obtain ⟨t, T⟩ := T
    have e0 := hmg.symm.trans T.mg_law
    cases e0
    exact My.law_all T
#print axioms PySem.Challenge.cw_bandwright_k53_rows_parted_holds
