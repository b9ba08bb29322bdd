import PyProof.Rows.All
import Wide.All
import OpenK.AllK
import Wide.FinOn
import Lean
import PyProof.EqAt
import PyProof.EqKinds
import PyProof.TupleCall
import PySem.Challenge.RW_bandwright_k56_rows_as_tables_and_refuse
set_option Elab.async false
set_option linter.all false
set_option maxRecDepth 100000
/-! THE HAND LAYER, for ints, bools, texts, own classes, LISTS and tuples (index, slices, in, append, pop ..), calls, loops. Paste it whole ahead of your own text; what your proof does not reach may be deleted. -/
namespace L2
open PySem PySem.Spec PyProof.Rows

/-- a key: an int or a str -/
abbrev Key := Sum Int Str
def keyIs : Key → Value → Bool
  | .inl k, v => Value.isInt k v
  | .inr x, v => Value.isStrOf x v
def keyH (w : World) : Key → Int
  | .inl k => hashInt k
  | .inr x => hashStr w x
theorem keyIs_shape : ∀ {k : Key} {v : Value}, keyIs k v = true → (∃ i t, k = Sum.inl i ∧ v = Value.int i t) ∨ (∃ x t, k = Sum.inr x ∧ v = Value.str x t)
  | .inl i, v, h => by
    obtain ⟨t, e⟩ := Value.isInt_shape (k := i) (v := v) h
    exact .inl ⟨i, t, rfl, e⟩
  | .inr x, v, h => by
    obtain ⟨t, e⟩ := Value.isStrOf_shape (x := x) (v := v) h
    exact .inr ⟨x, t, rfl, e⟩
theorem key_ll (a b : Int) : decide ((Sum.inl a : Key) = Sum.inl b) = (a == b) := by
  by_cases e : a = b
  · subst e; simp
  · have h : ¬ (Sum.inl a : Key) = Sum.inl b := fun q => e (Sum.inl.inj q)
    rw [decide_eq_false h]
    exact (beq_eq_false_iff_ne.mpr e).symm
theorem key_rr (a b : Str) : decide ((Sum.inr a : Key) = Sum.inr b) = decide (a = b) := by
  by_cases e : a = b
  · subst e; simp
  · have h : ¬ (Sum.inr a : Key) = Sum.inr b := fun q => e (Sum.inr.inj q)
    rw [decide_eq_false h, decide_eq_false e]
theorem key_lr (a : Int) (b : Str) : decide ((Sum.inl a : Key) = Sum.inr b) = false := decide_eq_false (fun q => nomatch q)
theorem key_rl (a : Str) (b : Int) : decide ((Sum.inr a : Key) = Sum.inl b) = false := decide_eq_false (fun q => nomatch q)

def mixKind (prog : Program) (w : World) : PySem.KeyKind prog w Key where
  is := keyIs
  hash := keyH w
  inj := fun v a b ha hb => by
    rcases keyIs_shape ha with ⟨i, t, rfl, rfl⟩ | ⟨x, t, rfl, rfl⟩
    · rcases keyIs_shape hb with ⟨j, u, rfl, e⟩ | ⟨y, u, rfl, e⟩
      · injection e with e1 _; rw [e1]
      · exact nomatch e
    · rcases keyIs_shape hb with ⟨j, u, rfl, e⟩ | ⟨y, u, rfl, e⟩
      · exact nomatch e
      · injection e with e1 _; rw [e1]
  byValue := fun k v h => by
    rcases keyIs_shape h with ⟨i, t, rfl, rfl⟩ | ⟨x, t, rfl, rfl⟩ <;> rfl
  pyHash := fun hv h => by
    rcases keyIs_shape hv with ⟨i, t, rfl, rfl⟩ | ⟨x, t, rfl, rfl⟩
    · exact wpAny_pyHash_int h
    · exact wpAny_pyHash_str h
  eqBool := fun hu hv h => by
    rcases keyIs_shape hu with ⟨i, t, rfl, rfl⟩ | ⟨x, t, rfl, rfl⟩
    · rcases keyIs_shape hv with ⟨j, u, rfl, rfl⟩ | ⟨y, u, rfl, rfl⟩
      · rw [key_ll] at h; exact wpAny_eqBool_int h
      · rw [key_lr] at h; exact SeqAt.EqAt.int_str i t y u _ _ _ _ h
    · rcases keyIs_shape hv with ⟨j, u, rfl, rfl⟩ | ⟨y, u, rfl, rfl⟩
      · rw [key_rl] at h; exact SeqAt.EqAt.str_int x t j u _ _ _ _ h
      · rw [key_rr] at h; exact wpAny_eqBool_str h
  «strs» := fun k x t v h => by
    rcases keyIs_shape h with ⟨i, u, rfl, e⟩ | ⟨y, u, rfl, e⟩
    · exact nomatch e
    · injection e with e1 _
      subst e1
      cases v <;> rfl

end L2

namespace L2
open PySem PySem.Spec PyProof.Rows

/-- a value, without the heap -/
inductive V where
  | non | bl (b : Bool) | int (i : Int) | str (x : Str) | byt (b : Array UInt8) | flt (b : UInt64) | ref (a : Addr) | ty (n : String)
  deriving DecidableEq

def RelV : V → Value → Prop
  | .non, u => u = Value.none
  | .bl b, u => u = Value.bool b
  | .int i, u => ∃ t, u = Value.int i t
  | .str x, u => ∃ t, u = Value.str x t
  | .byt b, u => ∃ t, u = Value.bytes b t
  | .flt b, u => ∃ t, u = Value.float b t
  | .ref a, u => u = Value.ref a
  | .ty n, u => u = Value.type n

abbrev Vals : List V → List Value → Prop := Paired RelV
theorem Vals.length {xs : List V} {us : List Value} (r : Vals xs us) : xs.length = us.length := Paired.length r
theorem Vals.get : ∀ {xs : List V} {us : List Value} {i : Nat} {x : V}, Vals xs us → xs[i]? = some x → ∃ u, us[i]? = some u ∧ RelV x u
  | _, _, _, _, .nil, e => by simp at e
  | _, _, 0, _, .cons r _, e => by simp at e; subst e; exact ⟨_, rfl, r⟩
  | _, _, i + 1, x, .cons _ t, e => by
    obtain ⟨u, h1, h2⟩ := Vals.get (i := i) (x := x) t (by simpa using e)
    exact ⟨u, by simpa using h1, h2⟩
theorem Vals.set {x : V} {u : Value} (r : RelV x u) : ∀ {xs : List V} {us : List Value} (i : Nat), Vals xs us → Vals (xs.set i x) (us.set i u)
  | _, _, _, .nil => .nil
  | _, _, 0, .cons _ t => .cons r t
  | _, _, i + 1, .cons q t => .cons q (Vals.set r i t)
theorem Vals.append : ∀ {xs ys : List V} {us ws : List Value}, Vals xs us → Vals ys ws → Vals (xs ++ ys) (us ++ ws)
  | _, _, _, _, .nil, s => s
  | _, _, _, _, .cons r t, s => .cons r (Vals.append t s)
theorem Vals.take : ∀ {xs : List V} {us : List Value} (n : Nat), Vals xs us → Vals (xs.take n) (us.take n)
  | _, _, 0, _ => .nil
  | _, _, _ + 1, .nil => .nil
  | _, _, n + 1, .cons r t => .cons r (Vals.take n t)
theorem Vals.drop : ∀ {xs : List V} {us : List Value} (n : Nat), Vals xs us → Vals (xs.drop n) (us.drop n)
  | _, _, 0, r => r
  | _, _, _ + 1, .nil => .nil
  | _, _, n + 1, .cons _ t => Vals.drop n t
theorem Vals.none_of : ∀ {xs : List V} {us : List Value} {i : Nat}, Vals xs us → xs[i]? = none → us[i]? = none := fun {xs us i} r e => by
  have h1 := r.length
  have h2 : xs.length ≤ i := List.getElem?_eq_none_iff.mp e
  exact List.getElem?_eq_none_iff.mpr (by omega)

def RelO : Option V → Option Value → Prop
  | some v, some u => RelV v u
  | none, none => True
  | _, _ => False
def KV {κ : Type} : List (κ × V) → List (κ × Value) → Prop := Paired fun (p : κ × V) (q : κ × Value) => p.1 = q.1 ∧ RelV p.2 q.2

/-- a key of a dict (00_mix): an int or a text -/
def kV : Key → V
  | .inl i => .int i
  | .inr x => .str x

/-- what stands at a tracked address -/
inductive HO where
  /-- a list -/
  | lst (xs : List V)
  /-- a tuple (never changes) -/
  | tup (xs : List V)
  /-- a dict whose keys are ints and texts; one whose keys are tuples of ints and texts (the empty one is both) -/
  | dK (kvs : List (Key × V)) | dT (kvs : List (List Key × V))
  /-- a set of ints: its members, its size -/
  | set (S : Int → Bool) (n : Nat)
  /-- an instance of the class at C, its dict at dx, its attributes -/
  | ins (C dx : Addr) (fs : List (Str × V))
  /-- the dict of the instance at x -/
  | own (x : Addr)
  /-- the dict of an exception -/
  | xd (fs : List (Str × V))
  /-- a bound method, f of x -/
  | met (f x : Addr)
  /-- a range object lo, lo + 1, .. below hi -/
  | rng (lo hi : Int)
  /-- a thing that is known to the object (the script; a dict while a loop walks it): read, never written while it is so -/
  | frz (o : Obj) (u : HO)
  /-- a code object's table -/
  | tbl (ps : Array Value)
  /-- any other thing, by what is true of its one object (a def of one's own: SetO a S n := HO.ext fun h => ..) -/
  | ext (φ : Heap → Prop)

abbrev Hp := Addr → Option HO
def upd (H : Hp) (a : Addr) (o : HO) : Hp := fun b => if b = a then some o else H b
theorem upd_same {H : Hp} {a : Addr} {o : HO} : upd H a o a = some o := by unfold upd; rw [if_pos rfl]
theorem upd_ne {H : Hp} {a b : Addr} {o : HO} (h : b ≠ a) : upd H a o b = H b := by unfold upd; rw [if_neg h]
theorem ne_of_none {H : Hp} {a b : Addr} {o : HO} (h : H a = some o) (h' : H b = none) : a ≠ b := by
  intro e; subst e; rw [h] at h'; cases h'

section
variable (P : Program) (w : World)
def ObjOk (H : Hp) (h : Heap) (a : Addr) : HO → Prop
  | .lst xs => xs.length ≤ sizeLine ∧ ∃ (its : List Value) (n : Nat), Vals xs its ∧ h.get? a = some { cls := .type "list", data := .seq its.toArray n }
  | .tup xs => xs.length ≤ sizeLine ∧ ∃ its : List Value, Vals xs its ∧ IsTup h a its.toArray
  | .dK kvs => kvs.length ≤ sizeLine ∧ (a == sysModules) = false ∧ ∃ vs, KV kvs vs ∧ h.DictOf (mixKind P w) a vs
  | .dT kvs => kvs.length ≤ sizeLine ∧ (a == sysModules) = false ∧ ∃ xs : List (List Key × Addr × Value),
      Paired (fun (p : List Key × V) (q : List Key × Addr × Value) => p.1 = q.1 ∧ H q.2.1 = some (.tup (p.1.map kV)) ∧ RelV p.2 q.2.2) kvs xs ∧
      ∃ o es ep, h.get? a = some o ∧ o.ExactDict ∧ o.data = .dict es ep ∧ es.toList = xs.map (entryOfKey (tupleKind (mixKind P w))) ∧ (xs.map (·.1)).Nodup
  | .set S n => h.SetOf (intKind P w) a S n
  | .ins C dx fs => H dx = some (.own a) ∧ fs.length ≤ 1000 ∧ dx ≠ a ∧ h.get? a = some (PySem.W.instObj C dx) ∧
      ∃ mA, h.Ns1 dx mA ∧ (∀ f, RelO (fs.lookup f) (mA f)) ∧ PySem.Within mA (fs.map (·.1))
  | .own _ => ∃ o, h.get? a = some o
  | .xd fs => ∃ mA, h.Ns1 a mA ∧ ∀ f, RelO (fs.lookup f) (mA f)
  | .rng lo hi => ∃ t u v, h.get? a = some { cls := .type "range", data := .fields #[.int lo t, .int hi u, .int 1 v] }
  | .frz o u => h.get? a = some o ∧ ObjOk H h a u
  | .tbl ps => h.get? a = some { cls := .none, data := .fields ps }
  | .met f x => h.get? a = some (PySem.W.methodObj (.ref f) (.ref x))
  | .ext φ => φ h ∧ (∃ o, h.get? a = some o) ∧ ∀ h1 h2 : Heap, φ h1 → (∀ o, h1.get? a = some o → h2.get? a = some o) → φ h2
/-- the abstract heap is held -/
def HOk (H : Hp) (h : Heap) : Prop := ∀ a o, H a = some o → ObjOk P w H h a o
end

section
variable {P : Program} {w : World} {H H' : Hp} {h h' : Heap} {a : Addr} {o : HO}
theorem ObjOk.lt (x : ObjOk P w H h a o) : a < h.objs.size := by
  cases o with
  | lst xs => obtain ⟨_, _, _, _, e⟩ := x; exact Heap.lt_size e
  | tup xs => obtain ⟨_, _, _, p⟩ := x; exact p.lt
  | dK kvs => obtain ⟨_, _, _, _, o, _, _, e, _⟩ := x; exact Heap.lt_size e
  | dT kvs => obtain ⟨_, _, _, _, o, _, _, e, _⟩ := x; exact Heap.lt_size e
  | set S n => obtain ⟨o, _, _, _, e, _⟩ := x; exact Heap.lt_size e
  | ins C dx fs => obtain ⟨_, _, _, e, _⟩ := x; exact Heap.lt_size e
  | own y => obtain ⟨_, e⟩ := x; exact Heap.lt_size e
  | xd fs => obtain ⟨_, ⟨_, _, _, e, _⟩, _⟩ := x; exact Heap.lt_size e
  | rng lo hi => obtain ⟨_, _, _, e⟩ := x; exact Heap.lt_size e
  | frz ob u => obtain ⟨e, _⟩ := x; exact Heap.lt_size e
  | tbl ps => exact Heap.lt_size (show h.get? a = some _ from x)
  | met f y => exact Heap.lt_size (show h.get? a = some _ from x)
  | ext φ => obtain ⟨_, ⟨_, e⟩, _⟩ := x; exact Heap.lt_size e
theorem Paired.mapP {α β : Type} {F G : α → β → Prop} : ∀ {l₁ : List α} {l₂ : List β}, Paired F l₁ l₂ → (∀ a b, F a b → G a b) → Paired G l₁ l₂
  | _, _, .nil, _ => .nil
  | _, _, .cons r t, f => .cons (f _ _ r) (Paired.mapP t f)
/-- what an object's description leans on: its own object, its own dict, the tuples -/
theorem ObjOk.stay (x : ObjOk P w H h a o) (k : ∀ b u, (b = a ∨ H b = some (.own a)) → h.get? b = some u → h'.get? b = some u)
    (ho : ∀ b, H b = some (.own a) → H' b = some (.own a)) (ht : ∀ b xs, H b = some (.tup xs) → H' b = some (.tup xs)) : ObjOk P w H' h' a o := by
  induction o with
  | lst xs => obtain ⟨z, its, n, r, e⟩ := x; exact ⟨z, its, n, r, k _ _ (.inl rfl) e⟩
  | tup xs => obtain ⟨z, its, r, ob, e, c⟩ := x; exact ⟨z, its, r, ob, k _ _ (.inl rfl) e, c⟩
  | dK kvs => obtain ⟨z, y, vs, r, ob, es, ep, e, c⟩ := x; exact ⟨z, y, vs, r, ob, es, ep, k _ _ (.inl rfl) e, c⟩
  | dT kvs =>
    obtain ⟨z, y, xs, r, ob, es, ep, e, c⟩ := x
    exact ⟨z, y, xs, Paired.mapP r fun p q z => ⟨z.1, ht _ _ z.2.1, z.2.2⟩, ob, es, ep, k _ _ (.inl rfl) e, c⟩
  | set S n => obtain ⟨ob, es, ep, t, e, c⟩ := x; exact ⟨ob, es, ep, t, k _ _ (.inl rfl) e, c⟩
  | ins C dx fs =>
    obtain ⟨d, z, ne, e, mA, ⟨od, es, ep, e2, c⟩, r⟩ := x
    exact ⟨ho _ d, z, ne, k _ _ (.inl rfl) e, mA, ⟨od, es, ep, k _ _ (.inr d) e2, c⟩, r⟩
  | own y => obtain ⟨ob, e⟩ := x; exact ⟨ob, k _ _ (.inl rfl) e⟩
  | xd fs => obtain ⟨mA, ⟨od, es, ep, e, c⟩, r⟩ := x; exact ⟨mA, ⟨od, es, ep, k _ _ (.inl rfl) e, c⟩, r⟩
  | rng lo hi => obtain ⟨t, u, v, e⟩ := x; exact ⟨t, u, v, k _ _ (.inl rfl) e⟩
  | frz ob u ih => obtain ⟨e, q⟩ := x; exact ⟨k _ _ (.inl rfl) e, ih q⟩
  | tbl ps =>
    have e : h.get? a = some { cls := .none, data := .fields ps } := x
    show h'.get? a = some { cls := .none, data := .fields ps }
    exact k a _ (.inl rfl) e
  | met f y =>
    have e : h.get? a = some (PySem.W.methodObj (.ref f) (.ref y)) := x
    show h'.get? a = some (PySem.W.methodObj (.ref f) (.ref y))
    exact k a _ (.inl rfl) e
  | ext φ => obtain ⟨p, ⟨o, e⟩, st⟩ := x; exact ⟨st _ _ p fun o q => k _ _ (.inl rfl) q, ⟨o, k _ _ (.inl rfl) e⟩, st⟩
theorem HOk.lt (x : HOk P w H h) (e : H a = some o) : a < h.objs.size := (x a o e).lt
theorem HOk.fresh (x : HOk P w H h) (e : h.objs.size ≤ a) : H a = none := by
  cases q : H a with
  | none => rfl
  | some u => exact absurd (Nat.lt_of_lt_of_le (x.lt q) e) (Nat.lt_irrefl _)
/-- every object of the heap is kept -/
theorem HOk.kept (x : HOk P w H h) (k : ∀ b u, h.get? b = some u → h'.get? b = some u) : HOk P w H h' := fun a o e =>
  (x a o e).stay (fun b u _ q => k b u q) (fun _ q => q) fun _ _ q => q
/-- a new object is laid and tracked -/
theorem HOk.laid (x : HOk P w H h) (k : ∀ b u, h.get? b = some u → h'.get? b = some u) (hp : h.objs.size ≤ a) (new : ObjOk P w (upd H a o) h' a o) : HOk P w (upd H a o) h' := fun b u e => by
  have hn := x.fresh hp
  by_cases hb : b = a
  · subst hb; rw [upd_same] at e; cases e; exact new
  · rw [upd_ne hb] at e
    exact (x b u e).stay (fun c v _ q => k c v q) (fun c q => by rw [upd_ne (ne_of_none q hn)]; exact q) fun c xs q => by rw [upd_ne (ne_of_none q hn)]; exact q
end

/-- what may be read as u: it is u, or a known u -/
def Rd (H : Hp) (a : Addr) (u : HO) : Prop := H a = some u ∨ ∃ o, H a = some (.frz o u)
theorem Rd.of {H : Hp} {a : Addr} {u : HO} (h : H a = some u) : Rd H a u := .inl h
theorem Rd.ok {P : Program} {w : World} {H : Hp} {h : Heap} {a : Addr} {u : HO} (r : Rd H a u) (x : HOk P w H h) : ObjOk P w H h a u := by
  rcases r with r | ⟨o, r⟩
  · exact x a u r
  · obtain ⟨_, q⟩ := x a _ r
    exact q
/-- what may be written -/
def Mut : Option HO → Prop
  | some (.lst _) => True
  | some (.dK _) => True
  | some (.dT _) => True
  | some (.set _ _) => True
  | some (.ins _ _ _) => True
  | some (.ext _) => True
  | _ => False
section
variable {P : Program} {w : World} {H : Hp} {h h' : Heap} {x e : Addr} {o' : HO}
/-- the object at e is changed: x itself, or the dict of the instance x -/
theorem HOk.write (ok : HOk P w H h) (mu : Mut (H x)) (he : e = x ∨ H e = some (.own x)) (k : ∀ b u, b ≠ e → h.get? b = some u → h'.get? b = some u) (heo : ∃ u, h'.get? e = some u)
    (new : ObjOk P w (upd H x o') h' x o') : HOk P w (upd H x o') h' := fun b u q => by
  have nown : ∀ c y, H c = some (.own y) → c ≠ x := fun c y r z => by subst z; rw [r] at mu; exact mu
  have ntup : ∀ c xs, H c = some (.tup xs) → c ≠ x := fun c xs r z => by subst z; rw [r] at mu; exact mu
  by_cases hb : b = x
  · subst hb; rw [upd_same] at q; cases q; exact new
  · rw [upd_ne hb] at q
    by_cases hbe : b = e
    · have q' : H b = some (.own x) := by
        rcases he with z | z
        · exact absurd (hbe.trans z) hb
        · rw [hbe]; exact z
      rw [q] at q'; cases q'
      obtain ⟨v, hv⟩ := heo
      exact ⟨v, by rw [hbe]; exact hv⟩
    · refine (ok b u q).stay (fun c v hc r => k c v ?_ r) (fun c r => by rw [upd_ne (nown c b r)]; exact r) fun c xs r => by rw [upd_ne (ntup c xs r)]; exact r
      rcases hc with rfl | hc
      · exact hbe
      · rintro rfl
        rcases he with z | z
        · exact nown c b hc z
        · rw [hc] at z; cases z; exact hb rfl
end

/-! ### kept unless tracked; of the frames at fs (the callers') the slots may change (an exception that passes writes there); of the records at ex (iterators) nothing is said -/
structure Un (fs ex : List Addr) (H H' : Hp) (h h' : Heap) : Prop where
  keep : ∀ b o, h.get? b = some o → H b = none → b ∉ fs → b ∉ ex → h'.get? b = some o
  slot : ∀ b o, h.get? b = some o → H b = none → b ∈ fs → b ∉ ex → ∃ sl, h'.get? b = some { o with slots := sl }
  free : ∀ b o, h.get? b = some o → H b = none → b ∉ ex → H' b = none
  there : ∀ b o, h.get? b = some o → b ∉ ex → ∃ o', h'.get? b = some o'
  tups : ∀ b xs, H b = some (.tup xs) → H' b = some (.tup xs)
  frzs : ∀ b o u, H b = some (.frz o u) → H' b = some (.frz o u)
  tbls : ∀ b ps, H b = some (.tbl ps) → ∃ more, H' b = some (.tbl (ps ++ more))
section
variable {fs fs' ex ex' : List Addr} {H H1 H2 : Hp} {h h1 h2 h' : Heap} {a x e : Addr} {o : HO}
theorem Un.any (u : Un fs ex H H1 h h1) {b : Addr} {ob : Obj} (q : h.get? b = some ob) (n : H b = none) (hx : b ∉ ex) : ∃ sl, h1.get? b = some { ob with slots := sl } := by
  by_cases hb : b ∈ fs
  · exact u.slot b ob q n hb hx
  · exact ⟨ob.slots, u.keep b ob q n hb hx⟩
theorem Un.trans (a : Un fs ex H H1 h h1) (b : Un fs ex H1 H2 h1 h2) : Un fs ex H H2 h h2 where
  keep := fun c ob q n hc hx => b.keep c ob (a.keep c ob q n hc hx) (a.free c ob q n hx) hc hx
  slot := fun c ob q n hc hx => by
    obtain ⟨sl, e1⟩ := a.slot c ob q n hc hx
    obtain ⟨sl', e2⟩ := b.slot c _ e1 (a.free c ob q n hx) hc hx
    exact ⟨sl', e2⟩
  free := fun c ob q n hx => by
    obtain ⟨o', e1⟩ := a.there c ob q hx
    exact b.free c o' e1 (a.free c ob q n hx) hx
  there := fun c ob q hx => by
    obtain ⟨o', e1⟩ := a.there c ob q hx
    exact b.there c o' e1 hx
  tups := fun c xs q => b.tups c xs (a.tups c xs q)
  frzs := fun c ob xs q => b.frzs c ob xs (a.frzs c ob xs q)
  tbls := fun c ps q => by
    obtain ⟨m1, e1⟩ := a.tbls c ps q
    obtain ⟨m2, e2⟩ := b.tbls c _ e1
    exact ⟨m1 ++ m2, by rw [e2, Array.append_assoc]⟩
theorem Un.kept (k : ∀ b u, h.get? b = some u → h'.get? b = some u) : Un fs ex H H h h' :=
  ⟨fun b ob q _ _ _ => k b ob q, fun b ob q _ _ _ => ⟨ob.slots, k b ob q⟩, fun _ _ _ n _ => n, fun b ob q _ => ⟨ob, k b ob q⟩, fun _ _ q => q, fun _ _ _ q => q, fun _ ps q => ⟨#[], by rw [q]; simp⟩⟩
theorem Un.refl : Un fs ex H H h h := Un.kept fun _ _ q => q
theorem Un.laid (k : ∀ b u, h.get? b = some u → h'.get? b = some u) (hp : h.objs.size ≤ a) (hn : H a = none) : Un fs ex H (upd H a o) h h' where
  keep := fun b u q _ _ _ => k b u q
  slot := fun b u q _ _ _ => ⟨u.slots, k b u q⟩
  free := fun b u q n _ => by rw [upd_ne (Nat.ne_of_lt (Nat.lt_of_lt_of_le (Heap.lt_size q) hp))]; exact n
  there := fun b u q _ => ⟨u, k b u q⟩
  tups := fun b xs q => by rw [upd_ne (ne_of_none q hn)]; exact q
  frzs := fun b u xs q => by rw [upd_ne (ne_of_none q hn)]; exact q
  tbls := fun b ps q => ⟨#[], by rw [upd_ne (ne_of_none q hn), q]; simp⟩
theorem Un.write (mu : Mut (H x)) (he : e = x ∨ H e = some (.own x)) (k : ∀ b u, b ≠ e → h.get? b = some u → h'.get? b = some u) (heo : ∃ u, h'.get? e = some u) : Un fs ex H (upd H x o) h h' := by
  have hx : ∀ b, H b = none → b ≠ x := fun b n z => by subst z; rw [n] at mu; exact mu
  have hb : ∀ b, H b = none → b ≠ e := fun b n z => by
    subst z
    rcases he with r | r
    · exact hx b n r
    · rw [n] at r; cases r
  have hm : ∀ b u, H b = some u → ¬ Mut (some u) → b ≠ x := fun b u q nm z => by subst z; rw [q] at mu; exact nm mu
  refine ⟨fun b u q n _ _ => k b u (hb b n) q, fun b u q n _ _ => ⟨u.slots, k b u (hb b n) q⟩, fun b u q n _ => by rw [upd_ne (hx b n)]; exact n, fun b u q _ => ?_,
    fun b xs q => by rw [upd_ne (hm b _ q fun z => z)]; exact q, fun b u xs q => by rw [upd_ne (hm b _ q fun z => z)]; exact q, fun b ps q => ⟨#[], by rw [upd_ne (hm b _ q fun z => z), q]; simp⟩⟩
  by_cases hbe : b = e
  · subst hbe; exact heo
  · exact ⟨u, k b u hbe q⟩
theorem Un.mono (u : Un fs ex H H1 h h1) (hs : ∀ b ∈ fs, b ∈ fs') (hx : ∀ b ∈ ex, b ∈ ex') : Un fs' ex' H H1 h h1 :=
  ⟨fun b ob q n hb he => u.keep b ob q n (fun z => hb (hs b z)) fun z => he (hx b z), fun _ _ q n _ he => u.any q n fun z => he (hx _ z), fun b ob q n he => u.free b ob q n fun z => he (hx b z), fun b ob q he => u.there b ob q fun z => he (hx b z), u.tups, u.frzs, u.tbls⟩
end

/-! ### the heap without what is tracked -/
def trk (h : Heap) (H : Hp) : List Addr := (List.range h.objs.size).filter fun a => (H a).isSome
def hidT (h : Heap) (H : Hp) : Heap := PySem.W.hideAll h (trk h H)
theorem hidT_size (h : Heap) (H : Hp) : (hidT h H).objs.size = h.objs.size := PySem.W.hideAll_size _ _
theorem hidT_get {h : Heap} {H : Hp} {b : Addr} {o : Obj} (e : h.get? b = some o) (n : H b = none) : (hidT h H).get? b = some o :=
  PySem.W.hideAll_get _ e fun hm => by
    have q : (H b).isSome = true := (List.mem_filter.mp hm).2
    rw [n] at q; simp at q
theorem of_hidT {h : Heap} {H : Hp} {b : Addr} {o : Obj} (e : (hidT h H).get? b = some o) : h.get? b = some o ∧ H b = none := by
  have e' : h.get? b = some o := PySem.W.of_hideAll (trk h H) e
  refine ⟨e', ?_⟩
  cases q : H b with
  | none => rfl
  | some x =>
    have hm : b ∈ trk h H := List.mem_filter.mpr ⟨List.mem_range.mpr (Heap.lt_size e'), by simp [q]⟩
    have z : (hidT h H).get? b = none := PySem.W.hideAll_none (trk h H) hm
    rw [z] at e; cases e

/-! ### OpenK's ledger, filled with every new object but one -/
def allNews (g h : Heap) (L : Addr) : List (Addr × Obj) := (List.range h.objs.size).filterMap fun a => if a = L ∨ (g.get? a).isSome = true then none else (h.get? a).map fun o => (a, o)
def rest (g h : Heap) (L d : Addr) : List (Addr × Obj) := (allNews g h L).filter fun p => decide (p.1 ≠ d)
end L2

namespace L2
open PySem PySem.Spec PyProof.Rows

/-- the module's facts, over the base: the heap at the law's entry without what is tracked there -/
structure Mod (K : PySem.W.Frag) (mg : Str → Option Value) (base : Heap) : Prop where
  kin : K.In base
  glob : base.Ns mainGlobals mg
  blt : ∃ mb, base.Ns builtinsNs mb ∧ ∀ x : Str, x ≠ "__name__" → mb x = bootBuiltins x
  nolimit : base.NoLimit

/-- the context: a def's body (or a comprehension's block) running. base: fixed through the whole law; s₀, H₀: the entry; outer: the frames whose slots others may change (a def's callers); stack: all frames that run;
   ex: iterators that were made ahead of the entry and are walked here (a comprehension's); fn: the names whose cells were made at the entry (a def: all; a comprehension's block: its own); calm: not within an except suite; pn: pins that every state bears; xe: what is wanted of an exception that leaves the code -/
structure Cx where
  prog : Program
  w : World
  K : PySem.W.Frag
  mg : Str → Option Value
  base : Heap
  A : Around
  N : List Str
  s₀ : Shared
  H₀ : Hp
  env : Env
  outer : List Env
  stack : List Env
  ex : List Addr
  fn : Str → Bool
  calm : Bool
  pn : List (Addr × Obj)
  xe : Value → Shared → Prop
/-- the callers' frames -/
def frs (l : List Env) : List Addr := l.filterMap (·.frame)
abbrev Cx.fs (X : Cx) : List Addr := frs X.outer

def Vis (sc : Scope) (x : Str) : Prop := sc.names.lookup x = some .local ∨ sc.names.lookup x = some .cell ∨ sc.names.lookup x = some .free
def Loc (sc : Scope) (x : Str) : Prop := sc.names.lookup x = some .local ∨ sc.names.lookup x = some .cell
def Look (env : Env) (h : Heap) (m : Str → Option Value) (x : Str) (u : Value) : Prop :=
  (env.kindOf x = some .local ∧ m x = some u) ∨ ((env.kindOf x = some .cell ∨ env.kindOf x = some .free) ∧ ∃ c, env.cells.lookup x = some c ∧ h.IsCell c (some u))

structure Cx.Ok (X : Cx) : Prop where
  mod : Mod X.K X.mg X.base
  kind : X.env.scope.kind = .function
  glob : X.env.globals = mainGlobals
  blt : X.env.builtins = builtinsNs
  above : X.s₀.heap.objs.size ≤ X.env.locals
  inj : ∀ x y c, X.env.cells.lookup x = some c → X.env.cells.lookup y = some c → x = y
  has : ∀ x, (X.env.kindOf x = some .cell ∨ X.env.kindOf x = some .free) → ∃ c, X.env.cells.lookup x = some c
  cab : ∀ x c, X.fn x = true → X.env.cells.lookup x = some c → X.s₀.heap.objs.size ≤ c
  hd : X.calm = true → X.A.handled = none
  frames : X.A.frames = some X.stack
  stk : X.stack = X.outer ∨ (X.stack = X.env :: X.outer ∧ X.env.frame = some X.env.locals)
  exf : ∀ b ∈ X.ex, b ≠ X.env.locals ∧ ∀ x c, X.env.cells.lookup x = some c → c ≠ b
  bs : ∀ b o, X.base.get? b = some o → X.s₀.heap.get? b = some o ∧ X.H₀ b = none
  bsz : X.base.objs.size ≤ X.s₀.heap.objs.size
  noex : ∀ b o, X.base.get? b = some o → b ∉ X.ex
  exfs : ∀ b ∈ X.ex, b ∉ X.fs
  funs : X.s₀.heap.FunFrames X.base X.outer
  frf : ∀ b ∈ X.fs, X.H₀ b = none

structure Inv (X : Cx) (pins : List (Addr × Obj)) (σ : List (Option V)) (H : Hp) (s : Shared) : Prop where
  ok : X.Ok
  os : s.os = X.s₀.os
  bare : AllBare s.gens
  base : Un X.fs X.ex X.H₀ H X.s₀.heap s.heap
  loc : ∃ m, s.heap.Ns X.env.locals m ∧ ∀ (i : Nat) (x : Str) (v : V), X.N[i]? = some x → σ[i]? = some (some v) → Vis X.env.scope x → ∃ u, RelV v u ∧ Look X.env s.heap m x u
  cell : ∀ x c, X.env.cells.lookup x = some c → ∃ v, s.heap.IsCell c v
  free : H X.env.locals = none
  freeC : ∀ x c, X.env.cells.lookup x = some c → H c = none
  pin : ∀ p ∈ X.pn ++ pins, s.heap.get? p.1 = some p.2 ∧ H p.1 = none ∧ p.1 ≠ X.env.locals ∧ p.1 ∉ X.fs ∧ ∀ v, p.2.data ≠ .cell v
  hok : HOk X.prog X.w H s.heap
  len : σ.length = X.N.length

section
variable {X : Cx} {pins : List (Addr × Obj)} {σ : List (Option V)} {H H' : Hp} {s : Shared} {h' : Heap}

theorem Cx.Ok.nofr (ok : X.Ok) {b : Addr} {o : Obj} (e : X.base.get? b = some o) : b ∉ X.fs := fun hb => by
  have := (ok.funs.mem hb).1
  rw [e] at this; cases this
theorem Inv.bs (I : Inv X pins σ H s) : ∀ b o, X.base.get? b = some o → s.heap.get? b = some o ∧ H b = none := fun b o e =>
  ⟨I.base.keep b o (I.ok.bs b o e).1 (I.ok.bs b o e).2 (I.ok.nofr e) (I.ok.noex b o e), I.base.free b o (I.ok.bs b o e).1 (I.ok.bs b o e).2 (I.ok.noex b o e)⟩
theorem Inv.bk (I : Inv X pins σ H s) : ∀ b o, X.base.get? b = some o → s.heap.get? b = some o := fun b o e => (I.bs b o e).1
theorem Inv.mod (I : Inv X pins σ H s) : Mod X.K X.mg X.base := I.ok.mod
theorem Inv.kIn (I : Inv X pins σ H s) : X.K.In s.heap := I.ok.mod.kin.keeps I.bk
theorem Inv.nolimit (I : Inv X pins σ H s) : s.heap.NoLimit := I.ok.mod.nolimit.keeps I.bk
/-- the frame over the base: for OpenK's rules (K.In X.base is I.mod.kin) -/
theorem Inv.fr (I : Inv X pins σ H s) : ∃ m, Fr X.base X.env.locals s.heap m :=
  let ⟨m, hn, _⟩ := I.loc
  ⟨m, hn, I.bk, Nat.le_trans I.ok.bsz I.ok.above⟩
theorem Inv.lt (I : Inv X pins σ H s) : X.env.locals < s.heap.objs.size := let ⟨_, hn, _⟩ := I.loc; hn.lt
theorem Inv.sz (I : Inv X pins σ H s) : X.s₀.heap.objs.size ≤ s.heap.objs.size := Nat.le_trans I.ok.above (Nat.le_of_lt I.lt)
theorem Inv.nofs (I : Inv X pins σ H s) {a : Addr} (h : s.heap.objs.size ≤ a) : a ∉ X.fs := fun hb => by
  obtain ⟨_, o, ho, _⟩ := I.ok.funs.mem hb
  exact absurd (Nat.lt_of_lt_of_le (Heap.lt_size ho) (Nat.le_trans I.sz h)) (Nat.lt_irrefl _)
theorem Inv.cne (I : Inv X pins σ H s) : ∀ x c, X.env.cells.lookup x = some c → c ≠ X.env.locals := fun x c e z => by
  obtain ⟨v, o, ho, hd⟩ := I.cell x c e
  obtain ⟨m, ⟨o', es, ep, ho', hd', _⟩, _⟩ := I.loc
  rw [z, ho'] at ho; cases ho; rw [hd'] at hd; cases hd
theorem Inv.funs (I : Inv X pins σ H s) : s.heap.FunFrames X.base X.outer := by
  have all : ∀ (l : List Env), (∀ b ∈ frs l, b ∈ X.fs) → X.s₀.heap.FunFrames X.base l → s.heap.FunFrames X.base l := by
    intro l
    induction l with
    | nil => intro _ _; trivial
    | cons env r ih =>
      intro hs hl
      obtain ⟨hk, ⟨L, o, hf, hn, ho, hd⟩, hr⟩ := hl
      have hL : L ∈ X.fs := hs L (by unfold frs; rw [List.filterMap_cons, hf]; exact List.mem_cons_self)
      obtain ⟨sl, e⟩ := I.base.slot L o ho (I.ok.frf L hL) hL fun z => I.ok.exfs L z hL
      exact ⟨hk, ⟨L, _, hf, hn, e, hd⟩, ih (fun b hb => hs b (by unfold frs; rw [List.filterMap_cons, hf]; exact List.mem_cons_of_mem _ hb)) hr⟩
  exact all X.outer (fun _ hb => hb) I.ok.funs

/-- the frames that run, for a call -/
theorem Inv.stack (I : Inv X pins σ H s) : s.heap.FunFrames X.base X.stack := by
  rcases I.ok.stk with e | ⟨e, hf⟩
  · rw [e]; exact I.funs
  · rw [e]
    obtain ⟨m, hn, _⟩ := I.loc
    refine .cons (by rw [I.ok.kind]; decide) hf hn ?_ I.funs
    exact Heap.get?_none_of_le (Nat.le_trans I.ok.bsz I.ok.above)
theorem Inv.stkSub (I : Inv X pins σ H s) : ∀ b ∈ frs X.stack, b ∈ X.env.locals :: X.fs := fun b hb => by
  rcases I.ok.stk with e | ⟨e, hf⟩
  · rw [e] at hb; exact List.mem_cons_of_mem _ hb
  · rw [e] at hb
    unfold frs at hb
    rw [List.filterMap_cons, hf] at hb
    exact hb
theorem Inv.stkFree (I : Inv X pins σ H s) : ∀ b ∈ frs X.stack, H b = none := fun b hb => by
  rcases List.mem_cons.mp (I.stkSub b hb) with e | hb
  · rw [e]; exact I.free
  · obtain ⟨_, o, ho, _⟩ := I.ok.funs.mem hb
    exact I.base.free b o ho (I.ok.frf b hb) fun z => I.ok.exfs b z hb

/-- THE STEP: the untracked objects but the frame and the records at ch are kept (the callers' frames up to slots), the frame's map is kept, the new abstract heap is held -/
theorem Inv.step {g' : Array GenState} {t' : Nat} {d' : Drawn} {ch : List Addr} (I : Inv X pins σ H s)
    (hch : ∀ b ∈ ch, (b ∈ X.ex ∨ X.s₀.heap.objs.size ≤ b) ∧ b ≠ X.env.locals ∧ (∀ x c, X.env.cells.lookup x = some c → c ≠ b) ∧ ∀ p ∈ X.pn ++ pins, p.1 ≠ b)
    (keep : ∀ b o, b ≠ X.env.locals → b ∉ X.fs → b ∉ ch → s.heap.get? b = some o → H b = none → h'.get? b = some o)
    (slot : ∀ b o, b ≠ X.env.locals → b ∈ X.fs → b ∉ ch → s.heap.get? b = some o → H b = none → ∃ sl, h'.get? b = some { o with slots := sl }) (free : ∀ b o, b ∉ ch → s.heap.get? b = some o → H b = none → H' b = none)
    (there : ∀ b o, b ∉ ch → s.heap.get? b = some o → ∃ o', h'.get? b = some o')
    (tups : ∀ b xs, H b = some (.tup xs) → H' b = some (.tup xs)) (frzs : ∀ b o u, H b = some (.frz o u) → H' b = some (.frz o u)) (tbls : ∀ b ps, H b = some (.tbl ps) → ∃ more, H' b = some (.tbl (ps ++ more)))
    (ns : ∀ m, s.heap.Ns X.env.locals m → h'.Ns X.env.locals m) (hok : HOk X.prog X.w H' h') (hg : AllBare g') :
    Inv X pins σ H' { s with heap := h', gens := g', drawn := d', toks := t' } := by
  have neL : ∀ b o, X.s₀.heap.get? b = some o → b ≠ X.env.locals := fun b o e => Nat.ne_of_lt (Nat.lt_of_lt_of_le (Heap.lt_size e) I.ok.above)
  have neC : ∀ b o, X.s₀.heap.get? b = some o → b ∉ X.ex → b ∉ ch := fun b o e hx hb => by
    rcases (hch b hb).1 with z | z
    · exact hx z
    · exact absurd (Nat.lt_of_lt_of_le (Heap.lt_size e) z) (Nat.lt_irrefl _)
  have cellK : ∀ x c, X.env.cells.lookup x = some c → ∀ v, s.heap.IsCell c v → h'.IsCell c v := fun x c e v ⟨o, ho, hd⟩ => by
    have nch : c ∉ ch := fun z => (hch c z).2.2.1 x c e rfl
    by_cases hc : c ∈ X.fs
    · obtain ⟨sl, q⟩ := slot c o (I.cne x c e) hc nch ho (I.freeC x c e)
      exact ⟨_, q, hd⟩
    · exact ⟨o, keep c o (I.cne x c e) hc nch ho (I.freeC x c e), hd⟩
  refine ⟨I.ok, I.os, hg, ⟨fun b o e n hb hx => ?_, fun b o e n hb hx => ?_, fun b o e n hx => ?_, fun b o e hx => ?_, fun b xs e => tups b xs (I.base.tups b xs e), fun b o xs e => frzs b o xs (I.base.frzs b o xs e), fun b ps e => ?_⟩, ?_, fun x c e => ?_, ?_, fun x c e => ?_, fun p hp => ?_, hok, I.len⟩
  · exact keep b o (neL b o e) hb (neC b o e hx) (I.base.keep b o e n hb hx) (I.base.free b o e n hx)
  · obtain ⟨sl, e1⟩ := I.base.slot b o e n hb hx
    obtain ⟨sl', e2⟩ := slot b _ (neL b o e) hb (neC b o e hx) e1 (I.base.free b o e n hx)
    exact ⟨sl', e2⟩
  · obtain ⟨o', e1⟩ := I.base.there b o e hx
    exact free b o' (neC b o e hx) e1 (I.base.free b o e n hx)
  · obtain ⟨o', e1⟩ := I.base.there b o e hx
    exact there b o' (neC b o e hx) e1
  · obtain ⟨m1, e1⟩ := I.base.tbls b ps e
    obtain ⟨m2, e2⟩ := tbls b _ e1
    exact ⟨m1 ++ m2, by rw [e2, Array.append_assoc]⟩
  · obtain ⟨m, hn, hl⟩ := I.loc
    refine ⟨m, ns m hn, fun i x v e1 e2 e3 => ?_⟩
    obtain ⟨u, r, l⟩ := hl i x v e1 e2 e3
    refine ⟨u, r, ?_⟩
    rcases l with l | ⟨k, c, e, z⟩
    · exact .inl l
    · exact .inr ⟨k, c, e, cellK x c e _ z⟩
  · obtain ⟨v, z⟩ := I.cell x c e
    exact ⟨v, cellK x c e v z⟩
  · obtain ⟨m, ⟨o, _, _, ho, _⟩, _⟩ := I.loc
    exact free _ o (fun z => (hch _ z).2.1 rfl) ho I.free
  · obtain ⟨v, o, ho, hd⟩ := I.cell x c e
    exact free c o (fun z => (hch c z).2.2.1 x c e rfl) ho (I.freeC x c e)
  · obtain ⟨e, n, ne, nf, d⟩ := I.pin p hp
    have nch : p.1 ∉ ch := fun z => (hch p.1 z).2.2.2 p hp rfl
    exact ⟨keep p.1 p.2 ne nf nch e n, free p.1 p.2 nch e n, ne, nf, d⟩
/-- .. where the frame's own object is kept too -/
theorem Inv.un {t' : Nat} (I : Inv X pins σ H s) (u : Un X.fs [] H H' s.heap h') (hok : HOk X.prog X.w H' h') : Inv X pins σ H' { s with heap := h', toks := t' } := by
  obtain ⟨m, ⟨o, es, ep, ho, r⟩, _⟩ := id I.loc
  obtain ⟨sl, hL⟩ := u.any ho I.free (by simp)
  exact I.step (g' := s.gens) (d' := s.drawn) (ch := []) (fun _ z => nomatch z) (fun b o _ hb _ e n => u.keep b o e n hb (by simp)) (fun b o _ hb _ e n => u.slot b o e n hb (by simp)) (fun b o _ e n => u.free b o e n (by simp)) (fun b o _ e => u.there b o e (by simp)) u.tups u.frzs u.tbls (fun m' hm => by
    obtain ⟨o', es', ep', ho', r'⟩ := hm
    rw [ho] at ho'; cases ho'
    exact ⟨_, es', ep', hL, r'⟩) hok I.bare
/-- behind a call (or a comprehension's block): the slots of this frame may have changed too, the records at ch may have turned -/
theorem Inv.call {g' : Array GenState} {t' : Nat} {d' : Drawn} {ch : List Addr} (I : Inv X pins σ H s) (u : Un (frs X.stack) ch H H' s.heap h') (hok : HOk X.prog X.w H' h') (hg : AllBare g')
    (hch : ∀ b ∈ ch, (b ∈ X.ex ∨ X.s₀.heap.objs.size ≤ b) ∧ b ≠ X.env.locals ∧ (∀ x c, X.env.cells.lookup x = some c → c ≠ b) ∧ ∀ p ∈ X.pn ++ pins, p.1 ≠ b) :
    Inv X pins σ H' { s with heap := h', gens := g', drawn := d', toks := t' } := by
  obtain ⟨m, ⟨o, es, ep, ho, r⟩, _⟩ := id I.loc
  obtain ⟨sl, hL⟩ := u.any ho I.free fun z => (hch _ z).2.1 rfl
  exact I.step (ch := ch) hch (fun b o hL hb hc e n => u.keep b o e n (fun z => (List.mem_cons.mp (I.stkSub b z)).elim hL hb) hc) (fun b o _ _ hc e n => u.any e n hc) (fun b o hc e n => u.free b o e n hc) (fun b o hc e => u.there b o e hc) u.tups u.frzs u.tbls (fun m' hm => by
    obtain ⟨o', es', ep', ho', r'⟩ := hm
    rw [ho] at ho'; cases ho'
    exact ⟨_, es', ep', hL, r'⟩) hok hg
/-- an untracked record of ours (an iterator) has turned -/
theorem Inv.turned {t' : Nat} {it : Addr} (I : Inv X pins σ H s) (k : ∀ b o, b ≠ it → s.heap.get? b = some o → h'.get? b = some o) (hn : H it = none) (hL : it ≠ X.env.locals)
    (h1 : it ∈ X.ex ∨ X.s₀.heap.objs.size ≤ it) (h2 : ∀ x c, X.env.cells.lookup x = some c → c ≠ it) (h3 : ∀ p ∈ X.pn ++ pins, p.1 ≠ it) : Inv X pins σ H { s with heap := h', toks := t' } := by
  have nit : ∀ b u, H b = some u → b ≠ it := fun b u e z => by rw [z, hn] at e; cases e
  refine I.step (g' := s.gens) (d' := s.drawn) (ch := [it]) (fun b hb => ?_) (fun b o _ _ hc e _ => k b o (fun z => hc (by simp [z])) e) (fun b o _ _ hc e _ => ⟨o.slots, k b o (fun z => hc (by simp [z])) e⟩) (fun _ _ _ _ n => n)
    (fun b o hc e => ⟨o, k b o (fun z => hc (by simp [z])) e⟩) (fun _ _ e => e) (fun _ _ _ e => e) (fun b ps e => ⟨#[], by rw [e]; simp⟩) (fun m hm => ?_) (fun b u e => ?_) I.bare
  · have e : b = it := by simpa using hb
    subst e
    exact ⟨h1, hL, h2, h3⟩
  · obtain ⟨o, es, ep, ho, r⟩ := hm
    exact ⟨o, es, ep, k _ o (Ne.symm hL) ho, r⟩
  · refine (I.hok b u e).stay (fun c v hc q => k c v ?_ q) (fun _ q => q) fun _ _ q => q
    rcases hc with z | z
    · rw [z]; exact nit b u e
    · exact nit c _ z
theorem Inv.tok (I : Inv X pins σ H s) (t : Nat) : Inv X pins σ H { s with toks := t } := I.un (h' := s.heap) (t' := t) Un.refl I.hok
/-- all objects kept -/
theorem Inv.kept {t' : Nat} (I : Inv X pins σ H s) (k : ∀ b u, s.heap.get? b = some u → h'.get? b = some u) : Inv X pins σ H { s with heap := h', toks := t' } := I.un (Un.kept k) (I.hok.kept k)
/-- a new object laid and tracked -/
theorem Inv.laid {a : Addr} {o : HO} {t' : Nat} (I : Inv X pins σ H s) (k : ∀ b u, s.heap.get? b = some u → h'.get? b = some u) (hp : s.heap.objs.size ≤ a) (new : ObjOk X.prog X.w (upd H a o) h' a o) :
    Inv X pins σ (upd H a o) { s with heap := h', toks := t' } := I.un (Un.laid k hp (I.hok.fresh hp)) (I.hok.laid k hp new)
/-- an object written -/
theorem Inv.write {x e : Addr} {o : HO} {t' : Nat} (I : Inv X pins σ H s) (mu : Mut (H x)) (he : e = x ∨ H e = some (.own x)) (k : ∀ b u, b ≠ e → s.heap.get? b = some u → h'.get? b = some u) (heo : ∃ u, h'.get? e = some u)
    (new : ObjOk X.prog X.w (upd H x o) h' x o) : Inv X pins σ (upd H x o) { s with heap := h', toks := t' } := I.un (Un.write mu he k heo) (I.hok.write mu he k heo new)
/-- forgetting slots, pins -/
theorem Inv.weak {σ' : List (Option V)} (I : Inv X pins σ H s) (hl : σ'.length = σ.length) (w : ∀ (i : Nat) v, σ'[i]? = some (some v) → σ[i]? = some (some v)) : Inv X pins σ' H s :=
  ⟨I.ok, I.os, I.bare, I.base, let ⟨m, hn, hl'⟩ := I.loc; ⟨m, hn, fun i x v e1 e2 e3 => hl' i x v e1 (w i v e2) e3⟩, I.cell, I.free, I.freeC, I.pin, I.hok, hl.trans I.len⟩
theorem Inv.pins_of {pins' : List (Addr × Obj)} (I : Inv X pins σ H s) (h : ∀ p ∈ pins', s.heap.get? p.1 = some p.2 ∧ H p.1 = none ∧ p.1 ≠ X.env.locals ∧ p.1 ∉ X.fs ∧ ∀ v, p.2.data ≠ .cell v) : Inv X pins' σ H s :=
  ⟨I.ok, I.os, I.bare, I.base, I.loc, I.cell, I.free, I.freeC, fun p hp => (List.mem_append.mp hp).elim (fun z => I.pin p (List.mem_append_left _ z)) (h p), I.hok, I.len⟩

theorem nodup_ix {N : List Str} (hN : N.Nodup) {i j : Nat} {x : Str} (a : N[i]? = some x) (b : N[j]? = some x) : i = j := by
  obtain ⟨h1, e1⟩ := List.getElem?_eq_some_iff.mp a
  obtain ⟨h2, e2⟩ := List.getElem?_eq_some_iff.mp b
  exact (List.getElem_inj hN).mp (e1.trans e2.symm)

/-- a name is stored; what changed -/
theorem store_ok2 {M : Model} {A : Around} {E : Value → Shared → Prop} {i : Nat} {x : Str} {v : V} {u : Value} {Q : Unit → Shared → Prop} (I : Inv X pins σ H s) (hN : X.N.Nodup) (hi : X.N[i]? = some x) (hx : Loc X.env.scope x) (r : RelV v u)
    (h : ∀ s', Inv X pins (σ.set i (some v)) H s' → (∃ a, Heap.SameBut a s.heap s'.heap ∧ (a = X.env.locals ∨ X.env.cells.lookup x = some a)) → Q () s') (hf : X.fn x = true ∨ X.env.scope.names.lookup x = some .local := by first | exact .inl rfl | exact .inr rfl | assumption) : wpAny M A (storeName X.env x u) Q E s := by
  obtain ⟨m, hn, hl⟩ := id I.loc
  have hcls : (X.env.scope.kind == .class || (X.env.scope.kind == .module && X.env.locals != X.env.globals)) = false := by rw [I.ok.kind]; rfl
  have hiσ : i < σ.length := by rw [I.len]; exact (List.getElem?_eq_some_iff.mp hi).1
  have cne := I.cne
  have tracked : ∀ {a : Addr} {h' : Heap}, (∃ o, s.heap.get? a = some o ∧ H a = none) → Heap.SameBut a s.heap h' → HOk X.prog X.w H h' := fun {a h'} ha hs b ob e => by
    obtain ⟨_, _, hfree⟩ := ha
    refine (I.hok b ob e).stay (fun c w' hc q => (hs.2 c ?_).trans q) (fun _ q => q) fun _ _ q => q
    rintro rfl
    rcases hc with rfl | hc
    · rw [hfree] at e; cases e
    · rw [hfree] at hc; cases hc
  rcases hx with hk | hk
  · refine wpAny_storeName_local hk hn (fun h' hn' hs => ?_) hcls
    obtain ⟨oL, _, _, hoL, _⟩ := id hn
    refine h _ ⟨I.ok, I.os, I.bare, ⟨fun b o e n hb hx => ?_, fun b o e n hb hx => ?_, I.base.free, fun b o e hx => ?_, I.base.tups, I.base.frzs, I.base.tbls⟩, ⟨_, hn', fun j y v' e1 e2 e3 => ?_⟩, fun y c e => ?_, I.free, I.freeC, fun p hp => ?_, tracked ⟨oL, hoL, I.free⟩ hs, by simpa using I.len⟩ ⟨_, hs, .inl rfl⟩
    · exact (hs.2 b (Nat.ne_of_lt (Nat.lt_of_lt_of_le (Heap.lt_size e) I.ok.above))).trans (I.base.keep b o e n hb hx)
    · obtain ⟨sl, e1⟩ := I.base.slot b o e n hb hx
      exact ⟨sl, (hs.2 b (Nat.ne_of_lt (Nat.lt_of_lt_of_le (Heap.lt_size e) I.ok.above))).trans e1⟩
    · obtain ⟨o', e1⟩ := I.base.there b o e hx
      exact ⟨o', (hs.2 b (Nat.ne_of_lt (Nat.lt_of_lt_of_le (Heap.lt_size e) I.ok.above))).trans e1⟩
    · by_cases hj : j = i
      · subst hj
        rw [hi] at e1; cases e1
        rw [List.getElem?_set_self hiσ] at e2
        cases e2
        exact ⟨u, r, .inl ⟨hk, by simp⟩⟩
      · rw [List.getElem?_set_ne (Ne.symm hj)] at e2
        obtain ⟨u', r', q⟩ := hl j y v' e1 e2 e3
        refine ⟨u', r', ?_⟩
        rcases q with ⟨k, e⟩ | ⟨k, c, e, z⟩
        · refine .inl ⟨k, ?_⟩
          have : y ≠ x := fun e => hj (nodup_ix hN e1 (e ▸ hi))
          simp [this, e]
        · exact .inr ⟨k, c, e, z.sameBut hs (cne y c e)⟩
    · obtain ⟨w', z⟩ := I.cell y c e
      exact ⟨w', z.sameBut hs (cne y c e)⟩
    · obtain ⟨e, n, ne, nf, d⟩ := I.pin p hp
      exact ⟨(hs.2 p.1 ne).trans e, n, ne, nf, d⟩
  · have hfn : X.fn x = true := by
      rcases hf with z | z
      · exact z
      · rw [z] at hk; cases hk
    obtain ⟨c, hc⟩ := I.ok.has x (.inl hk)
    obtain ⟨w', z⟩ := I.cell x c hc
    refine wpAny_storeName_cell I.ok.kind hk hc z (fun h' hc' hs => ?_)
    obtain ⟨oc, hoc, hocd⟩ := id z
    refine h { s with heap := h' } ⟨I.ok, I.os, I.bare, ⟨fun b o e n hb hx => ?_, fun b o e n hb hx => ?_, I.base.free, fun b o e hx => ?_, I.base.tups, I.base.frzs, I.base.tbls⟩, ⟨m, hn.sameBut hs (Ne.symm (cne x c hc)), fun j y v' e1 e2 e3 => ?_⟩, fun y c' e => ?_, I.free, I.freeC, fun p hp => ?_, tracked ⟨oc, hoc, I.freeC x c hc⟩ hs, by simpa using I.len⟩ ⟨c, hs, .inr hc⟩
    · exact (hs.2 b (Nat.ne_of_lt (Nat.lt_of_lt_of_le (Heap.lt_size e) (I.ok.cab x c hfn hc)))).trans (I.base.keep b o e n hb hx)
    · obtain ⟨sl, e1⟩ := I.base.slot b o e n hb hx
      exact ⟨sl, (hs.2 b (Nat.ne_of_lt (Nat.lt_of_lt_of_le (Heap.lt_size e) (I.ok.cab x c hfn hc)))).trans e1⟩
    · obtain ⟨o', e1⟩ := I.base.there b o e hx
      exact ⟨o', (hs.2 b (Nat.ne_of_lt (Nat.lt_of_lt_of_le (Heap.lt_size e) (I.ok.cab x c hfn hc)))).trans e1⟩
    · by_cases hj : j = i
      · subst hj
        rw [hi] at e1; cases e1
        rw [List.getElem?_set_self hiσ] at e2
        cases e2
        exact ⟨u, r, .inr ⟨.inl hk, c, hc, hc'⟩⟩
      · rw [List.getElem?_set_ne (Ne.symm hj)] at e2
        obtain ⟨u', r', q⟩ := hl j y v' e1 e2 e3
        refine ⟨u', r', ?_⟩
        rcases q with q | ⟨k, c', e, z'⟩
        · exact .inl q
        · refine .inr ⟨k, c', e, z'.sameBut hs ?_⟩
          rintro rfl
          exact hj (nodup_ix hN e1 (I.ok.inj _ _ _ e hc ▸ hi))
    · by_cases hcc : c' = c
      · subst hcc; exact ⟨_, hc'⟩
      · obtain ⟨w2, z2⟩ := I.cell y c' e
        exact ⟨w2, z2.sameBut hs hcc⟩
    · obtain ⟨e, n, ne, nf, d⟩ := I.pin p hp
      refine ⟨(hs.2 p.1 ?_).trans e, n, ne, nf, d⟩
      intro q
      rw [q, hoc] at e
      have q' : oc = p.2 := Option.some.inj e
      exact d w' (by rw [← q']; exact hocd)
theorem store_ok {M : Model} {A : Around} {E : Value → Shared → Prop} {i : Nat} {x : Str} {v : V} {u : Value} {Q : Unit → Shared → Prop} (I : Inv X pins σ H s) (hN : X.N.Nodup) (hi : X.N[i]? = some x) (hx : Loc X.env.scope x) (r : RelV v u)
    (h : ∀ s', Inv X pins (σ.set i (some v)) H s' → Q () s') (hf : X.fn x = true ∨ X.env.scope.names.lookup x = some .local := by first | exact .inl rfl | exact .inr rfl | assumption) : wpAny M A (storeName X.env x u) Q E s :=
  store_ok2 I hN hi hx r (fun s' I' _ => h s' I') hf
/-- behind a call or a block, the state as it is -/
theorem Inv.call' {s' : Shared} {ch : List Addr} (I : Inv X pins σ H s) (ho : s'.os = s.os) (u : Un (frs X.stack) ch H H' s.heap s'.heap) (hok : HOk X.prog X.w H' s'.heap) (hg : AllBare s'.gens)
    (hch : ∀ b ∈ ch, (b ∈ X.ex ∨ X.s₀.heap.objs.size ≤ b) ∧ b ≠ X.env.locals ∧ (∀ x c, X.env.cells.lookup x = some c → c ≠ b) ∧ ∀ p ∈ X.pn ++ pins, p.1 ≠ b) : Inv X pins σ H' s' := by
  obtain ⟨h', g', d', t', o'⟩ := s'
  have e : o' = s.os := ho
  subst e
  exact I.call (g' := g') (t' := t') (d' := d') u hok hg hch
end

/-! ### the judgements -/
/-- an exception: its class, its own dict's address (where it has one), the abstract heap behind it -/
abbrev XK := Value → Option Addr → Hp → Prop
abbrev St := List (Option V)
abbrev VK := V → Hp → Prop
/-- an expression's reading; a test's; an argument list's -/
abbrev TE := St → Hp → VK → Prop
abbrev TT := St → Hp → (Bool → Hp → Prop) → Prop
abbrev TA := St → Hp → (List V → Hp → Prop) → Prop
/-- what is wanted behind a statement -/
structure Ends where
  nx : St → Hp → Prop
  rt : VK
  bk : St → Hp → Prop := fun _ _ => False
  ct : St → Hp → Prop := fun _ _ => False
abbrev TS := Ends → St → Hp → Prop

def EP (X : Cx) (pins : List (Addr × Obj)) (σ : St) (Q : VK) (u : Value) (s' : Shared) : Prop := ∃ v H', Inv X pins σ H' s' ∧ RelV v u ∧ Q v H'
def TP (X : Cx) (pins : List (Addr × Obj)) (σ : St) (Q : Bool → Hp → Prop) (b : Bool) (s' : Shared) : Prop := ∃ H', Inv X pins σ H' s' ∧ Q b H'
def AP (X : Cx) (pins : List (Addr × Obj)) (σ : St) (Q : List V → Hp → Prop) (us : List Value) (s' : Shared) : Prop := ∃ vs H', Inv X pins σ H' s' ∧ Vals vs us ∧ Q vs H'
def SP (X : Cx) (pins : List (Addr × Obj)) (D : Ends) (f : Flow) (s' : Shared) : Prop :=
  match f with
  | .next => ∃ σ' H', Inv X pins σ' H' s' ∧ D.nx σ' H'
  | .brk => ∃ σ' H', Inv X pins σ' H' s' ∧ D.bk σ' H'
  | .cont => ∃ σ' H', Inv X pins σ' H' s' ∧ D.ct σ' H'
  | .ret u => ∃ v σ' H', Inv X pins σ' H' s' ∧ RelV v u ∧ D.rt v H'

def PE (X : Cx) (e : Expr) (t : TE) : Prop :=
  ∀ (pins : List (Addr × Obj)) (s : Shared) (σ : St) (H : Hp) (Q : VK), Inv X pins σ H s → t σ H Q → wpAny (model X.prog X.w) X.A (eval e X.env) (EP X pins σ Q) X.xe s
def PT (X : Cx) (e : Expr) (t : TT) : Prop :=
  ∀ (pins : List (Addr × Obj)) (s : Shared) (σ : St) (H : Hp) (Q : Bool → Hp → Prop), Inv X pins σ H s → t σ H Q → wpAny (model X.prog X.w) X.A (isTrue e X.env (eval e X.env)) (TP X pins σ Q) X.xe s
/-- a test whatever its 'whole' is (and, or) -/
def PW (X : Cx) (e : Expr) (t : TT) : Prop :=
  ∀ (whole : Sem Value) (pins : List (Addr × Obj)) (s : Shared) (σ : St) (H : Hp) (Q : Bool → Hp → Prop), Inv X pins σ H s → t σ H Q → wpAny (model X.prog X.w) X.A (isTrue e X.env whole) (TP X pins σ Q) X.xe s
theorem PW.pt {X : Cx} {e : Expr} {t : TT} (h : PW X e t) : PT X e t := h _
/-- an argument list (no star), from the left -/
def PA (X : Cx) (es : List Expr) (t : TA) : Prop :=
  ∀ (pos : Pos) (pins : List (Addr × Obj)) (s : Shared) (σ : St) (H : Hp) (Q : List V → Hp → Prop), Inv X pins σ H s → t σ H Q → wpAny (model X.prog X.w) X.A (spliced (backTo pos (starEach es X.env))) (AP X pins σ Q) X.xe s
def PS (X : Cx) (st : Stmt) (t : TS) : Prop :=
  ∀ (pins : List (Addr × Obj)) (s : Shared) (σ : St) (H : Hp) (D : Ends), Inv X pins σ H s → t D σ H → wpAny (model X.prog X.w) X.A (exec st X.env) (SP X pins D) X.xe s
def PSs (X : Cx) (st : List Stmt) (t : TS) : Prop :=
  ∀ (pins : List (Addr × Obj)) (s : Shared) (σ : St) (H : Hp) (D : Ends), Inv X pins σ H s → t D σ H → wpAny (model X.prog X.w) X.A (execs st X.env) (SP X pins D) X.xe s
/-- weaken the end -/
theorem thn {α : Type} {t : Sem α} {Q Q' : α → Shared → Prop} {M : Model} {A : Around} {E : Value → Shared → Prop} {s : Shared} (h : wpAny M A t Q E s) (hQ : ∀ a s, Q a s → Q' a s) : wpAny M A t Q' E s := wpAny_mono h hQ fun _ _ x => x
end L2

namespace L2
open PySem PySem.Spec PyProof.Rows
section
variable {X : Cx}

/-! ### names and constants -/
def tVar (i : Nat) : TE := fun σ H Q => ∃ v, σ[i]? = some (some v) ∧ Q v H
def tC (v : V) : TE := fun _ H Q => Q v H
theorem pe_var {i : Nat} {x : Str} {pos : Pos} (hN : X.N[i]? = some x) (hv : Vis X.env.scope x) (hd : (x == ("__debug__" : Str)) = false := by decide) (hcd : (x == ("__classdict__" : Str)) = false := by decide) : PE X (.Name x pos) (tVar i) := by
  intro pins s σ H Q I h
  obtain ⟨v, e, h⟩ := h
  obtain ⟨m, hn, hl⟩ := I.loc
  obtain ⟨u, r, l⟩ := hl i x v hN e hv
  have fin : EP X pins σ Q u s := ⟨v, H, I, r, h⟩
  rcases l with ⟨hk, hm⟩ | ⟨hk, c, hc, hcell⟩
  · exact wpAny_Name (wpAny_loadName_local I.ok.kind hk hn hm fin) hd
  · rcases hk with hk | hk
    · exact wpAny_Name (wpAny_loadName_cell I.ok.kind hk hc hcell fin) hd
    · exact wpAny_Name (wpAny_loadName_free I.ok.kind hk hc hcell fin hcd) hd
theorem pe_int {i j pos} : PE X (.Constant (.int i) j pos) (tC (.int i)) := fun _ _ _ H _ I h => wpAny_Constant_int ⟨.int i, H, I.tok _, ⟨_, rfl⟩, h⟩
theorem pe_bl {b j pos} : PE X (.Constant (.bool b) j pos) (tC (.bl b)) := fun _ _ _ H _ I h => Constant_bool ⟨.bl b, H, I, rfl, h⟩
theorem pe_non {j pos} : PE X (.Constant .none j pos) (tC .non) := fun _ _ _ H _ I h => Constant_none ⟨.non, H, I, rfl, h⟩
theorem pe_str {x j pos} : PE X (.Constant (.str x) j pos) (tC (.str x)) := fun _ _ _ H _ I h => Calls.Constant_str ⟨.str x, H, I.tok _, ⟨_, rfl⟩, h⟩

/-- a global name of the def -/
def Gl (X : Cx) (x : Str) : Prop := X.env.kindOf x = some .globalImplicit
theorem ld_glob {E : Value → Shared → Prop} {pins : List (Addr × Obj)} {s : Shared} {σ : St} {H : Hp} {x : Str} {u : Value} {pos : Pos} {Q : Value → Shared → Prop} (I : Inv X pins σ H s) (hg : Gl X x) (hm : X.mg x = some u) (h : Q u s)
    (hd : (x == ("__debug__" : Str)) = false := by decide) : wpAny (model X.prog X.w) X.A (eval (.Name x pos) X.env) Q E s :=
  Calls.Name_function_global I.ok.kind hg (Calls.loadGlobal_global (by rw [I.ok.glob]; exact I.mod.glob.keeps I.bk) hm h) hd
theorem ld_blt {E : Value → Shared → Prop} {pins : List (Addr × Obj)} {s : Shared} {σ : St} {H : Hp} {x : Str} {u : Value} {pos : Pos} {Q : Value → Shared → Prop} (I : Inv X pins σ H s) (hg : Gl X x) (hm : X.mg x = none) (hv : bootBuiltins x = some u) (h : Q u s)
    (hn : x ≠ "__name__" := by decide) (hd : (x == ("__debug__" : Str)) = false := by decide) : wpAny (model X.prog X.w) X.A (eval (.Name x pos) X.env) Q E s := by
  obtain ⟨mb, h1, h2⟩ := I.mod.blt
  exact Calls.Name_function_global I.ok.kind hg (Calls.loadGlobal_builtin (by rw [I.ok.glob]; exact I.mod.glob.keeps I.bk) hm (by rw [I.ok.blt]; exact h1.keeps I.bk) ((h2 x hn).trans hv) h) hd
/-- a module's constant, a class, a function, as a value -/
theorem pe_glob {x : Str} {v : V} {u : Value} {pos : Pos} (hg : Gl X x) (hm : X.mg x = some u) (r : RelV v u) (hd : (x == ("__debug__" : Str)) = false := by decide) : PE X (.Name x pos) (tC v) :=
  fun _ _ _ H _ I h => ld_glob I hg hm ⟨v, H, I, r, h⟩ hd
theorem pe_bltn {x : Str} {v : V} {u : Value} {pos : Pos} (hg : Gl X x) (hm : X.mg x = none) (hv : bootBuiltins x = some u) (r : RelV v u) (hn : x ≠ "__name__" := by decide) (hd : (x == ("__debug__" : Str)) = false := by decide) : PE X (.Name x pos) (tC v) :=
  fun _ _ _ H _ I h => ld_blt I hg hm hv ⟨v, H, I, r, h⟩ hn hd

/-! ### arithmetic -/
variable {a b : Expr} {ta tb : TE} {pos : Pos}
/-! ### comparisons -/
/-- a comparison as a value, as a test -/
def tB (t : TE) : TT := fun σ H Q => t σ H fun x H1 => ∃ c, x = .bl c ∧ Q c H1
/-- an expression whose value is a bool, as a test -/
theorem pt_val {e : Expr} {t : TE} (h : PE X e t) (he : ∀ whole, isTrue e X.env whole = (do let v ← whole; standAt e.pos; holding [v] (truthy v)) := by intro _; rfl) : PT X e (tB t) := by
  intro pins s σ H Q I hw
  refine isTrue_plain (thn (h pins s σ H _ I hw) fun v s1 ⟨x, H1, I1, r1, q1⟩ => ?_) (he _)
  obtain ⟨d, rfl, q⟩ := q1
  cases r1
  exact wpAny_truthy_bool ⟨H1, I1, q⟩

/-! ### and, or, not -/
variable {tA tB' : TT} {rest : List Expr}
def tAnd (t u : TT) : TT := fun σ H Q => t σ H fun c H1 => if c = true then u σ H1 Q else Q false H1
def tOr (t u : TT) : TT := fun σ H Q => t σ H fun c H1 => if c = true then Q true H1 else u σ H1 Q
def tNot (t : TT) : TT := fun σ H Q => t σ H fun c H1 => Q (!c) H1
theorem pw_and1 (ha : PT X a tA) : PW X (.BoolOp .And [a] pos) tA := by
  intro wh pins s σ H Q I h
  refine isTrue_and (thn (ha pins s σ H Q I h) fun c s1 e => ?_)
  cases c with
  | true => exact isTrue_and_nil e
  | false => exact e
theorem pw_or1 (ha : PT X a tA) : PW X (.BoolOp .Or [a] pos) tA := by
  intro wh pins s σ H Q I h
  refine isTrue_or (thn (ha pins s σ H Q I h) fun c s1 e => ?_)
  cases c with
  | false => exact isTrue_or_nil e
  | true => exact e
theorem pw_and (ha : PT X a tA) (hb : PW X (.BoolOp .And (b :: rest) pos) tB') : PW X (.BoolOp .And (a :: b :: rest) pos) (tAnd tA tB') := by
  intro wh pins s σ H Q I h
  refine isTrue_and (thn (ha pins s σ H _ I h) fun c s1 ⟨H1, I1, q1⟩ => ?_)
  cases c with
  | true => exact hb wh pins s1 σ H1 Q I1 q1
  | false => exact ⟨H1, I1, q1⟩
theorem pw_or (ha : PT X a tA) (hb : PW X (.BoolOp .Or (b :: rest) pos) tB') : PW X (.BoolOp .Or (a :: b :: rest) pos) (tOr tA tB') := by
  intro wh pins s σ H Q I h
  refine isTrue_or (thn (ha pins s σ H _ I h) fun c s1 ⟨H1, I1, q1⟩ => ?_)
  cases c with
  | true => exact ⟨H1, I1, q1⟩
  | false => exact hb wh pins s1 σ H1 Q I1 q1
theorem pt_not (ha : PT X a tA) : PT X (.UnaryOp .Not a pos) (tNot tA) := by
  intro pins s σ H Q I h
  exact isTrue_not (ha pins s σ H (fun c H1 => Q (!c) H1) I h)
/-- .. as values (bools) -/
def tAndV (ta tb : TE) : TE := fun σ H Q => ta σ H fun x H1 => ∃ c, x = .bl c ∧ if c = true then tb σ H1 Q else Q (.bl false) H1
def tNotV (ta : TE) : TE := fun σ H Q => ta σ H fun x H1 => ∃ c, x = .bl c ∧ Q (.bl (!c)) H1
theorem pe_one {op} {t : TE} (h : PE X a t) : PE X (.BoolOp op [a] pos) t := fun pins s σ H Q I hw => BoolOp_one (h pins s σ H Q I hw)
theorem pe_and (ha : PE X a ta) (hb : PE X (.BoolOp .And (b :: rest) pos) tb) : PE X (.BoolOp .And (a :: b :: rest) pos) (tAndV ta tb) := by
  intro pins s σ H Q I h
  refine BoolOp_and (thn (ha pins s σ H _ I h) fun v s1 ⟨x, H1, I1, r1, q1⟩ => ?_)
  obtain ⟨c, rfl, q1⟩ := q1
  cases r1
  refine wpAny_truthy_bool ?_
  cases c with
  | true => exact hb pins s1 σ H1 Q I1 q1
  | false => exact ⟨.bl false, H1, I1, rfl, q1⟩
theorem pe_not (ha : PE X a ta) : PE X (.UnaryOp .Not a pos) (tNotV ta) := by
  intro pins s σ H Q I h
  refine UnaryOp_ (thn (ha pins s σ H _ I h) fun v s1 ⟨x, H1, I1, r1, q1⟩ => ?_)
  obtain ⟨c, rfl, q1⟩ := q1
  cases r1
  exact not_of (wpAny_truthy_bool ⟨.bl (!c), H1, I1, rfl, q1⟩)
end
end L2

namespace L2
open PySem PySem.Spec PyProof.Rows

/-! ### a list, a tuple that is read: tracked, frozen, or an object of the module -/
def SqL (K : PySem.W.Frag) (H : Hp) (a : Addr) (xs : List V) : Prop :=
  Rd H a (.lst xs) ∨
    ∃ (o : Obj) (its : Array Value) (n : Nat), K.lookup a = some o ∧ o.cls = .type "list" ∧ o.dict = none ∧ o.data = .seq its n ∧ its.size ≤ sizeLine ∧ Vals xs its.toList
def SqT (K : PySem.W.Frag) (H : Hp) (a : Addr) (xs : List V) : Prop :=
  Rd H a (.tup xs) ∨
    ∃ (o : Obj) (its : Array Value) (n : Nat), K.lookup a = some o ∧ o.cls = .type "tuple" ∧ o.data = .seq its n ∧ its.size ≤ sizeLine ∧ Vals xs its.toList
def absV : Value → Option V
  | .none => some .non
  | .bool b => some (.bl b)
  | .int i _ => some (.int i)
  | .str x _ => some (.str x)
  | .bytes b _ => some (.byt b)
  | .float b _ => some (.flt b)
  | .ref a => some (.ref a)
  | .type n => some (.ty n)
  | _ => none
theorem RelV.abs {x : V} {u : Value} (r : RelV x u) : absV u = some x := by
  cases x with
  | non => cases r; rfl
  | bl _ => cases r; rfl
  | int _ => obtain ⟨t, rfl⟩ := r; rfl
  | str _ => obtain ⟨t, rfl⟩ := r; rfl
  | byt _ => obtain ⟨t, rfl⟩ := r; rfl
  | flt _ => obtain ⟨t, rfl⟩ := r; rfl
  | ref _ => cases r; rfl
  | ty _ => cases r; rfl
theorem RelV.inj {x y : V} {u : Value} (r : RelV x u) (q : RelV y u) : x = y := Option.some.inj (r.abs.symm.trans q.abs)
theorem Vals.inj : ∀ {xs ys : List V} {us : List Value}, Vals xs us → Vals ys us → xs = ys
  | _, _, _, .nil, .nil => rfl
  | _, _, _, .cons r t, .cons r' t' => by rw [r.inj r', Vals.inj t t']
section
variable {X : Cx} {pins : List (Addr × Obj)} {σ : St} {H : Hp} {s : Shared} {a : Addr} {xs ys : List V}
theorem SqL.of {K : PySem.W.Frag} (h : H a = some (.lst xs)) : SqL K H a xs := .inl (.inl h)
theorem SqT.of {K : PySem.W.Frag} (h : H a = some (.tup xs)) : SqT K H a xs := .inl (.inl h)
theorem Inv.list (I : Inv X pins σ H s) (h : SqL X.K H a xs) : ∃ its : List Value, Vals xs its ∧ PlainL s.heap a its.toArray ∧ xs.length ≤ sizeLine := by
  rcases h with h | ⟨o, its, n, hk, hc, hd, hs, hz, r⟩
  · obtain ⟨z, its, n, r, e⟩ := h.ok I.hok
    exact ⟨its, r, ⟨_, n, e, rfl, rfl, rfl⟩, z⟩
  · refine ⟨its.toList, r, ⟨o, n, I.kIn a o hk, hc, hd, by simpa using hs⟩, ?_⟩
    have e := r.length
    simp only [Array.length_toList] at e
    omega
theorem Inv.tuple (I : Inv X pins σ H s) (h : SqT X.K H a xs) : ∃ its : List Value, Vals xs its ∧ IsTup s.heap a its.toArray ∧ xs.length ≤ sizeLine := by
  rcases h with h | ⟨o, its, n, hk, hc, hs, hz, r⟩
  · obtain ⟨z, its, r, p⟩ := h.ok I.hok
    exact ⟨its, r, p, z⟩
  · refine ⟨its.toList, r, ⟨o, I.kIn a o hk, hc, n, by simpa using hs⟩, ?_⟩
    have e := r.length
    simp only [Array.length_toList] at e
    omega
theorem Inv.list_inj (I : Inv X pins σ H s) (h : SqL X.K H a xs) (h' : SqL X.K H a ys) : xs = ys := by
  obtain ⟨its, r, ⟨o, n, e, _, _, d⟩, _⟩ := I.list h
  obtain ⟨its', r', ⟨o', n', e', _, _, d'⟩, _⟩ := I.list h'
  rw [e] at e'; cases e'
  rw [d] at d'
  injection d' with d1 _
  have : its = its' := by simpa using congrArg Array.toList d1
  subst this
  exact r.inj r'
theorem Inv.tuple_inj (I : Inv X pins σ H s) (h : SqT X.K H a xs) (h' : SqT X.K H a ys) : xs = ys := by
  obtain ⟨its, r, ⟨o, e, _, n, d⟩, _⟩ := I.tuple h
  obtain ⟨its', r', ⟨o', e', _, n', d'⟩, _⟩ := I.tuple h'
  rw [e] at e'; cases e'
  rw [d] at d'
  injection d' with d1 _
  have : its = its' := by simpa using congrArg Array.toList d1
  subst this
  exact r.inj r'
end

/-! ### another wish about exceptions -/
abbrev Cx.wish (X : Cx) (E : Value → Shared → Prop) : Cx := { X with xe := E }
/-- no exception leaves -/
abbrev Cx.nox (X : Cx) : Cx := X.wish fun _ _ => False
theorem Cx.Ok.wish {X : Cx} (ok : X.Ok) (E : Value → Shared → Prop) : (X.wish E).Ok :=
  ⟨ok.mod, ok.kind, ok.glob, ok.blt, ok.above, ok.inj, ok.has, ok.cab, ok.hd, ok.frames, ok.stk, ok.exf, ok.bs, ok.bsz, ok.noex, ok.exfs, ok.funs, ok.frf⟩
theorem Cx.Ok.unwish {X : Cx} {E : Value → Shared → Prop} (ok : (X.wish E).Ok) : X.Ok :=
  ⟨ok.mod, ok.kind, ok.glob, ok.blt, ok.above, ok.inj, ok.has, ok.cab, ok.hd, ok.frames, ok.stk, ok.exf, ok.bs, ok.bsz, ok.noex, ok.exfs, ok.funs, ok.frf⟩
section
variable {X : Cx} {pins : List (Addr × Obj)} {σ : St} {H : Hp} {s : Shared} {E : Value → Shared → Prop}
theorem Inv.wish (I : Inv X pins σ H s) (E : Value → Shared → Prop) : Inv (X.wish E) pins σ H s := ⟨I.ok.wish E, I.os, I.bare, I.base, I.loc, I.cell, I.free, I.freeC, I.pin, I.hok, I.len⟩
theorem Inv.unwish (I : Inv (X.wish E) pins σ H s) : Inv X pins σ H s := ⟨I.ok.unwish, I.os, I.bare, I.base, I.loc, I.cell, I.free, I.freeC, I.pin, I.hok, I.len⟩
theorem SP.unwish {D : Ends} {f : Flow} {s' : Shared} (h : SP (X.wish E) pins D f s') : SP X pins D f s' := by
  cases f with
  | next => obtain ⟨σ', H', I, q⟩ := h; exact ⟨σ', H', I.unwish, q⟩
  | brk => obtain ⟨σ', H', I, q⟩ := h; exact ⟨σ', H', I.unwish, q⟩
  | cont => obtain ⟨σ', H', I, q⟩ := h; exact ⟨σ', H', I.unwish, q⟩
  | ret u => obtain ⟨v, σ', H', I, r, q⟩ := h; exact ⟨v, σ', H', I.unwish, r, q⟩
theorem PE.nox {e : Expr} {t : TE} (h : PE X.nox e t) : PE X e t := fun pins s σ H Q I hw =>
  wpAny_mono (h pins s σ H Q (I.wish _) hw) (fun _ _ ⟨v, H', I', r, q⟩ => ⟨v, H', I'.unwish, r, q⟩) fun _ _ z => False.elim z
theorem PT.nox {e : Expr} {t : TT} (h : PT X.nox e t) : PT X e t := fun pins s σ H Q I hw =>
  wpAny_mono (h pins s σ H Q (I.wish _) hw) (fun _ _ ⟨H', I', q⟩ => ⟨H', I'.unwish, q⟩) fun _ _ z => False.elim z
theorem PSs.nox {st : List Stmt} {t : TS} (h : PSs X.nox st t) : PSs X st t := fun pins s σ H D I hw =>
  wpAny_mono (h pins s σ H D (I.wish _) hw) (fun _ _ q => q.unwish) fun _ _ z => False.elim z
end

/-! ### blocks and small statements -/
section
variable {X : Cx} {st : Stmt} {rest : List Stmt} {t u : TS} {e : Expr} {te : TE} {pos : Pos}
def tNext : TS := fun D σ H => D.nx σ H
def tSeq (t u : TS) : TS := fun D σ H => t { D with nx := u D } σ H
theorem pss_nil : PSs X [] tNext := fun _ _ σ H _ I h => wpAny_execs_nil ⟨σ, H, I, h⟩
theorem pss_cons (h1 : PS X st t) (h2 : PSs X rest u) : PSs X (st :: rest) (tSeq t u) := by
  intro pins s σ H D I h
  refine wpAny_execs_cons (thn (h1 pins s σ H { D with nx := u D } I h) fun f s1 q => ?_)
  cases f with
  | next =>
    obtain ⟨σ', H', I', q⟩ := q
    exact h2 pins s1 σ' H' D I' q
  | ret v => exact q
  | brk => exact q
  | cont => exact q
theorem pss_one (h1 : PS X st t) : PSs X [st] t := by
  intro pins s σ H D I h
  refine wpAny_execs_cons (thn (h1 pins s σ H D I h) fun f s1 q => ?_)
  cases f with
  | next => exact wpAny_execs_nil q
  | ret v => exact q
  | brk => exact q
  | cont => exact q
def tBreak : TS := fun D σ H => D.bk σ H
theorem ps_break : PS X (.Break pos) tBreak := fun _ _ σ H _ I h => wpAny_Break ⟨σ, H, I, h⟩
/-- in a def's body nothing is shown -/
theorem Inv.quiet {pins : List (Addr × Obj)} {σ : St} {H : Hp} {s : Shared} (I : Inv X pins σ H s) : interactive X.env = false := by simp [interactive, I.ok.kind]
/-- an expression whose value is dropped -/
def tDrop (te : TE) : TS := fun D σ H => te σ H fun _ H1 => D.nx σ H1
theorem ps_expr (he : PE X e te) (hs : swapsWith e none pos.line X.env = pure false := by rfl) : PS X (.Expr e pos) (tDrop te) := by
  intro pins s σ H D I h
  exact wpAny_Expr_any (thn (he pins s σ H _ I h) fun v s1 ⟨x, H1, I1, r1, q1⟩ => ⟨σ, H1, I1, q1⟩) I.quiet hs
def tRet (te : TE) : TS := fun D σ H => te σ H D.rt
theorem ps_ret (he : PE X e te) : PS X (.Return (some e) pos) (tRet te) := by
  intro pins s σ H D I h
  exact wpAny_Return_some (thn (he pins s σ H _ I h) fun v s1 ⟨x, H1, I1, r1, q1⟩ => ⟨x, σ, H1, I1, r1, q1⟩)
def tIfS (c : TT) (t u : TS) : TS := fun D σ H => c σ H fun b H1 => if b = true then t D σ H1 else u D σ H1
theorem ps_if {c : Expr} {a b : List Stmt} {tc : TT} (hc : PT X c tc) (ha : PSs X a t) (hb : PSs X b u) : PS X (.If c a b pos) (tIfS tc t u) := by
  intro pins s σ H D I h
  refine wpAny_If (thn (hc pins s σ H _ I h) fun d s1 ⟨H1, I1, q1⟩ => ?_)
  cases d with
  | true => exact ha pins s1 σ H1 D I1 q1
  | false => exact hb pins s1 σ H1 D I1 q1
/-- code that the proof never comes to -/
def tNever : TS := fun _ _ _ => False
theorem pss_never {sts : List Stmt} : PSs X sts tNever := fun _ _ _ _ _ _ h => h.elim
end

/-! ### targets -/
abbrev TG := V → St → Hp → (St → Hp → Prop) → Prop
def PG (X : Cx) (target : Expr) (t : TG) : Prop :=
  ∀ (pins : List (Addr × Obj)) (s : Shared) (σ : St) (H : Hp) (v : V) (u : Value) (Q : St → Hp → Prop), Inv X pins σ H s → RelV v u → t v σ H Q →
    wpAny (model X.prog X.w) X.A (assign target X.env u) (fun _ s' => ∃ σ' H', Inv X pins σ' H' s' ∧ Q σ' H') X.xe s
/-- o[i] = v, by values -/
abbrev TSet := V → V → V → Hp → (Hp → Prop) → Prop
def PSet (X : Cx) (t : TSet) : Prop :=
  ∀ (pins : List (Addr × Obj)) (s : Shared) (σ : St) (H : Hp) (o i v : V) (ov iv u : Value) (Q : Hp → Prop), Inv X pins σ H s → RelV o ov → RelV i iv → RelV v u → t o i v H Q →
    wpAny (model X.prog X.w) X.A (setItem ov iv u) (fun _ s' => ∃ H', Inv X pins σ H' s' ∧ Q H') X.xe s
/-- a op= b, by values -/
abbrev TIp := V → V → Hp → VK → Prop
def PIp (X : Cx) (op : Operator) (t : TIp) : Prop :=
  ∀ (pins : List (Addr × Obj)) (s : Shared) (σ : St) (H : Hp) (x y : V) (v u : Value) (Q : VK), Inv X pins σ H s → RelV x v → RelV y u → t x y H Q →
    wpAny (model X.prog X.w) X.A (inplaceOp op v u) (EP X pins σ Q) X.xe s
section
variable {X : Cx} {pos : Pos}
def gName (i : Nat) : TG := fun v σ H Q => Q (σ.set i (some v)) H
theorem pg_name {i : Nat} {x : Str} (hN : X.N.Nodup) (hi : X.N[i]? = some x) (hx : Loc X.env.scope x) (hf : X.fn x = true ∨ X.env.scope.names.lookup x = some .local := by first | exact .inl rfl | exact .inr rfl | assumption) : PG X (.Name x pos) (gName i) := by
  intro pins s σ H v u Q I r h
  exact wpAny_assign_Name (store_ok I hN hi hx r (fun s' I' => ⟨_, H, I', h⟩) hf)
/-- o[i] = .. -/
def gSub (to ti : TE) (t : TSet) : TG := fun v σ H Q => to σ H fun o H1 => ti σ H1 fun i H2 => t o i v H2 fun H3 => Q σ H3
theorem pg_sub {o i : Expr} {to ti : TE} {t : TSet} (ho : PE X o to) (hi : PE X i ti) (hs : PSet X t)
    (ha : ∀ v, assign (.Subscript o i pos) X.env v = (do
      let ov ← holding [v] (eval o X.env)
      let iv ← holding [v, ov] (eval i X.env)
      standAt pos
      holding [v, ov, iv] (setItem ov iv v)
      release [v, ov, iv] []) := by intro _; rfl) : PG X (.Subscript o i pos) (gSub to ti t) := by
  intro pins s σ H v u Q I r h
  rw [ha]
  refine wpAny_bind (wpAny_holding (thn (ho pins s σ H _ I h) fun ov s1 ⟨x, H1, I1, r1, q1⟩ => ?_))
  refine wpAny_bind (wpAny_holding (thn (hi pins s1 σ H1 _ I1 q1) fun iv s2 ⟨y, H2, I2, r2, q2⟩ => ?_))
  refine wpAny_bind (wpAny_standAt (wpAny_bind (wpAny_holding (thn (hs pins s2 σ H2 x y v ov iv u _ I2 r1 r2 r q2) fun _ s3 ⟨H3, I3, q3⟩ => ?_))))
  exact wpAny_release ⟨σ, H3, I3, q3⟩
/-- target = value -/
def tAsg (te : TE) (g : TG) : TS := fun D σ H => te σ H fun x H1 => g x σ H1 D.nx
theorem ps_asg {tg e : Expr} {te : TE} {g : TG} (he : PE X e te) (hg : PG X tg g) (hs : swapsWithSole [tg] e pos.line X.env = pure false := by rfl) (hw : swappedStores [tg] e X.env = pure none := by rfl)
    (h1 : (assignEach [tg] X.env).map (·.2) = [assign tg X.env] := by rfl) : PS X (.Assign [tg] e pos) (tAsg te g) := by
  intro pins s σ H D I h
  refine wpAny_Assign_stores (thn (he pins s σ H _ I h) fun v s1 ⟨x, H1, I1, r1, q1⟩ => ?_) hs hw
  rw [h1]
  exact thn (hg pins s1 σ H1 x v _ I1 r1 q1) fun _ s2 q => q
/-- name = value -/
theorem ps_set {i : Nat} {x : Str} {e : Expr} {te : TE} {pos' : Pos} (hN : X.N.Nodup) (hi : X.N[i]? = some x) (hx : Loc X.env.scope x) (he : PE X e te) (hs : swapsWith e (some (.Name x pos')) pos.line X.env = pure false := by rfl) (hf : X.fn x = true ∨ X.env.scope.names.lookup x = some .local := by first | exact .inl rfl | exact .inr rfl | assumption) :
    PS X (.Assign [.Name x pos'] e pos) (tAsg te (gName i)) := by
  intro pins s σ H D I h
  refine wpAny_Assign_Name (thn (he pins s σ H _ I h) fun v s1 ⟨y, H1, I1, r1, q1⟩ => ?_) hs
  exact store_ok I1 hN hi hx r1 (fun s2 I2 => ⟨_, H1, I2, q1⟩) hf
/-- a, b = x, y with plain local names: stored from the right; the pair itself is not tracked (the opening rows as in PyProof/Rows/TupAssign.lean:23) -/
def tPar (i j : Nat) (ta : TA) : TS := fun D σ H => ta σ H fun vs H1 => ∃ v w, vs = [v, w] ∧ D.nx ((σ.set i (some v)).set j (some w)) H1
theorem ps_par {i j : Nat} {x y : Str} {a b : Expr} {ta : TA} {px py pt : Pos} {kt k2 pt2} (hc : X.calm = true) (hN : X.N.Nodup) (hi : X.N[i]? = some x) (hj : X.N[j]? = some y) (hij : i ≠ j)
    (hx : X.env.scope.names.lookup x = some .local) (hy : X.env.scope.names.lookup y = some .local) (ha : PA X [a, b] ta)
    (hw : swappedStores [.Tuple [.Name x px, .Name y py] kt pt] (.Tuple [a, b] k2 pt2) X.env = pure (some [x, y]))
    (hs : swapsWithSole [.Tuple [.Name x px, .Name y py] kt pt] (.Tuple [a, b] k2 pt2) pos.line X.env = pure false := by rfl) :
    PS X (.Assign [.Tuple [.Name x px, .Name y py] kt pt] (.Tuple [a, b] k2 pt2) pos) (tPar i j ta) := by
  intro pins s σ H D I h
  rw [exec_Assign_arm]
  refine wpAny_bind (wpAny_standAt ?_)
  rw [hs]
  refine wpAny_bind (wpAny_pure ?_)
  rw [if_neg (by decide)]
  refine wpAny_bind (Tuple_ (thn (ha _ pins s σ H _ I h) fun us s1 ⟨vs, H1, I1, r1, q1⟩ => ?_))
  obtain ⟨v, w, e1, q1⟩ := q1
  subst e1
  obtain ⟨u1, u2, rfl, rv, rw'⟩ : ∃ u1 u2, us = [u1, u2] ∧ RelV v u1 ∧ RelV w u2 := by
    cases r1 with
    | cons p q =>
      cases q with
      | cons p' q' =>
        cases q'
        exact ⟨_, _, rfl, p, p'⟩
  refine wpAny_newObj_type ?_ (by show 2 ≤ sizeLine; decide)
  have I2 : Inv X pins σ H1 { s1 with heap := s1.heap.push { cls := .type "tuple", data := .seq [u1, u2].toArray } } := I1.kept (t' := s1.toks) fun b o e => Heap.get?_push_of_some _ e
  rw [hw]
  refine wpAny_bind (wpAny_pure ?_)
  show wpAny (model X.prog X.w) X.A (do rule "assign.swapped-stores"; let items ← unpackItems (.ref s1.heap.objs.size) 2 none; assignInOrder [fun v => bindName X.env y v, fun v => bindName X.env x v] items.reverse; pure Flow.next) _ _ _
  refine wpAny_bind (wpAny_rule (wpAny_bind (unpackItems_tuple (items := #[u1, u2]) (I.ok.hd hc) (IsTup.new s1.heap _) fun h' hx' => ?_)))
  have I3 := I2.kept (h' := h') (t' := s1.toks) fun b o e => hx' b o (Nat.ne_of_lt (Heap.lt_size e)) e
  show wpAny _ _ (assignInOrder [fun v => bindName X.env y v, fun v => bindName X.env x v] [u2, u1] >>= fun _ => pure Flow.next) _ _ _
  refine wpAny_bind (assignInOrder_cons (wpAny_bindName (store_ok I3 hN hj (.inl hy) rw' (fun s2 I4 => ?_) (.inr hy))))
  refine assignInOrder_cons (wpAny_bindName (store_ok I4 hN hi (.inl hx) rv (fun s3 I5 => assignInOrder_nil (wpAny_pure ?_)) (.inr hx)))
  rw [List.set_comm _ _ (Ne.symm hij)] at I5
  exact ⟨_, H1, I5, q1⟩
/-- name op= e -/
def tAug (i : Nat) (te : TE) (ti : TIp) : TS := fun D σ H => ∃ x, σ[i]? = some (some x) ∧ te σ H fun y H1 => ti x y H1 fun z H2 => D.nx (σ.set i (some z)) H2
theorem ps_aug {i : Nat} {x : Str} {e : Expr} {te : TE} {op : Operator} {ti : TIp} {pos' : Pos} (hN : X.N.Nodup) (hi : X.N[i]? = some x) (hx : Loc X.env.scope x) (he : PE X e te) (ho : PIp X op ti) (hf : X.fn x = true ∨ X.env.scope.names.lookup x = some .local := by first | exact .inl rfl | exact .inr rfl | assumption) :
    PS X (.AugAssign (.Name x pos') op e pos) (tAug i te ti) := by
  intro pins s σ H D I h
  obtain ⟨v, e1, h⟩ := h
  obtain ⟨m, hn, hl⟩ := I.loc
  have vis : Vis X.env.scope x := by rcases hx with k | k; exact .inl k; exact .inr (.inl k)
  obtain ⟨u, r, l⟩ := hl i x v hi e1 vis
  refine wpAny_AugAssign_Name ?_
  have go : wpAny (model X.prog X.w) X.A (eval e X.env) (fun w s₂ => wpAny (model X.prog X.w) X.A (inplaceOp op u w) (fun r s₃ => wpAny (model X.prog X.w) X.A (storeName X.env x r) (fun _ => SP X pins D .next) X.xe s₃) X.xe s₂) X.xe s := by
    refine thn (he pins s σ H _ I h) fun w s1 ⟨y, H1, I1, r1, q1⟩ => ?_
    refine thn (ho pins s1 σ H1 v y u w _ I1 r r1 q1) fun z s2 ⟨zv, H2, I2, r2, q2⟩ => ?_
    exact store_ok I2 hN hi hx r2 (fun s3 I3 => ⟨_, H2, I3, q2⟩) hf
  rcases l with ⟨hk, hm⟩ | ⟨hk, c, hc, hcell⟩
  · exact wpAny_loadName_local I.ok.kind hk hn hm go
  · rcases hk with hk | hk
    · exact wpAny_loadName_cell I.ok.kind hk hc hcell go
    · rcases hx with k | k
      · have : X.env.scope.names.lookup x = some .free := hk
        rw [k] at this; cases this
      · have : X.env.scope.names.lookup x = some .free := hk
        rw [k] at this; cases this
/-- ints -/
def ipI (f : Int → Int → Int) : TIp := fun x y H Q => ∃ i j, x = .int i ∧ y = .int j ∧ Q (.int (f i j)) H
theorem ip_add : PIp X .Add (ipI fun i j => i + j) := by
  intro pins s σ H x y v u Q I r1 r2 h
  obtain ⟨i, j, e1, e2, q⟩ := h
  subst e1; subst e2
  obtain ⟨t, rfl⟩ := r1
  obtain ⟨t', rfl⟩ := r2
  exact iadd_int ⟨.int _, H, I.tok _, ⟨_, rfl⟩, q⟩
end

/-! ### while -/
section
variable {X : Cx} {pos : Pos}
/-- the invariant W with its measure -/
def tWhile (c : TT) (tb : TS) : TS := fun D σ H => ∃ W : Nat → St → Hp → Prop, (∃ m, W m σ H) ∧ ∀ m σ H, W m σ H →
  c σ H fun b H1 => if b = true then ∃ N : St → Hp → Prop, (∀ σ' H', N σ' H' → ∃ m', m' < m ∧ W m' σ' H') ∧ tb { D with nx := N, ct := N, bk := D.nx } σ H1 else D.nx σ H1
theorem ps_while {c : Expr} {body : List Stmt} {tc : TT} {tb : TS} (hp : PassesOwn (model X.prog X.w) X.A X.env X.xe) (hc : PT X c tc) (hb : PSs X body tb) : PS X (.While c body [] pos) (tWhile tc tb) := by
  intro pins s σ H D I h
  obtain ⟨W, ⟨m0, w0⟩, turn⟩ := h
  refine wpAny_While (codeAny_whileLoop (fun n s' => ∃ σ' H', Inv X pins σ' H' s' ∧ W n σ' H') ?_ m0 ⟨σ, H, I, w0⟩)
  rintro n s1 ⟨σ1, H1, I1, w1⟩
  refine wpAny_passesOwn hp (thn (hc pins s1 σ1 H1 _ I1 (turn n σ1 H1 w1)) fun b s2 ⟨H2, I2, q2⟩ => ?_)
  cases b with
  | true =>
    obtain ⟨N, hN, q2⟩ := q2
    rw [if_pos rfl]
    refine wpAny_passesOwn hp (thn (hb pins s2 σ1 H2 _ I2 q2) fun f s3 q3 => ?_)
    cases f with
    | next =>
      obtain ⟨σ3, H3, I3, n3⟩ := q3
      obtain ⟨m', hm, w3⟩ := hN σ3 H3 n3
      exact ⟨m', hm, σ3, H3, I3, w3⟩
    | cont =>
      obtain ⟨σ3, H3, I3, n3⟩ := q3
      obtain ⟨m', hm, w3⟩ := hN σ3 H3 n3
      exact ⟨m', hm, σ3, H3, I3, w3⟩
    | brk => exact q3
    | ret v => exact q3
  | false =>
    rw [if_neg Bool.false_ne_true]
    exact wpAny_execs_nil ⟨σ1, H2, I2, q2⟩
end

/-! ### what a loop or a comprehension walks -/
/-- at turn i: it yields x (the heap may grow), or it stops -/
structure It where
  go : Nat → Hp → Prop
  yld : Nat → Hp → V → Hp → Prop
  stop : Nat → Hp → Prop
/-- the iterator's own objects may turn: they are not the frame's, not pinned, younger than the entry (or a comprehension's own) -/
def FpOk (X : Cx) (pins : List (Addr × Obj)) (H : Hp) (b : Addr) : Prop :=
  H b = none ∧ b ≠ X.env.locals ∧ b ∉ X.fs ∧ (b ∈ X.ex ∨ X.s₀.heap.objs.size ≤ b) ∧ (∀ x c, X.env.cells.lookup x = some c → c ≠ b) ∧ ∀ p ∈ X.pn ++ pins, p.1 ≠ b
theorem Inv.fpOk {X : Cx} {pins : List (Addr × Obj)} {σ : St} {H H' : Hp} {s : Shared} {b : Addr} (I : Inv X pins σ H s) (hb : s.heap.objs.size ≤ b) (hn : H' b = none) : FpOk X pins H' b := by
  refine ⟨hn, Nat.ne_of_gt (Nat.lt_of_lt_of_le I.lt hb), I.nofs hb, .inr (Nat.le_trans I.sz hb), fun x c e z => ?_, fun p hp z => ?_⟩
  · obtain ⟨v, q⟩ := I.cell x c e
    exact absurd (Nat.lt_of_lt_of_le q.lt (by rw [z]; exact hb)) (Nat.lt_irrefl _)
  · exact absurd (Nat.lt_of_lt_of_le (Heap.lt_size (I.pin p hp).1) (by rw [z]; exact hb)) (Nat.lt_irrefl _)
structure Turn (P : Program) (w : World) (K : PySem.W.Frag) (tg : Expr) (J : It) (fp : List Addr) (it : Addr) (tn : Nat → Heap → Prop) : Prop where
  mem : it ∈ fp
  obj : ∀ i h, tn i h → ∀ b ∈ fp, ∃ o, h.get? b = some o ∧ ∀ v, o.data ≠ .cell v
  keep : ∀ i h h', tn i h → (∀ b ∈ fp, ∀ o, h.get? b = some o → h'.get? b = some o) → tn i h'
  item : ∀ (X : Cx), X.prog = P → X.w = w → X.K = K → X.calm = true → ∀ (i : Nat) (pins : List (Addr × Obj)) (s : Shared) (σ : St) (H : Hp) (E : Value → Shared → Prop), Inv X pins σ H s → (∀ b ∈ fp, FpOk X pins H b) → tn i s.heap → J.go i H →
    wpAny (model P w) X.A (pyNext (.ref it)) (fun r s1 => ∃ u, r = some u ∧
      wpAny (model P w) X.A (letOwnedTupleGo tg (.ref it) u) (fun _ s2 => ∃ x H', Inv X pins σ H' s2 ∧ RelV x u ∧ J.yld i H x H' ∧ tn (i + 1) s2.heap ∧ ∀ b ∈ fp, H' b = none) E s1) E s
  done : ∀ (X : Cx), X.prog = P → X.w = w → X.K = K → X.calm = true → ∀ (i : Nat) (pins : List (Addr × Obj)) (s : Shared) (σ : St) (H : Hp) (E : Value → Shared → Prop), Inv X pins σ H s → (∀ b ∈ fp, FpOk X pins H b) → tn i s.heap → J.stop i H →
    wpAny (model P w) X.A (pyNext (.ref it)) (fun r s1 => r = none ∧ Inv X pins σ H s1) E s
  self : ∀ (A : Around) (i : Nat) (s : Shared) (Q : Value → Shared → Prop) (E : Value → Shared → Prop), tn i s.heap → Q (.ref it) s → wpAny (model P w) A (pyIter (.ref it)) Q E s
abbrev TI := St → Hp → (It → Hp → Prop) → Prop
/-- an iterator has come -/
def PIE (X : Cx) (pins : List (Addr × Obj)) (σ : St) (tg : Expr) (R : It → Hp → Prop) (itv : Value) (s2 : Shared) : Prop :=
  ∃ (it : Addr) (fp : List Addr) (tn : Nat → Heap → Prop) (J : It) (H' : Hp), itv = .ref it ∧ Inv X pins σ H' s2 ∧ Turn X.prog X.w X.K tg J fp it tn ∧ tn 0 s2.heap ∧ (∀ b ∈ fp, FpOk X pins H' b) ∧ R J H'
def PI (X : Cx) (tg iter : Expr) (wi : TI) : Prop :=
  ∀ (pins : List (Addr × Obj)) (s : Shared) (σ : St) (H : Hp) (R : It → Hp → Prop), Inv X pins σ H s → wi σ H R →
    wpAny (model X.prog X.w) X.A (eval iter X.env) (fun v s1 => wpAny (model X.prog X.w) X.A (pyIter v) (PIE X pins σ tg R) X.xe s1) X.xe s

/-- the step ahead of the store is nothing for an iterator that keeps no tuple -/
theorem go_of {M : Model} {A : Around} {E : Value → Shared → Prop} {s : Shared} {tg : Expr} {it : Addr} {u : Value} {o : Obj} {n : String} {vs : Array Value} {Q : Unit → Shared → Prop} (ho : s.heap.get? it = some o) (hc : o.cls = .type n) (hd : o.data = .fields vs)
    (hn : ["enumerate", "zip", "dict_itemiterator", "dict_reverseitemiterator", "odict_iterator", "itertools.zip_longest", "itertools.pairwise"].contains n = false) (hQ : Q () s) : wpAny M A (letOwnedTupleGo tg (.ref it) u) Q E s := by
  unfold letOwnedTupleGo
  cases tg <;> first
    | exact wpAny_pure hQ
    | (cases u <;> first
        | exact wpAny_pure hQ
        | (refine wpAny_bind (wpAny_load ho ?_)
           rw [hc, hd]
           show wpAny M A (if (["enumerate", "zip", "dict_itemiterator", "dict_reverseitemiterator", "odict_iterator", "itertools.zip_longest", "itertools.pairwise"].contains n && vs[0]? == some (rawInt _)) = true then _ else _) Q E s
           rw [if_neg (by intro h; rw [hn, Bool.false_and] at h; cases h)]
           exact wpAny_pure hQ))

/-- the list at a, as it stands at each turn (a loop may append to it) -/
def Itl (K : PySem.W.Frag) (a : Addr) : It :=
  ⟨fun i H => ∃ xs x, SqL K H a xs ∧ xs[i]? = some x, fun i H x H' => H' = H ∧ ∀ xs, SqL K H a xs → xs[i]? = some x, fun i H => ∃ xs, SqL K H a xs ∧ xs.length ≤ i⟩
def Itt (K : PySem.W.Frag) (a : Addr) : It :=
  ⟨fun i H => ∃ xs x, SqT K H a xs ∧ xs[i]? = some x, fun i H x H' => H' = H ∧ ∀ xs, SqT K H a xs → xs[i]? = some x, fun i H => ∃ xs, SqT K H a xs ∧ xs.length ≤ i⟩
/-- lo, lo + 1, .. (n of them) -/
def Itr (lo : Int) (n : Nat) : It := ⟨fun i _ => i < n, fun i H x H' => H' = H ∧ x = .int (lo + i), fun i _ => n ≤ i⟩
theorem turn_list {P : Program} {w : World} {K : PySem.W.Frag} {tg : Expr} (a it : Addr) : Turn P w K tg (Itl K a) [it] it (fun i h => h.IsListIter it a i) where
  mem := by simp
  obj := fun i h st b hb => by
    have e : b = it := by simpa using hb
    subst e
    obtain ⟨o, e, c, d⟩ := st
    exact ⟨o, e, fun v z => by rw [d] at z; cases z⟩
  keep := fun i h h' st k => st.at fun o e => k it (by simp) o e
  item := by
    intro X hP hw hK hc i pins s σ H E I hf st hg
    subst hP hw hK
    obtain ⟨xs, x, hq, hx⟩ := hg
    obtain ⟨its, rv, p, hz⟩ := I.list hq
    obtain ⟨u, hu, ru⟩ := rv.get hx
    obtain ⟨f0, f1, f2, f3, f4, f5⟩ := hf it (by simp)
    refine wpAny_pyNext_list_item st p.isList (x := u) (by simpa using hu) fun h' st' sb => ?_
    have I1 : Inv X pins σ H { s with heap := h' } := I.turned (t' := s.toks) (fun b o hb e => (sb.2 b hb).trans e) f0 f1 f3 f4 f5
    obtain ⟨o, e, c, d⟩ := id st'
    exact ⟨u, rfl, go_of (s := { s with heap := h' }) e c d (by decide) ⟨x, H, I1, ru, ⟨rfl, fun ys hy => by rw [I.list_inj hy hq]; exact hx⟩, st', fun b hb => (hf b hb).1⟩⟩
  done := by
    intro X hP hw hK hc i pins s σ H E I hf st hg
    subst hP hw hK
    obtain ⟨xs, hq, hx⟩ := hg
    obtain ⟨its, rv, p, hz⟩ := I.list hq
    obtain ⟨f0, f1, f2, f3, f4, f5⟩ := hf it (by simp)
    have hl := rv.length
    exact wpAny_pyNext_list_end (I.ok.hd hc) st p.isList (by simp; omega) fun h' eb => ⟨rfl, I.turned (t' := s.toks) (fun b o hb e => eb b o hb e) f0 f1 f3 f4 f5⟩
  self := fun _ _ _ _ _ st h => wpAny_pyIter_listiter st h
theorem turn_tuple {P : Program} {w : World} {K : PySem.W.Frag} {tg : Expr} (a it : Addr) : Turn P w K tg (Itt K a) [it] it (fun i h => h.IsTupleIter it a i) where
  mem := by simp
  obj := fun i h st b hb => by
    have e : b = it := by simpa using hb
    subst e
    obtain ⟨o, e, c, d⟩ := st
    exact ⟨o, e, fun v z => by rw [d] at z; cases z⟩
  keep := fun i h h' st k => st.at fun o e => k it (by simp) o e
  item := by
    intro X hP hw hK hc i pins s σ H E I hf st hg
    subst hP hw hK
    obtain ⟨xs, x, hq, hx⟩ := hg
    obtain ⟨its, rv, p, hz⟩ := I.tuple hq
    obtain ⟨u, hu, ru⟩ := rv.get hx
    obtain ⟨f0, f1, f2, f3, f4, f5⟩ := hf it (by simp)
    refine wpAny_pyNext_tuple_item st (show s.heap.IsTuple a its.toArray from p) (x := u) (by simpa using hu) fun h' st' sb => ?_
    have I1 : Inv X pins σ H { s with heap := h' } := I.turned (t' := s.toks) (fun b o hb e => (sb.2 b hb).trans e) f0 f1 f3 f4 f5
    obtain ⟨o, e, c, d⟩ := id st'
    exact ⟨u, rfl, go_of (s := { s with heap := h' }) e c d (by decide) ⟨x, H, I1, ru, ⟨rfl, fun ys hy => by rw [I.tuple_inj hy hq]; exact hx⟩, st', fun b hb => (hf b hb).1⟩⟩
  done := by
    intro X hP hw hK hc i pins s σ H E I hf st hg
    subst hP hw hK
    obtain ⟨xs, hq, hx⟩ := hg
    obtain ⟨its, rv, p, hz⟩ := I.tuple hq
    obtain ⟨f0, f1, f2, f3, f4, f5⟩ := hf it (by simp)
    have hl := rv.length
    exact wpAny_pyNext_tuple_end (I.ok.hd hc) st (show s.heap.IsTuple a its.toArray from p) (by simp; omega) fun h' eb => ⟨rfl, I.turned (t' := s.toks) (fun b o hb e => eb b o hb e) f0 f1 f3 f4 f5⟩
  self := fun _ _ _ _ _ st h => wpAny_pyIter_tupleiter st h
theorem turn_range {P : Program} {w : World} {K : PySem.W.Frag} {tg : Expr} (it : Addr) (lo : Int) (n : Nat) : Turn P w K tg (Itr lo n) [it] it (fun i h => IsRangeIter h it (lo + (i : Nat) * 1) ((n : Int) - (i : Nat)) 1) where
  mem := by simp
  obj := fun i h st b hb => by
    have e : b = it := by simpa using hb
    subst e
    exact ⟨_, st, fun v z => by
      have z' : Data.fields _ = Data.cell v := z
      cases z'⟩
  keep := fun i h h' st k => k it (by simp) _ st
  item := by
    intro X hP hw hK hc i pins s σ H E I hf st hg
    subst hP hw hK
    obtain ⟨f0, f1, f2, f3, f4, f5⟩ := hf it (by simp)
    have W := Walks.range (prog := X.prog) (w := X.w) (I.ok.hd hc) it lo 1 n
    refine W.item i s _ _ hg st fun v h' tk hv st' kk => ?_
    obtain ⟨t, rfl⟩ := hv
    have I1 : Inv X pins σ H { s with heap := h', toks := tk } := I.turned (fun b o hb e => kk b o (by simpa using hb) e) f0 f1 f3 f4 f5
    refine ⟨_, rfl, go_of (s := { s with heap := h', toks := tk }) (n := "range_iterator") st' rfl rfl (by decide) ⟨.int (lo + i), H, I1, ⟨t, ?_⟩, ⟨rfl, rfl⟩, st', fun b hb => (hf b hb).1⟩⟩
    rw [Int.mul_one]
  done := by
    intro X hP hw hK hc i pins s σ H E I hf st hg
    subst hP hw hK
    obtain ⟨f0, f1, f2, f3, f4, f5⟩ := hf it (by simp)
    exact wpAny_pyNext_range_end (I.ok.hd hc) st (by have : n ≤ i := hg; omega) fun h' eb => ⟨rfl, I.turned (t' := s.toks) (fun b o hb e => eb b o hb e) f0 f1 f3 f4 f5⟩
  self := fun _ _ _ _ _ st h => wpAny_pyIter_rangeiter st h
end L2

namespace L2
open PySem PySem.Spec PyProof.Rows
section
variable {X : Cx} {tg : Expr}
def iList (K : PySem.W.Frag) (tl : TE) : TI := fun σ H R => tl σ H fun x H1 => ∃ a, x = .ref a ∧ (∃ xs, SqL K H1 a xs) ∧ R (Itl K a) H1
def iTup (K : PySem.W.Frag) (tl : TE) : TI := fun σ H R => tl σ H fun x H1 => ∃ a, x = .ref a ∧ (∃ xs, SqT K H1 a xs) ∧ R (Itt K a) H1
theorem pi_list {l : Expr} {tl : TE} (hl : PE X l tl) : PI X tg l (iList X.K tl) := by
  intro pins s σ H R I h
  refine thn (hl pins s σ H _ I h) fun v s1 ⟨x, H1, I1, r1, q1⟩ => ?_
  obtain ⟨a, e, ⟨xs, hq⟩, q⟩ := q1
  subst e
  cases r1
  obtain ⟨its, rv, p, hz⟩ := I1.list hq
  refine wpAny_pyIter_list p.isList ?_
  refine ⟨s1.heap.objs.size, [s1.heap.objs.size], _, _, H1, rfl, I1.kept (t' := s1.toks) fun b o e => Heap.get?_push_of_some _ e, turn_list a _, ⟨_, Heap.get?_push_size _ rfl, rfl, rfl⟩, fun b hb => ?_, q⟩
  have e : b = s1.heap.objs.size := by simpa using hb
  subst e
  exact I1.fpOk (Nat.le_refl _) (I1.hok.fresh (Nat.le_refl _))
theorem pi_tup {l : Expr} {tl : TE} (hl : PE X l tl) : PI X tg l (iTup X.K tl) := by
  intro pins s σ H R I h
  refine thn (hl pins s σ H _ I h) fun v s1 ⟨x, H1, I1, r1, q1⟩ => ?_
  obtain ⟨a, e, ⟨xs, hq⟩, q⟩ := q1
  subst e
  cases r1
  obtain ⟨its, rv, p, hz⟩ := I1.tuple hq
  refine wpAny_pyIter_tuple (show s1.heap.IsTuple a its.toArray from p) ?_
  refine ⟨s1.heap.objs.size, [s1.heap.objs.size], _, _, H1, rfl, I1.kept (t' := s1.toks) fun b o e => Heap.get?_push_of_some _ e, turn_tuple a _, ⟨_, Heap.get?_push_size _ rfl, rfl, rfl⟩, fun b hb => ?_, q⟩
  have e : b = s1.heap.objs.size := by simpa using hb
  subst e
  exact I1.fpOk (Nat.le_refl _) (I1.hok.fresh (Nat.le_refl _))
/-- a range object just made, walked -/
theorem range_it {pins : List (Addr × Obj)} {σ : St} {H : Hp} {s : Shared} {R : It → Hp → Prop} {E : Value → Shared → Prop} {lo hi : Int} {t u v : Tok} {tk : Nat} (I : Inv X pins σ H s) (h1 : -(2 ^ 62) ≤ lo) (h2 : lo < 2 ^ 62) (h3 : -(2 ^ 62) ≤ hi) (h4 : hi < 2 ^ 62)
    (q : R (Itr lo (hi - lo).toNat) H) : wpAny (model X.prog X.w) X.A (pyIter (.ref s.heap.objs.size)) (PIE X pins σ tg R) E { s with heap := s.heap.push { cls := .type "range", data := .fields #[.int lo t, .int hi u, .int 1 v] }, toks := tk } := by
  refine wpAny_pyIter_range (IsRange.new ..) (small_one h1 h2 h3 h4) ?_
  have I1 : Inv X pins σ H { s with heap := s.heap.push { cls := .type "range", data := .fields #[.int lo t, .int hi u, .int 1 v] }, toks := tk } := I.kept fun b o e => Heap.get?_push_of_some _ e
  refine ⟨(s.heap.push { cls := .type "range", data := .fields #[.int lo t, .int hi u, .int 1 v] }).objs.size, [(s.heap.push { cls := .type "range", data := .fields #[.int lo t, .int hi u, .int 1 v] }).objs.size], _, _, H, rfl,
    I1.kept (t' := tk) fun b o e => Heap.get?_push_of_some _ e, turn_range _ lo (hi - lo).toNat, ?_, fun b hb => ?_, q⟩
  · have e1 : lo + ((0 : Nat) : Int) * 1 = lo := by simp
    have e2 : (((hi - lo).toNat : Nat) : Int) - ((0 : Nat) : Int) = Builtin.Range.rangeSize lo hi 1 := by rw [rangeSize_one]; split <;> omega
    show IsRangeIter _ _ (lo + ((0 : Nat) : Int) * 1) ((((hi - lo).toNat : Nat) : Int) - ((0 : Nat) : Int)) 1
    rw [e1, e2]
    exact Heap.get?_push_size _ rfl
  · have e : b = (s.heap.push { cls := .type "range", data := .fields #[.int lo t, .int hi u, .int 1 v] }).objs.size := by simpa using hb
    subst e
    exact I1.fpOk (Nat.le_refl _) (I1.hok.fresh (Nat.le_refl _))
def iRng1 (ta : TA) : TI := fun σ H R => ta σ H fun vs H1 => ∃ j : Int, vs = [.int j] ∧ -(2 ^ 62) ≤ j ∧ j < 2 ^ 62 ∧ R (Itr 0 j.toNat) H1
def iRng2 (ta : TA) : TI := fun σ H R => ta σ H fun vs H1 => ∃ i j : Int, vs = [.int i, .int j] ∧ (-(2 ^ 62) ≤ i ∧ i < 2 ^ 62 ∧ -(2 ^ 62) ≤ j ∧ j < 2 ^ 62) ∧ R (Itr i (j - i).toNat) H1
theorem pi_range1 {a : Expr} {ta : TA} {p pos : Pos} (hg : Gl X "range") (hm : X.mg "range" = none) (ha : PA X [a] ta) (hs : starEach [a] X.env = [(false, eval a X.env)] := by rfl) : PI X tg (.Call (.Name "range" p) [a] [] pos) (iRng1 ta) := by
  intro pins s σ H R I h
  refine Call_ (ld_blt I hg hm boot_range (PyProof.Rows.callWith_type1 (thn (ha pos pins s σ H _ I h) fun us s1 ⟨vs, H1, I1, r1, q1⟩ => ?_) hs rfl))
  obtain ⟨j, e, q1, q2, q⟩ := q1
  subst e
  cases r1 with
  | cons r rr =>
    cases rr
    obtain ⟨t, rfl⟩ := r
    exact call_range_1 (range_it I1 (by omega) (by omega) q1 q2 (by simpa using q))
theorem pi_range2 {a b : Expr} {ta : TA} {p pos : Pos} (hg : Gl X "range") (hm : X.mg "range" = none) (ha : PA X [a, b] ta) (hs : starEach [a, b] X.env = [(false, eval a X.env), (false, eval b X.env)] := by rfl) (hs2 : starEach [b] X.env = [(false, eval b X.env)] := by rfl) :
    PI X tg (.Call (.Name "range" p) [a, b] [] pos) (iRng2 ta) := by
  intro pins s σ H R I h
  refine Call_ (ld_blt I hg hm boot_range (PyProof.Rows.callWith_type1 (thn (ha pos pins s σ H _ I h) fun us s1 ⟨vs, H1, I1, r1, q1⟩ => ?_) (by rw [hs, hs2]) (by rw [hs2]; rfl)))
  obtain ⟨i, j, e, ⟨q1, q2, q3, q4⟩, q⟩ := q1
  subst e
  cases r1 with
  | cons r rr =>
    cases rr with
    | cons r' rr =>
      cases rr
      obtain ⟨t, rfl⟩ := r
      obtain ⟨t', rfl⟩ := r'
      exact call_range_2 (range_it I1 q1 q2 q3 q4 q)

/-! ### for -/
/-- W: the invariant by the turn and a measure; N: what the body is to reach -/
def tFor (wi : TI) (g : TG) (tb : TS) : TS := fun D σ H => wi σ H fun J H1 => ∃ W : Nat → Nat → St → Hp → Prop, (∃ m, W 0 m σ H1) ∧ ∀ i m σ H, W i m σ H →
  (J.stop i H ∧ D.nx σ H) ∨ (J.go i H ∧ ∃ N : St → Hp → Prop, (∀ σ' H', N σ' H' → ∃ m', m' < m ∧ W (i + 1) m' σ' H') ∧ ∀ x H', J.yld i H x H' → g x σ H' fun σ2 H2 => tb { D with nx := N, ct := N, bk := D.nx } σ2 H2)
/-- the records at fp as they stand -/
def pinsAt (fp : List Addr) (h : Heap) : List (Addr × Obj) := fp.filterMap fun b => (h.get? b).map fun o => (b, o)
theorem mem_pinsAt {fp : List Addr} {h : Heap} {b : Addr} {o : Obj} (hb : b ∈ fp) (e : h.get? b = some o) : (b, o) ∈ pinsAt fp h := List.mem_filterMap.mpr ⟨b, hb, by rw [e]; rfl⟩
theorem of_pinsAt {fp : List Addr} {h : Heap} {p : Addr × Obj} (hp : p ∈ pinsAt fp h) : p.1 ∈ fp ∧ h.get? p.1 = some p.2 := by
  obtain ⟨b, hb, e⟩ := List.mem_filterMap.mp hp
  cases q : h.get? b with
  | none => rw [q] at e; cases e
  | some o =>
    rw [q] at e
    have e' : (b, o) = p := Option.some.inj e
    subst e'
    exact ⟨hb, q⟩
theorem Inv.pinned {pins : List (Addr × Obj)} {σ : St} {H : Hp} {s : Shared} {fp : List Addr} (I : Inv X pins σ H s) (hf : ∀ b ∈ fp, FpOk X pins H b) (ho : ∀ b ∈ fp, ∃ o, s.heap.get? b = some o ∧ ∀ v, o.data ≠ .cell v) : Inv X (pins ++ pinsAt fp s.heap) σ H s :=
  I.pins_of fun p hp => (List.mem_append.mp hp).elim (fun z => I.pin p (List.mem_append_right _ z)) fun z => by
    obtain ⟨hb, e⟩ := of_pinsAt z
    obtain ⟨f0, f1, f2, _⟩ := hf p.1 hb
    obtain ⟨o, e', d⟩ := ho p.1 hb
    rw [e] at e'; cases e'
    exact ⟨e, f0, f1, f2, d⟩
theorem Inv.unpinned {pins pl : List (Addr × Obj)} {σ : St} {H : Hp} {s : Shared} (I : Inv X (pins ++ pl) σ H s) : Inv X pins σ H s := I.pins_of fun p hp => I.pin p (List.mem_append_right _ (List.mem_append_left _ hp))
theorem ps_for {iter : Expr} {body : List Stmt} {wi : TI} {g : TG} {tb : TS} {pos : Pos} (hp : PassesOwn (model X.prog X.w) X.A X.env X.xe) (hc : X.calm = true) (hi : PI X tg iter wi) (hg : PG X tg g) (hb : PSs X body tb)
    (hs : ∀ x, foldedSetIterable iter X.env x = pure x := by intro _; rfl) : PS X (.For tg iter body [] pos) (tFor wi g tb) := by
  intro pins s σ H D I h
  refine wpAny_For (thn (hi pins s σ H _ I h) fun v s1 h1 => thn h1 fun itv s2 h2 => ?_) hs
  obtain ⟨it, fp, tn, J, H2, e, I2, T, st2, f2, W, ⟨m0, w0⟩, turn⟩ := h2
  subst e
  -- what stays true of the iterator's objects through the loop
  have stat : ∀ {H' : Hp}, (∀ b ∈ fp, H' b = none) → ∀ b ∈ fp, FpOk X pins H' b := fun hn b hb => ⟨hn b hb, (f2 b hb).2⟩
  refine codeAny_forLoop_any (fun n s' => ∃ i σ' H', Inv X pins σ' H' s' ∧ tn i s'.heap ∧ (∀ b ∈ fp, H' b = none) ∧ W i n σ' H') ?_ m0 ⟨0, σ, H2, I2, st2, fun b hb => (f2 b hb).1, w0⟩
  rintro n s3 ⟨i, σ3, H3, I3, st3, fr3, w3⟩
  rcases turn i n σ3 H3 w3 with ⟨stop, qn⟩ | ⟨go, N, hN, step⟩
  · refine wpAny_passesOwn hp (thn (T.done X rfl rfl rfl hc i pins s3 σ3 H3 X.xe I3 (stat fr3) st3 stop) fun r s4 ⟨hr, I4⟩ => ?_)
    subst hr
    exact wpAny_execs_nil ⟨σ3, H3, I4, qn⟩
  · refine wpAny_passesOwn hp (thn (T.item X rfl rfl rfl hc i pins s3 σ3 H3 X.xe I3 (stat fr3) st3 go) fun r s4 ⟨u, hr, h4⟩ => ?_)
    subst hr
    refine wpAny_passesOwn hp (thn h4 fun _ s5 ⟨x, H5, I5, r5, y5, st5, fr5⟩ => ?_)
    have I5' := I5.pinned (stat fr5) (T.obj _ _ st5)
    refine wpAny_passesOwn hp (thn (hg _ s5 σ3 H5 x u _ I5' r5 (step x H5 y5)) fun _ s6 ⟨σ6, H6, I6, q6⟩ => ?_)
    refine wpAny_passesOwn hp (thn (hb _ s6 σ6 H6 _ I6 q6) fun f s7 q7 => ?_)
    have again : ∀ {σ7 : St} {H7 : Hp}, Inv X (pins ++ pinsAt fp s5.heap) σ7 H7 s7 → N σ7 H7 → ∃ m, m < n ∧ ∃ i σ' H', Inv X pins σ' H' s7 ∧ tn i s7.heap ∧ (∀ b ∈ fp, H' b = none) ∧ W i m σ' H' := fun {σ7 H7} I7 n7 => by
      obtain ⟨m', hm, w7⟩ := hN σ7 H7 n7
      refine ⟨m', hm, i + 1, σ7, H7, I7.unpinned, T.keep _ _ _ st5 fun b hb o e => (I7.pin (b, o) (List.mem_append_right _ (List.mem_append_right _ (mem_pinsAt hb e)))).1, fun b hb => ?_, w7⟩
      obtain ⟨o, e, d⟩ := T.obj _ _ st5 b hb
      exact (I7.pin (b, o) (List.mem_append_right _ (List.mem_append_right _ (mem_pinsAt hb e)))).2.1
    cases f with
    | next => obtain ⟨σ7, H7, I7, n7⟩ := q7; exact again I7 n7
    | cont => obtain ⟨σ7, H7, I7, n7⟩ := q7; exact again I7 n7
    | brk => obtain ⟨σ7, H7, I7, q7⟩ := q7; exact ⟨σ7, H7, I7.unpinned, q7⟩
    | ret v => obtain ⟨x7, σ7, H7, I7, r7, q7⟩ := q7; exact ⟨x7, σ7, H7, I7.unpinned, r7, q7⟩
end

/-! ### the forms one uses -/
/-- over a list that the body leaves as it is -/
theorem for_list {K : PySem.W.Frag} {a : Addr} {xs : List V} {g : TG} {tb : TS} {D : Ends} {σ : St} {H : Hp} (Pv : Nat → St → Hp → Prop) (h0 : Pv 0 σ H) (hl : ∀ i σ H, i ≤ xs.length → Pv i σ H → SqL K H a xs)
    (hs : ∀ i x σ H, xs[i]? = some x → Pv i σ H → g x σ H fun σ2 H2 => tb { D with nx := Pv (i + 1), ct := Pv (i + 1), bk := D.nx } σ2 H2) (hd : ∀ σ H, Pv xs.length σ H → D.nx σ H) :
    ∃ W : Nat → Nat → St → Hp → Prop, (∃ m, W 0 m σ H) ∧ ∀ i m σ H, W i m σ H →
      ((Itl K a).stop i H ∧ D.nx σ H) ∨ ((Itl K a).go i H ∧ ∃ N : St → Hp → Prop, (∀ σ' H', N σ' H' → ∃ m', m' < m ∧ W (i + 1) m' σ' H') ∧ ∀ x H', (Itl K a).yld i H x H' → g x σ H' fun σ2 H2 => tb { D with nx := N, ct := N, bk := D.nx } σ2 H2) := by
  refine ⟨fun i m σ H => m = xs.length - i ∧ i ≤ xs.length ∧ Pv i σ H, ⟨xs.length, by simp, Nat.zero_le _, h0⟩, ?_⟩
  rintro i m σ H ⟨rfl, hi, p⟩
  have q := hl i σ H hi p
  by_cases hlt : i < xs.length
  · refine .inr ⟨⟨xs, xs[i], q, by simp [hlt]⟩, Pv (i + 1), fun σ' H' p' => ⟨xs.length - (i + 1), by omega, rfl, hlt, p'⟩, fun x H' y => ?_⟩
    obtain ⟨e, y⟩ := y
    subst e
    exact hs i x σ _ (y xs q) p
  · have e : i = xs.length := by omega
    subst e
    exact .inl ⟨⟨xs, q, Nat.le_refl _⟩, hd σ H p⟩
theorem for_tup {K : PySem.W.Frag} {a : Addr} {xs : List V} {g : TG} {tb : TS} {D : Ends} {σ : St} {H : Hp} (Pv : Nat → St → Hp → Prop) (h0 : Pv 0 σ H) (hl : ∀ i σ H, i ≤ xs.length → Pv i σ H → SqT K H a xs)
    (hs : ∀ i x σ H, xs[i]? = some x → Pv i σ H → g x σ H fun σ2 H2 => tb { D with nx := Pv (i + 1), ct := Pv (i + 1), bk := D.nx } σ2 H2) (hd : ∀ σ H, Pv xs.length σ H → D.nx σ H) :
    ∃ W : Nat → Nat → St → Hp → Prop, (∃ m, W 0 m σ H) ∧ ∀ i m σ H, W i m σ H →
      ((Itt K a).stop i H ∧ D.nx σ H) ∨ ((Itt K a).go i H ∧ ∃ N : St → Hp → Prop, (∀ σ' H', N σ' H' → ∃ m', m' < m ∧ W (i + 1) m' σ' H') ∧ ∀ x H', (Itt K a).yld i H x H' → g x σ H' fun σ2 H2 => tb { D with nx := N, ct := N, bk := D.nx } σ2 H2) := by
  refine ⟨fun i m σ H => m = xs.length - i ∧ i ≤ xs.length ∧ Pv i σ H, ⟨xs.length, by simp, Nat.zero_le _, h0⟩, ?_⟩
  rintro i m σ H ⟨rfl, hi, p⟩
  have q := hl i σ H hi p
  by_cases hlt : i < xs.length
  · refine .inr ⟨⟨xs, xs[i], q, by simp [hlt]⟩, Pv (i + 1), fun σ' H' p' => ⟨xs.length - (i + 1), by omega, rfl, hlt, p'⟩, fun x H' y => ?_⟩
    obtain ⟨e, y⟩ := y
    subst e
    exact hs i x σ _ (y xs q) p
  · have e : i = xs.length := by omega
    subst e
    exact .inl ⟨⟨xs, q, Nat.le_refl _⟩, hd σ H p⟩
theorem for_range {lo : Int} {n : Nat} {g : TG} {tb : TS} {D : Ends} {σ : St} {H : Hp} (Pv : Nat → St → Hp → Prop) (h0 : Pv 0 σ H)
    (hs : ∀ i σ H, i < n → Pv i σ H → g (.int (lo + i)) σ H fun σ2 H2 => tb { D with nx := Pv (i + 1), ct := Pv (i + 1), bk := D.nx } σ2 H2) (hd : ∀ σ H, Pv n σ H → D.nx σ H) :
    ∃ W : Nat → Nat → St → Hp → Prop, (∃ m, W 0 m σ H) ∧ ∀ i m σ H, W i m σ H →
      ((Itr lo n).stop i H ∧ D.nx σ H) ∨ ((Itr lo n).go i H ∧ ∃ N : St → Hp → Prop, (∀ σ' H', N σ' H' → ∃ m', m' < m ∧ W (i + 1) m' σ' H') ∧ ∀ x H', (Itr lo n).yld i H x H' → g x σ H' fun σ2 H2 => tb { D with nx := N, ct := N, bk := D.nx } σ2 H2) := by
  refine ⟨fun i m σ H => m = n - i ∧ i ≤ n ∧ Pv i σ H, ⟨n, by simp, Nat.zero_le _, h0⟩, ?_⟩
  rintro i m σ H ⟨rfl, hi, p⟩
  by_cases hlt : i < n
  · refine .inr ⟨hlt, Pv (i + 1), fun σ' H' p' => ⟨n - (i + 1), by omega, rfl, hlt, p'⟩, fun x H' y => ?_⟩
    obtain ⟨e, y⟩ := y
    subst e y
    exact hs i σ _ hlt p
  · have e : i = n := by omega
    subst e
    exact .inl ⟨Nat.le_refl _, hd σ H p⟩
end L2

namespace L2
open PySem PySem.Spec PyProof.Rows

abbrev R2 := V → V → Hp → VK → Prop
/-- a two-place operation on values: f is binaryOp op, inplaceOp op or compareOp op -/
def OpR (X : Cx) (f : Value → Value → Sem Value) (r : R2) : Prop :=
  ∀ (pins : List (Addr × Obj)) (s : Shared) (σ : St) (H : Hp) (x y : V) (v u : Value) (Q : VK), Inv X pins σ H s → RelV x v → RelV y u → r x y H Q →
    wpAny (model X.prog X.w) X.A (f v u) (EP X pins σ Q) X.xe s
/-- a one-place operation -/
def UnR (X : Cx) (f : Value → Sem Value) (r : V → Hp → VK → Prop) : Prop :=
  ∀ (pins : List (Addr × Obj)) (s : Shared) (σ : St) (H : Hp) (x : V) (v : Value) (Q : VK), Inv X pins σ H s → RelV x v → r x H Q →
    wpAny (model X.prog X.w) X.A (f v) (EP X pins σ Q) X.xe s
/-- a call of a value that is known (a builtin, a type) with values -/
def CallR (X : Cx) (f : Value) (r : List V → Hp → VK → Prop) : Prop :=
  ∀ (pins : List (Addr × Obj)) (s : Shared) (σ : St) (H : Hp) (xs : List V) (us : List Value) (Q : VK), Inv X pins σ H s → Vals xs us → r xs H Q →
    wpAny (model X.prog X.w) X.A (call f us) (EP X pins σ Q) X.xe s
def tOp (r : R2) (ta tb : TE) : TE := fun σ H Q => ta σ H fun x H1 => tb σ H1 fun y H2 => r x y H2 Q
def tUn (r : V → Hp → VK → Prop) (ta : TE) : TE := fun σ H Q => ta σ H fun x H1 => r x H1 Q
/-- ints in, under C, and a value out -/
def rI (C : Int → Int → Prop) (g : Int → Int → V) : R2 := fun x y H Q => ∃ i j, x = .int i ∧ y = .int j ∧ C i j ∧ Q (g i j) H
def rI0 (g : Int → Int → V) : R2 := fun x y H Q => ∃ i j, x = .int i ∧ y = .int j ∧ Q (g i j) H
def rU (g : Int → V) : V → Hp → VK → Prop := fun x H Q => ∃ i, x = .int i ∧ Q (g i) H

section
variable {X : Cx} {a b c : Expr} {ta tb tc : TE} {pos : Pos}

theorem binT (ha : PE X a ta) (hb : PE X b tb) {pins : List (Addr × Obj)} {s : Shared} {σ : St} {H : Hp} {R : V → V → Hp → Prop} (I : Inv X pins σ H s)
    (h : ta σ H fun x H1 => tb σ H1 fun y H2 => R x y H2) {Q : Value → Shared → Prop} {f : Value → Value → Sem Value}
    (hf : ∀ v u s2 x y H2, Inv X pins σ H2 s2 → RelV x v → RelV y u → R x y H2 → wpAny (model X.prog X.w) X.A (f v u) Q X.xe s2) :
    wpAny (model X.prog X.w) X.A (eval a X.env) (fun v s₁ => wpAny (model X.prog X.w) X.A (eval b X.env) (fun u s₂ => wpAny (model X.prog X.w) X.A (f v u) Q X.xe s₂) X.xe s₁) X.xe s := by
  refine thn (ha pins s σ H _ I h) fun v s1 ⟨x, H1, I1, r1, q1⟩ => ?_
  refine thn (hb pins s1 σ H1 _ I1 q1) fun u s2 ⟨y, H2, I2, r2, q2⟩ => ?_
  exact hf v u s2 x y H2 I2 r1 r2 q2

theorem pe_op {op : Operator} {r : R2} (ho : OpR X (binaryOp op) r) (ha : PE X a ta) (hb : PE X b tb) : PE X (.BinOp a op b pos) (tOp r ta tb) := by
  intro pins s σ H Q I h
  exact wpAny_BinOp (binT ha hb I h fun v u s2 x y H2 I2 rx ry q => ho pins s2 σ H2 x y v u Q I2 rx ry q)
theorem pe_un {op : UnaryOp} {r : V → Hp → VK → Prop} (ho : UnR X (unaryOp op) r) (ha : PE X a ta) : PE X (.UnaryOp op a pos) (tUn r ta) := by
  intro pins s σ H Q I h
  exact UnaryOp_ (thn (ha pins s σ H _ I h) fun v s1 ⟨x, H1, I1, r1, q1⟩ => ho pins s1 σ H1 x v Q I1 r1 q1)
/-! ### ints -/
theorem opI {f : Value → Value → Sem Value} {C : Int → Int → Prop} {g : Int → Int → Int}
    (rule : ∀ (i j : Int) (t u : Tok) (s : Shared) (Q : Value → Shared → Prop) (E : Value → Shared → Prop), C i j → Q (.int (g i j) s.toks) { s with toks := s.toks + 1 } → wpAny (model X.prog X.w) X.A (f (.int i t) (.int j u)) Q E s) :
    OpR X f (rI C fun i j => .int (g i j)) := by
  intro pins s σ H x y v u Q I rx ry h
  obtain ⟨i, j, rfl, rfl, hc, q⟩ := h
  obtain ⟨t, rfl⟩ := rx
  obtain ⟨t', rfl⟩ := ry
  exact rule i j t t' s _ _ hc ⟨.int (g i j), H, I.tok _, ⟨_, rfl⟩, q⟩
theorem opI0 {f : Value → Value → Sem Value} {g : Int → Int → Int}
    (rule : ∀ (i j : Int) (t u : Tok) (s : Shared) (Q : Value → Shared → Prop) (E : Value → Shared → Prop), Q (.int (g i j) s.toks) { s with toks := s.toks + 1 } → wpAny (model X.prog X.w) X.A (f (.int i t) (.int j u)) Q E s) :
    OpR X f (rI0 fun i j => .int (g i j)) := by
  intro pins s σ H x y v u Q I rx ry h
  obtain ⟨i, j, rfl, rfl, q⟩ := h
  obtain ⟨t, rfl⟩ := rx
  obtain ⟨t', rfl⟩ := ry
  exact rule i j t t' s _ _ ⟨.int (g i j), H, I.tok _, ⟨_, rfl⟩, q⟩
theorem opB0 {f : Value → Value → Sem Value} {g : Int → Int → Bool}
    (rule : ∀ (i j : Int) (t u : Tok) (s : Shared) (Q : Value → Shared → Prop) (E : Value → Shared → Prop), Q (.bool (g i j)) s → wpAny (model X.prog X.w) X.A (f (.int i t) (.int j u)) Q E s) :
    OpR X f (rI0 fun i j => .bl (g i j)) := by
  intro pins s σ H x y v u Q I rx ry h
  obtain ⟨i, j, rfl, rfl, q⟩ := h
  obtain ⟨t, rfl⟩ := rx
  obtain ⟨t', rfl⟩ := ry
  exact rule i j t t' s _ _ ⟨.bl (g i j), H, I, rfl, q⟩

def CDiv (i j : Int) : Prop := 0 < j ∧ j < 1073741824
def CPow (i j : Int) : Prop := 0 ≤ j ∧ j ≤ 1000000 ∧ i.natAbs < 2 ^ 64
def CMul (i j : Int) : Prop := (-(2 ^ 64) < i ∧ i < 2 ^ 64) ∨ (-(2 ^ 64) < j ∧ j < 2 ^ 64)
theorem CMul.ok {i j : Int} (h : CMul i j) : IntMulOk i j := by
  rcases h with ⟨h1, h2⟩ | ⟨h1, h2⟩
  · exact .of_left (intBits_le_64 h1 h2)
  · exact .of_right (intBits_le_64 h1 h2)
theorem op_add : OpR X (binaryOp .Add) (rI0 fun i j => .int (i + j)) := opI0 fun _ _ _ _ _ _ _ q => add_int q
theorem op_sub : OpR X (binaryOp .Sub) (rI0 fun i j => .int (i - j)) := opI0 fun _ _ _ _ _ _ _ q => sub_int q
theorem op_mul : OpR X (binaryOp .Mult) (rI CMul fun i j => .int (i * j)) := opI fun _ _ _ _ _ _ _ hc q => mul_int q hc.ok
/-- // by a positive divisor -/
theorem op_fdiv : OpR X (binaryOp .FloorDiv) (rI CDiv fun i j => .int (i / j)) := opI fun i j _ _ _ _ _ hc q => by
  have h1 : (0 : Int) < j := hc.1
  have h2 : j < 1073741824 := hc.2
  exact floordiv_int (by omega) (by rw [Int.fdiv_eq_ediv_of_nonneg i (by omega)]; exact q) (.inl (PyProof.noPylong_small (by omega)))
/-- % by a positive divisor of any size -/
theorem op_mod : OpR X (binaryOp .Mod) (rI (fun _ j => 0 < j) fun i j => .int (i % j)) := opI fun i j _ _ _ _ _ hc q => by
  have h1 : (0 : Int) < j := hc
  exact mod_int' (by omega) (by rw [Int.fmod_eq_emod_of_nonneg i (by omega)]; exact q)
theorem op_pow : OpR X (binaryOp .Pow) (rI CPow fun i j => .int (i ^ j.toNat)) := opI fun _ _ _ _ _ _ _ hc q => pow_int_small hc.1 hc.2.1 hc.2.2 q
theorem unI {f : Value → Sem Value} {g : Int → Int}
    (rule : ∀ (i : Int) (t : Tok) (s : Shared) (Q : Value → Shared → Prop) (E : Value → Shared → Prop), Q (.int (g i) s.toks) { s with toks := s.toks + 1 } → wpAny (model X.prog X.w) X.A (f (.int i t)) Q E s) :
    UnR X f (rU fun i => .int (g i)) := by
  intro pins s σ H x v Q I rx h
  obtain ⟨i, rfl, q⟩ := h
  obtain ⟨t, rfl⟩ := rx
  exact rule i t s _ _ ⟨.int (g i), H, I.tok _, ⟨_, rfl⟩, q⟩
theorem un_neg : UnR X (unaryOp .USub) (rU fun i => .int (-i)) := unI fun _ _ _ _ _ q => neg_int q
/-! ### bools among ints: n += (a < b) -/
end

/-! ### comparisons -/
/-- the scalars that == tells apart as data does -/
def scal : V → V → Bool
  | .non, .non => true | .non, .int _ => true | .int _, .non => true | .non, .bl _ => true | .bl _, .non => true | .non, .str _ => true | .str _, .non => true
  | .int _, .int _ => true | .bl _, .bl _ => true | .str _, .str _ => true | .byt _, .byt _ => true
  | .int _, .str _ => true | .str _, .int _ => true | .bl _, .str _ => true | .str _, .bl _ => true
  | _, _ => false
def rEq : R2 := fun x y H Q => scal x y = true ∧ Q (.bl (decide (x = y))) H
def rNe : R2 := fun x y H Q => scal x y = true ∧ Q (.bl (!decide (x = y))) H

theorem dec_int {i j : Int} : decide (V.int i = V.int j) = (i == j) := by
  rw [Bool.eq_iff_iff]
  simp
theorem dec_bl {i j : Bool} : decide (V.bl i = V.bl j) = (i == j) := by
  rw [Bool.eq_iff_iff]
  simp
theorem dec_str {i j : Str} : decide (V.str i = V.str j) = (i == j) := by
  rw [Bool.eq_iff_iff]
  simp
theorem dec_byt {i j : Array UInt8} : decide (V.byt i = V.byt j) = (i.toList == j.toList) := by
  rw [Bool.eq_iff_iff]
  cases i
  cases j
  simp

section
variable {X : Cx} {a b c : Expr} {ta tb tc : TE} {pos : Pos}
theorem fin_bl {pins : List (Addr × Obj)} {σ : St} {H : Hp} {s : Shared} {Q : VK} {k k' : Bool} (I : Inv X pins σ H s) (q : Q (.bl k) H) (e : k = k') : EP X pins σ Q (.bool k') s := by
  subst e
  exact ⟨.bl k, H, I, rfl, q⟩
theorem op_eq : OpR X (compareOp .Eq) rEq := by
  intro pins s σ H x y v u Q I rx ry h
  obtain ⟨hs, q⟩ := h
  cases x with
  | non =>
    cases rx
    cases y with
    | non => cases ry; exact PySem.EqNone.eq_none_none (fin_bl I q (by simp))
    | bl j => cases ry; exact PySem.EqNone.eq_none_bool (fin_bl I q (by simp))
    | int j => obtain ⟨t', rfl⟩ := ry; exact PySem.EqNone.eq_none_int (fin_bl I q (by simp))
    | str j => obtain ⟨t', rfl⟩ := ry; exact PySem.EqNone.eq_none_str (fin_bl I q (by simp))
    | _ => exact absurd (show false = true from hs) Bool.false_ne_true
  | bl i =>
    cases rx
    cases y with
    | non => cases ry; exact PySem.EqNone.eq_bool_none (fin_bl I q (by simp))
    | bl j => cases ry; exact eq_bool (fin_bl I q dec_bl)
    | str j => obtain ⟨t', rfl⟩ := ry; exact PySem.EqMixed.eq_bool_str (fin_bl I q (by simp))
    | _ => exact absurd (show false = true from hs) Bool.false_ne_true
  | int i =>
    obtain ⟨t, rfl⟩ := rx
    cases y with
    | non => cases ry; exact PySem.EqNone.eq_int_none (fin_bl I q (by simp))
    | int j => obtain ⟨t', rfl⟩ := ry; exact eq_int (fin_bl I q dec_int)
    | str j => obtain ⟨t', rfl⟩ := ry; exact PySem.EqMixed.eq_int_str (fin_bl I q (by simp))
    | _ => exact absurd (show false = true from hs) Bool.false_ne_true
  | str i =>
    obtain ⟨t, rfl⟩ := rx
    cases y with
    | non => cases ry; exact PySem.EqNone.eq_str_none (fin_bl I q (by simp))
    | bl j => cases ry; exact PySem.EqMixed.eq_str_bool (fin_bl I q (by simp))
    | int j => obtain ⟨t', rfl⟩ := ry; exact PySem.EqMixed.eq_str_int (fin_bl I q (by simp))
    | str j => obtain ⟨t', rfl⟩ := ry; exact eq_str (fin_bl I q dec_str)
    | _ => exact absurd (show false = true from hs) Bool.false_ne_true
  | byt i =>
    obtain ⟨t, rfl⟩ := rx
    cases y with
    | byt j => obtain ⟨t', rfl⟩ := ry; exact PySem.W.eq_bytes (fin_bl I q dec_byt)
    | _ => exact absurd (show false = true from hs) Bool.false_ne_true
  | _ => cases y <;> exact absurd (show false = true from hs) Bool.false_ne_true
theorem op_ne : OpR X (compareOp .NotEq) rNe := by
  intro pins s σ H x y v u Q I rx ry h
  obtain ⟨hs, q⟩ := h
  cases x with
  | non =>
    cases rx
    cases y with
    | non => cases ry; exact PySem.EqNone.ne_none_none (fin_bl I q (by simp))
    | bl j => cases ry; exact PySem.EqNone.ne_none_bool (fin_bl I q (by simp))
    | int j => obtain ⟨t', rfl⟩ := ry; exact PySem.EqNone.ne_none_int (fin_bl I q (by simp))
    | str j => obtain ⟨t', rfl⟩ := ry; exact PySem.EqNone.ne_none_str (fin_bl I q (by simp))
    | _ => exact absurd (show false = true from hs) Bool.false_ne_true
  | bl i =>
    cases rx
    cases y with
    | non => cases ry; exact PySem.EqNone.ne_bool_none (fin_bl I q (by simp))
    | bl j => cases ry; exact ne_bool (fin_bl I q (congrArg not dec_bl))
    | str j => obtain ⟨t', rfl⟩ := ry; exact PySem.EqMixed.ne_bool_str (fin_bl I q (by simp))
    | _ => exact absurd (show false = true from hs) Bool.false_ne_true
  | int i =>
    obtain ⟨t, rfl⟩ := rx
    cases y with
    | non => cases ry; exact PySem.EqNone.ne_int_none (fin_bl I q (by simp))
    | int j => obtain ⟨t', rfl⟩ := ry; exact ne_int (fin_bl I q (congrArg not dec_int))
    | str j => obtain ⟨t', rfl⟩ := ry; exact PySem.EqMixed.ne_int_str (fin_bl I q (by simp))
    | _ => exact absurd (show false = true from hs) Bool.false_ne_true
  | str i =>
    obtain ⟨t, rfl⟩ := rx
    cases y with
    | non => cases ry; exact PySem.EqNone.ne_str_none (fin_bl I q (by simp))
    | bl j => cases ry; exact PySem.EqMixed.ne_str_bool (fin_bl I q (by simp))
    | int j => obtain ⟨t', rfl⟩ := ry; exact PySem.EqMixed.ne_str_int (fin_bl I q (by simp))
    | str j => obtain ⟨t', rfl⟩ := ry; exact ne_str (fin_bl I q (congrArg not dec_str))
    | _ => exact absurd (show false = true from hs) Bool.false_ne_true
  | byt i =>
    obtain ⟨t, rfl⟩ := rx
    cases y with
    | byt j => obtain ⟨t', rfl⟩ := ry; exact PySem.W.ne_bytes (fin_bl I q (congrArg not dec_byt))
    | _ => exact absurd (show false = true from hs) Bool.false_ne_true
  | _ => cases y <;> exact absurd (show false = true from hs) Bool.false_ne_true

theorem op_lt : OpR X (compareOp .Lt) (rI0 fun i j => .bl (decide (i < j))) := opB0 fun _ _ _ _ _ _ _ q => lt_int q
theorem op_le : OpR X (compareOp .LtE) (rI0 fun i j => .bl (decide (i ≤ j))) := opB0 fun _ _ _ _ _ _ _ q => le_int q
theorem op_gt : OpR X (compareOp .Gt) (rI0 fun i j => .bl (decide (j < i))) := opB0 fun _ _ _ _ _ _ _ q => gt_int q
theorem op_ge : OpR X (compareOp .GtE) (rI0 fun i j => .bl (decide (j ≤ i))) := opB0 fun _ _ _ _ _ _ _ q => ge_int q
/-- is None, is not None: the right side a value none -/
theorem op_isN : OpR X (compareOp .Is) (fun x y H Q => y = .non ∧ Q (.bl (decide (x = .non))) H) := by
  intro pins s σ H x y v u Q I rx ry h
  obtain ⟨rfl, q⟩ := h
  cases ry
  refine is_none_gen (fin_bl I q ?_)
  cases x <;> first
    | (cases rx; rfl)
    | (obtain ⟨t, rfl⟩ := rx; rfl)
/-- two rules for one operation: by cases -/
theorem OpR.or {f : Value → Value → Sem Value} {r r' : R2} (h : OpR X f r) (h' : OpR X f r') : OpR X f (fun x y H Q => r x y H Q ∨ r' x y H Q) := by
  intro pins s σ H x y v u Q I rx ry q
  rcases q with q | q
  · exact h pins s σ H x y v u Q I rx ry q
  · exact h' pins s σ H x y v u Q I rx ry q

theorem nomark (b : Expr) {op : CmpOp} (h : op ≠ .In := by decide) (h2 : op ≠ .NotIn := by decide) : behindInMarks op b = false := by
  have e1 : (op == CmpOp.In) = false := by cases op <;> first | rfl | exact absurd rfl h
  have e2 : (op == CmpOp.NotIn) = false := by cases op <;> first | rfl | exact absurd rfl h2
  cases b <;> simp [behindInMarks, e1, e2]
/-- a comparison as a value; hm: nomark b, or (for in, not in) by with_unfolding_all rfl -/
theorem pe_cmpR {op : CmpOp} {r : R2} (ho : OpR X (compareOp op) r) (ha : PE X a ta) (hb : PE X b tb) (hm : behindInMarks op b = false) : PE X (.Compare a [op] [b] pos) (tOp r ta tb) := by
  intro pins s σ H Q I h
  exact wpAny_Compare1 (binT ha hb I h fun v u s2 x y H2 I2 rx ry q => ho pins s2 σ H2 x y v u Q I2 rx ry q) hm
/-- a reading of a value as a test -/
def tTest (t : TE) : TT := fun σ H Q => t σ H fun x H' => ∃ k, x = .bl k ∧ Q k H'
theorem pt_cmpR {op : CmpOp} {r : R2} (ho : OpR X (compareOp op) r) (ha : PE X a ta) (hb : PE X b tb) (hm : behindInMarks op b = false) : PT X (.Compare a [op] [b] pos) (tTest (tOp r ta tb)) := by
  intro pins s σ H Q I h
  refine wpAny_isTrue_Compare1 (thn (ha pins s σ H _ I h) fun v s1 ⟨x, H1, I1, r1, q1⟩ => thn (hb pins s1 σ H1 _ I1 q1) fun u s2 ⟨y, H2, I2, r2, q2⟩ =>
    thn (ho pins s2 σ H2 x y v u _ I2 r1 r2 q2) fun c s3 ⟨z, H3, I3, r3, k, e, q3⟩ => ?_) hm
  subst e
  cases r3
  exact wpAny_truthy_bool ⟨H3, I3, q3⟩
/-- a op1 b op2 c -/
def tChain (r r' : R2) (ta tb tc : TE) : TE := fun σ H Q => ta σ H fun x H1 => tb σ H1 fun y H2 => r x y H2 fun z H3 => ∃ k, z = .bl k ∧
  (if k = true then tc σ H3 fun w' H4 => r' y w' H4 Q else Q (.bl false) H3)
theorem pe_chain {op op' : CmpOp} {r r' : R2} (ho : OpR X (compareOp op) r) (ho' : OpR X (compareOp op') r') (ha : PE X a ta) (hb : PE X b tb) (hc : PE X c tc)
    (hm : lastMarks [op, op'] [b, c] = false := by with_unfolding_all rfl) : PE X (.Compare a [op, op'] [b, c] pos) (tChain r r' ta tb tc) := by
  intro pins s σ H Q I h
  refine Compare_chain (thn (ha pins s σ H _ I h) fun v s1 ⟨x, H1, I1, r1, q1⟩ => chain_link (thn (hb pins s1 σ H1 _ I1 q1) fun u s2 ⟨y, H2, I2, r2, q2⟩ =>
    thn (ho pins s2 σ H2 x y v u _ I2 r1 r2 q2) fun d s3 ⟨z, H3, I3, r3, k, e, q3⟩ => ?_)) hm
  subst e
  cases r3
  refine wpAny_truthy_bool ?_
  cases k with
  | false => exact ite_ff ⟨.bl false, H3, I3, rfl, q3⟩
  | true => exact ite_tt (chain_last (thn (hc pins s3 σ H3 _ I3 q3) fun w' s4 ⟨z', H4, I4, r4, q4⟩ => ho' pins s4 σ H4 y z' u w' Q I4 r2 r4 q4))
theorem pt_chain {op op' : CmpOp} {r r' : R2} (ho : OpR X (compareOp op) r) (ho' : OpR X (compareOp op') r') (ha : PE X a ta) (hb : PE X b tb) (hc : PE X c tc)
    (hm : lastMarks [op, op'] [b, c] = false := by with_unfolding_all rfl) : PT X (.Compare a [op, op'] [b, c] pos) (tTest (tChain r r' ta tb tc)) := by
  intro pins s σ H Q I h
  refine isTrue_chain (thn (ha pins s σ H _ I h) fun v s1 ⟨x, H1, I1, r1, q1⟩ => test_link (thn (hb pins s1 σ H1 _ I1 q1) fun u s2 ⟨y, H2, I2, r2, q2⟩ =>
    thn (ho pins s2 σ H2 x y v u _ I2 r1 r2 q2) fun d s3 ⟨z, H3, I3, r3, k, e, q3⟩ => ?_)) hm
  subst e
  cases r3
  refine wpAny_truthy_bool ?_
  cases k with
  | false =>
    obtain ⟨k', e', q'⟩ := q3
    cases e'
    exact ite_ff ⟨H3, I3, q'⟩
  | true =>
    refine ite_tt (test_last (thn (hc pins s3 σ H3 _ I3 q3) fun w' s4 ⟨z', H4, I4, r4, q4⟩ => thn (ho' pins s4 σ H4 y z' u w' _ I4 r2 r4 q4) fun d' s5 ⟨z2, H5, I5, r5, k2, e2, q5⟩ => ?_))
    subst e2
    cases r5
    exact wpAny_truthy_bool ⟨H5, I5, q5⟩

/-! ### truth -/
theorem line63 : (sizeLine : Nat) < 2 ^ 63 := by rw [sizeLine_eq]; decide
/-! ### strs and bytes -/
/-! ### scalar builtins, by CallR -/
theorem vals1 {x : V} {us : List Value} (r : Vals [x] us) : ∃ u, us = [u] ∧ RelV x u := by
  cases r with
  | cons r1 r2 => cases r2; exact ⟨_, rfl, r1⟩
theorem vals2 {x y : V} {us : List Value} (r : Vals [x, y] us) : ∃ u w', us = [u, w'] ∧ RelV x u ∧ RelV y w' := by
  cases r with
  | cons r1 r2 =>
    cases r2 with
    | cons r3 r4 => cases r4; exact ⟨_, _, rfl, r1, r3⟩
theorem call_abs : CallR X (.builtin "abs") (fun xs H Q => ∃ i, xs = [.int i] ∧ Q (.int (if i < 0 then -i else i)) H) := by
  intro pins s σ H xs us Q I r h
  obtain ⟨i, rfl, q⟩ := h
  obtain ⟨u, rfl, t, rfl⟩ := vals1 r
  exact call_abs_int fun u tk => ⟨.int (if i < 0 then -i else i), H, I.tok _, ⟨_, rfl⟩, q⟩
end
end L2

namespace L2
open PySem PySem.Spec PyProof.Rows

/-! ### an instance, its attributes a map -/
structure ObjM (h : Heap) (x dx C : Addr) (mA : Str → Option Value) : Prop where
  obj : h.get? x = some (PySem.W.instObj C dx)
  ns : h.Ns1 dx mA
  ne : dx ≠ x

theorem lookIn_ns {h : Heap} {dx : Addr} {mA : Str → Option Value} (n : h.Ns1 dx mA) : ∃ od, h.get? dx = some od ∧ ∀ name, PySem.W.lookIn name od = some (mA name) := by
  obtain ⟨o, es, ep, ho, hd, hk, _, hm⟩ := n
  refine ⟨o, ho, fun name => ?_⟩
  have e := hm name
  unfold nsFind findBy at e
  rw [← Array.find?_toList] at e
  unfold PySem.W.lookIn
  rw [hd]
  dsimp only
  split
  · rename_i y q
    rw [q] at e
    exact congrArg some e
  · rename_i q
    rw [q] at e
    have a : es.toList.any (·.refKey) = false := by
      rw [List.any_eq_false]
      intro y hy
      obtain ⟨z, t, hkey⟩ := hk y (Array.mem_toList_iff.mp hy)
      simp [DictEntry.refKey, hkey]
    have a' : ¬ es.toList.any (·.refKey) = true := by rw [a]; exact Bool.false_ne_true
    rw [if_neg a']
    exact congrArg some e

theorem ObjM.look {h : Heap} {x dx C : Addr} {mA : Str → Option Value} (I : ObjM h x dx C mA) : ∃ od, PySem.W.InstAt h x (PySem.W.instObj C dx) C (some od) ∧ ∀ name, PySem.W.lookIn name od = some (mA name) :=
  let ⟨od, ho, hl⟩ := lookIn_ns I.ns
  ⟨od, ⟨I.obj, rfl, rfl, ho⟩, hl⟩

section
variable {prog : Program} {w : World} {A : Around} {E : Value → Shared → Prop} {s : Shared} {K : PySem.W.Frag} {x dx C f : Addr} {mA : Str → Option Value} {name : Str} {v : Value}

theorem get_map {expr : Bool} {Q : Value → Shared → Prop} (X : K.In s.heap) (I : ObjM s.heap x dx C mA) (hg : PySem.W.plainGet K C name = true) (hh : PySem.W.hasDictIn K C = true)
    (ha : PySem.W.findIn K (.ref C) name = some none) (hv : mA name = some v) (hv' : PySem.W.handedIn v = true) (h : Q v { s with toks := s.toks + 1 }) :
    wpAny (model prog w) A (getAttr (.ref x) name expr) Q E s := by
  obtain ⟨od, J, hl⟩ := I.look
  exact PySem.W.get_value X J (PySem.W.plainGet_of hg).1 (PySem.W.findObj_own hh ha rfl (by rw [hl, hv])) hv' h

theorem get_meth {pl : Sem Bool} {Q : Value × List Value → Shared → Prop} (X : K.In s.heap) (I : ObjM s.heap x dx C mA) (hg : PySem.W.plainGet K C name = true)
    (hf : PySem.W.findIn K (.ref C) name = some (some (.ref f))) (ht : PySem.W.isFn K (.ref f) = true) (hv : mA name = none) (h : Q (.ref f, [.ref x]) s) :
    wpAny (model prog w) A (getMethod (.ref x) name pl) Q E s := by
  obtain ⟨od, J, hl⟩ := I.look
  exact PySem.W.method_fn X J (PySem.W.plainGet_of hg).1 (PySem.W.plainGet_of hg).2 hf (beq_iff_eq.mp ht) (by show (PySem.W.lookIn name od).map (·.isSome) = some false; rw [hl, hv]; rfl) h

theorem set_map {ns : List Str} {Q : Unit → Shared → Prop} (X : K.In s.heap) (I : ObjM s.heap x dx C mA)
    (hs : PySem.W.findIn K (.ref C) "__setattr__" = some (some (.builtin "object.__setattr__"))) (hp : PySem.W.plainOver K C = true) (ht : PySem.W.takerIn K C name = some none) (hh : PySem.W.hasDictIn K C = true)
    (hw : PySem.Within mA ns) (hsz : ns.length ≤ sizeLine)
    (h : ∀ h', ObjM h' x dx C (fun y => if y = name then some v else mA y) → Heap.SameBut dx s.heap h' → Q () { s with heap := h', toks := s.toks + 2 }) :
    wpAny (model prog w) A (setAttr (.ref x) name v) Q E s := by
  obtain ⟨od, J, hl⟩ := I.look
  refine PySem.W.set_plain X J hs (PySem.W.osa_open (s := { s with toks := s.toks + 1 }) (r := none) X J hp ht fun b => ?_)
  obtain ⟨cd, hc, hd'⟩ := PySem.W.any_some hh
  have hx : s.heap.get? x = some ⟨.ref C, some dx, .plain, #[]⟩ := I.obj
  refine wpAny_bind (wpAny_pure (wpAny_bind (wpAny_bind (wpAny_loadPart hx (wpAny_bind (PySem.W.Looks.here (s := { s with toks := s.toks + 1 }) (PySem.W.looks_clsIn X hc) ?_))))))
  rw [hd']
  refine wpAny_pure (a := some dx) (wpAny_bind (wpAny_pure (wpAny_bind ?_)))
  refine wpAny_nsSet1 (s := { s with toks := s.toks + 1 }) I.ns fun h' hn2 hs2 => ?_
  obtain ⟨oD, esD, epD, hoD, hdD, hcD⟩ := hn2.count (PySem.Within.cons name v hw)
  refine wpAny_bind (wpAny_lookBehind hoD (by rw [hdD]; exact pastItsLine_dict (Nat.le_trans hcD (by rw [List.length_cons]; omega))) ?_)
  exact wpAny_pure (h _ ⟨(hs2.2 _ (Ne.symm I.ne)).trans I.obj, hn2, I.ne⟩ hs2)

/-- C(..): the dict at the heap's end, the instance behind it; then its __init__ -/
theorem make_map {R : Result → Shared → Prop} {vs : List Value} {kw : List (Str × Value)} (X : K.In s.heap) (hm : PySem.W.makesIn K C = true)
    (hi : PySem.W.findIn K (.ref C) "__init__" = some (some (.ref f))) (hf : PySem.W.typeIn K (.ref f) = some (.type "function"))
    (h : codeAny (model prog w) (A.under (.builtin "type.__call__" ⟨.ref C :: vs, kw⟩)) (.call (.ref f) ⟨.ref (s.heap.objs.size + 1) :: vs, kw⟩) (PySem.W.InitBack (s.heap.objs.size + 1) R)
      { s with heap := (s.heap.push PySem.W.emptyDict).push (PySem.W.instObj C s.heap.objs.size) }) :
    codeAny (model prog w) A (.call (.ref C) ⟨vs, kw⟩) R s := by
  obtain ⟨hh, g, d, t, os⟩ := s
  exact PySem.W.make_core (PySem.W.makes_of X hm) (PySem.W.looks_findIn X hi) (fun self => PySem.W.bind_fn X self hf) (.inl rfl) h
end

/-! ### the attributes as a list of pairs -/
def putF (f : Str) (v : V) : List (Str × V) → List (Str × V)
  | [] => [(f, v)]
  | (g, x) :: r => if g = f then (g, v) :: r else (g, x) :: putF f v r
theorem lookup_putF (f g : Str) (v : V) : ∀ fs : List (Str × V), (putF f v fs).lookup g = if g = f then some v else fs.lookup g
  | [] => by
    show List.lookup g [(f, v)] = _
    by_cases h : g = f
    · have hb : (g == f) = true := beq_iff_eq.mpr h
      simp only [List.lookup, hb, if_pos h]
    · have hb : (g == f) = false := beq_eq_false_iff_ne.mpr h
      simp only [List.lookup, hb, if_neg h]
  | (k, x) :: r => by
    have ih := lookup_putF f g v r
    rw [show putF f v ((k, x) :: r) = (if k = f then (k, v) :: r else (k, x) :: putF f v r) from rfl]
    by_cases hk : k = f
    · rw [if_pos hk]
      by_cases h : g = k
      · have hb : (g == k) = true := beq_iff_eq.mpr h
        simp only [List.lookup, hb, if_pos (h.trans hk)]
      · have hb : (g == k) = false := beq_eq_false_iff_ne.mpr h
        simp only [List.lookup, hb, if_neg (fun e : g = f => h (e.trans hk.symm))]
    · rw [if_neg hk]
      by_cases h : g = k
      · have hb : (g == k) = true := beq_iff_eq.mpr h
        simp only [List.lookup, hb, if_neg (fun e : g = f => hk (h.symm.trans e))]
      · have hb : (g == k) = false := beq_eq_false_iff_ne.mpr h
        simp only [List.lookup, hb]
        exact ih
theorem keys_putF (f : Str) (v : V) : ∀ fs : List (Str × V), f ∈ (putF f v fs).map (·.1) ∧ ∀ g, g ∈ fs.map (·.1) → g ∈ (putF f v fs).map (·.1)
  | [] => ⟨by simp [putF], fun g h => by simp at h⟩
  | (k, x) :: r => by
    obtain ⟨i1, i2⟩ := keys_putF f v r
    rw [show putF f v ((k, x) :: r) = (if k = f then (k, v) :: r else (k, x) :: putF f v r) from rfl]
    by_cases hk : k = f
    · rw [if_pos hk]
      subst hk
      exact ⟨by simp, fun g h => by simpa using h⟩
    · rw [if_neg hk]
      refine ⟨?_, fun g h => ?_⟩
      · rw [List.map_cons]
        exact List.mem_cons_of_mem _ i1
      · rw [List.map_cons] at h ⊢
        rcases List.mem_cons.mp h with e | e
        · exact List.mem_cons.mpr (.inl e)
        · exact List.mem_cons_of_mem _ (i2 g e)
theorem length_putF (f : Str) (v : V) : ∀ fs : List (Str × V), (putF f v fs).length ≤ fs.length + 1
  | [] => by simp [putF]
  | (k, x) :: r => by
    have ih := length_putF f v r
    rw [show putF f v ((k, x) :: r) = (if k = f then (k, v) :: r else (k, x) :: putF f v r) from rfl]
    by_cases hk : k = f
    · rw [if_pos hk, List.length_cons, List.length_cons]; omega
    · rw [if_neg hk, List.length_cons, List.length_cons]; omega

theorem RelO.some_of {v : V} {o : Option Value} (r : RelO (some v) o) : ∃ u, o = some u ∧ RelV v u := by
  cases o with
  | none => exact (show False from r).elim
  | some u => exact ⟨u, rfl, r⟩
theorem RelO.none_of {o : Option Value} (r : RelO none o) : o = none := by
  cases o with
  | none => rfl
  | some u => exact (show False from r).elim
theorem handed_of {v : V} {u : Value} (r : RelV v u) : PySem.W.handedIn u = true := by
  cases v with
  | non => cases (show u = Value.none from r); rfl
  | bl b => cases (show u = Value.bool b from r); rfl
  | int i => obtain ⟨t, e⟩ := (show ∃ t, u = Value.int i t from r); cases e; rfl
  | str x => obtain ⟨t, e⟩ := (show ∃ t, u = Value.str x t from r); cases e; rfl
  | byt b => obtain ⟨t, e⟩ := (show ∃ t, u = Value.bytes b t from r); cases e; rfl
  | flt b => obtain ⟨t, e⟩ := (show ∃ t, u = Value.float b t from r); cases e; rfl
  | ref a => cases (show u = Value.ref a from r); rfl
  | ty n => cases (show u = Value.type n from r); rfl

section
variable {P : Program} {w : World} {H H' : Hp} {h h' : Heap} {a C dx : Addr} {fs fs' : List (Str × V)}
theorem ins_get (hok : HOk P w H h) (e : H a = some (.ins C dx fs)) : ∃ mA, ObjM h a dx C mA ∧ (∀ f, RelO (fs.lookup f) (mA f)) ∧ PySem.Within mA (fs.map (·.1)) ∧ fs.length ≤ 1000 ∧ H dx = some (.own a) := by
  obtain ⟨d, z, ne, ob, mA, n, r, q⟩ := (show ObjOk P w H h a (.ins C dx fs) from hok a _ e)
  exact ⟨mA, ⟨ob, n, ne⟩, r, q, z, d⟩
end

/-! ### what of the text a class must have -/
structure Cls (K : PySem.W.Frag) (C : Addr) : Prop where
  pg : PySem.W.plainGet K C Str.empty = true
  hd : PySem.W.hasDictIn K C = true
  po : PySem.W.plainOver K C = true
  sa : PySem.W.findIn K (.ref C) "__setattr__" = some (some (.builtin "object.__setattr__"))
theorem Cls.get {K : PySem.W.Frag} {C : Addr} (c : Cls K C) (f : Str) : PySem.W.plainGet K C f = true := c.pg
/-- no class of it has the name -/
def NoAttr (K : PySem.W.Frag) (C : Addr) (f : Str) : Prop := PySem.W.findIn K (.ref C) f = some none
theorem NoAttr.taker {K : PySem.W.Frag} {C : Addr} {f : Str} (n : NoAttr K C f) : PySem.W.takerIn K C f = some none := by
  unfold PySem.W.takerIn
  rw [show PySem.W.findIn K (.ref C) f = some none from n]
  rfl
/-- a constant of the class -/
structure Con (K : PySem.W.Frag) (C : Addr) (f : Str) (v : V) (u : Value) : Prop where
  at_ : PySem.W.findIn K (.ref C) f = some (some u)
  rel : RelV v u
  get : PySem.W.specialIn K u "__get__" = some none
  cp : PySem.W.copiedNames.contains f = false
/-- a method: a plain def of the class or of one above it -/
structure Meth (K : PySem.W.Frag) (C : Addr) (m : Str) (f : Addr) : Prop where
  at_ : PySem.W.findIn K (.ref C) m = some (some (.ref f))
  fn : PySem.W.isFn K (.ref f) = true
  kp : PySem.W.keepIn K (.ref f) = true

section
variable {X : Cx} {pins : List (Addr × Obj)} {σ : St} {H : Hp} {s : Shared} {a C dx : Addr} {fs : List (Str × V)} {f : Str} {v : V} {A : Around} {E : Value → Shared → Prop}

theorem getattr_ok {b : Bool} {Q : Value → Shared → Prop} (I : Inv X pins σ H s) (e : H a = some (.ins C dx fs)) (c : Cls X.K C) (n : NoAttr X.K C f) (l : fs.lookup f = some v)
    (h : ∀ u s', Inv X pins σ H s' → RelV v u → Q u s') : wpAny (model X.prog X.w) A (getAttr (.ref a) f b) Q E s := by
  obtain ⟨mA, O, r, _, _, _⟩ := ins_get I.hok e
  obtain ⟨u, hu, ru⟩ := RelO.some_of (v := v) (o := mA f) (by rw [← l]; exact r f)
  exact get_map I.kIn O (c.get f) c.hd n hu (handed_of ru) (h u _ (I.tok _) ru)

theorem getmeth_ok {m : Str} {g : Addr} {pl : Sem Bool} {Q : Value × List Value → Shared → Prop} (I : Inv X pins σ H s) (e : H a = some (.ins C dx fs)) (c : Cls X.K C) (k : Meth X.K C m g) (l : fs.lookup m = none)
    (h : Q (.ref g, [.ref a]) s) : wpAny (model X.prog X.w) A (getMethod (.ref a) m pl) Q E s := by
  obtain ⟨mA, O, r, _, _, _⟩ := ins_get I.hok e
  have hn : mA m = none := RelO.none_of (by rw [← l]; exact r m)
  exact get_meth I.kIn O (c.get m) k.at_ k.fn hn h

theorem setattr_ok {y : V} {u : Value} {Q : Unit → Shared → Prop} (I : Inv X pins σ H s) (e : H a = some (.ins C dx fs)) (c : Cls X.K C) (n : NoAttr X.K C f) (hl : fs.length < 1000) (ry : RelV y u)
    (h : ∀ s', Inv X pins σ (upd H a (.ins C dx (putF f y fs))) s' → Q () s') : wpAny (model X.prog X.w) A (setAttr (.ref a) f u) Q E s := by
  obtain ⟨mA, O, r, wi, _, ho⟩ := ins_get I.hok e
  have hz : (fs.map (·.1)).length ≤ sizeLine := by rw [List.length_map, sizeLine_eq]; omega
  refine set_map I.kIn O c.sa c.po n.taker c.hd wi hz fun h' O' sb => h _ ?_
  have hd : ∃ o, h'.get? dx = some o := let ⟨o, _, _, e', _⟩ := O'.ns; ⟨o, e'⟩
  refine I.write (x := a) (e := dx) (by rw [e]; exact True.intro) (.inr ho) (fun b q hb z => (sb.2 b hb).trans z) hd ?_
  refine ⟨by rw [upd_ne O.ne]; exact ho, ?_, O.ne, O'.obj, _, O'.ns, fun g => ?_, fun g hg => ?_⟩
  · have := length_putF f y fs; omega
  · show RelO ((putF f y fs).lookup g) (if g = f then some u else mA g)
    rw [lookup_putF]
    by_cases q : g = f
    · rw [if_pos q, if_pos q]; exact ry
    · rw [if_neg q, if_neg q]; exact r g
  · by_cases q : g = f
    · rw [q]; exact (keys_putF f y fs).1
    · refine (keys_putF f y fs).2 g (wi g fun z => hg ?_)
      show (if g = f then some u else mA g) = none
      rw [if_neg q]; exact z

/-- a new instance, tracked, without attributes -/
theorem Inv.made (I : Inv X pins σ H s) : Inv X pins σ (upd (upd H s.heap.objs.size (.own (s.heap.objs.size + 1))) (s.heap.objs.size + 1) (.ins C s.heap.objs.size []))
    { s with heap := (s.heap.push PySem.W.emptyDict).push (PySem.W.instObj C s.heap.objs.size) } := by
  have e1 : (s.heap.push PySem.W.emptyDict).get? s.heap.objs.size = some PySem.W.emptyDict := Heap.get?_push_size s.heap rfl
  have e2 : ((s.heap.push PySem.W.emptyDict).push (PySem.W.instObj C s.heap.objs.size)).get? (s.heap.objs.size + 1) = some (PySem.W.instObj C s.heap.objs.size) := by
    have := Heap.get?_push_size (s.heap.push PySem.W.emptyDict) (o := PySem.W.instObj C s.heap.objs.size) rfl
    rwa [Heap.size_push] at this
  have e3 : (s.heap.push PySem.W.emptyDict).Ns s.heap.objs.size (fun _ => none) := ⟨PySem.W.emptyDict, #[], _, e1, rfl, (fun e he => absurd he (by simp)), fun _ => rfl⟩
  have I1 := I.laid (a := s.heap.objs.size) (o := .own (s.heap.objs.size + 1)) (h' := s.heap.push PySem.W.emptyDict) (t' := s.toks) (fun b u q => Heap.get?_push_of_some _ q) (Nat.le_refl _) ⟨_, e1⟩
  refine I1.laid (a := s.heap.objs.size + 1) (o := .ins C s.heap.objs.size []) (t' := s.toks) (fun b u q => Heap.get?_push_of_some _ q) (Nat.le_of_eq (Heap.size_push _ _)) ?_
  have ne : s.heap.objs.size ≠ s.heap.objs.size + 1 := Nat.ne_of_lt (Nat.lt_succ_self _)
  refine ⟨by rw [upd_ne ne, upd_same], Nat.zero_le _, ne, e2, fun _ => none, (Heap.Ns1.of_empty e3).at fun o q => Heap.get?_push_of_some _ q, fun _ => True.intro, fun y hy => absurd rfl hy⟩

/-- e.f where nothing but the object is asked: through attributeBase (super) and the last hold -/
theorem attr_of {prog : Program} {w : World} {env : Env} {e : Expr} {f : Str} {pos : Pos} {s : Shared} {Q : Value → Shared → Prop} (hb : attributeBase e f env (eval e env) = eval e env)
    (h : wpAny (model prog w) A (eval e env) (fun o s₁ => wpAny (model prog w) A (getAttr o f true) Q E s₁) E s) : wpAny (model prog w) A (eval (.Attribute e f pos) env) Q E s :=
  Attribute_any_ h (by rw [arm_eval_Attribute, hb])
end

/-! ### readings and rules -/
/-- e.f, an attribute of the instance -/
def tFld (K : PySem.W.Frag) (ta : TE) (f : Str) : TE := fun σ H Q => ta σ H fun x H1 => ∃ a C dx fs v, x = .ref a ∧ H1 a = some (.ins C dx fs) ∧ Cls K C ∧ NoAttr K C f ∧ fs.lookup f = some v ∧ Q v H1
/-- e.f = value -/
def sFld (K : PySem.W.Frag) (ta tv : TE) (f : Str) : TS := fun D σ H => tv σ H fun y H1 => ta σ H1 fun x H2 => ∃ a C dx fs, x = .ref a ∧ H2 a = some (.ins C dx fs) ∧ Cls K C ∧ NoAttr K C f ∧ fs.length < 1000 ∧
  D.nx σ (upd H2 a (.ins C dx (putF f y fs)))
section
variable {X : Cx} {o e value : Expr} {f : Str} {pos pos' tpos : Pos} {ta tv : TE}
theorem pe_fld (he : PE X e ta) (hb : attributeBase e f X.env (eval e X.env) = eval e X.env) : PE X (.Attribute e f pos) (tFld X.K ta f) := by
  intro pins s σ H Q I h
  refine attr_of hb (thn (he pins s σ H _ I h) fun u s1 ⟨x, H1, I1, rx, a, C, dx, fs, v, ex, ea, c, n, l, q⟩ => ?_)
  subst ex
  obtain rfl : u = Value.ref a := rx
  exact getattr_ok I1 ea c n l fun u' s2 I2 ru => ⟨v, H1, I2, ru, q⟩
theorem ps_fld (ha : PE X o ta) (hv : PE X value tv) (hs : swapsWith value (some (.Attribute o f pos')) pos.line X.env = pure false) : PS X (.Assign [.Attribute o f pos'] value pos) (sFld X.K ta tv f) := by
  intro pins s σ H D I h
  refine plainObj_wpAny_Assign_Attribute (thn (hv pins s σ H _ I h) fun u s1 ⟨y, H1, I1, ry, q⟩ => thn (ha pins s1 σ H1 _ I1 q) fun ov s2 ⟨x, H2, I2, rx, a, C, dx, fs, ex, ea, c, n, l, q2⟩ => ?_) hs
  subst ex
  obtain rfl : ov = Value.ref a := rx
  exact setattr_ok I2 ea c n l ry fun s3 I3 => ⟨σ, _, I3, q2⟩
end

/-! ### isinstance -/
section
variable {X : Cx} {pins : List (Addr × Obj)} {σ : St} {H : Hp} {s : Shared} {A : Around} {E : Value → Shared → Prop} {Q : Value → Shared → Prop} {c : Value} {b : Bool}
/-- the type of a value, as the fragment's deciders take it; for an instance its class -/
inductive TyOf (K : PySem.W.Frag) (H : Hp) : V → Value → Prop where
  | non : TyOf K H .non (.type "NoneType")
  | bl (x : Bool) : TyOf K H (.bl x) (.type "bool")
  | int (i : Int) : TyOf K H (.int i) (.type "int")
  | str (x : Str) : TyOf K H (.str x) (.type "str")
  | flt (x : UInt64) : TyOf K H (.flt x) (.type "float")
  | lst {a : Addr} {xs : List V} (e : H a = some (.lst xs)) : TyOf K H (.ref a) (.type "list")
  | frz {a : Addr} {o : Obj} {xs : List V} (e : H a = some (.frz o (.lst xs))) : TyOf K H (.ref a) (.type "list")
  | tup {a : Addr} {xs : List V} (e : H a = some (.tup xs)) : TyOf K H (.ref a) (.type "tuple")
  | dK {a : Addr} {kvs : List (Key × V)} (e : H a = some (.dK kvs)) : TyOf K H (.ref a) (.type "dict")
  | dT {a : Addr} {kvs : List (List Key × V)} (e : H a = some (.dT kvs)) : TyOf K H (.ref a) (.type "dict")
  | ins {a C dx : Addr} {fs : List (Str × V)} (e : H a = some (.ins C dx fs)) (cl : Cls K C) (ha : PySem.W.findIn K (.ref C) "__class__" = some (some (.builtin "object.__class__")))
      (hn : PySem.W.specialIn K (.builtin "object.__class__") "__get__" = some (some (.builtin "getset_descriptor.__get__"))) (htk : PySem.W.takesIn K (.builtin "object.__class__") = some true)
      (hm : PySem.W.mroIn K C (.type "object") = some true) : TyOf K H (.ref a) (.ref C)
/-- isinstance(x, c) for one class c, a built-in or an own one: kitOne's answer -/
theorem isinst_ok {x : V} {u t : Value} (I : Inv X pins σ H s) (rx : RelV x u) (ty : TyOf X.K H x t) (e : PySem.W.kitOne X.K t c = some b) (h : ∀ tk, Q (.bool b) { s with toks := tk }) :
    wpAny (model X.prog X.w) A (call (.builtin "isinstance") [u, c]) Q E s := by
  cases ty with
  | non => cases (show u = Value.none from rx); exact PySem.W.kia_one PySem.W.kitx_none I.kIn True.intro e (fun z => nomatch z) h
  | bl y => cases (show u = Value.bool y from rx); exact PySem.W.kia_one PySem.W.kitx_bool I.kIn True.intro e (fun z => nomatch z) h
  | int i => obtain ⟨t, q⟩ := (show ∃ t, u = Value.int i t from rx); cases q; exact PySem.W.kia_one PySem.W.kitx_int I.kIn True.intro e (fun z => nomatch z) h
  | str y => obtain ⟨t, q⟩ := (show ∃ t, u = Value.str y t from rx); cases q; exact PySem.W.kia_one PySem.W.kitx_str I.kIn True.intro e (fun z => nomatch z) h
  | flt y => obtain ⟨t, q⟩ := (show ∃ t, u = Value.float y t from rx); cases q; exact PySem.W.kia_one PySem.W.kitx_float I.kIn True.intro e (fun z => nomatch z) h
  | @lst a xs ea =>
    cases (show u = Value.ref a from rx)
    obtain ⟨_, _, n, _, h1⟩ := (show ObjOk X.prog X.w H s.heap a (.lst xs) from I.hok a _ ea)
    exact PySem.W.kia_one PySem.W.kitx_list I.kIn ⟨_, h1, rfl⟩ e (fun z => nomatch z) h
  | @frz a ob xs ea =>
    cases (show u = Value.ref a from rx)
    obtain ⟨_, _, _, n, _, h1⟩ := (show ObjOk X.prog X.w H s.heap a (.frz ob (.lst xs)) from I.hok a _ ea)
    exact PySem.W.kia_one PySem.W.kitx_list I.kIn ⟨_, h1, rfl⟩ e (fun z => nomatch z) h
  | @tup a xs ea =>
    cases (show u = Value.ref a from rx)
    obtain ⟨_, _, _, p⟩ := (show ObjOk X.prog X.w H s.heap a (.tup xs) from I.hok a _ ea)
    obtain ⟨o, h1, h2, _⟩ := p
    exact PySem.W.kia_one PySem.W.kitx_tuple I.kIn ⟨o, h1, h2⟩ e (fun z => nomatch z) h
  | @dK a kvs ea =>
    cases (show u = Value.ref a from rx)
    obtain ⟨_, _, vs, _, p⟩ := (show ObjOk X.prog X.w H s.heap a (.dK kvs) from I.hok a _ ea)
    obtain ⟨o, es, ep, h1, h2, _⟩ := p
    exact PySem.W.kia_one PySem.W.kitx_dict I.kIn ⟨o, h1, h2.1⟩ e (fun z => nomatch z) h
  | @dT a kvs ea =>
    cases (show u = Value.ref a from rx)
    obtain ⟨_, _, xs, _, o, es, ep, h1, h2, _⟩ := (show ObjOk X.prog X.w H s.heap a (.dT kvs) from I.hok a _ ea)
    exact PySem.W.kia_one PySem.W.kitx_dict I.kIn ⟨o, h1, h2.1⟩ e (fun z => nomatch z) h
  | @ins a C dx fs ea cl ha hn htk hm =>
    cases (show u = Value.ref a from rx)
    obtain ⟨mA, O, _⟩ := ins_get I.hok ea
    obtain ⟨od, J, _⟩ := O.look
    exact PySem.W.kia_one (PySem.W.kitx_own (cl.get _) cl.hd ha hn htk hm) I.kIn J e (fun z => nomatch z) h
end
end L2

namespace L2
open PySem PySem.Spec PyProof.Rows

/-! ### room -/
structure Room (k : Nat) (A : Around) : Prop where
  hd : A.handled = none
  dp : A.depth + 3 * k + 5 < recursionLimit
  un : A.units + 16 * k + 200 < cLine
theorem Room.mono {j k : Nat} {A : Around} (r : Room k A) (h : j ≤ k) : Room j A := ⟨r.hd, by have := r.dp; omega, by have := r.un; omega⟩
theorem Room.deeper {k : Nat} {A : Around} (r : Room (k + 1) A) (env : Env) : Room k (A.deeper env) :=
  ⟨r.hd, by have := r.dp; show A.depth + 1 + 3 * k + 5 < _; omega, by have := r.un; show A.units + 3 + 16 * k + 200 < _; omega⟩
theorem Room.in1 {k : Nat} {A : Around} (r : Room (k + 1) A) : Room k A.in1 :=
  ⟨r.hd, by have := r.dp; show A.depth + 3 * k + 5 < _; omega, by have := r.un; show A.units + 1 + 16 * k + 200 < _; omega⟩
theorem make_depth {A : Around} {C : Addr} {us : List Value} {kw : List (Str × Value)} : (A.under (.builtin "type.__call__" ⟨.ref C :: us, kw⟩)).depth = A.depth + 1 := by
  first | rfl | simp [Around.under, Code.weight, Code.isCreation, Code.isGuard, Code.isCaller, Code.frames, Code.isFrame, guardIds]
theorem make_units {A : Around} {C : Addr} {us : List Value} {kw : List (Str × Value)} : (A.under (.builtin "type.__call__" ⟨.ref C :: us, kw⟩)).units = A.units + 1 := by
  first | rfl | simp [Around.under, Code.cUnits, Code.frames, Code.isFrame]
theorem Room.make {k : Nat} {A : Around} (r : Room (k + 1) A) (C : Addr) (us : List Value) (kw : List (Str × Value)) : Room k (A.under (.builtin "type.__call__" ⟨.ref C :: us, kw⟩)) :=
  ⟨r.hd, by have := r.dp; rw [make_depth]; omega, by have := r.un; rw [make_units]; omega⟩
theorem Room.depth {k : Nat} {A : Around} (r : Room k A) : A.depth < recursionLimit := by have := r.dp; omega
theorem Room.units {k : Nat} {A : Around} (r : Room k A) : A.units + 64 < cLine := by have := r.un; omega
theorem Room.units0 {k : Nat} {A : Around} (r : Room k A) : A.units < cLine := by have := r.un; omega

/-! ### argument lists and displays -/
def tNil : TA := fun _ H Q => Q [] H
def tCons (ta : TE) (tr : TA) : TA := fun σ H Q => ta σ H fun x H1 => tr σ H1 fun xs H2 => Q (x :: xs) H2
section
variable {X : Cx} {e : Expr} {es : List Expr} {te : TE} {t : TA} {pos : Pos}
theorem pa_nil : PA X [] tNil := fun _ _ _ _ H Q I h => Calls.spliced_nil ⟨[], H, I, .nil, h⟩
theorem pa_cons (ha : PE X e te) (hr : PA X es t) (hs : starEach (e :: es) X.env = (false, eval e X.env) :: starEach es X.env := by rfl) : PA X (e :: es) (tCons te t) := by
  intro pos pins s σ H Q I h
  rw [hs]
  show wpAny _ _ (spliced ((false, eval e X.env) :: backTo pos (starEach es X.env))) _ _ s
  refine Calls.spliced_cons (thn (ha pins s σ H _ I h) fun u s1 ⟨x, H1, I1, r1, q1⟩ => ?_)
  exact thn (hr pos pins s1 σ H1 _ I1 q1) fun us s2 ⟨xs, H2, I2, r2, q2⟩ => ⟨x :: xs, H2, I2, .cons r1 r2, q2⟩

/-- a tuple, a list of written items -/
def tTup (t : TA) : TE := fun σ H Q => t σ H fun xs H1 => xs.length ≤ sizeLine ∧ ∀ p, H1 p = none → Q (.ref p) (upd H1 p (.tup xs))
def tLst (t : TA) : TE := fun σ H Q => t σ H fun xs H1 => xs.length ≤ sizeLine ∧ ∀ p, H1 p = none → Q (.ref p) (upd H1 p (.lst xs))
theorem pe_tup {x1} (h : PA X es t) : PE X (.Tuple es x1 pos) (tTup t) := by
  intro pins s σ H Q I hq
  refine wpAny_Tuple_spliced (thn (h pos pins s σ H _ I hq) fun us s1 ⟨xs, H1, I1, r, z, q⟩ => ⟨by rw [← r.length]; exact z, ?_⟩)
  have hf : H1 s1.heap.objs.size = none := I1.hok.fresh (Nat.le_refl _)
  refine ⟨.ref s1.heap.objs.size, upd H1 s1.heap.objs.size (.tup xs), I1.laid (t' := s1.toks) (fun b u e => Heap.get?_push_of_some _ e) (Nat.le_refl _) ?_, rfl, q _ hf⟩
  exact ⟨z, us, r, ⟨_, Heap.get?_push_size _ rfl, rfl, _, rfl⟩⟩
theorem pe_lst (h : PA X es t) : PE X (.List es pos) (tLst t) := by
  intro pins s σ H Q I hq
  refine wpAny_List_spliced (thn (h pos pins s σ H _ I hq) fun us s1 ⟨xs, H1, I1, r, z, q⟩ => ⟨by rw [← r.length]; exact z, ?_⟩)
  have hf : H1 s1.heap.objs.size = none := I1.hok.fresh (Nat.le_refl _)
  refine ⟨.ref s1.heap.objs.size, upd H1 s1.heap.objs.size (.lst xs), I1.laid (t' := s1.toks) (fun b u e => Heap.get?_push_of_some _ e) (Nat.le_refl _) ?_, rfl, q _ hf⟩
  exact ⟨z, us, 0, r, Heap.get?_push_size _ rfl⟩
end

/-! ### what a def promises -/
/-- a def's promise: the bound arguments in the parameters' order, the heap, the wanted end, the wanted exception -/
abbrev Sp := List V → Hp → VK → XK → Prop
/-- how an exception lies behind a call (file 08 gives it): the callers' frames, abstract heap and state ahead of the call, the wish, the exception, the state -/
abbrev CXT := List Env → Hp → Shared → XK → Value → Shared → Prop

/-- the state at a call -/
structure Env0 (P : Program) (w : World) (K : PySem.W.Frag) (mg : Str → Option Value) (base : Heap) (A : Around) (outer : List Env) (s : Shared) (H : Hp) : Prop where
  frames : A.frames = some outer
  mod : Mod K mg base
  bs : ∀ b o, base.get? b = some o → s.heap.get? b = some o ∧ H b = none
  bsz : base.objs.size ≤ s.heap.objs.size
  funs : s.heap.FunFrames base outer
  frf : ∀ b ∈ frs outer, H b = none
  hok : HOk P w H s.heap
  bare : AllBare s.gens
/-- a call's end -/
def CE (outer : List Env) (P : Program) (w : World) (H : Hp) (s : Shared) (Q : VK) (u : Value) (s' : Shared) : Prop :=
  ∃ v H', s'.os = s.os ∧ AllBare s'.gens ∧ Un (frs outer) [] H H' s.heap s'.heap ∧ HOk P w H' s'.heap ∧ RelV v u ∧ Q v H'
def CR (CX : CXT) (outer : List Env) (P : Program) (w : World) (H : Hp) (s : Shared) (Q : VK) (E : XK) (r : Result) (s' : Shared) : Prop :=
  match r with
  | .ok (.ret u) => CE outer P w H s Q u s'
  | .ok _ => False
  | .error e => CX outer H s E e s'
structure FnOk (P : Program) (w : World) (K : PySem.W.Frag) (mg : Str → Option Value) (base : Heap) (CX : CXT) (k : Nat) (f : Addr) (fd : FuncData) (ps : List Str) (sp : Sp) : Prop where
  len : ∀ vs H Q E, sp vs H Q E → vs.length = ps.length
  run : ∀ (A : Around) (outer : List Env) (s : Shared) (H : Hp) (args : Args) (us : List Value) (vs : List V) (Q : VK) (E : XK), Room k A → Env0 P w K mg base A outer s H → BindsTo s fd args (ps.zip us) → Vals vs us → sp vs H Q E →
    codeAny (model P w) A (.call (.ref f) args) (CR CX outer P w H s Q E) s
theorem FnOk.mono {P : Program} {w : World} {K : PySem.W.Frag} {mg : Str → Option Value} {base : Heap} {CX : CXT} {j k : Nat} {f : Addr} {fd : FuncData} {ps : List Str} {sp : Sp} (F : FnOk P w K mg base CX j f fd ps sp) (h : j ≤ k) :
    FnOk P w K mg base CX k f fd ps sp := ⟨F.len, fun A outer s H args us vs Q E hr => F.run A outer s H args us vs Q E (hr.mono h)⟩
theorem Env0.make {P : Program} {w : World} {K : PySem.W.Frag} {mg : Str → Option Value} {base : Heap} {A : Around} {outer : List Env} {s : Shared} {H : Hp} (e : Env0 P w K mg base A outer s H) (C : Addr) (us : List Value) (kw : List (Str × Value)) :
    Env0 P w K mg base (A.under (.builtin "type.__call__" ⟨.ref C :: us, kw⟩)) outer s H := ⟨by first | exact e.frames | (simpa [Around.under, Code.envs, Code.isFrame, pushEnvs] using e.frames), e.mod, e.bs, e.bsz, e.funs, e.frf, e.hok, e.bare⟩
theorem Env0.in1 {P : Program} {w : World} {K : PySem.W.Frag} {mg : Str → Option Value} {base : Heap} {A : Around} {outer : List Env} {s : Shared} {H : Hp} (e : Env0 P w K mg base A outer s H) :
    Env0 P w K mg base A.in1 outer s H := ⟨e.frames, e.mod, e.bs, e.bsz, e.funs, e.frf, e.hok, e.bare⟩

section
variable {X : Cx} {pins : List (Addr × Obj)} {σ : St} {H : Hp} {s s' : Shared}
/-- from a body: what a callee wants -/
theorem Inv.env0 (I : Inv X pins σ H s) : Env0 X.prog X.w X.K X.mg X.base X.A X.stack s H :=
  ⟨I.ok.frames, I.ok.mod, I.bs, Nat.le_trans I.ok.bsz I.sz, I.stack, I.stkFree, I.hok, I.bare⟩
/-- behind a call -/
theorem Inv.after {Q : VK} {u : Value} (I : Inv X pins σ H s) (h : CE X.stack X.prog X.w H s Q u s') : EP X pins σ Q u s' := by
  obtain ⟨v, H', os, bare, un, hok, r, q⟩ := h
  obtain ⟨hh, g, d, t, os'⟩ := s'
  obtain rfl : os' = s.os := os
  exact ⟨v, H', I.call (h' := hh) (g' := g) (d' := d) (t' := t) (ch := []) un hok bare (fun b z => absurd z (by simp)), r, q⟩
end

/-! ### calls -/
/-- f(..): the written arguments, then the defaults dvs; E: what is wanted of an exception -/
def tCall (sp : Sp) (dvs : List V) (E : XK) (t : TA) : TE := fun σ H Q => t σ H fun vs H1 => sp (vs ++ dvs) H1 Q E
/-- o.m(..) of an instance of the class at C -/
def tMeth (C : Addr) (m : Str) (sp : Sp) (dvs : List V) (E : XK) (ta : TE) (t : TA) : TE := fun σ H Q => ta σ H fun x H1 => ∃ a dx fs, x = .ref a ∧ H1 a = some (.ins C dx fs) ∧ fs.lookup m = none ∧
  t σ H1 fun vs H2 => sp (x :: (vs ++ dvs)) H2 Q E
/-- C(..): a new instance and its dict, then __init__ -/
def tMake (C : Addr) (sp : Sp) (dvs : List V) (E : XK) (t : TA) : TE := fun σ H Q => t σ H fun vs H1 => ∀ x dx, H1 x = none → H1 dx = none → dx ≠ x →
  sp (.ref x :: (vs ++ dvs)) (upd (upd H1 dx (.own x)) x (.ins C dx [])) (fun v H2 => v = .non ∧ Q (.ref x) H2) E

/-- how the parameters are bound: us the positional arguments, kw the keywords' values by name, ds the defaults that fill up -/
def Binds (K : PySem.W.Frag) (fd : FuncData) (ps : List Str) (ds : List Value) : Prop :=
  ∀ (s : Shared) (us : List Value), K.In s.heap → (us ++ ds).length = ps.length → BindsTo s fd ⟨us, []⟩ (ps.zip (us ++ ds))
/-- every parameter is given -/
theorem Binds.all {K : PySem.W.Frag} {fd : FuncData} {ps : List Str} (h : ∀ us : List Value, us.length = ps.length → bindArgs fd ⟨us, []⟩ = pure (ps.zip us)) : Binds K fd ps [] := fun s us _ hl => by
  rw [List.append_nil] at hl ⊢
  exact .of_eq (h us hl)

/-- an exception of a callee reaches what this body wants of exceptions -/
def Passes (CX : CXT) (X : Cx) (E : XK) : Prop := ∀ (pins : List (Addr × Obj)) (σ : St) (H : Hp) (s : Shared) (e : Value) (s' : Shared), Inv X pins σ H s → CX X.stack H s E e s' → X.xe e s'

section
variable {X : Cx} {CX : CXT} {k : Nat} {f C : Addr} {fd : FuncData} {ps : List Str} {sp : Sp} {dvs : List V} {ds : List Value} {E : XK} {x m : Str} {p pos apos : Pos} {e o : Expr} {es : List Expr} {ta : TE} {t : TA}

/-- the callee runs -/
theorem run_fn {pins : List (Addr × Obj)} {σ : St} {H : Hp} {s : Shared} {Q : VK} {us : List Value} {vs : List V} (F : FnOk X.prog X.w X.K X.mg X.base CX k f fd ps sp) (hr : Room k X.A) (hb : Binds X.K fd ps ds) (hd : Vals dvs ds) (hx : Passes CX X E)
    (I : Inv X pins σ H s) (r : Vals vs us) (h : sp (vs ++ dvs) H Q E) : wpAny (model X.prog X.w) X.A (call (.ref f) us) (EP X pins σ Q) X.xe s := by
  have r2 : Vals (vs ++ dvs) (us ++ ds) := r.append hd
  have hl : (us ++ ds).length = ps.length := by rw [← r2.length]; exact F.len _ _ _ _ h
  refine wpAny_call (codeAny_mono (F.run X.A X.stack s H ⟨us, []⟩ (us ++ ds) (vs ++ dvs) Q E hr I.env0 (hb s us I.kIn hl) r2 h) fun r s' hq => ?_)
  cases r with
  | error e => exact hx pins σ H s e s' I hq
  | ok fl =>
    cases fl with
    | ret u => exact I.after hq
    | next => exact False.elim hq
    | brk => exact False.elim hq
    | cont => exact False.elim hq

theorem pe_call (F : FnOk X.prog X.w X.K X.mg X.base CX k f fd ps sp) (hr : Room k X.A) (hg : Gl X x) (hm : X.mg x = some (.ref f)) (hk : PySem.W.keepIn X.K (.ref f) = true) (hb : Binds X.K fd ps ds) (hd : Vals dvs ds) (hx : Passes CX X E)
    (ha : PA X (e :: es) t) (hdb : (x == ("__debug__" : Str)) = false := by decide) (he : starEach (e :: es) X.env = (false, eval e X.env) :: starEach es X.env := by rfl) (hpl : (backTo pos (starEach es X.env)).any (·.1) = false := by rfl) :
    PE X (.Call (.Name x p) (e :: es) [] pos) (tCall sp dvs E t) := by
  intro pins s σ H Q I h
  refine wpAny_Call_Name_kw (ld_glob I hg hm ?_ hdb)
  refine PySem.W.callWith_K (h₀ := X.base) I.ok.mod.kin hk (thn (ha pos pins s σ H _ I h) fun us s1 ⟨vs, H1, I1, r, q⟩ => ⟨I1.kIn, ?_⟩) he hpl
  exact run_fn F hr hb hd hx I1 r q
/-- o.m(e, ..) -/
theorem pe_meth {pl : Sem Bool} (he : PE X o ta) (c : Cls X.K C) (hm : Meth X.K C m f) (F : FnOk X.prog X.w X.K X.mg X.base CX k f fd ps sp) (hr : Room k X.A) (hb : Binds X.K fd ps ds) (hd : Vals dvs ds) (hx : Passes CX X E) (ha : PA X (e :: es) t)
    (hst : starEach (e :: es) X.env = (false, eval e X.env) :: starEach es X.env := by rfl) (hpl : (backTo pos (starEach es X.env)).any (·.1) = false := by rfl)
    (ht : eval (.Call (.Attribute o m apos) (e :: es) [] pos) X.env = (do
      let ov ← eval o X.env
      standAt apos.atName
      let (f, first) ← holding [ov] (getMethod ov m pl)
      callWith pos f first (backTo pos (starEach (e :: es) X.env)) (backToKw pos (keywordEach [] X.env))) := by rfl) :
    PE X (.Call (.Attribute o m apos) (e :: es) [] pos) (tMeth C m sp dvs E ta t) := by
  intro pins s σ H Q I h
  refine PySem.W.methodCall_KW (pl := pl) (thn (he pins s σ H _ I h) fun u s1 ⟨x, H1, I1, rx, a, dx, fs, ex, ea, l, q⟩ => ?_) ht
  subst ex
  obtain rfl : u = Value.ref a := rx
  refine getmeth_ok I1 ea c hm l ?_
  refine PySem.W.callWith_K (first := [.ref a]) (h₀ := X.base) I.ok.mod.kin hm.kp (thn (ha pos pins s1 σ H1 _ I1 q) fun us s2 ⟨vs, H2, I2, r, q2⟩ => ⟨I2.kIn, ?_⟩) hst hpl
  exact run_fn (us := .ref a :: us) (vs := .ref a :: vs) F hr hb hd hx I2 (.cons rfl r) q2
/-- what a class must have to be made -/
structure Mk (K : PySem.W.Frag) (C f : Addr) : Prop where
  makes : PySem.W.makesIn K C = true
  init : PySem.W.findIn K (.ref C) "__init__" = some (some (.ref f))
  fn : PySem.W.isFn K (.ref f) = true
  kp : PySem.W.keepIn K (.ref C) = true

theorem run_make {pins : List (Addr × Obj)} {σ : St} {H : Hp} {s : Shared} {Q : VK} {us : List Value} {vs : List V} (M : Mk X.K C f) (F : FnOk X.prog X.w X.K X.mg X.base CX k f fd ps sp) (hr : Room (k + 1) X.A) (hb : Binds X.K fd ps ds) (hd : Vals dvs ds)
    (hx : Passes CX X E) (I : Inv X pins σ H s) (r : Vals vs us)
    (h : ∀ x dx, H x = none → H dx = none → dx ≠ x → sp (.ref x :: (vs ++ dvs)) (upd (upd H dx (.own x)) x (.ins C dx [])) (fun v H2 => v = .non ∧ Q (.ref x) H2) E) :
    wpAny (model X.prog X.w) X.A (call (.ref C) us) (EP X pins σ Q) X.xe s := by
  have hq := h (s.heap.objs.size + 1) s.heap.objs.size (I.hok.fresh (Nat.le_succ _)) (I.hok.fresh (Nat.le_refl _)) (Nat.ne_of_lt (Nat.lt_succ_self _))
  have I2 := Inv.made (C := C) I
  have r2 : Vals (V.ref (s.heap.objs.size + 1) :: (vs ++ dvs)) (Value.ref (s.heap.objs.size + 1) :: (us ++ ds)) := .cons rfl (r.append hd)
  have hl : (Value.ref (s.heap.objs.size + 1) :: us ++ ds).length = ps.length := by
    have e := r2.length
    rw [F.len _ _ _ _ hq] at e
    exact e.symm
  refine wpAny_call (make_map (f := f) I.kIn M.makes M.init (beq_iff_eq.mp M.fn) (codeAny_mono (F.run _ X.stack _ _ ⟨Value.ref (s.heap.objs.size + 1) :: us, []⟩ (Value.ref (s.heap.objs.size + 1) :: (us ++ ds)) _ _ E (hr.make C us [])
    (I2.env0.make C us []) (hb _ (Value.ref (s.heap.objs.size + 1) :: us) I2.kIn hl) r2 hq) fun r s' hq' => ?_))
  cases r with
  | error e => exact hx pins σ _ _ e s' I2 hq'
  | ok fl =>
    cases fl with
    | ret u =>
      obtain ⟨v, H', I3, rv, ev, q3⟩ := I2.after hq'
      subst ev
      exact ⟨rv, ⟨V.ref (s.heap.objs.size + 1), H', I3, rfl, q3⟩⟩
    | next => exact False.elim hq'
    | brk => exact False.elim hq'
    | cont => exact False.elim hq'
theorem pe_make (M : Mk X.K C f) (F : FnOk X.prog X.w X.K X.mg X.base CX k f fd ps sp) (hr : Room (k + 1) X.A) (hg : Gl X x) (hm : X.mg x = some (.ref C)) (hb : Binds X.K fd ps ds) (hd : Vals dvs ds) (hx : Passes CX X E)
    (ha : PA X (e :: es) t) (hdb : (x == ("__debug__" : Str)) = false := by decide) (he : starEach (e :: es) X.env = (false, eval e X.env) :: starEach es X.env := by rfl) (hpl : (backTo pos (starEach es X.env)).any (·.1) = false := by rfl) :
    PE X (.Call (.Name x p) (e :: es) [] pos) (tMake C sp dvs E t) := by
  intro pins s σ H Q I h
  refine wpAny_Call_Name_kw (ld_glob I hg hm ?_ hdb)
  refine PySem.W.callWith_K (h₀ := X.base) I.ok.mod.kin M.kp (thn (ha pos pins s σ H _ I h) fun us s1 ⟨vs, H1, I1, r, q⟩ => ⟨I1.kIn, ?_⟩) he hpl
  exact run_make M F hr hb hd hx I1 r q
end

/-! ### keywords -/
section
variable {X : Cx} {CX : CXT} {k : Nat} {f C : Addr} {fd : FuncData} {ps ks : List Str} {sp : Sp} {E : XK} {x m : Str} {p pos apos kpos : Pos} {e o : Expr} {es : List Expr} {kws : List Keyword} {te ta : TE} {t tk : TA} {nm : Option Str}
/-- how a call with keywords binds: g puts the positional values us and the keywords' values ws (names ks) in the parameters' order, defaults among them -/
structure KBinds (K : PySem.W.Frag) (fd : FuncData) (ps ks : List Str) (g : List Value → List Value → List Value) (gV : List V → List V → List V) : Prop where
  to : ∀ (s : Shared) (us ws : List Value), K.In s.heap → (g us ws).length = ps.length → BindsTo s fd ⟨us, ks.zip ws⟩ (ps.zip (g us ws))
  rel : ∀ {vs : List V} {us : List Value} {zs : List V} {ws : List Value}, Vals vs us → Vals zs ws → Vals (gV vs zs) (g us ws)
variable {g : List Value → List Value → List Value} {gV : List V → List V → List V}
end

/-! ### a def's body keeps its promise -/
/-- names: the parameters first -/
structure FnScope (N P : List Str) (sc : Scope) : Prop where
  kind : sc.kind = .function
  co : sc.isCoroutine = false
  gen : sc.isGenerator = false
  nd : N.Nodup
  pre : N.take P.length = P
  par : ∀ x ∈ P, sc.names.lookup x = some .local ∨ sc.names.lookup x = some .cell
  nofree : ∀ y ∈ sc.names, y.2 ≠ .free

theorem bindL_out {kindOf : Str → Option NameKind} {x : Str} : ∀ {binds : List (Str × Value)} {m : Str → Option Value}, (∀ v, (x, v) ∉ binds) → bindL kindOf binds m x = m x
  | [], _, _ => rfl
  | (n, v) :: r, m, h => by
    unfold bindL
    rw [bindL_out fun w hw => h w (List.mem_cons_of_mem _ hw)]
    split
    · have : x ≠ n := by rintro rfl; exact h v List.mem_cons_self
      simp [this]
    · rfl
theorem bindC_out {kindOf : Str → Option NameKind} {x : Str} : ∀ {binds : List (Str × Value)} {m : Str → Option Value}, (∀ v, (x, v) ∉ binds) → bindC kindOf binds m x = m x
  | [], _, _ => rfl
  | (n, v) :: r, m, h => by
    unfold bindC
    rw [bindC_out fun w hw => h w (List.mem_cons_of_mem _ hw)]
    split
    · rfl
    · have : x ≠ n := by rintro rfl; exact h v List.mem_cons_self
      simp [this]
theorem bindL_get {kindOf : Str → Option NameKind} {x : Str} {v : Value} : ∀ {P : List Str} {vs : List Value} {i : Nat} {m : Str → Option Value}, P.Nodup → P[i]? = some x → vs[i]? = some v → kindOf x = some .local →
    bindL kindOf (P.zip vs) m x = some v
  | [], _, _, _, _, h, _, _ => by simp at h
  | _ :: _, [], _, _, _, _, h, _ => by simp at h
  | p :: P, w :: vs, 0, m, nd, h1, h2, hk => by
    simp at h1 h2; subst h1; subst h2
    show bindL kindOf ((p, w) :: P.zip vs) m p = _
    unfold bindL
    rw [bindL_out fun v hv => (List.nodup_cons.mp nd).1 (List.of_mem_zip hv).1, if_pos hk]
    simp
  | p :: P, w :: vs, i + 1, m, nd, h1, h2, hk => by
    show bindL kindOf ((p, w) :: P.zip vs) m x = _
    unfold bindL
    exact bindL_get (i := i) (List.nodup_cons.mp nd).2 (by simpa using h1) (by simpa using h2) hk
theorem bindC_get {kindOf : Str → Option NameKind} {x : Str} {v : Value} : ∀ {P : List Str} {vs : List Value} {i : Nat} {m : Str → Option Value}, P.Nodup → P[i]? = some x → vs[i]? = some v → kindOf x ≠ some .local →
    bindC kindOf (P.zip vs) m x = some v
  | [], _, _, _, _, h, _, _ => by simp at h
  | _ :: _, [], _, _, _, _, h, _ => by simp at h
  | p :: P, w :: vs, 0, m, nd, h1, h2, hk => by
    simp at h1 h2; subst h1; subst h2
    show bindC kindOf ((p, w) :: P.zip vs) m p = _
    unfold bindC
    rw [bindC_out fun v hv => (List.nodup_cons.mp nd).1 (List.of_mem_zip hv).1, if_neg hk]
    simp
  | p :: P, w :: vs, i + 1, m, nd, h1, h2, hk => by
    show bindC kindOf ((p, w) :: P.zip vs) m x = _
    unfold bindC
    exact bindC_get (i := i) (List.nodup_cons.mp nd).2 (by simpa using h1) (by simpa using h2) hk

/-- the names' values at the entry -/
def start (N : List Str) (vs : List V) : St := vs.map some ++ List.replicate (N.length - vs.length) none

/-- the context of a def's body, at its entry; an exception leaves the frame, then lies as CX says -/
def cxOf (CX : CXT) (P : Program) (w : World) (K : PySem.W.Frag) (mg : Str → Option Value) (base : Heap) (N : List Str) (qual : Str) (scope : Scope) (f : Addr) (cd : Value) (A : Around) (outer : List Env) (s : Shared) (H : Hp) (E : XK) : Cx where
  prog := P
  w := w
  K := K
  mg := mg
  base := base
  A := A.deeper (envOfC qual scope s.heap.objs.size f cd)
  N := N
  s₀ := s
  H₀ := H
  env := envOfC qual scope s.heap.objs.size f cd
  outer := outer
  stack := envOfC qual scope s.heap.objs.size f cd :: outer
  ex := []
  calm := true
  fn := fun _ => true
  pn := []
  xe := fun e s' => wpAny (model P w) (A.deeper (envOfC qual scope s.heap.objs.size f cd)) (leaving (envOfC qual scope s.heap.objs.size f cd) e) (fun _ s'' => CX outer H s E e s'') (fun e' s'' => CX outer H s E e' s'') s'

theorem cell_has {sc : Scope} {n : Nat} {x : Str} (h : sc.names.lookup x = some .cell) : ∃ c, (cellsFrom n sc.names []).lookup x = some c := by
  have q := PySem.W.cellsFrom_some sc.names n [] (.inl h)
  exact Option.isSome_iff_exists.mp q

theorem inv_start {CX : CXT} {P : Program} {w : World} {K : PySem.W.Frag} {mg : Str → Option Value} {base : Heap} {N ps : List Str} {qual : Str} {scope : Scope} {f : Addr} {cd : Value} {A : Around} {outer : List Env} {s s1 : Shared} {H : Hp} {E : XK} {us : List Value} {vs : List V}
    (S : FnScope N ps scope) (hd : A.handled = none) (e0 : Env0 P w K mg base A outer s H) (hl : vs.length = ps.length) (r : Vals vs us)
    (x : InCallC s s.heap.objs.size (bindL (envOfC qual scope s.heap.objs.size f cd).kindOf (ps.zip us) fun _ => none) (cellsFrom (s.heap.objs.size + 1) scope.names []) (bindC (envOfC qual scope s.heap.objs.size f cd).kindOf (ps.zip us) fun _ => none) s1) :
    Inv (cxOf CX P w K mg base N qual scope f cd A outer s H E) [] (start N vs) H s1 := by
  have hpl : ps.length ≤ N.length := by have := congrArg List.length S.pre; rw [List.length_take] at this; omega
  obtain ⟨h1, tk, rfl, hk⟩ := x.done
  have noA : ∀ b : Addr, b ∉ (cxOf CX P w K mg base N qual scope f cd A outer s H E).ex := fun b z => absurd (show b ∈ ([] : List Addr) from z) (by simp)
  refine ⟨⟨e0.mod, S.kind, rfl, rfl, Nat.le_refl _, fun y z c h1 h2 => ?_, fun y hy => ?_, fun y c _ h => ?_, fun _ => hd, Around.frames_deeper e0.frames, .inr ⟨rfl, rfl⟩, fun b z => absurd z (noA b), e0.bs, e0.bsz, fun b _ _ => noA b, fun b z => absurd z (noA b), e0.funs, e0.frf⟩,
    rfl, e0.bare, Un.kept hk, ⟨_, x.toInCall.ns, fun i y v h1 h2 h3 => ?_⟩, fun y c h => ⟨_, x.cell y c h⟩, e0.hok.fresh (Nat.le_refl _), fun y c h => ?_, fun p hp => absurd (show p ∈ ([] : List (Addr × Obj)) from hp) (by simp), e0.hok.kept hk, ?_⟩
  · exact name_of_addr x.apart (PySem.mem_of_lookup h1) (PySem.mem_of_lookup h2)
  · have hy : scope.names.lookup y = some .cell ∨ scope.names.lookup y = some .free := hy
    rcases hy with hy | hy
    · exact cell_has hy
    · exact absurd rfl (S.nofree _ (PySem.mem_of_lookup hy))
  · exact Nat.le_of_lt (x.above y c (PySem.mem_of_lookup h))
  · have hi : i < vs.length := by
      unfold start at h2
      by_cases hi : i < vs.length
      · exact hi
      · rw [List.getElem?_append_right (by simpa using hi)] at h2
        rw [List.getElem?_replicate] at h2
        split at h2 <;> cases h2
    have ha : vs[i]? = some v := by
      unfold start at h2
      rw [List.getElem?_append_left (by simpa using hi), List.getElem?_map] at h2
      cases e : vs[i]? with
      | none => rw [e] at h2; cases h2
      | some a => rw [e] at h2; cases h2; rfl
    obtain ⟨u, hu, rv⟩ := r.get ha
    have hp : ps[i]? = some y := by
      rw [← S.pre, List.getElem?_take_of_lt (by omega)]; exact h1
    have ndP : ps.Nodup := by rw [← S.pre]; exact S.nd.sublist (List.take_sublist _ _)
    refine ⟨u, rv, ?_⟩
    rcases S.par y (List.mem_of_getElem? hp) with k | k
    · exact .inl ⟨k, bindL_get ndP hp hu k⟩
    · obtain ⟨c, e⟩ := cell_has (n := s.heap.objs.size + 1) k
      refine .inr ⟨.inl k, c, e, ?_⟩
      have q := x.cell y c e
      rw [bindC_get ndP hp hu (by show scope.names.lookup y ≠ _; rw [k]; decide)] at q
      exact q
  · exact e0.hok.fresh (Nat.le_of_lt (x.above y c (PySem.mem_of_lookup h)))
  · unfold start
    show _ = N.length
    rw [List.length_append, List.length_map, List.length_replicate]
    omega

/-- THE RULE: a def (or a method) of the text, by its body. The body's reading t is chosen for each entry; it is run at the parameters' values -/
theorem fn_of {CX : CXT} {P : Program} {w : World} {K : PySem.W.Frag} {mg : Str → Option Value} {base : Heap} {k : Nat} {f : Addr} {name qual : Str} {params : Arguments} {body : List Stmt} {scope : Scope} {dV kV doc pm cdv ct oc : Value} {an od : Option Addr}
    {osl : Array (Option Value)} {N ps : List Str} {sp : Sp} (lk : K.lookup f = some ⟨oc, od, .func (PySem.W.fnOf name qual params body scope dV kV doc pm an cdv ct), osl⟩) (hcd : PySem.W.codeIn K cdv qual = true) (S : FnScope N ps scope)
    (len : ∀ vs H Q E, sp vs H Q E → vs.length = ps.length)
    (hbody : ∀ (A : Around) (outer : List Env) (s : Shared) (H : Hp) (vs : List V) (Q : VK) (E : XK), Room k (A.deeper (envOfC qual scope s.heap.objs.size f cdv)) → sp vs H Q E →
      ∃ t, PSs (cxOf CX P w K mg base N qual scope f cdv A outer s H E) body t ∧ t { nx := fun _ H' => Q .non H', rt := Q } (start N vs) H) :
    FnOk P w K mg base CX (k + 1) f (PySem.W.fnOf name qual params body scope dV kV doc pm an cdv ct) ps sp := by
  refine ⟨len, fun A outer s H args us vs Q E hr e0 hb r hsp => ?_⟩
  have hl := len _ _ _ _ hsp
  have KX : K.In s.heap := e0.mod.kin.keeps fun b o e => (e0.bs b o e).1
  have lim : s.heap.NoLimit := e0.mod.nolimit.keeps fun b o e => (e0.bs b o e).1
  have hkind : ∀ y ∈ ps.zip us, scope.names.lookup y.1 = some .local ∨ (scope.names.lookup y.1 = some .cell ∧ ((cellsFrom (s.heap.objs.size + 1) scope.names []).lookup y.1).isSome = true) := fun ⟨n, v⟩ hy => by
    rcases S.par n (List.of_mem_zip hy).1 with q | q
    · exact .inl q
    · exact .inr ⟨q, PySem.W.cellsFrom_some _ _ _ (.inl q)⟩
  refine codeAny_call_function hr.depth (KX _ _ lk) rfl S.co S.gen rfl (PySem.W.codeRec_of KX hcd) (hb _ _ _ _ ?_)
  refine wpAny_newFunctionEnv_cells S.kind hkind fun env he s1 x => ?_
  subst he
  refine ⟨lim.keeps x.toInCall.keep, codeAny_func ?_⟩
  obtain ⟨t, ht, hq⟩ := hbody A outer s H vs Q E (hr.deeper _) hsp
  have I : Inv (cxOf CX P w K mg base N qual scope f cdv A outer s H E) [] (start N vs) H s1 := inv_start S hr.hd e0 hl r x
  refine wpAny_mono (ht [] s1 (start N vs) H _ I hq) (fun fl s' hs => ?_) fun e s' hs => hs
  have fin : ∀ {σ' : St} {H' : Hp} {v : V} {u : Value}, Inv (cxOf CX P w K mg base N qual scope f cdv A outer s H E) [] σ' H' s' → RelV v u → Q v H' → CE outer P w H s Q u s' :=
    fun {σ' H' v u} J rv q => ⟨v, H', J.os, J.bare, J.base, J.hok, rv, q⟩
  cases fl with
  | ret u =>
    obtain ⟨v, σ', H', J, rv, q⟩ := hs
    exact fin J rv q
  | next =>
    obtain ⟨σ', H', J, q⟩ := hs
    exact fin (v := V.non) (u := Value.none) J rfl q
  | brk =>
    obtain ⟨_, _, _, q⟩ := hs
    exact False.elim q
  | cont =>
    obtain ⟨_, _, _, q⟩ := hs
    exact False.elim q
end L2

namespace L2
open PySem PySem.Spec PyProof.Rows
section
variable {X : Cx} {x : Str} {p pos : Pos} {e : Expr} {es : List Expr} {t : TA} {id T : String} {r : List V → Hp → VK → Prop}

def tCB (r : List V → Hp → VK → Prop) (t : TA) : TE := fun σ H Q => t σ H fun vs H1 => r vs H1 Q
/-- f(e, ..), f a built-in function -/
theorem pe_callB (hc : CallR X (.builtin id) r) (hg : Gl X x) (hm : X.mg x = none) (hv : bootBuiltins x = some (.builtin id)) (ha : PA X (e :: es) t) (hn : x ≠ "__name__" := by decide) (hdb : (x == ("__debug__" : Str)) = false := by decide)
    (he : starEach (e :: es) X.env = (false, eval e X.env) :: starEach es X.env := by rfl) (hpl : (backTo pos (starEach es X.env)).any (·.1) = false := by rfl) : PE X (.Call (.Name x p) (e :: es) [] pos) (tCB r t) := by
  intro pins s σ H Q I h
  refine wpAny_Call_Name_kw (ld_blt I hg hm hv ?_ hn hdb)
  exact PyProof.Rows.callWith_builtin1 (thn (ha pos pins s σ H _ I h) fun us s1 ⟨vs, H1, I1, r1, q1⟩ => hc pins s1 σ H1 vs us Q I1 r1 q1) he hpl
/-- T(e, ..), T a built-in type -/
theorem pe_callTy (hc : CallR X (.type T) r) (hg : Gl X x) (hm : X.mg x = none) (hv : bootBuiltins x = some (.type T)) (ha : PA X (e :: es) t) (hn : x ≠ "__name__" := by decide) (hdb : (x == ("__debug__" : Str)) = false := by decide)
    (he : starEach (e :: es) X.env = (false, eval e X.env) :: starEach es X.env := by rfl) (hpl : (backTo pos (starEach es X.env)).any (·.1) = false := by rfl) : PE X (.Call (.Name x p) (e :: es) [] pos) (tCB r t) := by
  intro pins s σ H Q I h
  refine wpAny_Call_Name_kw (ld_blt I hg hm hv ?_ hn hdb)
  exact PyProof.Rows.callWith_type1 (thn (ha pos pins s σ H _ I h) fun us s1 ⟨vs, H1, I1, r1, q1⟩ => hc pins s1 σ H1 vs us Q I1 r1 q1) he hpl
end
end L2

namespace HT
open PySem PyProof.Rows

section
open PySem.SeqAt
open PySem.AutoSeq1 (wpAny_loadPart')
open PySem.MeetsSeq PySem.MeetsSeq2 PySem.MeetsSeq3

end

section
variable {prog : Program} {w : World} {A : Around} {E : Value → Shared → Prop} {s : Shared}

/-! ### t[a:b], not the whole -/
/-- a slice's bound as a place among n (d where it is left out) -/
def sIx (n d : Nat) : Option Int → Nat
  | none => d
  | some v => if v < 0 then (v + (n : Int)).toNat else min v.toNat n
theorem sIx_nat (n d k : Nat) : sIx n d (some (k : Int)) = min k n := by
  show (if (k : Int) < 0 then ((k : Int) + (n : Int)).toNat else min (k : Int).toNat n) = min k n
  rw [if_neg (by omega), Int.toNat_natCast]
end
end HT

namespace L2
open PySem PySem.Spec PyProof.Rows

/-! ### the parts of a slice -/
abbrev TO := St → Hp → (Option Int → Hp → Prop) → Prop
/-- a slice's part (left out, or an int) -/
def PO (X : Cx) (e : Option Expr) (t : TO) : Prop :=
  ∀ (pins : List (Addr × Obj)) (s : Shared) (σ : St) (H : Hp) (Q : Option Int → Hp → Prop), Inv X pins σ H s → t σ H Q →
    wpAny (model X.prog X.w) X.A (evalPart e X.env) (fun u s' => ∃ o H', Inv X pins σ H' s' ∧ IsPart u o ∧ Q o H') X.xe s
def tNoPart : TO := fun _ H Q => Q none H
def tPart (t : TE) : TO := fun σ H Q => t σ H fun x H1 => ∃ i, x = .int i ∧ Q (some i) H1

section
variable {X : Cx} {e : Expr} {te : TE} {lo hi : Option Expr} {tl th : TO} {pos p2 : Pos}

theorem po_none : PO X none tNoPart := by
  intro pins s σ H Q I h
  rw [evalPart_none]
  exact wpAny_pure ⟨none, H, I, .none, h⟩
theorem po_some (h : PE X e te) : PO X (some e) (tPart te) := by
  intro pins s σ H Q I hw
  rw [evalPart_some]
  refine thn (h pins s σ H _ I hw) fun u s1 ⟨x, H1, I1, r1, q1⟩ => ?_
  obtain ⟨i, rfl, q⟩ := q1
  obtain ⟨t, rfl⟩ := r1
  exact ⟨some i, H1, I1, .int i t, q⟩

/-- what a slice of a value is, by values: the slice object stands at sl -/
def SlR (X : Cx) (r : V → Option Int → Option Int → Hp → VK → Prop) : Prop :=
  ∀ (pins : List (Addr × Obj)) (s : Shared) (σ : St) (H : Hp) (x : V) (v vl vu : Value) (lo hi : Option Int) (sl : Addr) (Q : VK), Inv X pins σ H s → RelV x v → s.heap.IsSliceOf sl vl vu .none → IsPart vl lo → IsPart vu hi → r x lo hi H Q →
    ∃ T id, typeLookup (.type T) "__getitem__" = pure (some (.builtin id)) ∧ s.TypeIs v T ∧ wpAny (model X.prog X.w) X.A (getItem v (.ref sl)) (EP X pins σ Q) X.xe s
theorem SlR.or {r r' : V → Option Int → Option Int → Hp → VK → Prop} (h : SlR X r) (h' : SlR X r') : SlR X (fun x lo hi H Q => r x lo hi H Q ∨ r' x lo hi H Q) := by
  intro pins s σ H x v vl vu lo hi sl Q I rx hs pl pu q
  rcases q with q | q
  · exact h pins s σ H x v vl vu lo hi sl Q I rx hs pl pu q
  · exact h' pins s σ H x v vl vu lo hi sl Q I rx hs pl pu q
def tSl (r : V → Option Int → Option Int → Hp → VK → Prop) (te : TE) (tl th : TO) : TE := fun σ H Q => te σ H fun x H1 => tl σ H1 fun l H2 => th σ H2 fun u H3 => r x l u H3 Q
/-- a[lo:hi], any a -/
theorem pe_slice {r : V → Option Int → Option Int → Hp → VK → Prop} (hr : SlR X r) (he : PE X e te) (hl : PO X lo tl) (hu : PO X hi th) : PE X (.Subscript e (.Slice lo hi none p2) pos) (tSl r te tl th) := by
  intro pins s σ H Q I h
  refine Subscript_ (thn (he pins s σ H _ I h) fun v s1 ⟨x, H1, I1, r1, q1⟩ => ?_)
  refine wpAny_Slice (thn (hl pins s1 σ H1 _ I1 q1) fun vl s2 ⟨l, H2, I2, pl, q2⟩ => thn (hu pins s2 σ H2 _ I2 q2) fun vu s3 ⟨u, H3, I3, pu, q3⟩ => ?_)
  rw [evalPart_none]
  refine wpAny_pure ?_
  have I4 : Inv X pins σ H3 { s3 with heap := s3.heap.push { cls := .type "slice", data := .fields #[vl, vu, .none] } } := I3.kept (t' := s3.toks) fun b ob q => Heap.get?_push_of_some _ q
  obtain ⟨T, id, hT, ht, hg⟩ := hr pins { s3 with heap := s3.heap.push { cls := .type "slice", data := .fields #[vl, vu, .none] } } σ H3 x v vl vu l u s3.heap.objs.size Q I4 r1 (Heap.IsSliceOf.new ..) pl pu q3
  show wpAny (model X.prog X.w) X.A (subscriptTail e (.Slice lo hi none p2) v (.ref s3.heap.objs.size)) (EP X pins σ Q) X.xe { s3 with heap := s3.heap.push { cls := .type "slice", data := .fields #[vl, vu, .none] } }
  exact tail_any (ops := [.ref s3.heap.objs.size, v]) ht hT hg (by with_unfolding_all rfl)

/-- the items of xs[lo:hi] -/
def cutV (xs : List V) (lo hi : Option Int) : List V := (xs.drop (HT.sIx xs.length 0 lo)).take (HT.sIx xs.length xs.length hi - HT.sIx xs.length 0 lo)
theorem cutV_length (xs : List V) (lo hi : Option Int) : (cutV xs lo hi).length ≤ xs.length := by
  unfold cutV
  rw [List.length_take, List.length_drop]
  omega
/-! ### t < u, t + u -/
end
end L2

namespace L2
open PySem PySem.Spec PyProof.Rows

/-! ### places -/
/-- the place that an index of any sign means -/
def ixN (n : Nat) (i : Int) : Option Nat := if 0 ≤ i then (if i < n then some i.toNat else none) else if -(n : Int) ≤ i then some (i + n).toNat else none
def atI {α : Type} (xs : List α) (i : Int) : Option α := (ixN xs.length i).bind fun j => xs[j]?
theorem ixN_seq {n : Nat} {i : Int} {j : Nat} (h : ixN n i = some j) : seqIndex? i n = some j ∧ j < n ∧ -(n : Int) ≤ i ∧ i < n := by
  unfold ixN at h
  by_cases h0 : 0 ≤ i
  · rw [if_pos h0] at h
    by_cases h1 : i < n
    · rw [if_pos h1] at h
      have e : i.toNat = j := Option.some.inj h
      exact ⟨by rw [seqIndex_of h0 h1, e], by omega, by omega, h1⟩
    · rw [if_neg h1] at h; cases h
  · rw [if_neg h0] at h
    by_cases h1 : -(n : Int) ≤ i
    · rw [if_pos h1] at h
      have e : (i + n).toNat = j := Option.some.inj h
      exact ⟨by rw [seqIndex_neg (by omega) h1, e], by omega, h1, by omega⟩
    · rw [if_neg h1] at h; cases h
theorem atI_get {α : Type} {xs : List α} {i : Int} {v : α} (h : atI xs i = some v) : ∃ j, seqIndex? i xs.length = some j ∧ xs[j]? = some v ∧ j < xs.length ∧ -(xs.length : Int) ≤ i ∧ i < xs.length := by
  unfold atI at h
  cases e : ixN xs.length i with
  | none => rw [e] at h; cases h
  | some j =>
    rw [e] at h
    obtain ⟨h1, h2, h3, h4⟩ := ixN_seq e
    exact ⟨j, h1, h, h2, h3, h4⟩
theorem atI_nat {α : Type} {xs : List α} {j : Nat} {v : α} (h : xs[j]? = some v) : atI xs (j : Int) = some v := by
  have hj : j < xs.length := (List.getElem?_eq_some_iff.mp h).1
  have e : ixN xs.length (j : Int) = some j := by
    unfold ixN
    rw [if_pos (by omega), if_pos (by omega)]; simp
  unfold atI; rw [e]; exact h
/-! ### what may be subscripted -/
/-- what stands as an index of a plain subscript -/
def PlainIx (b : Expr) : Prop := ∀ o i, subscripted b false o i = operate [o, i] (getItem o i)
/-- a subscript by values -/
def IxR (X : Cx) (r : R2) : Prop :=
  ∀ (value slice : Expr) (pins : List (Addr × Obj)) (s : Shared) (σ : St) (H : Hp) (x y : V) (v u : Value) (Q : VK), Inv X pins σ H s → RelV x v → RelV y u → r x y H Q →
    subscripted slice false v u = operate [v, u] (getItem v u) → wpAny (model X.prog X.w) X.A (subscriptTail value slice v u) (EP X pins σ Q) X.xe s
/-- a call of a builtin's method by values: the receiver, the arguments -/
def MtR (X : Cx) (id : String) (r : V → List V → Hp → VK → Prop) : Prop :=
  ∀ (pins : List (Addr × Obj)) (s : Shared) (σ : St) (H : Hp) (x : V) (xs : List V) (v : Value) (us : List Value) (Q : VK), Inv X pins σ H s → RelV x v → Vals xs us → r x xs H Q →
    wpAny (model X.prog X.w) X.A (call (.builtin id) (v :: us)) (EP X pins σ Q) X.xe s
section
variable {X : Cx} {a b : Expr} {ta tb : TE} {pos : Pos}
theorem IxR.or {r r' : R2} (h : IxR X r) (h' : IxR X r') : IxR X (fun x y H Q => r x y H Q ∨ r' x y H Q) := by
  intro value slice pins s σ H x y v u Q I rx ry q hs
  rcases q with q | q
  · exact h value slice pins s σ H x y v u Q I rx ry q hs
  · exact h' value slice pins s σ H x y v u Q I rx ry q hs
theorem MtR.or {id : String} {r r' : V → List V → Hp → VK → Prop} (h : MtR X id r) (h' : MtR X id r') : MtR X id (fun x xs H Q => r x xs H Q ∨ r' x xs H Q) := by
  intro pins s σ H x xs v us Q I rx rs q
  rcases q with q | q
  · exact h pins s σ H x xs v us Q I rx rs q
  · exact h' pins s σ H x xs v us Q I rx rs q
/-- a[b] -/
theorem pe_ix {r : R2} (hr : IxR X r) (ha : PE X a ta) (hb : PE X b tb) (hs : PlainIx b) : PE X (.Subscript a b pos) (tOp r ta tb) := by
  intro pins s σ H Q I h
  exact Subscript_ (binT ha hb I h fun v u s2 x y H2 I2 rx ry q => hr a b pins s2 σ H2 x y v u Q I2 rx ry q (hs _ _))

def rIxL (K : PySem.W.Frag) : R2 := fun x y H Q => ∃ p xs i v, x = .ref p ∧ y = .int i ∧ SqL K H p xs ∧ atI xs i = some v ∧ Q v H
def rIxT (K : PySem.W.Frag) : R2 := fun x y H Q => ∃ p xs i v, x = .ref p ∧ y = .int i ∧ SqT K H p xs ∧ atI xs i = some v ∧ Q v H
theorem ix_list : IxR X (rIxL X.K) := by
  intro value slice pins s σ H x y v u Q I rx ry h hs
  obtain ⟨p, xs, i, z, rfl, rfl, hq, he, q⟩ := h
  cases rx
  obtain ⟨t, rfl⟩ := ry
  obtain ⟨its, r, pl, hz⟩ := I.list hq
  obtain ⟨j, h1, h2, h3, h4, h5⟩ := atI_get he
  obtain ⟨w, ew, rw'⟩ := r.get h2
  have hl := r.length
  have hn := line63
  have fin : EP X pins σ Q w s := ⟨z, H, I, rw', q⟩
  by_cases h0 : 0 ≤ i
  · have hj : i.toNat = j := by
      rw [seqIndex_of h0 h5] at h1
      exact Option.some.inj h1
    exact item_listR pl.isList h0 (by omega) (by rw [hj]; simpa using ew) fin hs
  · have hj : (i + (its.toArray.size : Int)).toNat = j := by
      rw [seqIndex_neg (by omega) h4] at h1
      rw [List.size_toArray, ← hl]
      exact Option.some.inj h1
    exact subscriptTail_builtinR (x := w) pl.isList.typeIs slot_list_getitem.lookup
      (wpAny_getItem_list_neg (Q := fun r s' => r = w ∧ EP X pins σ Q r s') pl.isList (by omega) (by rw [List.size_toArray] <;> omega) (by omega) (by rw [hj]; simpa using ew) ⟨rfl, fin⟩) hs
theorem ix_tup : IxR X (rIxT X.K) := by
  intro value slice pins s σ H x y v u Q I rx ry h hs
  obtain ⟨p, xs, i, z, rfl, rfl, hq, he, q⟩ := h
  cases rx
  obtain ⟨t, rfl⟩ := ry
  obtain ⟨its, r, pl, hz⟩ := I.tuple hq
  obtain ⟨j, h1, h2, h3, h4, h5⟩ := atI_get he
  obtain ⟨w, ew, rw'⟩ := r.get h2
  have hl := r.length
  have hn := line63
  have fin : EP X pins σ Q w s := ⟨z, H, I, rw', q⟩
  exact subscriptTail_builtinR (x := w) pl.typeIs slot_tuple_getitem.lookup
    (getItem_tuple (j := j) (Q := fun r s' => r = w ∧ EP X pins σ Q r s') pl (by omega) (by omega) (by rw [List.size_toArray, ← hl]; exact h1) (by simpa using ew) ⟨rfl, fin⟩) hs
/-! ### xs[i] = v, any sign -/
/-- the list's object behind a store -/
theorem mapSeq_set (its : List Value) (n j : Nat) (u : Value) : Obj.mapSeq (·.setIfInBounds j u) { cls := .type "list", data := .seq its.toArray n } = { cls := .type "list", data := .seq (its.set j u).toArray n } := by
  simp [Obj.mapSeq]
theorem Inv.lst {pins : List (Addr × Obj)} {σ : St} {H : Hp} {s : Shared} {p : Addr} {xs : List V} (I : Inv X pins σ H s) (h : H p = some (.lst xs)) :
    ∃ (its : List Value) (n : Nat), Vals xs its ∧ s.heap.get? p = some { cls := .type "list", data := .seq its.toArray n } ∧ xs.length ≤ sizeLine := by
  obtain ⟨z, its, n, r, e⟩ := I.hok p _ h
  exact ⟨its, n, r, e, z⟩
/-- the list at p is written by an update of its object -/
theorem Inv.lstUpd {pins : List (Addr × Obj)} {σ : St} {H : Hp} {s : Shared} {p : Addr} {xs ys : List V} {its its' : List Value} {n n' : Nat} {f : Obj → Obj} (I : Inv X pins σ H s) (h : H p = some (.lst xs))
    (ho : s.heap.get? p = some { cls := .type "list", data := .seq its.toArray n }) (hf : f { cls := .type "list", data := .seq its.toArray n } = { cls := .type "list", data := .seq its'.toArray n' }) (r : Vals ys its') (hz : ys.length ≤ sizeLine) (t : Nat) :
    Inv X pins σ (upd H p (.lst ys)) { s with heap := s.heap.update p f, toks := t } := by
  have e : (s.heap.update p f).get? p = some { cls := .type "list", data := .seq its'.toArray n' } := by
    rw [Heap.get?_update_self f ho (by rw [hf] <;> rfl), hf]
  refine I.write (x := p) (e := p) (by rw [h]; trivial) (.inl rfl) (fun b u hb q => (Heap.get?_update_other _ _ (Ne.symm hb)).trans q) ⟨_, e⟩ ?_
  exact ⟨hz, its', n', r, e⟩
def rSetL : V → V → V → Hp → (Hp → Prop) → Prop := fun o i v H Q => ∃ p xs k j, o = .ref p ∧ i = .int k ∧ H p = some (.lst xs) ∧ ixN xs.length k = some j ∧ Q (upd H p (.lst (xs.set j v)))
theorem set_list : PSet X rSetL := by
  intro pins s σ H o i v ov iv u Q I ro ri rv h
  obtain ⟨p, xs, k, j, rfl, rfl, hp, hj, q⟩ := h
  cases ro
  obtain ⟨t, rfl⟩ := ri
  obtain ⟨its, n, r, ho, hz⟩ := I.lst hp
  obtain ⟨h1, h2, h3, h4⟩ := ixN_seq hj
  have hl := r.length
  have hn := line63
  have I' : Inv X pins σ (upd H p (.lst (xs.set j v))) { s with heap := s.heap.update p (Obj.mapSeq (·.setIfInBounds j u)) } :=
    I.lstUpd hp ho (mapSeq_set its n j u) (r.set rv j) (by rw [List.length_set]; exact hz) s.toks
  by_cases h0 : 0 ≤ k
  · have hk : k.toNat = j := by
      rw [seqIndex_of h0 h4] at h1
      exact Option.some.inj h1
    exact PySem.W.ki_setAt ho h0 (by omega) (by rw [List.size_toArray, ← hl]; exact h4) (by rw [hk]; exact ⟨_, I', q⟩)
  · have hk : (k + (its.toArray.size : Int)).toNat = j := by
      rw [seqIndex_neg (by omega) h3] at h1
      rw [List.size_toArray, ← hl]
      exact Option.some.inj h1
    exact PySem.W.ki_setBack ho (by omega) (by rw [List.size_toArray, ← hl]; exact h3) (by omega) (by rw [hk]; exact ⟨_, I', q⟩)

/-! ### slices -/
theorem slice_bounds (lo hi : Option Int) (n : Nat) : (sliceBounds lo hi none n).1 = ((HT.sIx n 0 lo : Nat) : Int) ∧ (sliceBounds lo hi none n).2.1 = ((HT.sIx n n hi : Nat) : Int) ∧ (sliceBounds lo hi none n).2.2 = 1 := by
  refine ⟨?_, ?_, rfl⟩
  · cases lo with
    | none => simp [sliceBounds, HT.sIx]
    | some i =>
      simp only [sliceBounds, HT.sIx, Option.getD_none, show (1 : Int) > 0 by decide, if_true]
      by_cases h : i < 0
      · simp only [h, if_true] <;> omega
      · simp only [h, if_false] <;> omega
  · cases hi with
    | none => simp [sliceBounds, HT.sIx]
    | some i =>
      simp only [sliceBounds, HT.sIx, Option.getD_none, show (1 : Int) > 0 by decide, if_true]
      by_cases h : i < 0
      · simp only [h, if_true] <;> omega
      · simp only [h, if_false] <;> omega
theorem slicePick_cut (its : List Value) (lo hi : Option Int) : slicePick its.toArray lo hi none = ((its.drop (HT.sIx its.length 0 lo)).take (HT.sIx its.length its.length hi - HT.sIx its.length 0 lo)).toArray := by
  obtain ⟨h1, h2, h3⟩ := slice_bounds lo hi its.toArray.size
  unfold slicePick
  rw [h1, h2, h3]
  simp only [sliceRange_one, pick_run, List.size_toArray] <;> rfl
/-- xs[lo:hi] of a list: a new list -/
def rSlL (K : PySem.W.Frag) : V → Option Int → Option Int → Hp → VK → Prop := fun x lo hi H Q => ∃ a xs, x = .ref a ∧ SqL K H a xs ∧ ∀ p, H p = none → Q (.ref p) (upd H p (.lst (cutV xs lo hi)))
theorem sl_list : SlR X (rSlL X.K) := by
  intro pins s σ H x v vl vu lo hi sl Q I rx hs pl pu h
  obtain ⟨a, xs, rfl, hx, q⟩ := h
  cases rx
  obtain ⟨its, r, ht, hz⟩ := I.list hx
  have hlen := r.length
  refine ⟨"list", _, slot_list_getitem.lookup, ht.isList.typeIs, ?_⟩
  refine wpAny_getItem_list_slice ht.isList hs pl pu .none (by simp) ?_ (by rw [List.size_toArray] <;> omega)
  rw [slicePick_cut, ← hlen]
  refine ⟨.ref s.heap.objs.size, _, I.laid (t' := s.toks) (o := .lst (cutV xs lo hi)) (fun b ob q => Heap.get?_push_of_some _ q) (Nat.le_refl _) ?_, rfl, q _ (I.hok.fresh (Nat.le_refl _))⟩
  exact ⟨Nat.le_trans (cutV_length xs lo hi) hz, _, 0, (r.drop (HT.sIx xs.length 0 lo)).take (HT.sIx xs.length xs.length hi - HT.sIx xs.length 0 lo), Heap.get?_push_size _ rfl⟩

/-! ### in, not in: flat items -/
def flatV : V → Bool
  | .non => true
  | .bl _ => true
  | .int _ => true
  | .str _ => true
  | _ => false
/-- == of flat values -/
def eqV : V → V → Bool
  | .non, .non => true
  | .bl a, .bl b => a == b
  | .bl a, .int b => (if a then 1 else 0) == b
  | .int a, .bl b => a == (if b then 1 else 0)
  | .int a, .int b => a == b
  | .str a, .str b => a == b
  | _, _ => false
theorem eqAt_V {A : Around} {s : Shared} {y x : V} {u v : Value} (ry : RelV y u) (rx : RelV x v) (fy : flatV y = true) (fx : flatV x = true) : SeqAt.EqAt A s u v (eqV y x) := by
  cases y with
  | non =>
    cases ry
    cases x with
    | non => cases rx; exact SeqAt.EqAt.same _
    | bl b => cases rx; exact SeqAt.EqAt.none_bool b
    | int b => obtain ⟨t, rfl⟩ := rx; exact SeqAt.EqAt.none_int b t
    | str b => obtain ⟨t, rfl⟩ := rx; exact SeqAt.EqAt.none_str b t
    | _ => exact absurd (show false = true from fx) Bool.false_ne_true
  | bl a =>
    cases ry
    cases x with
    | non => cases rx; exact SeqAt.EqAt.bool_none a
    | bl b => cases rx; exact SeqAt.EqAt.bool_bool a b
    | int b => obtain ⟨t, rfl⟩ := rx; exact SeqAt.EqAt.bool_int a b t
    | str b => obtain ⟨t, rfl⟩ := rx; exact SeqAt.EqAt.bool_str a b t
    | _ => exact absurd (show false = true from fx) Bool.false_ne_true
  | int a =>
    obtain ⟨t', rfl⟩ := ry
    cases x with
    | non => cases rx; exact SeqAt.EqAt.int_none a t'
    | bl b => cases rx; exact SeqAt.EqAt.int_bool a t' b
    | int b => obtain ⟨t, rfl⟩ := rx; exact SeqAt.EqAt.int_int a t' b t
    | str b => obtain ⟨t, rfl⟩ := rx; exact SeqAt.EqAt.int_str a t' b t
    | _ => exact absurd (show false = true from fx) Bool.false_ne_true
  | str a =>
    obtain ⟨t', rfl⟩ := ry
    cases x with
    | non => cases rx; exact SeqAt.EqAt.str_none a t'
    | bl b => cases rx; exact SeqAt.EqAt.str_bool a t' b
    | int b => obtain ⟨t, rfl⟩ := rx; exact SeqAt.EqAt.str_int a t' b t
    | str b => obtain ⟨t, rfl⟩ := rx; exact SeqAt.EqAt.str_str a t' b t
    | _ => exact absurd (show false = true from fx) Bool.false_ne_true
  | _ => exact absurd (show false = true from fy) Bool.false_ne_true
/-! ### len, list(x), tuple(x) of any list or tuple that is read -/
theorem call_len_seq : CallR X (.builtin "len") (fun xs H Q => ∃ p ys, xs = [.ref p] ∧ (SqL X.K H p ys ∨ SqT X.K H p ys) ∧ Q (.int ys.length) H) := by
  intro pins s σ H xs us Q I r h
  obtain ⟨p, ys, rfl, hq, q⟩ := h
  obtain ⟨u, rfl, rx⟩ := vals1 r
  cases rx
  have hn := line63
  rcases hq with hq | hq
  · obtain ⟨its, r', pl, hz⟩ := I.list hq
    have hlen := r'.length
    exact Calls.call_len_list pl.isList (by simp only [List.size_toArray] <;> omega) ⟨.int ys.length, H, I.tok _, ⟨s.toks + 1, by rw [List.size_toArray, hlen]⟩, q⟩
  · obtain ⟨its, r', pl, hz⟩ := I.tuple hq
    have hlen := r'.length
    exact len_tuple pl (by simp only [List.size_toArray] <;> omega) ⟨.int ys.length, H, I.tok _, ⟨s.toks + 1, by rw [List.size_toArray, hlen]⟩, q⟩
theorem CallR.or {f : Value} {r r' : List V → Hp → VK → Prop} (h : CallR X f r) (h' : CallR X f r') : CallR X f (fun xs H Q => r xs H Q ∨ r' xs H Q) := by
  intro pins s σ H xs us Q I rs q
  rcases q with q | q
  · exact h pins s σ H xs us Q I rs q
  · exact h' pins s σ H xs us Q I rs q
theorem call_list_of : CallR X (.type "list") (fun xs H Q => ∃ p ys, xs = [.ref p] ∧ (SqL X.K H p ys ∨ SqT X.K H p ys) ∧ ∀ l, H l = none → Q (.ref l) (upd H l (.lst ys))) := by
  intro pins s σ H xs us Q I r h
  obtain ⟨p, ys, rfl, hq, q⟩ := h
  obtain ⟨u, rfl, rx⟩ := vals1 r
  cases rx
  have fin : ∀ (its : List Value), Vals ys its → ys.length ≤ sizeLine → ∀ (h' : Heap) (c' : Nat), (∀ b o', s.heap.get? b = some o' → h'.get? b = some o') →
      h'.get? s.heap.objs.size = some { cls := .type "list", dict := none, data := .seq its.toArray c', slots := #[] } → EP X pins σ Q (.ref s.heap.objs.size) { s with heap := h' } := fun its r' hz h' c' kp e =>
    ⟨.ref s.heap.objs.size, _, I.laid (t' := s.toks) kp (Nat.le_refl _) (show ObjOk X.prog X.w _ h' _ (.lst ys) from ⟨hz, its, c', r', e⟩), rfl, q _ (I.hok.fresh (Nat.le_refl _))⟩
  rcases hq with hq | hq
  · obtain ⟨its, r', pl, hz⟩ := I.list hq
    have hlen := r'.length
    obtain ⟨o, ho, hc, n, hd⟩ := pl.isList
    exact call_list_seq p (.inl rfl) ho hc hd (fun h' c' kp e => fin its r' hz h' c' kp e) (by simp only [List.size_toArray] <;> omega)
  · obtain ⟨its, r', pl, hz⟩ := I.tuple hq
    have hlen := r'.length
    obtain ⟨o, ho, hc, n, hd⟩ := pl
    exact call_list_seq p (.inr rfl) ho hc hd (fun h' c' kp e => fin its r' hz h' c' kp e) (by simp only [List.size_toArray] <;> omega)
/-! ### the call of a builtin's method: o.m(..) -/
/-- the value is of that builtin type -/
def tyV (K : PySem.W.Frag) (T : String) (x : V) (H : Hp) : Prop := match x with
  | .str _ => T = "str"
  | .int _ => T = "int"
  | .ref p => (T = "list" ∧ ∃ xs, SqL K H p xs) ∨ (T = "tuple" ∧ ∃ o, K.lookup p = some o ∧ o.cls = .type "tuple" ∧ o.dict = none) ∨
      (T = "dict" ∧ ((∃ kvs, H p = some (.dK kvs)) ∨ ∃ kvs, H p = some (.dT kvs))) ∨ (T = "set" ∧ ∃ S n, H p = some (.set S n))
  | _ => False
theorem tyV_is {pins : List (Addr × Obj)} {σ : St} {H : Hp} {s : Shared} {T : String} {x : V} {v : Value} (I : Inv X pins σ H s) (r : RelV x v) (ty : tyV X.K T x H) :
    s.TypeIs v T ∧ ∀ a, v = .ref a → ∃ ob, s.heap.get? a = some ob ∧ ob.dict = none := by
  cases x with
  | str z =>
    obtain ⟨t, rfl⟩ := r
    cases (show T = "str" from ty)
    exact ⟨typeIs_str s z t, fun _ e => nomatch e⟩
  | int i =>
    obtain ⟨t, rfl⟩ := r
    cases (show T = "int" from ty)
    exact ⟨typeIs_int s i t, fun _ e => nomatch e⟩
  | ref p =>
    cases r
    rcases ty with ⟨rfl, xs, hq⟩ | ⟨rfl, o, hk, hc, hd⟩ | ⟨rfl, hk⟩ | ⟨rfl, S, n, hk⟩
    · obtain ⟨its, _, pl, _⟩ := I.list hq
      refine ⟨pl.isList.typeIs, fun a e => ?_⟩
      cases e
      obtain ⟨o, n, e, c, hd, _⟩ := pl
      exact ⟨o, e, hd⟩
    · refine ⟨⟨o, I.kIn p o hk, hc⟩, fun a e => ?_⟩
      cases e
      exact ⟨o, I.kIn _ o hk, hd⟩
    · have z : ∃ o, s.heap.get? p = some o ∧ o.ExactDict := by
        rcases hk with ⟨kvs, hk⟩ | ⟨kvs, hk⟩
        · obtain ⟨_, _, _, _, o, _, _, e, ex, _⟩ := I.hok p _ hk
          exact ⟨o, e, ex⟩
        · obtain ⟨_, _, _, _, o, _, _, e, ex, _⟩ := I.hok p _ hk
          exact ⟨o, e, ex⟩
      obtain ⟨o, e, ex⟩ := z
      refine ⟨⟨o, e, ex.1⟩, fun a e2 => ?_⟩
      cases e2
      exact ⟨o, e, ex.2.1⟩
    · obtain ⟨o, _, _, _, e, ex, _⟩ := I.hok p _ hk
      refine ⟨⟨o, e, ex.1⟩, fun a e2 => ?_⟩
      cases e2
      exact ⟨o, e, ex.2.1⟩
  | _ => exact False.elim ty
def tBM0 (K : PySem.W.Frag) (T : String) (r : V → List V → Hp → VK → Prop) (to : TE) : TE := fun σ H Q => to σ H fun x H1 => tyV K T x H1 ∧ r x [] H1 Q
def tBM (K : PySem.W.Frag) (T : String) (r : V → List V → Hp → VK → Prop) (to : TE) (t : TA) : TE := fun σ H Q => to σ H fun x H1 => tyV K T x H1 ∧ t σ H1 fun xs H2 => r x xs H2 Q
variable {o e : Expr} {es : List Expr} {to : TE} {t : TA} {name : Str} {apos cpos : Pos} {T id : String} {r : V → List V → Hp → VK → Prop}
theorem pe_bm0 (pa : PlainAttrs T) (slot : Slot T name id) (hty : typeOf (.builtin id) = pure (.type "method_descriptor")) (hm : MtR X id r) (ho : PE X o to)
    (hbase : attributeBase o name X.env (eval o X.env) = eval o X.env := by rfl) (hline : (apos.endLine == cpos.line) = true := by rfl) : PE X (.Call (.Attribute o name apos) [] [] cpos) (tBM0 X.K T r to) := by
  intro pins s σ H Q I h
  refine wpAny_Call_method0_late hbase hline (thn (ho pins s σ H _ I h) fun v s1 ⟨x, H1, I1, r1, ty, q1⟩ => ?_)
  obtain ⟨h1, h2⟩ := tyV_is I1 r1 ty
  exact ⟨T, id, pa, slot, hty, h1, h2, Calls.callWith_builtin rfl (PySem.evalArgs_none (hm pins s1 σ H1 x [] v [] Q I1 r1 .nil q1))⟩
theorem pe_bm (pa : PlainAttrs T) (slot : Slot T name id) (hty : typeOf (.builtin id) = pure (.type "method_descriptor")) (hm : MtR X id r) (ho : PE X o to) (ha : PA X (e :: es) t)
    (hbase : attributeBase o name X.env (eval o X.env) = eval o X.env := by rfl)
    (hfew : ((backTo cpos (starEach (e :: es) X.env)).all (fun x => !x.1) && (backToKw cpos (keywordEach [] X.env)).all (fun x => x.1.isSome)
      && decide ((e :: es).length + ([] : List Keyword).length + (if ([] : List Keyword).isEmpty then 0 else 1) < 30)) = true := by rfl)
    (hline : (apos.endLine == cpos.line) = true := by rfl) (hs : starEach (e :: es) X.env = (false, eval e X.env) :: starEach es X.env := by rfl) (hplain : (backTo cpos (starEach es X.env)).any (·.1) = false := by rfl) :
    PE X (.Call (.Attribute o name apos) (e :: es) [] cpos) (tBM X.K T r to t) := by
  intro pins s σ H Q I h
  refine wpAny_Call_method_late hbase hfew hline rfl (thn (ho pins s σ H _ I h) fun v s1 ⟨x, H1, I1, r1, ty, q1⟩ => ?_)
  obtain ⟨h1, h2⟩ := tyV_is I1 r1 ty
  refine ⟨T, id, pa, slot, hty, h1, h2, ?_⟩
  have hA := ha cpos pins s1 σ H1 _ I1 q1
  rw [hs] at hA ⊢
  refine Calls.callWith_builtin (by show (false || (backTo cpos (starEach es X.env)).any (·.1)) = false; rw [hplain] <;> rfl) (Calls.evalArgs_plain ?_)
  exact thn hA fun us s2 ⟨vs, H2, I2, r2, q2⟩ => hm pins s2 σ H2 x vs v us Q I2 r1 r2 q2
/- xs.append(e), list.index on a module's tuple .. are MtR facts of 06m -/
end
end L2

namespace L2
open PySem PySem.Spec PyProof.Rows

def MtM (X : Cx) (id : String) (r : V → List V → Hp → VK → Prop) : Prop :=
  ∀ (pins : List (Addr × Obj)) (s : Shared) (σ : St) (H : Hp) (x : V) (xs : List V) (v : Value) (us : List Value) (Q : VK), Inv X pins σ H s → RelV x v → Vals xs us → r x xs H Q →
    wpAny (model X.prog X.w) X.A (call (.builtin id) (v :: us)) (EP X pins σ Q) X.xe s

/-! ### lists of values -/
theorem Vals.one : ∀ {x : V} {us : List Value}, Vals [x] us → ∃ u, us = [u] ∧ RelV x u
  | _, _, .cons r .nil => ⟨_, rfl, r⟩
theorem Vals.two : ∀ {x y : V} {us : List Value}, Vals [x, y] us → ∃ u v, us = [u, v] ∧ RelV x u ∧ RelV y v
  | _, _, _, .cons r (.cons q .nil) => ⟨_, _, rfl, r, q⟩
theorem Vals.zero : ∀ {us : List Value}, Vals [] us → us = []
  | _, .nil => rfl
theorem Vals.dropLast {xs : List V} {us : List Value} (h : Vals xs us) : Vals xs.dropLast us.dropLast := by
  induction h with
  | nil => exact .nil
  | cons r t ih =>
    cases t with
    | nil => exact .nil
    | cons q t' => exact .cons r ih
theorem Vals.reverse {xs : List V} {us : List Value} (h : Vals xs us) : Vals xs.reverse us.reverse := by
  induction h with
  | nil => exact .nil
  | cons r t ih => rw [List.reverse_cons, List.reverse_cons]; exact Vals.append ih (.cons r .nil)
theorem Vals.rep {xs : List V} {us : List Value} (h : Vals xs us) : ∀ k : Nat, Vals (List.replicate k xs).flatten (List.replicate k us).flatten
  | 0 => .nil
  | k + 1 => by
    rw [List.replicate_succ, List.replicate_succ, List.flatten_cons, List.flatten_cons]
    exact Vals.append h (Vals.rep h k)
section
variable {X : Cx} {pins : List (Addr × Obj)} {σ : St} {H : Hp} {s : Shared} {l b : Addr} {xs ys zs : List V}

/-! ### the two steps: a tracked list is rewritten, a new list is laid -/
theorem Inv.lset {its its' : List Value} {n : Nat} {f : Array Value → Array Value} {t' : Nat} (I : Inv X pins σ H s) (hH : H l = some (.lst xs))
    (e : s.heap.get? l = some { cls := .type "list", data := .seq its.toArray n }) (hf : f its.toArray = its'.toArray) (hv : Vals ys its') (hz : ys.length ≤ sizeLine) :
    Inv X pins σ (upd H l (.lst ys)) { s with heap := s.heap.update l (Obj.mapSeq f), toks := t' } := by
  have q := PySem.IsL.update e f
  rw [hf] at q
  refine I.write (x := l) (e := l) (by rw [hH]; exact trivial) (.inl rfl) (fun b' u hb hu => (Heap.get?_update_other s.heap (Obj.mapSeq f) (Ne.symm hb)).trans hu) ⟨_, q⟩ ?_
  exact ⟨hz, its', _, hv, q⟩
theorem Inv.lnew {its : List Value} {t' : Nat} (I : Inv X pins σ H s) (hv : Vals ys its) (hz : ys.length ≤ sizeLine) :
    Inv X pins σ (upd H s.heap.objs.size (.lst ys)) { s with heap := s.heap.push { cls := .type "list", data := .seq its.toArray }, toks := t' } :=
  I.laid (fun _ _ q => Heap.get?_push_of_some _ q) (Nat.le_refl _) ⟨hz, its, 0, hv, Heap.get?_push_size _ rfl⟩
theorem Inv.fresh (I : Inv X pins σ H s) : H s.heap.objs.size = none := I.hok.fresh (Nat.le_refl _)
theorem Inv.lstM (I : Inv X pins σ H s) (hH : H l = some (.lst xs)) : xs.length ≤ sizeLine ∧ ∃ (its : List Value) (n : Nat), Vals xs its ∧ xs.length = its.length ∧ s.heap.get? l = some { cls := .type "list", data := .seq its.toArray n } := by
  obtain ⟨z, its, n, r, e⟩ := I.hok l _ hH
  exact ⟨z, its, n, r, r.length, e⟩

end

section
variable {X : Cx}

/-! ### methods -/
def rAppend : V → List V → Hp → VK → Prop := fun x vs H Q => ∃ l xs y, x = .ref l ∧ vs = [y] ∧ H l = some (.lst xs) ∧ xs.length < sizeLine ∧ Q .non (upd H l (.lst (xs ++ [y])))
theorem mt_append : MtM X "list.append" rAppend := by
  intro pins s σ H x vs v us Q I rx rv h
  obtain ⟨l, xs, y, rfl, rfl, hH, hz, q⟩ := h
  cases rx
  obtain ⟨u, rfl, ru⟩ := rv.one
  obtain ⟨z, its, n, r, hl, e⟩ := I.lstM hH
  refine call_meets F.slot_list_append ⟨_, e, rfl⟩ F.entry_list_append (F.args_list_append_2 _ _) (PySem.list_append l its.toArray n u (by rw [List.size_toArray]; omega)) ⟨e, ?_⟩
  refine ⟨.non, _, I.lset (its' := its ++ [u]) hH e (by simp) (r.append (.cons ru .nil)) ?_, rfl, q⟩
  rw [List.length_append, List.length_singleton]
  omega

/-! ### list + list, list += list, list * int -/
def rCat : R2 := fun x y H Q => ∃ l b xs zs, x = .ref l ∧ y = .ref b ∧ H l = some (.lst xs) ∧ H b = some (.lst zs) ∧ xs.length + zs.length ≤ sizeLine ∧ ∀ p, H p = none → Q (.ref p) (upd H p (.lst (xs ++ zs)))
theorem op_cat : OpR X (binaryOp .Add) rCat := by
  intro pins s σ H x y v u Q I rx ry h
  obtain ⟨l, b, xs, zs, rfl, rfl, hH, hB, hz, q⟩ := h
  cases rx
  cases ry
  obtain ⟨z, its, n, r, hl, e⟩ := I.lstM hH
  obtain ⟨z2, its2, n2, r2, hl2, e2⟩ := I.lstM hB
  refine PySem.P.add_list e e2 ?_ (by rw [List.size_toArray, List.size_toArray]; omega)
  have ea : its.toArray ++ its2.toArray = (its ++ its2).toArray := by simp
  rw [ea]
  exact ⟨.ref _, _, I.lnew (t' := s.toks) (r.append r2) (by rw [List.length_append]; omega), rfl, q _ I.fresh⟩
/-! ### del xs[i] -/
end

/-! ### xs[a:b] = ys -/
section
variable {prog : Program} {w : World} {A : Around} {E : Value → Shared → Prop} {s : Shared}
end

section
variable {X : Cx}
end
end L2

namespace Att
open PySem PySem.W PySem.Calls PyProof.Rows

/-! ### the script -/
theorem ints_of_wellAll {P : Params} {h : Heap} : ∀ (ns : List Int) (vs : List Value), WellAll P h vs (ns.map WData.int) → IntsAre vs ns := by
  intro ns
  induction ns with
  | nil =>
    intro vs w
    rw [List.map_nil] at w
    cases w
    exact .nil
  | cons n ns ih =>
    intro vs w
    rw [List.map_cons] at w
    cases w with
    | cons a b =>
      cases a
      exact .cons _ _ (ih _ b)

theorem script_of {l : OpenLaw} {n : Nat} (hn : l.most = some n) {P : Params} {h : Heap} {args : List WData} {vals : List Value}
    (hpre : l.row.toRowW.claim.pre args = true) (hwl : WellAll P h vals args) :
    ∃ a vs ns, vals = [Value.ref a] ∧ args = [WData.list (ns.map WData.int)] ∧ h.get? a = some { cls := .type "list", data := .seq vs.toArray } ∧ IntsAre vs ns ∧ ns.length ≤ n := by
  have hsh : WShape.hasAll [] args [.list .int] = true := (pre_splitW hpre).1
  have hc : l.pre.holds [] { args := args } = true := (pre_splitW hpre).2
  obtain ⟨d, r, rfl, h1, h2⟩ := hasAllW_cons hsh
  obtain rfl := hasAllW_nil h2
  obtain ⟨xs, rfl, h3⟩ := hasW_list h1
  obtain ⟨ns, rfl⟩ := items_int h3
  have hlen : ns.length ≤ n := by
    unfold OpenLaw.pre at hc
    have h4 : (WTm.not (.lt (.lit (.int (n : Int))) (.len (.arg 0)))).holds [] { args := [.list (ns.map .int)] } = true := by
      have h4 := (holds_andW hc).1
      rw [hn] at h4
      exact h4
    have h5 := condW_of h4 (w_not (w_lt w_lit (w_len_list (w_arg rfl))))
    rw [List.length_map] at h5
    refine Nat.le_of_not_lt fun q => ?_
    have q' : (n : Int) < ((ns.length : Nat) : Int) := by omega
    first
      | (rw [decide_eq_true q'] at h5; exact absurd h5 (by decide))
      | (simp at h5; omega)
  cases hwl with
  | cons w1 w2 =>
    cases w2
    cases w1 with
    | list ho hall => exact ⟨_, _, ns, rfl, rfl, ho, ints_of_wellAll ns _ hall, hlen⟩

theorem post_true (l : OpenLaw) (args : List WData) : l.row.toRowW.claim.post args (.bool true) args = true :=
  postW_of (r := l.row.toRowW) (X := (true == true))
    (show WShape.has [] (.bool true) .bool = true by first | rfl | decide | simp [WShape.has, WShape.arms, WShape.armsAll])
    (show (WTm.eq .res (.lit (.bool true))).value [] { args := args, res := some (.bool true), after := args } = some (.bool (true == true)) from w_eq_bool (w_res rfl) w_lit) rfl

/-! ### the attachment: holds_open's last premise (the goal 'hc' behind k_head) from a wpAny of the law's body -/
/-- the same from a codeAny of the CALL (for a layer whose function contracts speak of calls) -/
theorem attach_call {l : OpenLaw} {n : Nat} {q : Program} {loose : List Str} {XP : (Str → Option Value) → Heap → Prop} {YP : World → Heap → Prop} {d : DefRec}
    (hn : l.most = some n) (hdf : d.params.defaults = [])
    (call : ∀ (w : World) (s₀ s₁ : Shared) (mg mb : Str → Option Value) (fa : Addr) (o : Obj) (pm cd doc : Value) (a : Addr) (vs : List Value) (ns : List Int),
      Ground q loose [] XP w s₀ mg mb s₁.heap → YP w s₁.heap →
      s₁.heap.get? fa = some o → o.data = .func (docDef d.name d.params d.body d.scope pm cd doc) → s₁.heap.CodeRec cd d.name → mg d.name = some (.ref fa) →
      s₁.heap.get? a = some { cls := .type "list", data := .seq vs.toArray } → IntsAre vs ns → ns.length ≤ n → s₁.gens = #[] →
      codeAny (model l.prog w) callerA (.call (.ref fa) ⟨[.ref a], []⟩) (fun r s' => r = .ok (.ret (.bool true)) ∧ OldK s₁.heap s'.heap ∧ s'.os = s₁.os ∧ AllBare s'.gens) s₁) :
    WalkO q loose XP YP l.row.toRowW d [] (fun f vs => PySem.call f vs) := by
  intro w s₀ s₁ mg mb G Y fa o pm cd doc dV kV ho hd hcd hD hmg hg args vals as hpre hlay hrd hwl hlo
  obtain rfl : dV = .none := Dflts.none hD hdf
  obtain rfl : kV = .none := Dflts.noKw hD
  obtain ⟨a, vs, ns, rfl, rfl, hobj, hints, hlen⟩ := script_of hn hpre hwl
  refine enter_call (codeAny_mono (call w s₀ s₁ mg mb fa o pm cd doc a vs ns G Y ho (fd_plain hd) hcd hmg hobj hints hlen hg) fun r s' hq => ?_)
  obtain ⟨rfl, h2, h3, h4⟩ := hq
  exact ⟨.inl ⟨.bool true, .bool true, [], rfl, fun _ => rfl, .bool true, post_true l _, fun _ => ⟨List.Pairwise.nil, fun _ hm => (nomatch hm)⟩⟩, h2, h3, h4⟩

/-! ### rules over ANY heap (no ledger) from facts about the written part K: the library's own take a ledger (News) for what they write -/
section
variable {prog : Program} {w : World} {A : Around} {E : Value → Shared → Prop} {s : Shared} {K : Frag}

/-! the whole heap as the ledger: makes every rule that writes through a ledger a rule over any heap -/
def ledger (h : Heap) (L d : Addr) : List (Addr × Obj) := (List.range h.objs.size).filterMap fun a => if a = L ∨ a = d then none else (h.get? a).map fun o => (a, o)
end
end Att

namespace L2
open PySem PySem.Spec PyProof.Rows

theorem vals_ints : ∀ {vs : List Value} {ns : List Int}, IntsAre vs ns → Vals (ns.map V.int) vs
  | _, _, .nil => .nil
  | _, _, .cons n t h => .cons ⟨t, rfl⟩ (vals_ints h)

/-- nothing is tracked but the script, known to the object (or it is an object of the module) -/
def Only (H : Hp) : Prop := ∀ b, H b = none ∨ ∃ o xs, H b = some (.frz o (.lst xs))

/-- THE HEAD: the law's promise, at the heap behind the top. F, the promise of the law's def, may use that base is part of the heap (so K.In base, base.Ns mainGlobals mg stand in Mod) -/
theorem law_call {P : Program} {w : World} {K : PySem.W.Frag} {mg mb : Str → Option Value} {CX : CXT} {k : Nat} {fa a : Addr} {fd : FuncData} {x : Str} {sp : Sp} {s₁ : Shared} {vs : List Value} {ns : List Int}
    (KX : K.In s₁.heap) (hns : s₁.heap.Ns mainGlobals mg) (hb : s₁.heap.Ns builtinsNs mb) (hbb : ∀ x : Str, x ≠ "__name__" → mb x = bootBuiltins x) (hlim : s₁.heap.NoLimit) (hg : s₁.gens = #[])
    (ha : s₁.heap.get? a = some { cls := .type "list", data := .seq vs.toArray }) (hi : IntsAre vs ns) (hl : ns.length ≤ sizeLine) (hr : Room k callerA)
    (F : ∀ base : Heap, K.In base → base.Ns mainGlobals mg → FnOk P w K mg base CX k fa fd [x] sp) (hbind : ∀ (s : Shared) (u : Value), BindsTo s fd ⟨[u], []⟩ [(x, u)])
    (hsp : ∀ H : Hp, Only H → SqL K H a (ns.map V.int) → sp [.ref a] H (fun v _ => v = .bl true) fun _ _ _ => False)
    (hCX : ∀ H e s', CX [] H s₁ (fun _ _ _ => False) e s' → False) :
    codeAny (model P w) callerA (.call (.ref fa) ⟨[.ref a], []⟩) (fun r s' => r = .ok (.ret (.bool true)) ∧ OldK s₁.heap s'.heap ∧ s'.os = s₁.os ∧ AllBare s'.gens) s₁ := by
  have rv := vals_ints hi
  have lenV := hi.length
  -- from an abstract heap in which nothing but the script may be tracked
  have core : ∀ H : Hp, Only H → SqL K H a (ns.map V.int) → HOk P w H s₁.heap → (∀ b, H b ≠ none → b = a) → (H a ≠ none → K.lookup a = none) →
      codeAny (model P w) callerA (.call (.ref fa) ⟨[.ref a], []⟩) (fun r s' => r = .ok (.ret (.bool true)) ∧ OldK s₁.heap s'.heap ∧ s'.os = s₁.os ∧ AllBare s'.gens) s₁ := by
    intro H hO hS hok hA hK
    have base_of : ∀ {b : Addr} {o : Obj}, s₁.heap.get? b = some o → H b = none → (hidT s₁.heap H).get? b = some o := fun e n => hidT_get e n
    have noA : ∀ {b : Addr} {o : Obj} {es : Array DictEntry} {ep : Nat}, s₁.heap.get? b = some o → o.data = .dict es ep → H b = none := fun {b o es ep} e d => by
      cases q : H b with
      | none => rfl
      | some u =>
        have e' : b = a := hA b (by rw [q]; simp)
        subst e'
        rw [ha] at e; cases e
        have d' : Data.seq vs.toArray _ = Data.dict es ep := d
        cases d'
    have nsK : ∀ {b : Addr} {m : Str → Option Value}, s₁.heap.Ns b m → (hidT s₁.heap H).Ns b m := fun {b m} ⟨o, es, ep, e, d, r⟩ => ⟨o, es, ep, base_of e (noA e d), d, r⟩
    have hKb : K.In (hidT s₁.heap H) := fun b o e => base_of (KX b o e) (by
      cases q : H b with
      | none => rfl
      | some u =>
        have e' : b = a := hA b (by rw [q]; simp)
        subst e'
        rw [hK (by rw [q]; simp)] at e; cases e)
    have hM : Mod K mg (hidT s₁.heap H) := ⟨hKb, nsK hns, ⟨mb, nsK hb, hbb⟩, let ⟨mc, h1, h2⟩ := hlim; ⟨mc, nsK h1, h2⟩⟩
    have e0 : Env0 P w K mg (hidT s₁.heap H) callerA [] s₁ H := ⟨rfl, hM, fun b o e => of_hidT e, Nat.le_of_eq (hidT_size _ _), trivial, fun b hb => absurd (show b ∈ ([] : List Addr) from hb) (by simp), hok, .of_eq hg⟩
    refine codeAny_mono ((F _ hKb (nsK hns)).run callerA [] s₁ H ⟨[.ref a], []⟩ [.ref a] [.ref a] _ _ hr e0 (hbind s₁ (.ref a)) (.cons rfl .nil) (hsp H hO hS)) fun r s' h => ?_
    cases r with
    | error e => exact (hCX H e s' h).elim
    | ok fl =>
      cases fl with
      | next => exact False.elim h
      | brk => exact False.elim h
      | cont => exact False.elim h
      | ret u =>
        obtain ⟨v, H', os, bare, un, hok', r', q⟩ := h
        have q' : v = .bl true := q
        subst q'
        obtain rfl : u = Value.bool true := r'
        refine ⟨rfl, OldK.of_keep fun b o e => ?_, os, bare⟩
        cases q : H b with
        | none => exact un.keep b o e q (by intro z; exact absurd (show b ∈ ([] : List Addr) from z) (by simp)) (by simp)
        | some u =>
          rcases hO b with z | ⟨ob, xs, z⟩
          · rw [q] at z; cases z
          · have z2 := un.frzs b ob _ z
            obtain ⟨e1, _⟩ := hok b _ z
            obtain ⟨e2, _⟩ := hok' b _ z2
            rw [e] at e1; cases e1
            exact e2
  cases hk : K.lookup a with
  | some o =>
    -- the script is one of the module's own objects
    have e := KX a o hk
    rw [ha] at e
    cases e
    refine core (fun _ => none) (fun _ => .inl rfl) (.inr ⟨_, vs.toArray, _, hk, rfl, rfl, rfl, by rw [List.size_toArray, lenV]; exact hl, by simpa using rv⟩) (fun b u z => by have z' : (none : Option HO) = some u := z; cases z') (fun b z => absurd rfl z) fun z => absurd rfl z
  | none =>
    refine core (fun b => if b = a then some (.frz { cls := .type "list", data := .seq vs.toArray } (.lst (ns.map V.int))) else none) (fun b => ?_) (.inl (.inr ⟨{ cls := .type "list", data := .seq vs.toArray }, if_pos rfl⟩)) (fun b u z => ?_) (fun b z => ?_) fun _ => hk
    · by_cases hb : b = a
      · exact .inr ⟨_, _, if_pos hb⟩
      · exact .inl (if_neg hb)
    · by_cases hb : b = a
      · have z' := (if_pos hb).symm.trans z
        cases z'
        subst hb
        exact ⟨ha, by rw [List.length_map]; exact hl, vs, _, rv, ha⟩
      · have z' := (if_neg hb).symm.trans z
        cases z'
    · by_cases hb : b = a
      · exact hb
      · exact absurd (if_neg hb) z
end L2

namespace L2
open PySem PySem.Spec PyProof.Rows

abbrev KOf {K : PySem.W.Frag} {h : Heap} (_ : K.In h) : PySem.W.Frag := K

/-- the goal that k_head leaves (case hc), from the law's promise. F gives the function object fd (K's own) once, then the promise over every base -/
theorem walk_of {l : PySem.W.OpenLaw} {n k : Nat} {q : Program} {loose : List Str} {XP : (Str → Option Value) → Heap → Prop} {YP : World → Heap → Prop} {d : DefRec} {K : Params → PySem.W.Frag} {CX : World → CXT} {sp : World → Sp} {x : Str}
    (hn : l.most = some n) (hn2 : n ≤ sizeLine) (hdf : d.params.defaults = []) (hr : Room k callerA)
    (hY : ∀ (w : World) (h : Heap), YP w h → (K w.params).In h)
    (F : ∀ (w : World) (mg : Str → Option Value) (fa : Addr) (h : Heap), (K w.params).In h → h.Ns mainGlobals mg → mg d.name = some (.ref fa) →
      ∃ fd : FuncData, (∀ (s : Shared) (u : Value), BindsTo s fd ⟨[u], []⟩ [(x, u)]) ∧
        ∀ base : Heap, (K w.params).In base → base.Ns mainGlobals mg → FnOk l.prog w (K w.params) mg base (CX w) k fa fd [x] (sp w))
    (hsp : ∀ (w : World) (H : Hp) (a : Addr) (ns : List Int), ns.length ≤ n → Only H → SqL (K w.params) H a (ns.map V.int) → sp w [.ref a] H (fun v _ => v = .bl true) fun _ _ _ => False)
    (hCX : ∀ (w : World) (H : Hp) (s : Shared) (e : Value) (s' : Shared), CX w [] H s (fun _ _ _ => False) e s' → False) :
    PySem.W.WalkO q loose XP YP l.row.toRowW d [] (fun f vs => PySem.call f vs) := by
  refine Att.attach_call hn hdf fun w s₀ s₁ mg mb fa o pm cd doc a vs ns G Y ho hd hcd hmg hobj hints hlen hg => ?_
  have KX := hY w _ Y
  obtain ⟨fd, hb, hF⟩ := F w mg fa _ KX G.T.g hmg
  exact law_call KX G.T.g G.T.b G.T.builtins G.T.nolimit hg hobj hints (Nat.le_trans hlen hn2) hr hF hb (fun H hO hS => hsp w H a ns hlen hO hS) fun H e s' => hCX w H s₁ e s'
end L2

/- THE LAST THEOREM (shape; LID, My.* are yours):
   My.Adr: a structure of the addresses that your layer names (classes, functions); My.Txt K t: a structure (Prop) of the equations over K;
   My.txt_mk : {K} {implicit addresses ..} (e1 : nsIn K mainGlobals "law" = some (some (.ref f))) (e2 : K.lookup f = some ⟨oc, od, .func (fnOf "law" "law" params body scope dV kV doc pm an cdv ct), sl⟩) (e3 : codeIn K cdv "law" = true) .. : ∃ t, My.Txt K t

set_option maxRecDepth 100000 in
set_option maxHeartbeats 0 in
theorem PySem.Challenge.cw_LID_holds : PySem.Challenge.rw_LID.Holds := by
  w_on; o_law; k_head; (case hw => w_witness2)
  k_fill
  refine L2.walk_of (l := PySem.Challenge.rw_LID) (n := 63) (k := 40) (x := "script") (CX := fun w => ..) (sp := fun _ => My.sp_law) rfl (by decide) rfl ⟨rfl, by decide, by decide⟩ (fun w h Y => PySem.W.kIn_of Y) ?F ?S ?C
  case F =>
    intro w mg fa h KX G hmg
    have T : ∃ t, My.Txt (L2.KOf KX) t := by
      dsimp only [L2.KOf]                          -- K must stand as «<heap const> w.params» for k_is
      refine' My.txt_mk ?e1 ?e2 ?e3 ..
      (case e1 => PySem.W.k_is)                    -- in the order: a name -> its address -> its object -> its parts
      (case e2 => PySem.W.k_is)
      ..
    obtain ⟨t, T⟩ := T
    have e0 := hmg.symm.trans (PySem.W.mg_of KX G T.law)
    cases e0                                       -- fa is the law's own address
    exact ⟨_, fun s u => .of_eq rfl, fun base kb nb => My.law_fn T kb nb⟩     -- if «.of_eq rfl» comes too early: refine' ⟨_, ?b, fun base kb nb => My.law_fn T kb nb⟩; exact fun s u => .of_eq rfl
  case S => exact fun w H a ns hl hO hS => ..
  case C => exact ..
(the tactic k_is has no namespace: write k_is) -/

/-! SHORT WORDS over the layer: a def of the text, its body, what a loop and a test want. -/
namespace L2
open PySem PySem.Spec PyProof.Rows

/-! ### the text by places -/
/-- the j-th statement of a class's body -/
def inClass (s : Stmt) (j : Nat) : Stmt := match s with
  | .ClassDef _ _ _ body _ _ _ _ _ _ _ => body.getD j (.Pass ⟨0, 0, 0, 0⟩)
  | _ => .Pass ⟨0, 0, 0, 0⟩
def defArgs (s : Stmt) : Arguments := match s with
  | .FunctionDef _ a _ _ _ _ _ _ _ _ => a
  | _ => { posonlyargs := [], args := [], vararg := none, kwonlyargs := [], kw_defaults := [], kwarg := none, defaults := [] }
def defBody (s : Stmt) : List Stmt := match s with
  | .FunctionDef _ _ b _ _ _ _ _ _ _ => b
  | _ => []
def defScope (s : Stmt) : Scope := match s with
  | .FunctionDef _ _ _ _ _ _ sc _ _ _ => sc
  | _ => { kind := .function, names := [], isGenerator := false, isCoroutine := false }

/-! ### no exception leaves a def -/
abbrev CX0 : CXT := fun _ _ _ _ _ _ => False
abbrev E0 : XK := fun _ _ _ => False
theorem pass0 {X : Cx} : Passes CX0 X E0 := fun _ _ _ _ _ _ _ h => h.elim

/-! ### a def (or method) of the text as it stands behind the top -/
structure Fun (K : PySem.W.Frag) (x qual : Str) (st : Stmt) (f : Addr) (fd : FuncData) : Prop where
  ex : ∃ (oc : Value) (od : Option Addr) (kV doc pm : Value) (an : Option Addr) (cdv ct : Value) (osl : Array (Option Value)),
    fd = PySem.W.fnOf x qual (defArgs st) (defBody st) (defScope st) .none kV doc pm an cdv ct ∧ K.lookup f = some ⟨oc, od, .func fd, osl⟩ ∧ PySem.W.codeIn K cdv qual = true
  kp : PySem.W.keepIn K (.ref f) = true
section
variable {P : Program} {w : World} {K : PySem.W.Frag} {mg : Str → Option Value} {base : Heap}
/-- THE RULE for a def: its body as a term of rules, and the reading of that term -/
theorem Fun.ok {x qual : Str} {st : Stmt} {f : Addr} {fd : FuncData} {N ps : List Str} {k : Nat} {sp : Sp} (F : Fun K x qual st f fd) (S : FnScope N ps (defScope st)) (len : ∀ vs H Q E, sp vs H Q E → vs.length = ps.length)
    (hbody : ∀ (cdv : Value) (A : Around) (outer : List Env) (s : Shared) (H : Hp) (vs : List V) (Q : VK) (E : XK), Room k (A.deeper (envOfC qual (defScope st) s.heap.objs.size f cdv)) → sp vs H Q E →
      ∃ t, PSs (cxOf CX0 P w K mg base N qual (defScope st) f cdv A outer s H E).nox (defBody st) t ∧ t { nx := fun _ H' => Q .non H', rt := Q } (start N vs) H) : FnOk P w K mg base CX0 (k + 1) f fd ps sp := by
  obtain ⟨oc, od, kV, doc, pm, an, cdv, ct, osl, rfl, lk, hcd⟩ := F.ex
  refine fn_of lk hcd S len fun A outer s H vs Q E hr hsp => ?_
  obtain ⟨t, h, q⟩ := hbody cdv A outer s H vs Q E hr hsp
  exact ⟨t, h.nox, q⟩
/-- how its arguments bind (no defaults): h is «fun _ _ _ _ _ _ us hl => match us, hl with | [_, _], _ => rfl», one _ a parameter -/
theorem Fun.binds {x qual : Str} {st : Stmt} {f : Addr} {fd : FuncData} {ps : List Str} (F : Fun K x qual st f fd)
    (h : ∀ (kV doc pm : Value) (an : Option Addr) (cdv ct : Value) (us : List Value), us.length = ps.length → bindArgs (PySem.W.fnOf x qual (defArgs st) (defBody st) (defScope st) .none kV doc pm an cdv ct) ⟨us, []⟩ = pure (ps.zip us)) : Binds K fd ps [] := by
  obtain ⟨oc, od, kV, doc, pm, an, cdv, ct, osl, rfl, lk, hcd⟩ := F.ex
  exact .all (h kV doc pm an cdv ct)
theorem fun_mk {x qual : Str} {st : Stmt} {f : Addr} {oc : Value} {od an : Option Addr} {osl : Array (Option Value)} {kV doc pm cdv ct : Value} (l : K.lookup f = some ⟨oc, od, .func (PySem.W.fnOf x qual (defArgs st) (defBody st) (defScope st) .none kV doc pm an cdv ct), osl⟩)
    (c : PySem.W.codeIn K cdv qual = true) (k : PySem.W.keepIn K (.ref f) = true) : Fun K x qual st f (PySem.W.fnOf x qual (defArgs st) (defBody st) (defScope st) .none kV doc pm an cdv ct) := ⟨⟨oc, od, kV, doc, pm, an, cdv, ct, osl, rfl, l, c⟩, k⟩
end
theorem small1000 {n : Nat} (h : n ≤ 1000) : n < sizeLine := Nat.lt_of_le_of_lt h (by decide)

/-! ### expressions in short: the name that stands in the i-th slot -/
section
variable {X : Cx}
theorem pv (i : Nat) {x : Str} {pos : Pos} (hN : X.N[i]? = some x := by rfl) (hv : Vis X.env.scope x := by first | exact Or.inl rfl | exact Or.inr (Or.inl rfl) | exact Or.inr (Or.inr rfl)) (hd : (x == ("__debug__" : Str)) = false := by decide)
    (hcd : (x == ("__classdict__" : Str)) = false := by decide) : PE X (.Name x pos) (tVar i) := pe_var hN hv hd hcd
end

/-! ### tests -/
theorem iteF {A B : Prop} (h : B) : if false = true then A else B := by
  rw [if_neg Bool.false_ne_true]
  exact h
theorem iteT {A B : Prop} (h : A) : if true = true then A else B := by
  rw [if_pos rfl]
  exact h
theorem ite2 {c A B : Prop} [Decidable c] (h1 : c → A) (h2 : ¬ c → B) : if c then A else B := by
  by_cases h : c
  · rw [if_pos h]
    exact h1 h
  · rw [if_neg h]
    exact h2 h
/-! ### heaps -/
/-- all that was tracked is as it was -/
def Same (H H' : Hp) : Prop := ∀ b o, H b = some o → H' b = some o
theorem Same.refl (H : Hp) : Same H H := fun _ _ h => h
theorem Same.trans {H H1 H2 : Hp} (a : Same H H1) (b : Same H1 H2) : Same H H2 := fun c o h => b c o (a c o h)
theorem Same.free {H H' : Hp} (e : Same H H') {l : Addr} (h : H' l = Option.none) : H l = Option.none := by
  cases q : H l with
  | none => rfl
  | some o =>
    rw [e l o q] at h
    cases h
theorem Same.seq {K : PySem.W.Frag} {H H' : Hp} {a : Addr} {xs : List V} (e : Same H H') (h : SqL K H a xs) : SqL K H' a xs := by
  rcases h with (h | ⟨o, h⟩) | h
  · exact .inl (.inl (e _ _ h))
  · exact .inl (.inr ⟨o, e _ _ h⟩)
  · exact .inr h

end L2

set_option maxHeartbeats 4000000

/-! exceptions of the program's own over the hand layer: how one flies, is caught, is raised -/
namespace L2
open PySem PySem.Spec PyProof.Rows

theorem ObjOk.here {P : Program} {w : World} {H : Hp} {h : Heap} {a : Addr} {o : HO} (x : ObjOk P w H h a o) : ∃ ob, h.get? a = some ob := by
  cases o with
  | lst xs => obtain ⟨_, _, _, _, e⟩ := x; exact ⟨_, e⟩
  | tup xs => obtain ⟨_, _, _, ob, e, _⟩ := x; exact ⟨_, e⟩
  | dK kvs => obtain ⟨_, _, _, _, ob, _, _, e, _⟩ := x; exact ⟨_, e⟩
  | dT kvs => obtain ⟨_, _, _, _, ob, _, _, e, _⟩ := x; exact ⟨_, e⟩
  | set S n => obtain ⟨ob, _, _, _, e, _⟩ := x; exact ⟨_, e⟩
  | ins C dx fs => obtain ⟨_, _, _, e, _⟩ := x; exact ⟨_, e⟩
  | own y => exact x
  | xd fs => obtain ⟨_, ⟨_, _, _, e, _⟩, _⟩ := x; exact ⟨_, e⟩
  | rng lo hi => obtain ⟨_, _, _, e⟩ := x; exact ⟨_, e⟩
  | frz ob u => obtain ⟨e, _⟩ := x; exact ⟨_, e⟩
  | tbl ps => exact ⟨_, x⟩
  | met f y => exact ⟨_, x⟩
  | ext φ => exact x.2.1

/-- an own exception in the air: ahead of the call stood (H, s), of class C at ea, B: all that has to stay -/
structure Fly (P : Program) (w : World) (outer : List Env) (H : Hp) (s : Shared) (H' : Hp) (ea C : Addr) (B : Heap) (t : Addr) (s' : Shared) : Prop where
  os : s'.os = s.os
  bare : AllBare s'.gens
  fl : Heap.FlyingW B outer ea (.ref C) (.ref t) s'.heap
  hok : HOk P w H' B
  kb : ∀ b o, s.heap.get? b = some o → H b = none → b ∉ frs outer → B.get? b = some o
  tb : ∀ b o, s.heap.get? b = some o → b ∉ frs outer → ∃ o', B.get? b = some o'
  sl : ∀ b o, s.heap.get? b = some o → H b = none → b ∈ frs outer → ∃ l, s'.heap.get? b = some { o with slots := l }
  frh : ∀ b ∈ frs outer, H b = none
  fre : ∀ b o, s.heap.get? b = some o → H b = none → H' b = none
  tups : ∀ b xs, H b = some (.tup xs) → H' b = some (.tup xs)
  frzs : ∀ b o u, H b = some (.frz o u) → H' b = some (.frz o u)
  tbls : ∀ b ps, H b = some (.tbl ps) → ∃ more, H' b = some (.tbl (ps ++ more))

def CXF (P : Program) (w : World) : CXT := fun outer H s E e s' => ∃ ea C H' B t, e = .ref ea ∧ Fly P w outer H s H' ea C B t s' ∧ E (.ref C) none H'

section
variable {P : Program} {w : World} {outer : List Env} {H H' : Hp} {s s' : Shared} {ea C t : Addr} {B : Heap}
theorem Fly.noE (f : Fly P w outer H s H' ea C B t s') : H' ea = none := by
  cases q : H' ea with
  | none => rfl
  | some u =>
    obtain ⟨ob, e⟩ := (f.hok ea u q).here
    rw [f.fl.2.1] at e
    cases e
theorem Fly.un (f : Fly P w outer H s H' ea C B t s') {h : Heap} (st : B.StaysIn h) (up : s'.heap.UpToSlots h) : Un (frs outer) [] H H' s.heap h where
  keep := fun b o e n hb _ => st b o (f.kb b o e n hb)
  slot := fun b o e n hb _ => by
    obtain ⟨l, q⟩ := f.sl b o e n hb
    obtain ⟨_, o2, q2, nf⟩ := f.fl.2.2.1.mem hb
    rw [q] at q2
    cases q2
    obtain ⟨l2, q3⟩ := up b _ q nf
    exact ⟨l2, q3⟩
  free := fun b o e n _ => f.fre b o e n
  there := fun b o e _ => by
    by_cases hb : b ∈ frs outer
    · obtain ⟨l, q⟩ := f.sl b o e (f.frh b hb) hb
      obtain ⟨_, o2, q2, nf⟩ := f.fl.2.2.1.mem hb
      rw [q] at q2
      cases q2
      obtain ⟨l2, q3⟩ := up b _ q nf
      exact ⟨_, q3⟩
    · obtain ⟨o', q⟩ := f.tb b o e hb
      exact ⟨o', st b o' q⟩
  tups := f.tups
  frzs := f.frzs
  tbls := f.tbls
/-- the object of an exception that was caught -/
def ExcAt (ea C : Addr) (h : Heap) : Prop := ∃ oe, h.get? ea = some oe ∧ oe.cls = .ref C ∧ PySem.W.notCls oe = true
def ExcO (ea C : Addr) : HO := .ext (ExcAt ea C)
theorem excAt_fly {l : List Env} {h : Heap} (x : Heap.FlyingW B l ea (.ref C) (.ref t) h) : ExcAt ea C h := by
  obtain ⟨oe, vs, e, c, d, _⟩ := x.first
  refine ⟨oe, e, c, ?_⟩
  obtain ⟨_, _, dt, _⟩ := oe
  cases d
  rfl
theorem HOk.exc {h : Heap} (x : HOk P w H' h) (n : H' ea = none) (k : ExcAt ea C h) : HOk P w (upd H' ea (ExcO ea C)) h := fun b u e => by
  by_cases hb : b = ea
  · subst hb
    rw [upd_same] at e
    cases e
    obtain ⟨oe, e1, e2⟩ := k
    refine ⟨⟨oe, e1, e2⟩, ⟨oe, e1⟩, fun h1 h2 ⟨o1, a1, a2⟩ z => ⟨o1, z o1 a1, a2⟩⟩
  · rw [upd_ne hb] at e
    refine (x b u e).stay (fun c v _ q => q) (fun c q => ?_) fun c xs q => ?_
    · rw [upd_ne (ne_of_none q n)]
      exact q
    · rw [upd_ne (ne_of_none q n)]
      exact q
theorem Un.exc {fs ex : List Addr} {h h' : Heap} (u : Un fs ex H H' h h') (n : H' ea = none) (k : ∀ b o, h.get? b = some o → b ≠ ea) {o : HO} : Un fs ex H (upd H' ea o) h h' where
  keep := u.keep
  slot := u.slot
  free := fun b ob e z hx => by
    rw [upd_ne (k b ob e)]
    exact u.free b ob e z hx
  there := u.there
  tups := fun b xs e => by
    have q := u.tups b xs e
    rw [upd_ne (ne_of_none q n)]
    exact q
  frzs := fun b ob xs e => by
    have q := u.frzs b ob xs e
    rw [upd_ne (ne_of_none q n)]
    exact q
  tbls := fun b ps e => by
    obtain ⟨m, q⟩ := u.tbls b ps e
    refine ⟨m, ?_⟩
    rw [upd_ne (ne_of_none q n)]
    exact q
theorem Fly.apart (f : Fly P w outer H s H' ea C B t s') : ∀ b o, s.heap.get? b = some o → b ≠ ea := fun b o e z => by
  subst z
  by_cases hb : b ∈ frs outer
  · obtain ⟨_, o2, q2, nf⟩ := f.fl.2.2.1.mem hb
    obtain ⟨oe, vs, q3, _, d, _⟩ := f.fl.first
    rw [q2] at q3
    cases q3
    exact nf _ d
  · obtain ⟨o', q⟩ := f.tb b o e hb
    rw [f.fl.2.1] at q
    cases q
end

section
variable {X : Cx} {pins : List (Addr × Obj)} {σ : St} {H H' : Hp} {s s' : Shared} {ea C t : Addr} {B : Heap}
/-- caught in this frame -/
theorem Fly.land (I : Inv X pins σ H s) (f : Fly X.prog X.w X.stack H s H' ea C B t s') {h : Heap} {tk : Nat} (st : B.StaysIn h) (up : s'.heap.UpToSlots h) : Inv X pins σ H' { s' with heap := h, toks := tk } :=
  I.call' (s' := { s' with heap := h, toks := tk }) (ch := []) f.os (f.un st up) (f.hok.kept fun b o e => st b o e) f.bare (fun _ z => nomatch z)
theorem Fly.landE (I : Inv X pins σ H s) (f : Fly X.prog X.w X.stack H s H' ea C B t s') {h : Heap} {tk : Nat} (x : Heap.FlyingW B X.stack ea (.ref C) (.ref t) h) (up : s'.heap.UpToSlots h) : Inv X pins σ (upd H' ea (ExcO ea C)) { s' with heap := h, toks := tk } :=
  I.call' (s' := { s' with heap := h, toks := tk }) (ch := []) f.os ((f.un x.1 up).exc f.noE f.apart) ((f.hok.kept fun b o e => x.1 b o e).exc f.noE (excAt_fly x)) f.bare (fun _ z => nomatch z)

/-- the body of a def whose wish for an exception is E -/
structure Leaves (X : Cx) (E : XK) : Prop where
  stk : X.stack = X.env :: X.outer
  fr : X.env.frame = some X.env.locals
  ex : X.ex = []
  xe : X.xe = fun e s' => wpAny (model X.prog X.w) X.A (leaving X.env e) (fun _ s'' => CXF X.prog X.w X.outer X.H₀ X.s₀ E e s'') (fun e' s'' => CXF X.prog X.w X.outer X.H₀ X.s₀ E e' s'') s'
theorem frs_cons {env : Env} {outer : List Env} {L : Addr} (h : env.frame = some L) : frs (env :: outer) = L :: frs outer := by
  unfold frs
  rw [List.filterMap_cons, h]
/-- a flying one leaves this frame too -/
theorem Fly.leave {E : XK} (L : Leaves X E) (I : Inv X pins σ H s) (f : Fly X.prog X.w X.stack H s H' ea C B t s') {h : Heap} (x : Heap.FlyingW B X.outer ea (.ref C) (.ref t) h) (up : s'.heap.UpToSlots h) : Fly X.prog X.w X.outer X.H₀ X.s₀ H' ea C B t { s' with heap := h } := by
  have nL : ∀ b o, X.s₀.heap.get? b = some o → b ≠ X.env.locals := fun b o e => Nat.ne_of_lt (Nat.lt_of_lt_of_le (Heap.lt_size e) I.ok.above)
  have ns : ∀ b o, X.s₀.heap.get? b = some o → b ∉ frs X.outer → b ∉ frs X.stack := fun b o e nb z => by
    rw [L.stk, frs_cons L.fr] at z
    rcases List.mem_cons.mp z with z | z
    · exact nL b o e z
    · exact nb z
  have nx : ∀ b : Addr, b ∉ X.ex := fun b z => by rw [L.ex] at z; cases z
  refine ⟨f.os.trans I.os, f.bare, x, f.hok, fun b o e n nb => ?_, fun b o e nb => ?_, fun b o e n hb => ?_, I.ok.frf, fun b o e n => ?_, fun b xs e => f.tups b xs (I.base.tups b xs e), fun b o u e => f.frzs b o u (I.base.frzs b o u e), fun b ps e => ?_⟩
  · exact f.kb b o (I.base.keep b o e n nb (nx b)) (I.base.free b o e n (nx b)) (ns b o e nb)
  · obtain ⟨o', e'⟩ := I.base.there b o e (nx b)
    exact f.tb b o' e' (ns b o e nb)
  · obtain ⟨l, q⟩ := I.base.slot b o e n hb (nx b)
    have hs : b ∈ frs X.stack := by rw [L.stk, frs_cons L.fr]; exact List.mem_cons_of_mem _ hb
    obtain ⟨l2, q2⟩ := f.sl b _ q (I.base.free b o e n (nx b)) hs
    obtain ⟨_, o2, q3, nf⟩ := f.fl.2.2.1.mem hs
    rw [q2] at q3
    cases q3
    obtain ⟨l3, q4⟩ := up b _ q2 nf
    exact ⟨l3, q4⟩
  · obtain ⟨o', e'⟩ := I.base.there b o e (nx b)
    exact f.fre b o' e' (I.base.free b o e n (nx b))
  · obtain ⟨m1, e1⟩ := I.base.tbls b ps e
    obtain ⟨m2, e2⟩ := f.tbls b _ e1
    exact ⟨m1 ++ m2, by rw [e2, Array.append_assoc]⟩
/-- where no exception is wanted of a callee that may raise -/
theorem passN : Passes (CXF X.prog X.w) X (fun _ _ _ => False) := fun pins σ H s e s' I h => by
  obtain ⟨_, _, _, _, _, _, _, q⟩ := h
  exact q.elim
theorem passF {E : XK} (L : Leaves X E) : Passes (CXF X.prog X.w) X E := fun pins σ H s e s' I h => by
  obtain ⟨ea, C, H', B, t, rfl, f, q⟩ := h
  rw [L.xe]
  refine wpAny_leaves_onW (by rw [I.ok.frames, L.stk]) L.fr (by have z := f.fl; rw [L.stk] at z; exact z) fun h' x up => ?_
  exact ⟨ea, C, H', B, t, rfl, f.leave L I x up, q⟩
end
end L2

namespace L2
open PySem PySem.Spec PyProof.Rows

/-- the text's own class of an exception, as an object of the heap -/
theorem own_obj {K : PySem.W.Frag} {h : Heap} {C : Addr} {bmB : List Value} {newId : String} (kin : K.In h) (hq : PySem.W.excIn K C bmB newId = true) :
    ∃ bm N nm qn bs hdct sn sub ab col dd k0 k1 k2 k3 k5 mN, h.get? C = some (excClassObj nm qn C N bs bm hdct sn sub ab col dd k0 k1 k2 k3 k5 newId) ∧ h.Ns N mN ∧ mN "__init__" = none ∧ OwnTail h bmB bm ∧ PySem.W.mroIn K C = fun b => some ((Value.ref C :: bm).contains b) := by
  unfold PySem.W.excIn at hq
  split at hq
  · rename_i dct cls slt look
    split at hq
    · rename_i CC rest a0 a1 a2 a3 nn a5 em es
      simp only [Bool.and_eq_true, beq_iff_eq, Bool.not_eq_true'] at hq
      obtain ⟨⟨⟨⟨⟨e1, e2⟩, e3⟩, e4⟩, e5⟩, e6⟩ := hq
      subst e1 e2
      have hmro : PySem.W.mroIn K CC = fun b => some ((Value.ref CC :: rest).contains b) := by
        funext b
        unfold PySem.W.mroIn PySem.W.clsIn
        rw [look]
        simp [em]
      obtain ⟨c1, c2, c3, c4, c5, c6, c7, c8, c9, c10, c11⟩ := cls
      dsimp only at em e3 e5 e6
      subst em e3
      have hsl : slt = #[a0, a1, a2, a3, some (.builtin nn), a5] := by
        obtain ⟨ll⟩ := slt
        simp only at es
        rw [es]
      subst hsl
      exact ⟨rest, c4, c1, c5, c2, c6, c7, c8, c9, c10, dct, a0, a1, a2, a3, a5, _, kin _ _ look, .of_isNs (PySem.W.isNs_of_in kin e5), PySem.W.nsMap_none_of_in kin e5 e6, PySem.W.tail_of_in kin e4, hmro⟩
    · cases hq
  · cases hq

section
variable {X : Cx} {E : XK} {x : Str} {C : Addr} {np cpos pos : Pos} {e : Expr} {es : List Expr} {ta : TA} {B newId initId : String} {bmB : List Value}
/-- raise C(..) -/
def tRaise (C : Addr) (E : XK) (ta : TA) : TS := fun _ σ H => ta σ H fun vs H1 => vs.length ≤ sizeLine ∧ E (.ref C) none H1
theorem ps_raise (L : Leaves X E) (hc : X.calm = true) (FB : ExcBaseFacts B newId initId bmB) (hq : PySem.W.excIn X.K C bmB newId = true) (hg : Gl X x) (hm : X.mg x = some (.ref C)) (ha : PA X (e :: es) ta)
    (hs : starEach (e :: es) X.env = (false, eval e X.env) :: starEach es X.env := by rfl) (hp : (backTo cpos (starEach es X.env)).any (·.1) = false := by rfl) (hd : (x == ("__debug__" : Str)) = false := by decide) :
    PS X (.Raise (some (.Call (.Name x np) (e :: es) [] cpos)) none pos) (tRaise C E ta) := by
  intro pins s σ H D I h
  obtain ⟨bm, N, nm, qn, bs, hdct, sn, sub, ab, col, dd, k0, k1, k2, k3, k5, mN, hC, hN, hni, T, _⟩ := own_obj I.ok.mod.kin hq
  refine wpAny_Raise_call_subT (C := C) (nm := nm) (q := qn) (N := N) (bs := bs) (bm := bm) (hdct := hdct) (sn := sn) (sub := sub) (ab := ab) (col := col) (dd := dd) (k0 := k0) (k1 := k1) (k2 := k2) (k3 := k3) (k5 := k5) FB (mN := mN) (T.hasType FB.hasBase) (I.ok.hd hc)
    (by rw [hs]; show (false || (backTo cpos (starEach es X.env)).any (·.1)) = false; rw [hp]; rfl) hni (ld_glob I hg hm ⟨rfl, ?_⟩ hd)
  have h1 := ha cpos pins s σ H _ I h
  rw [hs] at h1 ⊢
  refine Calls.evalArgs_plain (thn h1 fun us s2 ⟨vs, H1, I1, r, hl, q⟩ => ⟨rfl, by rw [← r.length]; exact hl, I1.bk _ _ hC, hN.keeps I1.bk, T.keeps I1.bk, fun h' ea mk => ?_⟩)
  rw [L.xe]
  have nL : ∀ b o, X.s₀.heap.get? b = some o → b ≠ X.env.locals := fun b o q => Nat.ne_of_lt (Nat.lt_of_lt_of_le (Heap.lt_size q) I1.ok.above)
  have ns : ∀ b o, X.s₀.heap.get? b = some o → b ∉ frs X.outer → b ∉ frs X.stack := fun b o q nb z => by
    rw [L.stk, frs_cons L.fr] at z
    rcases List.mem_cons.mp z with z | z
    · exact nL b o q z
    · exact nb z
  have nx : ∀ b : Addr, b ∉ X.ex := fun b z => by rw [L.ex] at z; cases z
  have ff : s2.heap.FunFrames (PySem.W.hideAll s2.heap (frs X.stack)) (X.env :: X.outer) := by
    have z := I1.stack
    rw [← L.stk]
    exact PySem.W.funFrames_hide z fun env he a hf => List.mem_filterMap.mpr ⟨env, he, hf⟩
  refine wpAny_leaves_madeW (base := PySem.W.hideAll s2.heap (frs X.stack)) (h := s2.heap) (by rw [I1.ok.frames, L.stk]) L.fr (fun b o q => PySem.W.of_hideAll _ q) ff mk fun h2 t fl _ _ up => ?_
  refine ⟨ea, C, H1, _, t, rfl, ⟨I1.os, I1.bare, fl, fun a o e1 => ?_, fun b o e1 n nb => ?_, fun b o e1 nb => ?_, fun b o e1 n hb => ?_, I1.ok.frf, fun b o e1 n => ?_, I1.base.tups, I1.base.frzs, I1.base.tbls⟩, q⟩
  · refine (I1.hok a o e1).stay (fun b u hb e2 => PySem.W.hideAll_get _ e2 fun z => ?_) (fun _ z => z) fun _ _ z => z
    have n0 := I1.stkFree b z
    rcases hb with hb | hb
    · subst hb
      rw [e1] at n0
      cases n0
    · rw [hb] at n0
      cases n0
  · exact PySem.W.hideAll_get _ (I1.base.keep b o e1 n nb (nx b)) (ns b o e1 nb)
  · obtain ⟨o', e2⟩ := I1.base.there b o e1 (nx b)
    exact ⟨o', PySem.W.hideAll_get _ e2 (ns b o e1 nb)⟩
  · obtain ⟨l, e2⟩ := I1.base.slot b o e1 n hb (nx b)
    have hs2 : b ∈ frs X.stack := by rw [L.stk, frs_cons L.fr]; exact List.mem_cons_of_mem _ hb
    obtain ⟨_, o2, e3, nf⟩ := I1.stack.mem hs2
    rw [e2] at e3
    cases e3
    obtain ⟨l2, e4⟩ := up b _ (mk.keeps _ _ e2) nf
    exact ⟨l2, e4⟩
  · obtain ⟨o', e2⟩ := I1.base.there b o e1 (nx b)
    exact I1.base.free b o e1 n (nx b)
end

/-! ### the body of a try: what is wanted of an exception knows the frame -/
def XPost (X : Cx) (pins : List (Addr × Obj)) (σ : St) (E : XK) (e : Value) (s' : Shared) : Prop := ∃ s₁ H₁, Inv X pins σ H₁ s₁ ∧ CXF X.prog X.w X.stack H₁ s₁ E e s'
abbrev TX := St → Hp → VK → XK → Prop
def PEX (X : Cx) (e : Expr) (t : TX) : Prop :=
  ∀ (pins : List (Addr × Obj)) (s : Shared) (σ : St) (H : Hp) (Q : VK) (E : XK), Inv X pins σ H s → t σ H Q E → wpAny (model X.prog X.w) X.A (eval e X.env) (EP X pins σ Q) (XPost X pins σ E) s
abbrev TSX := Ends → XK → St → Hp → Prop
def PSX (X : Cx) (st : List Stmt) (t : TSX) : Prop :=
  ∀ (pins : List (Addr × Obj)) (s : Shared) (σ : St) (H : Hp) (D : Ends) (E : XK), Inv X pins σ H s → t D E σ H → wpAny (model X.prog X.w) X.A (execs st X.env) (SP X pins D) (XPost X pins σ E) s

section
variable {X : Cx} {k : Nat} {f C : Addr} {fd : FuncData} {ps : List Str} {sp : Sp} {dvs : List V} {ds : List Value} {x m : Str} {p pos apos : Pos} {e o : Expr} {es : List Expr} {ta : TE} {t : TA}
theorem run_fnX {pins : List (Addr × Obj)} {σ : St} {H : Hp} {s : Shared} {Q : VK} {E : XK} {us : List Value} {vs : List V} (F : FnOk X.prog X.w X.K X.mg X.base (CXF X.prog X.w) k f fd ps sp) (hr : Room k X.A) (hb : Binds X.K fd ps ds) (hd : Vals dvs ds)
    (I : Inv X pins σ H s) (r : Vals vs us) (h : sp (vs ++ dvs) H Q E) : wpAny (model X.prog X.w) X.A (call (.ref f) us) (EP X pins σ Q) (XPost X pins σ E) s := by
  have r2 : Vals (vs ++ dvs) (us ++ ds) := r.append hd
  have hl : (us ++ ds).length = ps.length := by rw [← r2.length]; exact F.len _ _ _ _ h
  refine wpAny_call (codeAny_mono (F.run X.A X.stack s H ⟨us, []⟩ (us ++ ds) (vs ++ dvs) Q E hr I.env0 (hb s us I.kIn hl) r2 h) fun r s' hq => ?_)
  cases r with
  | error e => exact ⟨s, H, I, hq⟩
  | ok fl =>
    cases fl with
    | ret u => exact I.after hq
    | next => exact False.elim hq
    | brk => exact False.elim hq
    | cont => exact False.elim hq
def xCall (sp : Sp) (dvs : List V) (t : TA) : TX := fun σ H Q E => t σ H fun vs H1 => sp (vs ++ dvs) H1 Q E
theorem pex_call (F : FnOk X.prog X.w X.K X.mg X.base (CXF X.prog X.w) k f fd ps sp) (hr : Room k X.A) (hg : Gl X x) (hm : X.mg x = some (.ref f)) (hk : PySem.W.keepIn X.K (.ref f) = true) (hb : Binds X.K fd ps ds) (hd : Vals dvs ds)
    (ha : PA X.nox (e :: es) t) (hdb : (x == ("__debug__" : Str)) = false := by decide) (he : starEach (e :: es) X.env = (false, eval e X.env) :: starEach es X.env := by rfl) (hpl : (backTo pos (starEach es X.env)).any (·.1) = false := by rfl) :
    PEX X (.Call (.Name x p) (e :: es) [] pos) (xCall sp dvs t) := by
  intro pins s σ H Q E I h
  refine wpAny_Call_Name_kw (ld_glob I hg hm ?_ hdb)
  refine PySem.W.callWith_K (h₀ := X.base) I.ok.mod.kin hk (wpAny_mono (ha pos pins s σ H _ (I.wish _) h) (fun us s1 ⟨vs, H1, I1, r, q⟩ => ⟨I1.kIn, ?_⟩) fun _ _ z => z.elim) he hpl
  exact run_fnX F hr hb hd I1.unwish r q
variable {te : TX} {i : Nat} {pos' : Pos}
def xDrop (te : TX) : TSX := fun D E σ H => te σ H (fun _ H1 => D.nx σ H1) E
theorem psx_expr (he : PEX X e te) (hs : swapsWith e none pos.line X.env = pure false := by rfl) : PSX X [.Expr e pos] (xDrop te) := by
  intro pins s σ H D E I h
  refine wpAny_execs_cons (wpAny_mono (Q := fun f s' => f = .next ∧ SP X pins D .next s') (wpAny_Expr_any (wpAny_mono (he pins s σ H _ E I h) (fun v s1 ⟨y, H1, I1, r1, q1⟩ => ⟨rfl, σ, H1, I1, q1⟩) fun _ _ z => z) I.quiet hs) (fun f s1 q => ?_) fun _ _ z => z)
  obtain ⟨rfl, q⟩ := q
  exact wpAny_execs_nil q
end

/-! ### the suite of an except clause: nothing is raised there -/
abbrev Cx.hnd (X : Cx) (ea : Addr) : Cx := { X with A := X.A.mark (some (.ref ea)), calm := false, xe := fun _ _ => False }
section
variable {X : Cx} {pins : List (Addr × Obj)} {σ : St} {H : Hp} {s : Shared} {ea : Addr}
theorem Cx.Ok.hnd (ok : X.Ok) : (X.hnd ea).Ok :=
  ⟨ok.mod, ok.kind, ok.glob, ok.blt, ok.above, ok.inj, ok.has, ok.cab, (fun z => nomatch z), ok.frames, ok.stk, ok.exf, ok.bs, ok.bsz, ok.noex, ok.exfs, ok.funs, ok.frf⟩
theorem Inv.hnd (I : Inv X pins σ H s) : Inv (X.hnd ea) pins σ H s := ⟨I.ok.hnd, I.os, I.bare, I.base, I.loc, I.cell, I.free, I.freeC, I.pin, I.hok, I.len⟩
theorem Inv.unhnd (ok : X.Ok) (I : Inv (X.hnd ea) pins σ H s) : Inv X pins σ H s := ⟨ok, I.os, I.bare, I.base, I.loc, I.cell, I.free, I.freeC, I.pin, I.hok, I.len⟩
theorem SP.unhnd (ok : X.Ok) {D : Ends} {f : Flow} (h : SP (X.hnd ea) pins D f s) : SP X pins D f s := by
  cases f with
  | next => obtain ⟨a, b, I, q⟩ := h; exact ⟨a, b, I.unhnd ok, q⟩
  | brk => obtain ⟨a, b, I, q⟩ := h; exact ⟨a, b, I.unhnd ok, q⟩
  | cont => obtain ⟨a, b, I, q⟩ := h; exact ⟨a, b, I.unhnd ok, q⟩
  | ret u => obtain ⟨v, a, b, I, r, q⟩ := h; exact ⟨v, a, b, I.unhnd ok, r, q⟩
/-- the name behind an except clause is let go -/
theorem unbind_ok {M : Model} {A : Around} {E : Value → Shared → Prop} {i : Nat} {n : Str} {pos : Pos} {Q : Unit → Shared → Prop} (I : Inv X pins σ H s) (hN : X.N.Nodup) (hi : X.N[i]? = some n) (hk : X.env.scope.names.lookup n = some .local)
    (h : ∀ s', Inv X pins (σ.set i none) H s' → Q () s') : wpAny M A (do bindName X.env n .none; unbindBehindTheSuite X.env n pos) Q E s := by
  obtain ⟨m, hn, hl⟩ := id I.loc
  refine wpAny_nameGoes_keeps hk hn (by rw [I.ok.kind]; rfl) fun h' v hn' hs => h _ ?_
  have cne := I.cne
  have hiσ : i < σ.length := by rw [I.len]; exact (List.getElem?_eq_some_iff.mp hi).1
  have old : ∀ b o, X.s₀.heap.get? b = some o → b ≠ X.env.locals := fun b o e => Nat.ne_of_lt (Nat.lt_of_lt_of_le (Heap.lt_size e) I.ok.above)
  refine ⟨I.ok, I.os, I.bare, ⟨fun b o e z hb hx => ?_, fun b o e z hb hx => ?_, I.base.free, fun b o e hx => ?_, I.base.tups, I.base.frzs, I.base.tbls⟩, ⟨_, hn', fun j y v' e1 e2 e3 => ?_⟩, fun y c e => ?_, I.free, I.freeC, fun p hp => ?_, fun b ob e => ?_, by simpa using I.len⟩
  · exact (hs.2 b (old b o e)).trans (I.base.keep b o e z hb hx)
  · obtain ⟨sl, q⟩ := I.base.slot b o e z hb hx
    exact ⟨sl, (hs.2 b (old b o e)).trans q⟩
  · obtain ⟨o', q⟩ := I.base.there b o e hx
    exact ⟨o', (hs.2 b (old b o e)).trans q⟩
  · by_cases hj : j = i
    · subst hj
      rw [List.getElem?_set_self hiσ] at e2
      cases e2
    · rw [List.getElem?_set_ne (Ne.symm hj)] at e2
      obtain ⟨u', r', q⟩ := hl j y v' e1 e2 e3
      refine ⟨u', r', ?_⟩
      rcases q with ⟨k, z⟩ | ⟨k, c, z1, z2⟩
      · refine .inl ⟨k, ?_⟩
        have ne : y ≠ n := fun z => hj (nodup_ix hN e1 (z ▸ hi))
        simp [ne, z]
      · exact .inr ⟨k, c, z1, z2.sameBut hs (cne y c z1)⟩
  · obtain ⟨w', z⟩ := I.cell y c e
    exact ⟨w', z.sameBut hs (cne y c e)⟩
  · obtain ⟨a1, a2, a3, a4⟩ := I.pin p hp
    exact ⟨(hs.2 _ a3).trans a1, a2, a3, a4⟩
  · refine (I.hok b ob e).stay (fun c w' hc q => (hs.2 c ?_).trans q) (fun _ q => q) fun _ _ q => q
    intro z
    have z' : c = X.env.locals := z
    have fr := I.free
    rcases hc with hc | hc
    · rw [← z', hc, e] at fr
      cases fr
    · rw [← z', hc] at fr
      cases fr
end

section
variable {M : Model} {A : Around} {E : Value → Shared → Prop} {h : Heap} {g : Array GenState} {d : Drawn} {t : Nat} {os : OsState} {e : Addr} {oe : Obj} {Q : Bool → Shared → Prop}
variable {nm q nm' q' : Str} {C N D N' : Addr} {bs bm bs' bm' : List Value} {hdct hdct' : Bool} {sn sn' : List Str} {sub sub' : List Value} {ab ab' : Bool} {col col' : Option Bool} {dd dd' : Option Addr} {k0 k1 k2 k3 k5 j0 j1 j2 j3 j5 : Option Value} {newId newId' : String}
/-- an own exception meets the clause of an own base class -/
theorem excMatches_sub (hC : h.get? C = some (excClassObj nm q C N bs bm hdct sn sub ab col dd k0 k1 k2 k3 k5 newId)) (hD : h.get? D = some (excClassObj nm' q' D N' bs' bm' hdct' sn' sub' ab' col' dd' j0 j1 j2 j3 j5 newId')) (he : h.get? e = some oe) (hcls : oe.cls = .ref C)
    (hbase : bm'.contains (.type "BaseException") = true) (hsub : (Value.ref C :: bm).contains (.ref D) = true) (hq : Q true ⟨h, g, d, t, os⟩) : wpAny M A (excMatches (.ref e) (.ref D)) Q E ⟨h, g, d, t, os⟩ := by
  have hDB : (Value.ref D :: bm').contains (.type "BaseException") = true := by rw [List.contains_cons, hbase, Bool.or_true]
  have f := tc_notTuple
  unfold excMatches
  repeat (first | (with_reducible refine wpAny_loadPart_at he ?_; rw [hcls]) | with_reducible refine wpAny_loadPart_at hD ?_ | (with_reducible refine wpAny_isSubtype_exc hD ?_; rw [hDB]) | (with_reducible refine wpAny_isSubtype_exc hC ?_; rw [hsub]) | wp_step)
  exact hq
end

/-- the exceptions of C are met by a clause of D -/
def SubX (K : PySem.W.Frag) (bmB : List Value) (newId : String) (C D : Addr) : Prop := PySem.W.excIn K C bmB newId = true ∧ PySem.W.mroIn K C (.ref D) = some true

section
variable {X : Cx} {body : List Stmt} {b₀ : Stmt} {suite : List Stmt} {np hpos pos : Pos} {x n : Str} {D : Addr} {tb : TSX} {ts : TS} {bmB : List Value} {newId : String} {i : Nat}
/-- the ends of a clause with a name -/
def Ends.let_go (En : Ends) (i : Nat) : Ends := { nx := fun σ H => En.nx (σ.set i none) H, rt := En.rt, bk := fun σ H => En.bk (σ.set i none) H, ct := fun σ H => En.ct (σ.set i none) H }
/-- try: .. except D as n: .. -/
def tTryAs (K : PySem.W.Frag) (bmB : List Value) (newId : String) (D : Addr) (i : Nat) (tb : TSX) (ts : TS) : TS := fun En σ H =>
  tb En (fun c _ H' => ∃ C, c = .ref C ∧ SubX K bmB newId C D ∧ ∀ ea, H' ea = none → ts (En.let_go i) (σ.set i (some (.ref ea))) (upd H' ea (ExcO ea C))) σ H
theorem ps_tryAs (hstk : X.stack = X.env :: X.outer) (hfr : X.env.frame = some X.env.locals) (hN : X.N.Nodup) (hi : X.N[i]? = some n) (hk : X.env.scope.names.lookup n = some .local) (hb : PSX X body tb) (hs : ∀ ea, PSs (X.hnd ea) (b₀ :: suite) ts) (hg : Gl X x) (hm : X.mg x = some (.ref D))
    (hq : PySem.W.excIn X.K D bmB newId = true) (hbase : bmB.contains (.type "BaseException") = true) (hd : (x == ("__debug__" : Str)) = false := by decide) :
    PS X (.Try body [.ExceptHandler (some (.Name x np)) (some n) (b₀ :: suite) hpos] [] [] pos) (tTryAs X.K bmB newId D i tb ts) := by
  intro pins s σ H En I h
  refine wpAny_Try_except (wpAny_mono (hb pins s σ H En _ I h) (fun f s1 q => ?_) fun e s1 q => ?_)
  · cases f with
    | next => exact wpAny_execs_nil q
    | brk => exact q
    | cont => exact q
    | ret u => exact q
  · obtain ⟨s₁, H₁, I₁, ea, C', H', B, t, rfl, f, C, eC, ⟨hqC, hmro⟩, hts⟩ := q
    cases eC
    have fl := f.fl
    rw [hstk] at fl
    refine wpAny_looks_onW (by rw [I.ok.frames, hstk]) hfr fl fun h₄ held up₄ => ?_
    refine wpAny_landsW held fun h₅ fl₅ up₅ => ?_
    have up := up₄.trans up₅
    have I₅ : Inv X pins σ H' { s1 with heap := h₅ } := f.land (tk := s1.toks) I₁ fl₅.1 up
    obtain ⟨ob, hob, hobc⟩ := fl₅.there
    refine wpAny_handleBy_cons (codeAny_handlers_test ?_) (by intro z; cases z)
    refine ld_glob (X := X.hnd ea) I₅.hnd hg hm ?_ hd
    obtain ⟨bm, N, nm, qn, bs, hdct, sn, sub, ab, col, dd, k0, k1, k2, k3, k5, mN, hC, hN1, hni, T, eM⟩ := own_obj I₅.kIn hqC
    obtain ⟨bm', N', nm', qn', bs', hdct', sn', sub', ab', col', dd', j0, j1, j2, j3, j5, mN', hD, hN', hni', T', _⟩ := own_obj I₅.kIn hq
    rw [eM] at hmro
    refine excMatches_sub hC hD hob hobc (T'.hasType hbase) (Option.some.inj hmro) (codeAny_handlers_suite_as ?_)
    refine lands_againW fl₅ fun h₆ fl₆ up₆ => ?_
    have fl₆' := fl₆
    rw [← hstk] at fl₆'
    have I₆ : Inv X pins σ (upd H' ea (ExcO ea C')) { s1 with heap := h₆ } := f.landE (tk := s1.toks) I₁ fl₆' (up.trans up₆)
    refine store_ok (X := X.hnd ea) (v := .ref ea) I₆.hnd hN hi (.inl hk) rfl (fun s2 I2 => ?_) (.inr hk)
    refine wpAny_mono (hs ea pins _ _ _ (En.let_go i) I2 (hts ea f.noE)) (fun f s' q => ?_) fun _ _ z => z.elim
    have q := q.unhnd I.ok
    cases f with
    | next => obtain ⟨a, b, J, q⟩ := q; exact unbind_ok J hN hi hk fun s3 J3 => ⟨_, _, J3, q⟩
    | brk => obtain ⟨a, b, J, q⟩ := q; exact unbind_ok J hN hi hk fun s3 J3 => ⟨_, _, J3, q⟩
    | cont => obtain ⟨a, b, J, q⟩ := q; exact unbind_ok J hN hi hk fun s3 J3 => ⟨_, _, J3, q⟩
    | ret u => obtain ⟨v, a, b, J, r, q⟩ := q; exact unbind_ok J hN hi hk fun s3 J3 => ⟨v, _, _, J3, r, q⟩
end

/-! ### a def that may raise -/
section
variable {P : Program} {w : World} {K : PySem.W.Frag} {mg : Str → Option Value} {base : Heap}
theorem Fun.okX {x qual : Str} {st : Stmt} {f : Addr} {fd : FuncData} {N ps : List Str} {k : Nat} {sp : Sp} (F : Fun K x qual st f fd) (S : FnScope N ps (defScope st)) (len : ∀ vs H Q E, sp vs H Q E → vs.length = ps.length)
    (hbody : ∀ (cdv : Value) (A : Around) (outer : List Env) (s : Shared) (H : Hp) (vs : List V) (Q : VK) (E : XK), Room k (A.deeper (envOfC qual (defScope st) s.heap.objs.size f cdv)) → sp vs H Q E →
      Leaves (cxOf (CXF P w) P w K mg base N qual (defScope st) f cdv A outer s H E) E →
      ∃ t, PSs (cxOf (CXF P w) P w K mg base N qual (defScope st) f cdv A outer s H E) (defBody st) t ∧ t { nx := fun _ H' => Q .non H', rt := Q } (start N vs) H) : FnOk P w K mg base (CXF P w) (k + 1) f fd ps sp := by
  obtain ⟨oc, od, kV, doc, pm, an, cdv, ct, osl, rfl, lk, hcd⟩ := F.ex
  exact fn_of lk hcd S len fun A outer s H vs Q E hr hsp => hbody cdv A outer s H vs Q E hr hsp ⟨rfl, rfl, rfl, rfl⟩
end
end L2

namespace L2
open PySem PySem.Spec PyProof.Rows

/-- what isinstance asks of the class of an own exception -/
structure ClsX (K : PySem.W.Frag) (C : Addr) : Prop where
  ci : PySem.W.hasDictIn K C = true
  ga : PySem.W.findIn K (.ref C) "__getattribute__" = some (some (.builtin "BaseException.__getattribute__"))
  gn : PySem.W.findIn K (.ref C) "__getattr__" = some none
  ca : PySem.W.findIn K (.ref C) "__class__" = some (some (.builtin "object.__class__"))
  mo : PySem.W.mroIn K C (.type "object") = some true
  mb : PySem.W.mroIn K C (.type "BaseException") = some true
section
variable {prog : Program} {w : World} {A : Around} {E : Value → Shared → Prop} {h : Heap} {g : Array GenState} {d : Drawn} {t : Nat} {os : OsState} {K : PySem.W.Frag} {a C : Addr} {o : Obj}
theorem xcls_get {R : Result → Shared → Prop} (kin : K.In h) (c : ClsX K C) (hx : h.get? a = some o) (hc : o.cls = .ref C) (hq : R (.ok (.ret (.ref C))) ⟨h, g, d, t, os⟩) :
    codeAny (model prog w) A (.call (.builtin "getset_descriptor.__get__") ⟨[.builtin "object.__class__", .ref a, .ref C], []⟩) R ⟨h, g, d, t, os⟩ := by
  have hT5 : (⟨h, g, d, t, os⟩ : Shared).TypeIs (.builtin "object.__class__") "getset_descriptor" := F.typeOf_object_class
  have L1 := PySem.W.looks_mroIn (M := model prog w) kin c.mo
  have ow := F.owner_object_class
  refine codeAny_call_builtin F.slot_gs_get.plain F.entry_gs_get (F.slot_gs_get.check _ _ _ _ _ _ _ _ hT5 (F.args_gs_get _ _ _) ?_)
  repeat (any_goals (first | assumption | (with_reducible refine wpAny_loadPart_at hx ?_; rw [hc]) | (rw [ow]; with_reducible refine L1.at ?_) | wp_step))
  refine ⟨Code.quiet_builtin _ (by decide +kernel), codeAny_builtin F.entry_object_class ?_⟩
  repeat (any_goals (first | assumption | (with_reducible refine wpAny_loadPart_at hx ?_; rw [hc]) | wp_step))
theorem xcls_entry {tk : Tok} {Q : Fin → Shared → Prop} (kin : K.In h) (c : ClsX K C) (hx : h.get? a = some o) (hc : o.cls = .ref C) (hq : Q (.done (.ret (.ref C))) ⟨h, g, d, t, os⟩) :
    wpAny (model prog w) A (Builtin.«object.__getattribute__» ⟨[.ref a, .str "__class__" tk], []⟩) Q E ⟨h, g, d, t, os⟩ := by
  have hT5 : (⟨h, g, d, t, os⟩ : Shared).TypeIs (.builtin "object.__class__") "getset_descriptor" := F.typeOf_object_class
  have L1 := PySem.W.looks_findIn (M := model prog w) kin c.ca
  have f5 := F.typeOf_object_class
  have f6 := F.slot_gs_get.lookup
  have f7 := F.slot_gs_set.lookup
  repeat (any_goals (first | assumption | (with_reducible refine wpAny_loadPart_at hx ?_; rw [hc]) | with_reducible refine L1.at ?_ | wp_step))
  refine xcls_get kin c hx hc ?_
  repeat (any_goals (first | assumption | wp_step))
theorem xcls_check {M : Model} {nv : Value} {Q : Unit → Shared → Prop} (kin : K.In h) (c : ClsX K C) (hx : h.get? a = some o) (hc : o.cls = .ref C) (hq : Q () ⟨h, g, d, t, os⟩) :
    wpAny M A (checkBuiltinCall "BaseException.__getattribute__" ⟨[.ref a, nv], []⟩) Q E ⟨h, g, d, t, os⟩ := by
  have hk : builtinKind "BaseException.__getattribute__" = some .slot := by decide +kernel
  have hs : splitId "BaseException.__getattribute__" = some ("BaseException", "__getattribute__") := by decide +kernel
  have L1 := PySem.W.looks_mroIn (M := M) kin c.mb
  have ha := F.args_bexc_ga (.ref a) nv
  simp only [checkBuiltinCall, hk, hs]
  refine wpAny_bind ?_
  unfold isInstance
  repeat (first | (with_reducible refine wpAny_loadPart_at hx ?_; rw [hc]) | with_reducible refine L1.at ?_ | wp_step)
  exact hq
theorem xcls_by {tk : Tok} {fill expr : Bool} {Q : Value → Shared → Prop} (kin : K.In h) (c : ClsX K C) (hx : h.get? a = some o) (hc : o.cls = .ref C) (hq : Q (.ref C) ⟨h, g, d, t, os⟩) :
    wpAny (model prog w) A (getAttrBy (.ref a) (.str "__class__" tk) fill expr) Q E ⟨h, g, d, t, os⟩ := by
  have f3 := F.attrBase_ValueError.ga.bind (.ref a)
  have z0 : (expr && onTheHeap (Value.builtin "BaseException.__getattribute__")) = false := by cases expr <;> rfl
  have z2 : (Value.builtin "BaseException.__getattribute__" == Value.builtin "object.__getattribute__") = false := by decide +kernel
  have z1 : (onTheHeap (Value.ref C) && Value.builtin "BaseException.__getattribute__" == Value.builtin "object.__getattribute__") = false := by rw [z2]; rfl
  have L1 := PySem.W.looks_findIn (M := model prog w) kin c.ga
  have L2 := PySem.W.looks_findIn (M := model prog w) kin c.gn
  repeat (any_goals (first | assumption | (with_reducible refine wpAny_loadPart_at hx ?_; rw [hc]) | with_reducible refine L1.at ?_ | with_reducible refine L2.at ?_ | wp_step))
  refine codeAny_call_builtin F.attrBase_ValueError.ga.plain F.entry_bexc_ga (xcls_check kin c hx hc (xcls_entry kin c hx hc ?_))
  repeat (any_goals (first | assumption | wp_step))
theorem xcls_attr {Q : Option Value → Shared → Prop} (kin : K.In h) (c : ClsX K C) (hx : h.get? a = some o) (hc : o.cls = .ref C) (hq : Q (some (.ref C)) ⟨h, g, d, t + 1, os⟩) :
    wpAny (model prog w) A (getAttr? (.ref a) "__class__") Q E ⟨h, g, d, t, os⟩ := by
  unfold getAttr? getAttrBy?
  repeat (any_goals (first | assumption | with_reducible apply xcls_by kin c hx hc | wp_step))
theorem kitx_exc (c : ClsX K C) : PySem.W.KitX K (.ref a) (.ref C) (ExcAt a C) where
  ty := fun M h _ k => by
    obtain ⟨oe, e1, e2, _⟩ := k
    exact e2 ▸ (PySem.W.Looks.ld e1).andThen .now
  it := fun M h kin _ => by
    obtain ⟨cd, hc, _⟩ := PySem.W.any_some c.ci
    unfold PySem.W.clsIn at hc
    split at hc
    · rename_i look
      intro A' Q' E' s' k q
      unfold isType loadHead
      exact wpAny_bind (wpAny_loadPart (k _ _ (kin _ _ look)) (wpAny_pure q))
    · cases hc
  ne := fun h tp dd its n sl kin htp => by
    obtain ⟨cd, hc, _⟩ := PySem.W.any_some c.ci
    refine Bool.eq_false_iff.mpr fun q => ?_
    have e : C = tp := Value.ref.inj (beq_iff_eq.mp q)
    subst e
    unfold PySem.W.clsIn at hc
    split at hc
    · rename_i look
      have z := (kin _ _ look).symm.trans htp
      cases z
    · cases hc
  ca := fun {prog w A E Q s} kin k z => by
    obtain ⟨oe, e1, e2, _⟩ := k
    obtain ⟨h, g, d, t, os⟩ := s
    exact xcls_attr kin c e1 e2 z
end

/-- an empty dict, of which the class alone is asked -/
def DctO (a : Addr) : HO := .ext (PySem.W.KitAt a "dict")
/-- the class of a value, an exception's too -/
inductive TyX (K : PySem.W.Frag) (H : Hp) : V → Value → Prop where
  | of {x : V} {t : Value} (h : TyOf K H x t) : TyX K H x t
  | exc {a C : Addr} (e : H a = some (ExcO a C)) (c : ClsX K C) : TyX K H (.ref a) (.ref C)
  | dct {a : Addr} (e : H a = some (DctO a)) : TyX K H (.ref a) (.type "dict")
def clsV : V → Value
  | .ty n => .type n
  | .ref a => .ref a
  | _ => .none
def isCls : V → Bool
  | .ty _ => true
  | .ref _ => true
  | _ => false
def isiR (K : PySem.W.Frag) : List V → Hp → VK → Prop := fun xs H Q => ∃ x c t b, xs = [x, c] ∧ isCls c = true ∧ TyX K H x t ∧ PySem.W.kitOne K t (clsV c) = some b ∧ Q (.bl b) H
theorem call_isi {X : Cx} {K : PySem.W.Frag} (hK : X.K = K := by rfl) : CallR X (.builtin "isinstance") (isiR K) := by
  intro pins s σ H xs us Q I r h
  subst hK
  obtain ⟨x, c, t, b, rfl, hc, ty, e, q⟩ := h
  obtain ⟨u, cv, rfl, rx, rc⟩ := vals2 r
  have ec : cv = clsV c := by
    cases c with
    | ty n => exact rc
    | ref a => exact rc
    | _ => cases hc
  subst ec
  cases ty with
  | of ty => exact isinst_ok I rx ty e fun tk => ⟨.bl b, H, I.tok tk, rfl, q⟩
  | @dct a ea =>
    cases rx
    obtain ⟨k, _, _⟩ := (show ObjOk X.prog X.w H s.heap a (.ext (PySem.W.KitAt a "dict")) from I.hok a _ ea)
    exact PySem.W.kia_one PySem.W.kitx_dict I.kIn k e (fun z => nomatch z) fun tk => ⟨.bl b, H, I.tok tk, rfl, q⟩
  | @exc a C ea cc =>
    cases rx
    obtain ⟨k, _, _⟩ := (show ObjOk X.prog X.w H s.heap a (.ext (ExcAt a C)) from I.hok a _ ea)
    exact PySem.W.kia_one (kitx_exc cc) I.kIn k e (fun z => nomatch z) fun tk => ⟨.bl b, H, I.tok tk, rfl, q⟩

/-- two tuples of flat values, compared -/
def eqL : List V → List V → Bool
  | [], [] => true
  | x :: xs, y :: ys => eqV x y && eqL xs ys
  | _, _ => false
def rEqT (K : PySem.W.Frag) (neg : Bool) : R2 := fun x y H Q => ∃ a b xs ys, x = .ref a ∧ y = .ref b ∧ SqT K H a xs ∧ SqT K H b ys ∧ xs.all flatV = true ∧ ys.all flatV = true ∧ Q (.bl (if neg then !eqL xs ys else eqL xs ys)) H
theorem eqL_range {A : Around} {s : Shared} : ∀ {xs ys : List V} {us vs : List Value}, Vals xs us → Vals ys vs → xs.all flatV = true → ys.all flatV = true →
    ∃ e : Nat → Bool, (∀ j (h1 : j < us.length) (h2 : j < vs.length), SeqAt.EqAt A s us[j] vs[j] (e j)) ∧ ((List.range (min us.length vs.length)).all e && us.length == vs.length) = eqL xs ys
  | [], [], _, _, .nil, .nil, _, _ => ⟨fun _ => true, fun j h1 => absurd h1 (Nat.not_lt_zero _), by simp [eqL]⟩
  | [], _ :: _, _, _, .nil, .cons _ _, _, _ => ⟨fun _ => true, fun j h1 => absurd h1 (Nat.not_lt_zero _), by simp [eqL]⟩
  | _ :: _, [], _, _, .cons _ _, .nil, _, _ => ⟨fun _ => true, fun j _ h2 => absurd h2 (Nat.not_lt_zero _), by simp [eqL]⟩
  | x :: xs, y :: ys, u :: us, v :: vs, .cons r1 t1, .cons r2 t2, f1, f2 => by
    rw [List.all_cons, Bool.and_eq_true] at f1 f2
    obtain ⟨e, h, q⟩ := eqL_range (A := A) (s := s) t1 t2 f1.2 f2.2
    refine ⟨fun j => match j with | 0 => eqV x y | k + 1 => e k, fun j h1 h2 => ?_, ?_⟩
    · cases j with
      | zero => exact eqAt_V r1 r2 f1.1 f2.1
      | succ k => exact h k (by simpa using h1) (by simpa using h2)
    · have em : min (u :: us).length (v :: vs).length = min us.length vs.length + 1 := by simp only [List.length_cons]; omega
      rw [em, List.range_succ_eq_map, List.all_cons, List.all_map]
      show (eqV x y && (List.range (min us.length vs.length)).all e && ((us.length + 1) == (vs.length + 1))) = (eqV x y && eqL xs ys)
      rw [← q]
      have eb : ((us.length + 1) == (vs.length + 1)) = (us.length == vs.length) := by
        rw [Bool.eq_iff_iff, beq_iff_eq, beq_iff_eq]; omega
      rw [eb, Bool.and_assoc]
theorem op_eqT {X : Cx} (hu : X.A.units < cLine) : OpR X (compareOp .Eq) (rEqT X.K false) := by
  intro pins s σ H x y v u Q I rx ry h
  obtain ⟨a, b, xs, ys, rfl, rfl, h1, h2, f1, f2, q⟩ := h
  cases rx
  cases ry
  obtain ⟨us, r1, t1, _⟩ := I.tuple h1
  obtain ⟨vs, r2, t2, _⟩ := I.tuple h2
  obtain ⟨e, he, eq⟩ := eqL_range (A := X.A.in1) (s := s) r1 r2 f1 f2
  refine SeqAt.eq_tupleAt (e := e) t1 t2 hu (fun j z1 z2 => by simpa using he j (by simpa using z1) (by simpa using z2)) ⟨.bl (eqL xs ys), H, I, ?_, q⟩
  show _ = Value.bool (eqL xs ys)
  rw [← eq]
  simp
theorem boot_isinstance : bootBuiltins "isinstance" = some (.builtin "isinstance") := by decide +kernel
theorem boot_abs : bootBuiltins "abs" = some (.builtin "abs") := by decide +kernel
theorem boot_int : bootBuiltins "int" = some (.type "int") := by decide +kernel
theorem boot_bool : bootBuiltins "bool" = some (.type "bool") := by decide +kernel
theorem boot_tuple : bootBuiltins "tuple" = some (.type "tuple") := by decide +kernel
theorem boot_list : bootBuiltins "list" = some (.type "list") := by decide +kernel
theorem boot_ValueError : bootBuiltins "ValueError" = some (.type "ValueError") := by decide +kernel
end L2

/-! the numbers of law k01: primes up to 997, by the program's way and by the law's -/
namespace My
open PySem L2
def primeB (n : Int) : Bool := (List.range 32).all fun e => decide (e < 2) || decide (n < (e : Int) * (e : Int)) || decide (n % (e : Int) ≠ 0)
theorem primeB_no {n d : Int} (h2 : n ≤ 997) (hd : 2 ≤ d) (hq : d * d ≤ n) (hm : n % d = 0) : primeB n = false := by
  have hd2 : d < 32 := by
    by_cases h : d < 32
    · exact h
    · have : 32 * 32 ≤ d * d := Int.mul_le_mul (by omega) (by omega) (by omega) (by omega)
      omega
  obtain ⟨k, rfl⟩ : ∃ k : Nat, d = (k : Int) := ⟨d.toNat, by omega⟩
  cases e : primeB n with
  | false => rfl
  | true =>
    have z := List.all_eq_true.mp e k (List.mem_range.mpr (by omega))
    simp only [Bool.or_eq_true, decide_eq_true_eq] at z
    rcases z with (z | z) | z
    · omega
    · omega
    · exact absurd hm z
theorem primeB_yes {n d : Int} (hq : n < d * d) (hd : 2 ≤ d) (hm : ∀ e : Int, 2 ≤ e → e < d → n % e ≠ 0) : primeB n = true := by
  refine List.all_eq_true.mpr fun k _ => ?_
  simp only [Bool.or_eq_true, decide_eq_true_eq]
  by_cases h1 : k < 2
  · exact .inl (.inl h1)
  · by_cases h2 : n < (k : Int) * (k : Int)
    · exact .inl (.inr h2)
    · refine .inr (hm k (by omega) ?_)
      by_cases h3 : (k : Int) < d
      · exact h3
      · have : d * d ≤ (k : Int) * (k : Int) := Int.mul_le_mul (by omega) (by omega) (by omega) (by omega)
        omega
/-- what is told of a world: a text, or a text and a number -/
inductive Td where
  | a (w : Str)
  | b (w : Str) (n : Int)
def Td.vs : Td → List V
  | .a w => [.str w]
  | .b w n => [.str w, .int n]
def Td.isF : Td → Bool
  | .a w => decide (w = "fractions")
  | .b _ _ => false
def Td.isW : Td → Bool
  | .a _ => false
  | .b w n => decide (w = "wheel") && (decide (2 ≤ n) && decide (n ≤ 997) && primeB n)
def Td.good (d : Td) : Bool := d.isF || d.isW
def Td.prime : Td → V
  | .a _ => .non
  | .b _ n => .int n
end My

/-! a list comprehension with one for over a name (slot 0 of its block), no cells of its own -/
namespace L2
open PySem PySem.Spec PyProof.Rows

/-- the block's context: N its names (the for's first, then what it takes from around) -/
abbrev Cx.blk (X : Cx) (N : List Str) (scope : Scope) (cl : List (Str × Addr)) (s₃ : Shared) (H₃ : Hp) (fp : List Addr) : Cx :=
  { X with N := N, s₀ := s₃, H₀ := H₃, env := compEnvC scope cl s₃.heap.objs.size X.env, outer := X.stack, stack := X.stack, ex := fp, fn := fun _ => false, pn := [], xe := fun _ _ => False }

/-- the tests of a comprehension -/
inductive PTs (X : Cx) : List Expr → TT → Prop where
  | nil : PTs X [] (fun _ H Q => Q true H)
  | one {c : Expr} {t : TT} (h : PT X c t) : PTs X [c] t

def tComp (wi : TI) (ρ : St → St) (tt : TT) (te : TE) : TE := fun σ H Q => wi σ H fun J H1 => ∀ D, H1 D = none → ∃ W : Nat → Nat → List V → Hp → Prop, (∃ m, W 0 m [] (upd H1 D (.lst []))) ∧
  ∀ i m ys Hc, W i m ys Hc → Hc D = some (.lst ys) ∧ ((J.stop i Hc ∧ Q (.ref D) Hc) ∨ (J.go i Hc ∧ ∀ x H', J.yld i Hc x H' → tt (some x :: ρ σ) H' fun b H2 =>
    if b = true then te (some x :: ρ σ) H2 fun y H3 => H3 D = some (.lst ys) ∧ ys.length < sizeLine ∧ ∃ m', m' < m ∧ W (i + 1) m' (ys ++ [y]) (upd H3 D (.lst (ys ++ [y]))) else ∃ m', m' < m ∧ W (i + 1) m' ys H2))

section
variable {X : Cx} {N : List Str} {scope : Scope} {cl : List (Str × Addr)} {x : Str} {px pos : Pos} {iter elt : Expr} {ifs : List Expr} {wi : TI} {ρ : St → St} {tt : TT} {te : TE}
/-- what a block's scope takes from around -/
structure Blk (X : Cx) (N : List Str) (scope : Scope) (cl : List (Str × Addr)) (x : Str) (ρ : St → St) : Prop where
  clos : closureFor scope X.env = pure cl
  kind : scope.kind = .function
  nocell : ∀ y ∈ scope.names, y.2 ≠ .cell
  names : ∀ y ∈ scope.names, y.2 = .local → scope.names.lookup y.1 = some .local
  sub : ∀ p ∈ cl, X.env.cells.lookup p.1 = some p.2
  has : ∀ y, ((relabel scope X.env).names.lookup y = some .cell ∨ (relabel scope X.env).names.lookup y = some .free) → ∃ c, cl.lookup y = some c
  n0 : N[0]? = some x
  nd : N.Nodup
  hx : scope.names.lookup x = some .local
  rho : ∀ (σ : St) (j : Nat) (v : V), (ρ σ)[j]? = some (some v) → ∃ (i : Nat) (y : Str), N[j + 1]? = some y ∧ X.N[i]? = some y ∧ σ[i]? = some (some v) ∧ Vis X.env.scope y ∧ (X.env.kindOf y = some .cell ∨ X.env.kindOf y = some .free) ∧ ((relabel scope X.env).names.lookup y = some .cell ∨ (relabel scope X.env).names.lookup y = some .free)
  len : ∀ σ : St, σ.length = X.N.length → (ρ σ).length + 1 = N.length

theorem has_of {names : List (Str × NameKind)} {cl : List (Str × Addr)} (h : (names.all fun q => (q.2 != .cell && q.2 != .free) || (cl.lookup q.1).isSome) = true) :
    ∀ y, (names.lookup y = some .cell ∨ names.lookup y = some .free) → ∃ c, cl.lookup y = some c := fun y hy => by
  have key : ∀ k : NameKind, (k != .cell && k != .free) = false → names.lookup y = some k → ∃ c, cl.lookup y = some c := fun k hk e => by
    have z := List.all_eq_true.mp h (y, k) (PySem.mem_of_lookup e)
    rw [hk, Bool.false_or] at z
    exact Option.isSome_iff_exists.mp z
  rcases hy with e | e
  · exact key .cell rfl e
  · exact key .free rfl e
theorem join_some {o : Option (Option V)} {v : V} (h : some o.join = some (some v)) : o = some (some v) := by
  cases o with
  | none => cases h
  | some o => cases h; rfl
theorem pe_comp (B : Blk X N scope cl x ρ) (hc : X.calm = true) (hi : PI X (.Name x px) iter wi) (ht : ∀ s₃ H₃ fp, PTs (X.blk N scope cl s₃ H₃ fp) ifs tt) (he : ∀ s₃ H₃ fp, PE (X.blk N scope cl s₃ H₃ fp) elt te)
    (hs : ∀ x, foldedSetIterable iter X.env x = pure x := by intro _; rfl) : PE X (.ListComp elt [⟨.Name x px, iter, ifs, 0⟩] scope pos) (tComp wi ρ tt te) := by
  intro pins s σ H Q I h
  rw [eval_ListComp]
  refine wpAny_comprehension_free (use := none) rfl hs B.clos B.kind B.names (thn (hi pins s σ H _ I h) fun v s1 h1 => thn h1 fun itv s2 h2 => ?_)
  obtain ⟨it, fp, tn, J, H2, rfl, I2, T, st2, f2, q2⟩ := h2
  -- the list that is told
  have nD : H2 s2.heap.objs.size = none := I2.hok.fresh (Nat.le_refl _)
  obtain ⟨W, ⟨m0, w0⟩, turn⟩ := q2 _ nD
  refine wpAny_newObj_type (wpAny_newFunctionEnv B.nocell (by intro y hy; simp at hy) (fun h₁ hns₁ hsb₁ => ?_) B.kind)
  dsimp only at hns₁ hsb₁ ⊢
  generalize hD : s2.heap.objs.size = D at nD w0 turn hns₁ hsb₁ ⊢
  generalize hS3 : ({ s2 with heap := s2.heap.push { cls := .type "list", dict := none, data := .seq ([] : List Value).toArray } } : Shared) = s3
  have I3 : Inv X pins σ (upd H2 D (.lst [])) s3 := by
    subst hD hS3
    exact I2.laid (t' := s2.toks) (fun b u e => Heap.get?_push_of_some _ e) (Nat.le_refl _) ⟨Nat.zero_le _, [], _, .nil, Heap.get?_push_size _ rfl⟩
  have e3 : s3.heap = s2.heap.push { cls := .type "list", dict := none, data := .seq ([] : List Value).toArray } := by rw [← hS3]
  have k23 : ∀ b o, s2.heap.get? b = some o → s3.heap.get? b = some o := fun b o e => by rw [e3]; exact Heap.get?_push_of_some _ e
  rw [← e3] at hns₁ hsb₁ ⊢
  have below : ∀ b o, s3.heap.get? b = some o → b ≠ s3.heap.objs.size := fun b o e => Nat.ne_of_lt (Heap.lt_size e)
  have k34 : ∀ b o, s3.heap.get? b = some o → h₁.get? b = some o := fun b o e => hsb₁.extBut b o (below b o e) (Heap.get?_push_of_some _ e)
  have fpl : ∀ b ∈ fp, ∃ o, s2.heap.get? b = some o ∧ ∀ v, o.data ≠ .cell v := T.obj _ _ st2
  have nfD : ∀ b ∈ fp, b ≠ D := fun b hb z => by
    obtain ⟨o, e, _⟩ := fpl b hb
    rw [z, ← hD] at e
    exact absurd (Heap.lt_size e) (Nat.lt_irrefl _)
  have cl_of : ∀ y c, cl.lookup y = some c → X.env.cells.lookup y = some c := fun y c e => B.sub (y, c) (PySem.mem_of_lookup e)
  have stkf := I3.stkFree
  -- the block at its start
  have okB : (X.blk N scope cl s3 (upd H2 D (.lst [])) fp).Ok := by
    refine ⟨I.ok.mod, B.kind, I.ok.glob, I.ok.blt, Nat.le_refl _, fun a b c e1 e2 => I.ok.inj a b c (cl_of a c e1) (cl_of b c e2), fun y hy => B.has y hy, (fun _ _ z _ => absurd z Bool.false_ne_true), (fun _ => I.ok.hd hc), I.ok.frames, .inl rfl, fun b hb => ⟨?_, fun y c e z => ?_⟩, fun b o e => ?_, Nat.le_trans I.ok.bsz I3.sz, fun b o e hb => ?_, fun b hb z => ?_, I3.stack, stkf⟩
    · obtain ⟨o, e, _⟩ := fpl b hb
      exact below b o (k23 b o e)
    · exact (f2 b hb).2.2.2.2.1 y c (cl_of y c e) z
    · exact I3.bs b o e
    · rcases (f2 b hb).2.2.2.1 with z | z
      · exact I.ok.noex b o e z
      · exact absurd (Nat.lt_of_lt_of_le (Heap.lt_size e) (Nat.le_trans I.ok.bsz z)) (Nat.lt_irrefl _)
    · rcases List.mem_cons.mp (I3.stkSub b z) with z | z
      · exact (f2 b hb).2.1 z
      · exact (f2 b hb).2.2.1 z
  have IB : ∀ tk : Nat, Inv (X.blk N scope cl s3 (upd H2 D (.lst [])) fp) [] (none :: ρ σ) (upd H2 D (.lst [])) { s3 with heap := h₁, toks := tk } := fun tk => by
    refine ⟨okB, rfl, I3.bare, Un.kept k34, ⟨_, hns₁, fun j y v e1 e2 e3 => ?_⟩, fun y c e => ?_, ?_, fun y c e => I3.freeC y c (cl_of y c e), (fun p hp => nomatch hp), I3.hok.kept k34, ?_⟩
    · cases j with
      | zero => cases e2
      | succ j =>
        obtain ⟨i, y', a1, a2, a3, a4, a5, a6⟩ := B.rho σ j v e2
        have e1' : N[j + 1]? = some y := e1
        rw [e1'] at a1
        cases a1
        obtain ⟨m, hn, hl⟩ := I3.loc
        obtain ⟨u, r, l⟩ := hl i y v a2 a3 a4
        refine ⟨u, r, .inr ⟨a6, ?_⟩⟩
        obtain ⟨c, ec⟩ := B.has y a6
        rcases l with ⟨k, _⟩ | ⟨_, c', ec', z⟩
        · rcases a5 with q | q <;> (rw [k] at q; cases q)
        · have := cl_of y c ec
          rw [this] at ec'
          cases ec'
          obtain ⟨o, ho, hd⟩ := z
          exact ⟨c, ec, o, k34 _ _ ho, hd⟩
    · obtain ⟨v, o, ho, hd⟩ := I3.cell y c (cl_of y c e)
      exact ⟨v, o, k34 _ _ ho, hd⟩
    · exact I3.hok.fresh (Nat.le_refl _)
    · show (none :: ρ σ).length = N.length
      rw [List.length_cons]
      exact B.len σ I.len
  -- behind the block
  have fin : ∀ {σ' : St} {H' : Hp} {s' : Shared}, Inv (X.blk N scope cl s3 (upd H2 D (.lst [])) fp) [] σ' H' s' → Q (.ref D) H' → compPost (model X.prog X.w) X.A X.xe none (EP X pins σ Q) (.ref D) s3.heap.objs.size (.ok .next) s' := fun {σ' H' s'} J q => by
    obtain ⟨m, hn, _⟩ := J.loc
    refine ⟨m, hn, fun h' hs' => ⟨.ref D, H', ?_, rfl, q⟩⟩
    have old : ∀ b o, s3.heap.get? b = some o → b ≠ s3.heap.objs.size := below
    have u1 : Un (frs X.stack) fp (upd H2 D (.lst [])) H' s3.heap h' := by
      refine ⟨fun b o e n hb hx => ?_, fun b o e n hb hx => ?_, J.base.free, fun b o e hx => ?_, J.base.tups, J.base.frzs, J.base.tbls⟩
      · exact (hs'.2 b (old b o e)).trans (J.base.keep b o e n hb hx)
      · obtain ⟨sl, z⟩ := J.base.slot b o e n hb hx
        exact ⟨sl, (hs'.2 b (old b o e)).trans z⟩
      · obtain ⟨o', z⟩ := J.base.there b o e hx
        exact ⟨o', (hs'.2 b (old b o e)).trans z⟩
    have hokE : HOk X.prog X.w H' h' := fun b u e => by
      refine (J.hok b u e).stay (fun c v hc z => (hs'.2 c fun y => ?_).trans z) (fun _ z => z) fun _ _ z => z
      have fr := J.free
      have y' : c = s3.heap.objs.size := y
      rcases hc with hc | hc
      · rw [← hc, y'] at e
        exact absurd (fr.symm.trans e) (by simp)
      · rw [y'] at hc
        exact absurd (fr.symm.trans hc) (by simp)
    refine I3.call' (s' := { s' with heap := h' }) (ch := fp) (J.os) u1 hokE J.bare fun b hb => ?_
    obtain ⟨g0, g1, g2, g3, g4, g5⟩ := f2 b hb
    exact ⟨g3, g1, g4, g5⟩
  have stat : ∀ {H' : Hp}, (∀ b ∈ fp, H' b = none) → ∀ b ∈ fp, FpOk (X.blk N scope cl s3 (upd H2 D (.lst [])) fp) [] H' b := fun hn b hb => by
    refine ⟨hn b hb, ?_, ?_, .inl hb, fun y c e z => (f2 b hb).2.2.2.2.1 y c (cl_of y c e) z, fun p hp => nomatch hp⟩
    · obtain ⟨o, e, _⟩ := fpl b hb
      exact below b o (k23 b o e)
    · exact okB.exfs b hb
  have loop : ∀ tk : Nat, codeAny (model X.prog X.w) X.A (.compLoop (.ListComp elt [⟨.Name x px, iter, ifs, 0⟩] scope pos) 0 (.ref it) (.ref D) (compEnvC scope cl s3.heap.objs.size X.env))
      (compPost (model X.prog X.w) X.A X.xe none (EP X pins σ Q) (.ref D) s3.heap.objs.size) { s3 with heap := h₁, toks := tk } := fun tk => by
    refine codeAny_compLoop_tests (fun n s' => ∃ i ys o H', Inv (X.blk N scope cl s3 (upd H2 D (.lst [])) fp) [] (o :: ρ σ) H' s' ∧ tn i s'.heap ∧ (∀ b ∈ fp, H' b = none) ∧ W i n ys H') ?_ m0
      ⟨0, [], none, _, IB tk, T.keep _ _ _ st2 fun b hb o e => k34 _ _ (k23 _ _ e), fun b hb => by rw [upd_ne (nfD b hb)]; exact (f2 b hb).1, w0⟩
    rintro n s4 ⟨i, ys, o, H4, I4, st4, fr4, w4⟩
    obtain ⟨hD4, hturn⟩ := turn i n ys H4 w4
    rcases hturn with ⟨stop, qn⟩ | ⟨go, step⟩
    · refine wpAny_mono (T.done (X.blk N scope cl s3 (upd H2 D (.lst [])) fp) rfl rfl rfl hc i [] s4 _ H4 (fun _ _ => False) I4 (stat fr4) st4 stop) (fun r s5 ⟨hr, I5⟩ => ?_) fun _ _ z => z.elim
      subst hr
      exact fin I5 qn
    · refine wpAny_mono (T.item (X.blk N scope cl s3 (upd H2 D (.lst [])) fp) rfl rfl rfl hc i [] s4 _ H4 (fun _ _ => False) I4 (stat fr4) st4 go) (fun r s5 ⟨u, hr, h5⟩ => ?_) fun _ _ z => z.elim
      subst hr
      have z : letOwnedTupleGo (.Name x px) (.ref it) u = pure () := rfl
      rw [z] at h5
      show wpAny _ _ ((pure () : Sem Unit) >>= fun _ => assign (.Name x px) (compEnvC scope cl s3.heap.objs.size X.env) u) _ _ s5
      refine wpAny_bind (wpAny_mono h5 (fun _ s5 ⟨y, H5, I5, r5, y5, st5, fr5⟩ => ?_) fun _ _ z => z.elim)
      have I5' := I5.pinned (stat fr5) (T.obj _ _ st5)
      have pg : PG (X.blk N scope cl s3 (upd H2 D (.lst [])) fp) (.Name x px) (gName 0) := pg_name (i := 0) B.nd B.n0 (.inl (lookup_relabel_local B.hx)) (.inr (lookup_relabel_local B.hx))
      have again : ∀ {σ7 : St} {H7 : Hp} {s7 : Shared}, Inv (X.blk N scope cl s3 (upd H2 D (.lst [])) fp) ([] ++ pinsAt fp s5.heap) σ7 H7 s7 → Inv (X.blk N scope cl s3 (upd H2 D (.lst [])) fp) [] σ7 H7 s7 ∧ tn (i + 1) s7.heap ∧ ∀ b ∈ fp, H7 b = none := fun {σ7 H7 s7} I7 => by
        refine ⟨I7.unpinned, T.keep _ _ _ st5 fun b hb o e => (I7.pin (b, o) (List.mem_append_right _ (List.mem_append_right _ (mem_pinsAt hb e)))).1, fun b hb => ?_⟩
        obtain ⟨o, e, d⟩ := T.obj _ _ st5 b hb
        exact (I7.pin (b, o) (List.mem_append_right _ (List.mem_append_right _ (mem_pinsAt hb e)))).2.1
      refine wpAny_mono (pg _ s5 _ H5 y u (fun σ2 H6 => σ2 = some y :: ρ σ ∧ H6 = H5) I5' r5 ⟨rfl, rfl⟩) (fun _ s6 ⟨σ6, H6, I6, q6⟩ => ?_) fun _ _ z => z.elim
      obtain ⟨rfl, rfl⟩ := q6
      have hstep := step y _ y5
      have tests : ∀ {tt' : TT}, PTs (X.blk N scope cl s3 (upd H2 D (.lst [])) fp) ifs tt' → ∀ {R : Bool → Hp → Prop}, tt' (some y :: ρ σ) H6 R → wpAny (model X.prog X.w) X.A
          (forIn ifs true fun c r => if r = true then do let ok ← isTrue c (compEnvC scope cl s3.heap.objs.size X.env) (eval c (compEnvC scope cl s3.heap.objs.size X.env)); pure (ForInStep.yield ok) else pure (ForInStep.yield r))
          (fun ok s7 => ∃ H7, Inv (X.blk N scope cl s3 (upd H2 D (.lst [])) fp) ([] ++ pinsAt fp s5.heap) (some y :: ρ σ) H7 s7 ∧ R ok H7) (fun _ _ => False) s6 := fun {tt'} p {R} hR => by
        cases p with
        | nil => exact wpAny_tests_nil ⟨_, I6, hR⟩
        | one p => exact wpAny_tests_one (p _ s6 _ _ _ I6 hR)
      refine wpAny_mono (tests (ht s3 _ fp) hstep) (fun ok s7 ⟨H7, I7, q7⟩ => ?_) fun _ _ z => z.elim
      cases ok with
      | false =>
        obtain ⟨m', hm', w7⟩ := q7
        obtain ⟨a1, a2, a3⟩ := again I7
        exact ⟨m', hm', i + 1, ys, _, H7, a1, a2, a3, w7⟩
      | true =>
        refine wpAny_mono (he s3 _ fp _ s7 _ H7 _ I7 q7) (fun ev s8 ⟨z, H8, I8, r8, hD8, hz, m', hm', w8⟩ => ?_) fun _ _ z => z.elim
        refine wpAny_mono (mt_append (X := X.blk N scope cl s3 (upd H2 D (.lst [])) fp) _ s8 _ H8 (.ref D) [z] (.ref D) [ev] (fun _ H9 => H9 = upd H8 D (.lst (ys ++ [z]))) I8 rfl (.cons r8 .nil) ⟨D, ys, z, rfl, rfl, hD8, hz, rfl⟩) (fun _ s9 ⟨_, H9, I9, _, q9⟩ => ?_) fun _ _ z => z.elim
        subst q9
        obtain ⟨a1, a2, a3⟩ := again I9
        exact ⟨m', hm', i + 1, ys ++ [z], _, _, a1, a2, a3, w8⟩
  have start := loop (s3.toks + ([] : List (Str × Value)).length)
  have es : ({ s3 with heap := h₁, toks := s3.toks + ([] : List (Str × Value)).length } : Shared) = { s2 with heap := h₁, toks := s2.toks + ([] : List (Str × Value)).length } := by rw [← hS3]
  rw [es] at start
  exact codeAny_compStart_list start (T.self _ 0 _ _ _ (T.keep _ _ _ st2 fun b hb o e => k34 _ _ (k23 _ _ e)) start)
end
end L2

/-! more operations over the hand layer: great numbers, all, list(range(n)) -/
namespace L2
open PySem PySem.Spec PyProof.Rows
/-- a number of at most 2048 bits -/
def Mid (i : Int) : Prop := i.natAbs < 2 ^ 2048
theorem Mid.log {i : Int} (h : Mid i) : i.natAbs.log2 < 2048 := by
  by_cases z : i.natAbs = 0
  · rw [z]; decide
  · exact (Nat.log2_lt z).mpr h
def CDivM (i j : Int) : Prop := j ≠ 0 ∧ Mid j
def CMulM (i j : Int) : Prop := Mid i ∧ Mid j
theorem CMulM.ok {i j : Int} (h : CMulM i j) : IntMulOk i j := by
  have b : ∀ {k : Int}, Mid k → Builtin.Int.intBits k ≤ 2048 := fun {k} hk => by
    have z := hk.log
    unfold Builtin.Int.intBits
    split <;> omega
  unfold IntMulOk
  have e : Builtin.Int.intTooBig ((Builtin.Int.intBits i : Int) + (Builtin.Int.intBits j : Int)) = false := by
    unfold Builtin.Int.intTooBig
    have h1 := b h.1
    have h2 := b h.2
    have h3 : (4096 : Int) ≤ bitsLine := by decide +kernel
    exact decide_eq_false (by omega)
  intro z
  rw [Bool.and_eq_true] at z
  have z2 := z.2
  rw [show Builtin.Int.intTooBig ((Builtin.Int.intBits i : Int) + (Builtin.Int.intBits j : Int)) = false from e] at z2
  cases z2
theorem paired_of : ∀ {xs : List V} {us : List Value}, xs.length = us.length → (∀ (i : Nat) (x : V) (u : Value), xs[i]? = some x → us[i]? = some u → RelV x u) → Vals xs us
  | [], [], _, _ => .nil
  | [], _ :: _, h, _ => by simp at h
  | _ :: _, [], h, _ => by simp at h
  | x :: xs, u :: us, h, k => .cons (k 0 x u rfl rfl) (paired_of (by simpa using h) fun i a b h1 h2 => k (i + 1) a b (by simpa using h1) (by simpa using h2))
section
variable {X : Cx}
theorem op_fdivM : OpR X (binaryOp .FloorDiv) (rI CDivM fun i j => .int (i.fdiv j)) := opI fun _ _ _ _ _ _ _ hc q => floordiv_int hc.1 q (.inl (PyProof.noPylong_of_log2 (Nat.lt_of_lt_of_le hc.2.log (by decide))))
theorem op_mulM : OpR X (binaryOp .Mult) (rI CMulM fun i j => .int (i * j)) := opI fun _ _ _ _ _ _ _ hc q => mul_int q hc.ok
def CDivP (i j : Int) : Prop := 0 < j ∧ Mid j
theorem op_fdivP : OpR X (binaryOp .FloorDiv) (rI CDivP fun i j => .int (i / j)) := opI fun i j _ _ _ _ _ hc q =>
  floordiv_int (Int.ne_of_gt hc.1) (by rw [Int.fdiv_eq_ediv_of_nonneg i (Int.le_of_lt hc.1)]; exact q) (.inl (PyProof.noPylong_of_log2 (Nat.lt_of_lt_of_le hc.2.log (by decide))))
/-- all(bools of a list) -/
def allR (K : PySem.W.Frag) : List V → Hp → VK → Prop := fun xs H Q => ∃ (p : Addr) (bs : List Bool), xs = [.ref p] ∧ SqL K H p (bs.map V.bl) ∧ Q (.bl (bs.all id)) H
theorem call_all {K : PySem.W.Frag} (hc : X.calm = true) (hK : X.K = K := by rfl) : CallR X (.builtin "all") (allR K) := by
  intro pins s σ H xs us Q I r h
  subst hK
  obtain ⟨p, bs, rfl, hq, q⟩ := h
  obtain ⟨u, rfl, ru⟩ := vals1 r
  cases ru
  obtain ⟨its, rv, pl, hz⟩ := I.list hq
  have hne : p ≠ s.heap.objs.size := by
    obtain ⟨o, e, _⟩ := pl.isList
    exact Nat.ne_of_lt (Heap.lt_size e)
  have hl : its.length = bs.length := by rw [← rv.length, List.length_map]
  refine call_all_walk (wpAny_pyIter_list pl.isList ?_)
  refine ⟨s.heap.objs.size, _, _, _, _, _, fun i => bs.getD i true, rfl, Walks.list (A := X.A.in1) (show X.A.in1.handled = none from I.ok.hd hc) s.heap.objs.size p hne its.toArray, ⟨⟨_, Heap.get?_push_size _ rfl, rfl, rfl⟩, pl.isList.push _⟩, fun i v s' Q' E' hv hq' => ?_, fun h' tk hk => ?_⟩
  · have hv' : its[i]? = some v := by simpa using hv
    cases eb : bs[i]? with
    | none =>
      have := rv.none_of (i := i) (by rw [List.getElem?_map, eb]; rfl)
      rw [this] at hv'
      cases hv'
    | some b =>
      obtain ⟨u, hu, ru⟩ := rv.get (i := i) (x := V.bl b) (by rw [List.getElem?_map, eb]; rfl)
      rw [hu] at hv'
      cases hv'
      cases ru
      have e : bs.getD i true = b := by rw [List.getD_eq_getElem?_getD, eb]; rfl
      have hq2 : Q' (bs.getD i true) s' := hq'
      rw [e] at hq2
      exact wpAny_truthy_bool hq2
  · refine ⟨.bl (bs.all id), H, I.kept fun b o e => hk b o (fun z => ?_) (Heap.get?_push_of_some _ e), ?_, q⟩
    · exact absurd (Heap.lt_size e) (by rw [List.mem_singleton.mp z]; exact Nat.lt_irrefl _)
    · show Value.bool _ = Value.bool _
      congr 1
      rw [List.size_toArray, hl]
      clear hk q rv pl hz hl hq
      induction bs with
      | nil => rfl
      | cons b bs ih =>
        rw [List.length_cons, List.range_succ_eq_map, List.all_cons, List.all_map, List.all_cons]
        show (b && (List.range bs.length).all fun i => bs.getD i true) = (b && bs.all id)
        rw [ih]
end
theorem boot_all : bootBuiltins "all" = some (.builtin "all") := by decide +kernel
def unstarred : Expr → Bool
  | .Starred _ _ => false
  | _ => true
theorem star_cons {e : Expr} {es : List Expr} {env : Env} (h : unstarred e = true) : starEach (e :: es) env = (false, eval e env) :: starEach es env := by
  cases e <;> first | rfl | cases h
theorem pa_mor {X : Cx} {e : Expr} {es : List Expr} {te : TE} {t : TA} (hs : unstarred e = true) (ha : PE X e te) (hr : PA X es t) : PA X (e :: es) (tCons te t) :=
  pa_cons ha hr (star_cons hs)
theorem ps_put {X : Cx} {pos : Pos} {i : Nat} {x : Str} {e : Expr} {te : TE} {pos' : Pos} (hs : swapsWith e (some (.Name x pos')) pos.line X.env = pure false) (hf : X.fn x = true ∨ X.env.scope.names.lookup x = some .local) (hN : X.N.Nodup) (hi : X.N[i]? = some x) (hx : Loc X.env.scope x) (he : PE X e te) :
    PS X (.Assign [.Name x pos'] e pos) (tAsg te (gName i)) := ps_set hN hi hx he hs hf
/-- i.bit_length() -/
def bitsR : V → List V → Hp → VK → Prop := fun x xs H Q => ∃ i : Int, x = .int i ∧ xs = [] ∧ Q (.int ((Builtin.Int.intBits i : Nat) : Int)) H
theorem mt_bits {X : Cx} : MtR X "int.bit_length" bitsR := by
  intro pins s σ H x xs v us Q I rx rv h
  obtain ⟨i, rfl, rfl, q⟩ := h
  have hus := rv.zero
  subst hus
  obtain ⟨t, rfl⟩ := rx
  exact call_int_bit_length ⟨.int ((Builtin.Int.intBits i : Nat) : Int), H, I.tok _, ⟨_, rfl⟩, q⟩
theorem bits_mid {i : Int} (h : Mid i) : Builtin.Int.intBits i ≤ 2048 := by
  have z := h.log
  unfold Builtin.Int.intBits
  split <;> omega
end L2

/-! numbers: what the laws of stage 1 reckon -/
namespace My
open PySem L2
theorem dV_str (a b : Str) : decide (V.str a = V.str b) = decide (a = b) := by
  by_cases h : a = b
  · subst h; simp
  · rw [decide_eq_false h]; exact decide_eq_false fun e => h (V.str.inj e)
theorem dV_int (a b : Int) : decide (V.int a = V.int b) = decide (a = b) := by
  by_cases h : a = b
  · subst h; simp
  · rw [decide_eq_false h]; exact decide_eq_false fun e => h (V.int.inj e)
theorem kit_same {K : PySem.W.Frag} {T : String} : PySem.W.kitOne K (.type T) (.type T) = some true := by
  unfold PySem.W.kitOne
  rw [if_pos (beq_self_eq_true _)]
theorem same_upd {H : Hp} {p : Addr} {o : HO} (h : H p = none) : Same H (upd H p o) := fun b u e => by
  rw [upd_ne (ne_of_none e h)]
  exact e
theorem atI_some {α : Type} {xs : List α} {i : Int} (h0 : 0 ≤ i) (h1 : i < xs.length) : ∃ v, atI xs i = some v ∧ v ∈ xs := by
  obtain ⟨k, rfl⟩ : ∃ k : Nat, i = (k : Int) := ⟨i.toNat, by omega⟩
  have hk : k < xs.length := by omega
  exact ⟨xs[k], atI_nat (by simp [hk]), List.getElem_mem _⟩
theorem lk_prime (v : V) : ([(("prime" : Str), v)] : List (Str × V)).lookup ("prime" : Str) = some v := by simp [List.lookup]
/-! ### anything -/
inductive Any (H : Hp) : V → Prop where
  | non : Any H .non
  | bl (b : Bool) : Any H (.bl b)
  | int (i : Int) : Any H (.int i)
  | str (x : Str) : Any H (.str x)
  | lst {a : Addr} {xs : List V} (e : H a = some (.lst xs)) : Any H (.ref a)
  | tup {a : Addr} {xs : List V} (e : H a = some (.tup xs)) : Any H (.ref a)
  | dct {a : Addr} (e : H a = some (DctO a)) : Any H (.ref a)
theorem Any.mono {H H' : Hp} {v : V} (h : Any H v) (s : Same H H') : Any H' v := by
  cases h with
  | non => exact .non
  | bl b => exact .bl b
  | int i => exact .int i
  | str x => exact .str x
  | lst e => exact .lst (s _ _ e)
  | tup e => exact .tup (s _ _ e)
  | dct e => exact .dct (s _ _ e)
def isIntV : V → Bool
  | .int _ => true
  | _ => false
def isBlV : V → Bool
  | .bl _ => true
  | _ => false
def isTupV (H : Hp) : V → Bool
  | .ref a => (match H a with | some (.tup _) => true | _ => false)
  | _ => false
theorem Any.kit {K : PySem.W.Frag} {H : Hp} {v : V} (h : Any H v) : ∃ T : String, TyX K H v (.type T) ∧ PySem.W.kitOne K (.type T) (.type "int") = some (isIntV v || isBlV v) ∧ PySem.W.kitOne K (.type T) (.type "bool") = some (isBlV v) ∧
    PySem.W.kitOne K (.type T) (.type "tuple") = some (isTupV H v) := by
  cases h with
  | non => exact ⟨"NoneType", .of .non, rfl, rfl, rfl⟩
  | bl b => exact ⟨"bool", .of (.bl b), rfl, rfl, rfl⟩
  | int i => exact ⟨"int", .of (.int i), rfl, rfl, rfl⟩
  | str x => exact ⟨"str", .of (.str x), rfl, rfl, rfl⟩
  | lst e => exact ⟨"list", .of (.lst e), rfl, rfl, by unfold isTupV; dsimp only; rw [e]; rfl⟩
  | tup e => exact ⟨"tuple", .of (.tup e), rfl, rfl, by unfold isTupV; dsimp only; rw [e]; rfl⟩
  | dct e => exact ⟨"dict", .dct e, rfl, rfl, by unfold isTupV; dsimp only; rw [e]; rfl⟩
theorem bl_int {v : V} (h : isBlV v = true) : isIntV v = false := by cases v <;> first | rfl | cases h
/-- a thing as the laws build it -/
structure Thing (H : Hp) (v : V) : Prop where
  any : Any H v
  two : ∀ (a : Addr) (x y : V), v = .ref a → H a = some (.tup [x, y]) → Any H x ∧ Any H y ∧ ∀ i : Int, y = .int i → Mid i
theorem Thing.mono {H H' : Hp} {v : V} (h : Thing H v) (s : Same H H') : Thing H' v := ⟨h.any.mono s, fun a x y z e => by
  subst z
  have e0 : H a = some (.tup [x, y]) := by
    cases h.any with
    | lst q => rw [s _ _ q] at e; cases e
    | dct q => rw [s _ _ q] at e; cases e
    | tup q => rw [s _ _ q] at e; cases e; exact q
  obtain ⟨a1, a2, a3⟩ := h.two a x y rfl e0
  exact ⟨a1.mono s, a2.mono s, a3⟩⟩
theorem lk_no {v : V} {m : Str} (e : (m == ("prime" : Str)) = false) : ([(("prime" : Str), v)] : List (Str × V)).lookup m = none := by simp [List.lookup, e]
/-! ### Euclid -/
theorem gcd_step (m n : Nat) : Nat.gcd n (m % n) = Nat.gcd m n := by rw [Nat.gcd_comm n, ← Nat.gcd_rec, Nat.gcd_comm]
theorem abs_nat (a : Int) : (if a < 0 then -a else a) = (a.natAbs : Int) := by split <;> omega
def lowG (a b : Int) : Int := if b < 0 then 0 - (Int.gcd a b : Int) else (Int.gcd a b : Int)
theorem gcd_pos {a b : Int} (h : b ≠ 0) : 0 < Int.gcd a b := Nat.gcd_pos_of_pos_right _ (Int.natAbs_pos.mpr h)
theorem gcd_mid {a b : Int} (h : b ≠ 0) (m : Mid b) : Int.gcd a b < 2 ^ 2048 := Nat.lt_of_le_of_lt (Nat.gcd_le_right _ (Int.natAbs_pos.mpr h)) m
theorem lowG_ok {a b : Int} (h : b ≠ 0) (m : Mid b) : CDivM 0 (lowG a b) := by
  have h1 := gcd_pos (a := a) h
  have h2 := gcd_mid (a := a) h m
  unfold lowG
  refine ⟨by split <;> omega, ?_⟩
  unfold Mid
  split
  · rw [show (0 - (Int.gcd a b : Int)).natAbs = Int.gcd a b by omega]; exact h2
  · rw [Int.natAbs_natCast]; exact h2
theorem Mid.of_lt {i : Int} (h1 : -(10 ^ 70) < i) (h2 : i < 10 ^ 70) : Mid i := by
  have h3 : i.natAbs < 2 ^ 240 := by omega
  exact Nat.lt_of_lt_of_le h3 (Nat.pow_le_pow_right (by decide) (by decide))
/-! ### the promises -/
def spWhole : Sp := fun vs H Q _ => ∃ v : V, vs = [v] ∧ Any H v ∧ Q (.bl (isIntV v)) H
def spGcd : Sp := fun vs H Q _ => ∃ a b : Int, vs = [.int a, .int b] ∧ Mid b ∧ Q (.int (Int.gcd a b : Int)) H
def spPrime : Sp := fun vs H Q _ => ∃ n : Int, vs = [.int n] ∧ 2 ≤ n ∧ n ≤ 997 ∧ Q (.bl (primeB n)) H
def spIsF : Sp := fun vs H Q _ => ∃ (p : Addr) (d : Td), vs = [.ref p] ∧ H p = some (.tup d.vs) ∧ Q (.bl d.isF) H
def spIsW : Sp := fun vs H Q _ => ∃ (p : Addr) (d : Td), vs = [.ref p] ∧ H p = some (.tup d.vs) ∧ Q (.bl d.isW) H
def spInit (C N : Addr) : Sp := fun vs H Q E => ∃ (x dx p : Addr) (d : Td), vs = [.ref x, .ref p] ∧ H x = some (.ins C dx []) ∧ H p = some (.tup d.vs) ∧
  (d.good = true → Q .non (upd H x (.ins C dx [("prime", d.prime)]))) ∧ (d.good = false → E (.ref N) none H)
/-- the world at x: the fractions for 0, else the wheel of q -/
def WorldAt (C : Addr) (H : Hp) (x : Addr) (q : Int) : Prop := ∃ dx, H x = some (.ins C dx [("prime", if q = 0 then .non else .int q)])
theorem WorldAt.mono {C : Addr} {H H' : Hp} {x : Addr} {q : Int} (h : WorldAt C H x q) (s : Same H H') : WorldAt C H' x q := by
  obtain ⟨dx, e⟩ := h
  exact ⟨dx, s _ _ e⟩
def spLow : Sp := fun vs H Q _ => ∃ a b : Int, vs = [.int a, .int b] ∧ b ≠ 0 ∧ Mid b ∧ ∀ (q : Addr) (H' : Hp), Same H H' → H' q = some (.tup [.int (a.fdiv (lowG a b)), .int (b.fdiv (lowG a b))]) → Q (.ref q) H'
def spLaw (K : PySem.W.Frag) : Sp := fun vs H Q _ => ∃ (a : Addr) (ns : List Int), vs = [.ref a] ∧ SqL K H a (ns.map V.int) ∧ ns.length ≤ 63 ∧ ∀ H', Q (.bl true) H'
/-! ### the list of a comprehension over the divisors -/
end My

/-! sums and products of fractions told low -/
namespace My
theorem pos_part {u v : Int} (hu : 0 < u) (h : 0 < u * v) : 0 < v := by
  by_cases z : 0 < v
  · exact z
  · have y := Int.mul_le_mul_of_nonneg_left (show v ≤ 0 by omega) (show 0 ≤ u by omega)
    rw [Int.mul_zero] at y
    omega
theorem cop_of {a b : Int} (h : ∀ d : Nat, (d : Int) ∣ a → (d : Int) ∣ b → d = 1) : Int.gcd a b = 1 := h _ (Int.gcd_dvd_left ..) (Int.gcd_dvd_right ..)
theorem cop_dvd {a b : Int} (h : Int.gcd a b = 1) {d : Nat} (h1 : (d : Int) ∣ a) (h2 : (d : Int) ∣ b) : d = 1 := by
  have z : (d : Int) ∣ ((Int.gcd a b : Nat) : Int) := Int.dvd_coe_gcd h1 h2
  rw [h] at z
  exact Nat.dvd_one.mp (Int.natCast_dvd_natCast.mp z)
/-- d divides b, which has nothing in common with c: of a * c it divides a -/
theorem cut_dvd {a b c : Int} {d : Nat} (h : Int.gcd b c = 1) (h1 : (d : Int) ∣ b) (h2 : (d : Int) ∣ a * c) : (d : Int) ∣ a := by
  have hc : Nat.Coprime d c.natAbs := by
    have z : Nat.Coprime b.natAbs c.natAbs := h
    exact Nat.Coprime.coprime_dvd_left (Int.ofNat_dvd_left.mp h1) z
  have z : d ∣ a.natAbs * c.natAbs := by
    rw [← Int.natAbs_mul]
    exact Int.ofNat_dvd_left.mp h2
  exact Int.ofNat_dvd_left.mpr (hc.dvd_of_dvd_mul_right z)
theorem cop_mul {a b c : Int} (h1 : Int.gcd a b = 1) (h2 : Int.gcd a c = 1) : Int.gcd a (b * c) = 1 := by
  refine cop_of fun d x y => ?_
  exact cop_dvd h1 x (cut_dvd (a := b) (b := a) (c := c) h2 x y)
theorem cop_comm {a b : Int} (h : Int.gcd a b = 1) : Int.gcd b a = 1 := by rw [Int.gcd_comm]; exact h
/-- the parts over what two numbers have in common -/
theorem cop_over {a b : Int} (h : b ≠ 0) : Int.gcd (a / (Int.gcd a b : Int)) (b / (Int.gcd a b : Int)) = 1 := by
  have z : 0 < Int.gcd a b := Nat.gcd_pos_of_pos_right _ (Int.natAbs_pos.mpr h)
  exact Int.gcd_ediv_gcd_ediv_gcd z
structure Low (x m : Int) : Prop where
  pos : 1 ≤ m
  cop : Int.gcd x m = 1
end My

/-! numbers: sums, differences, products -/
namespace My
open PySem L2
/-- at most three hundred figures -/
def Big (x : Int) : Prop := x.natAbs ≤ 10 ^ 300
theorem pow300 : (10 : Nat) ^ 300 < 2 ^ 2048 := by decide +kernel
theorem Big.over {x g : Int} (h : Big x) : Big (x / g) := Nat.le_trans (Int.natAbs_ediv_le_natAbs x g) h
theorem Big.neg {x : Int} (h : Big x) : Big (-x) := by unfold Big; rw [Int.natAbs_neg]; exact h
theorem Big.gcd {x y : Int} (h : Big y) (z : y ≠ 0) : Big (Int.gcd x y : Int) := by
  unfold Big
  rw [Int.natAbs_natCast]
  exact Nat.le_trans (Nat.gcd_le_right _ (Int.natAbs_pos.mpr z)) h
theorem Low.neg {x m : Int} (h : Low x m) : Low (-x) m := ⟨h.pos, by rw [Int.neg_gcd]; exact h.cop⟩
def WheelN (p : Int) : Prop := p = 0 ∨ (2 ≤ p ∧ p ≤ 997 ∧ primeB p = true)
/-- a number of a world, and its parts -/
inductive NumAt (B : Nat) (H : Hp) : Int → V → Int → Int → Prop where
  | frac {p : Addr} {x m : Int} (e : H p = some (.tup [.int x, .int m])) (l : Low x m) (bx : x.natAbs ≤ B) (bm : m.natAbs ≤ B) : NumAt B H 0 (.ref p) x m
  | rem {q i : Int} (h0 : 0 ≤ i) (h1 : i < q) (h2 : q ≤ 997) : NumAt B H q (.int i) i 1
theorem NumAt.mono {B : Nat} {H H' : Hp} {q : Int} {v : V} {x m : Int} (h : NumAt B H q v x m) (s : Same H H') : NumAt B H' q v x m := by
  cases h with
  | frac e l bx bm => exact .frac (s _ _ e) l bx bm
  | rem h0 h1 h2 => exact .rem h0 h1 h2
theorem low_of {a b : Int} (h : 1 ≤ b) : ∃ u d : Int, a.fdiv (lowG a b) = u ∧ b.fdiv (lowG a b) = d ∧ Low u d ∧ u.natAbs ≤ a.natAbs ∧ d.natAbs ≤ b.natAbs := by
  have hp := gcd_pos (a := a) (b := b) (by omega)
  have e : lowG a b = (Int.gcd a b : Int) := by unfold lowG; rw [if_neg (by omega)]
  rw [e]
  refine ⟨a / (Int.gcd a b : Int), b / (Int.gcd a b : Int), Int.fdiv_eq_ediv_of_nonneg _ (by omega), Int.fdiv_eq_ediv_of_nonneg _ (by omega), ⟨?_, cop_over (by omega)⟩, Int.natAbs_ediv_le_natAbs .., Int.natAbs_ediv_le_natAbs ..⟩
  obtain ⟨b', eb⟩ := Int.gcd_dvd_right (a := a) (b := b)
  have z : b / (Int.gcd a b : Int) = b' := by conv => lhs; lhs; rw [eb]
                                              exact Int.mul_ediv_cancel_left _ (by omega)
  rw [z]
  exact pos_part (u := (Int.gcd a b : Int)) (by omega) (by rw [← eb]; omega)
/-- a low fraction is no greater than another of its worth -/
theorem low_le {u d T B : Int} (l : Low u d) (hB : 0 < B) (e : u * B = T * d) : d ≤ B ∧ u.natAbs ≤ T.natAbs := by
  have h0 := l.pos
  have hd : d ∣ B := by
    have z : ((d.natAbs : Nat) : Int) ∣ B := cut_dvd (a := B) (b := d) (c := u) (cop_comm l.cop) (Int.natAbs_dvd.mpr (Int.dvd_refl d)) ⟨T * (d / (d.natAbs : Int)), by
      have q : (d.natAbs : Int) = d := by omega
      rw [q, Int.ediv_self (by omega), Int.mul_one, Int.mul_comm B u, e, Int.mul_comm]⟩
    exact Int.natAbs_dvd.mp z
  have hle := Int.le_of_dvd hB hd
  refine ⟨hle, ?_⟩
  have z : u.natAbs * B.natAbs = T.natAbs * d.natAbs := by rw [← Int.natAbs_mul, e, Int.natAbs_mul]
  have z2 : T.natAbs * d.natAbs ≤ T.natAbs * B.natAbs := Nat.mul_le_mul_left _ (by omega)
  rw [← z] at z2
  exact Nat.le_of_mul_le_mul_right z2 (by omega)
theorem NumAt.bd {H : Hp} {q : Int} {v : V} {x m : Int} (h : NumAt (10 ^ 18) H q v x m) : x.natAbs ≤ 10 ^ 18 ∧ 1 ≤ m ∧ m.natAbs ≤ 10 ^ 18 := by
  cases h with
  | frac e l bx bm => exact ⟨bx, l.pos, bm⟩
  | rem h0 h1 h2 => exact ⟨by omega, by omega, by omega⟩
end My

/-! backs on a wheel -/
namespace My
theorem prime_cop {q b : Int} (h1 : 2 ≤ q) (h2 : q ≤ 997) (hp : primeB q = true) (b1 : 1 ≤ b) (b2 : b < q) : Int.gcd q b = 1 := by
  have gp : 0 < Int.gcd q b := Nat.gcd_pos_of_pos_right _ (Int.natAbs_pos.mpr (by omega))
  by_cases g1 : Int.gcd q b = 1
  · exact g1
  exfalso
  obtain ⟨k, ek⟩ := Int.gcd_dvd_left (a := q) (b := b)
  have hb := Int.le_of_dvd (by omega) (Int.gcd_dvd_right (a := q) (b := b))
  generalize Int.gcd q b = g at *
  have kp : 0 < k := pos_part (u := (g : Int)) (by omega) (by rw [← ek]; omega)
  have k2 : k ≠ 1 := fun z => by
    rw [z, Int.mul_one] at ek
    omega
  have no : ∀ d : Int, 2 ≤ d → d * d ≤ q → q % d = 0 → False := fun d x y z => by
    rw [primeB_no h2 x y z] at hp
    cases hp
  by_cases c : (g : Int) ≤ k
  · exact no g (by omega) (by rw [ek]; exact Int.mul_le_mul_of_nonneg_left c (by omega)) (by rw [ek]; exact Int.mul_emod_right ..)
  · exact no k (by omega) (by rw [ek]; exact Int.mul_le_mul_of_nonneg_right (by omega) (by omega)) (by rw [ek]; exact Int.mul_emod_left ..)
/-- the loop's bond: last and now by number and prime -/
structure Bond (q b last lt now nt : Int) : Prop where
  l : ∃ s, last = lt * b + s * q
  n : ∃ s, now = nt * b + s * q
  cop : Int.gcd last now = 1
  pos : 1 ≤ now
  less : now ≤ last
theorem Bond.step {q b last lt now nt : Int} (h : Bond q b last lt now nt) (h1 : 1 < now) : Bond q b now nt (last - last / now * now) (lt - last / now * nt) ∧ last - last / now * now < now := by
  obtain ⟨⟨s, es⟩, ⟨r, er⟩, c, p, le⟩ := h
  have e : last - last / now * now = last % now := by
    have z := Int.emod_add_mul_ediv last now
    rw [Int.mul_comm] at z
    omega
  have lt1 := Int.emod_lt_of_pos last (show 0 < now by omega)
  have ge := Int.emod_nonneg last (show now ≠ 0 by omega)
  have c' : Int.gcd now (last % now) = 1 := cop_of fun d x y => cop_dvd c (by
    have z := Int.emod_add_mul_ediv last now
    rw [← z]
    exact Int.dvd_add y (Int.dvd_trans x (Int.dvd_mul_right ..))) x
  have nz : last % now ≠ 0 := fun z => by
    rw [z, Int.gcd_zero_right] at c'
    omega
  refine ⟨⟨⟨r, er⟩, ⟨s - last / now * r, ?_⟩, by rw [e]; exact c', by omega, by omega⟩, by omega⟩
  generalize last / now = f
  rw [es, er, Int.sub_mul, Int.sub_mul, Int.mul_add, Int.mul_assoc, Int.mul_assoc]
  omega
theorem Bond.done {q b last lt nt : Int} (h : Bond q b last lt 1 nt) (hq : 2 ≤ q) : (nt % q * b) % q = 1 := by
  obtain ⟨s, e⟩ := h.n
  have z : nt * b = 1 + (-s) * q := by rw [Int.neg_mul]; omega
  have y : nt % q * b % q = nt * b % q := by rw [Int.mul_emod (nt % q) b, Int.emod_emod, ← Int.mul_emod]
  rw [y, z, Int.add_mul_emod_self_right]
  exact Int.emod_eq_of_lt (by omega) (by omega)
theorem Bond.start {q b : Int} (h1 : 2 ≤ q) (h2 : q ≤ 997) (hp : primeB q = true) (b1 : 1 ≤ b) (b2 : b < q) : Bond q b q 0 b 1 :=
  ⟨⟨1, by omega⟩, ⟨0, by omega⟩, prime_cop h1 h2 hp b1 b2, b1, by omega⟩
end My

/-! == of whole numbers and tuples of flat values, either way -/
namespace L2
open PySem PySem.Spec PyProof.Rows
end L2

/-! numbers: the one over the other -/
namespace My
open PySem L2
def spBack (N : Addr) : Sp := fun vs H Q E => ∃ q b : Int, vs = [.int q, .int b] ∧ 2 ≤ q ∧ q ≤ 997 ∧ primeB q = true ∧ 0 ≤ b ∧ b < q ∧ (b = 0 → E (.ref N) none H) ∧ (b ≠ 0 → ∀ r : Int, 0 ≤ r → r < q → (r * b) % q = 1 → Q (.int r) H)
def spRemOver (N : Addr) : Sp := fun vs H Q E => ∃ q i j : Int, vs = [.int q, .int i, .int j] ∧ 2 ≤ q ∧ q ≤ 997 ∧ primeB q = true ∧ 0 ≤ i ∧ i < q ∧ 0 ≤ j ∧ j < q ∧ (j = 0 → E (.ref N) none H) ∧ (j ≠ 0 → ∀ r : Int, 0 ≤ r → r < q → (r * j) % q = i → Q (.int r) H)
theorem rem_over {q i j r : Int} (hq : 2 ≤ q) (i0 : 0 ≤ i) (i1 : i < q) (h : (r * j) % q = 1) : (i * r % q * j) % q = i := by
  have y : i * r % q * j % q = i * (r * j) % q := by rw [Int.mul_emod (i * r % q) j, Int.emod_emod, ← Int.mul_emod, Int.mul_assoc]
  rw [y, Int.mul_emod, h, Int.emod_eq_of_lt i0 i1, Int.mul_one, Int.emod_eq_of_lt i0 i1]
end My

/-! a method with one default, and calls of it with keywords -/
namespace L2
open PySem PySem.Spec PyProof.Rows
/-- a def of the text whose last parameter has a whole number for a default -/
structure FunD (K : PySem.W.Frag) (x qual : Str) (st : Stmt) (i : Int) (f : Addr) (fd : FuncData) : Prop where
  ex : ∃ (oc : Value) (od : Option Addr) (kV doc pm : Value) (an : Option Addr) (cdv ct : Value) (osl : Array (Option Value)) (dT : Addr) (tk : Tok) (oc' : Value) (od' : Option Addr) (n : Nat) (osl' : Array (Option Value)),
    fd = PySem.W.fnOf x qual (defArgs st) (defBody st) (defScope st) (.ref dT) kV doc pm an cdv ct ∧ K.lookup f = some ⟨oc, od, .func fd, osl⟩ ∧ PySem.W.codeIn K cdv qual = true ∧ K.lookup dT = some ⟨oc', od', .seq #[.int i tk] n, osl'⟩
  kp : PySem.W.keepIn K (.ref f) = true
section
variable {P : Program} {w : World} {K : PySem.W.Frag} {mg : Str → Option Value} {base : Heap}
theorem FunD.okX {x qual : Str} {st : Stmt} {i : Int} {f : Addr} {fd : FuncData} {N ps : List Str} {k : Nat} {sp : Sp} (F : FunD K x qual st i f fd) (S : FnScope N ps (defScope st)) (len : ∀ vs H Q E, sp vs H Q E → vs.length = ps.length)
    (hbody : ∀ (cdv : Value) (A : Around) (outer : List Env) (s : Shared) (H : Hp) (vs : List V) (Q : VK) (E : XK), Room k (A.deeper (envOfC qual (defScope st) s.heap.objs.size f cdv)) → sp vs H Q E →
      Leaves (cxOf (CXF P w) P w K mg base N qual (defScope st) f cdv A outer s H E) E →
      ∃ t, PSs (cxOf (CXF P w) P w K mg base N qual (defScope st) f cdv A outer s H E) (defBody st) t ∧ t { nx := fun _ H' => Q .non H', rt := Q } (start N vs) H) : FnOk P w K mg base (CXF P w) (k + 1) f fd ps sp := by
  obtain ⟨oc, od, kV, doc, pm, an, cdv, ct, osl, dT, tk, oc', od', n, osl', rfl, lk, hcd, ld⟩ := F.ex
  exact fn_of lk hcd S len fun A outer s H vs Q E hr hsp => hbody cdv A outer s H vs Q E hr hsp ⟨rfl, rfl, rfl, rfl⟩
theorem fund_mk {x qual : Str} {st : Stmt} {i : Int} {f dT : Addr} {oc : Value} {od an : Option Addr} {osl : Array (Option Value)} {kV doc pm cdv ct : Value} {tk : Tok} {oc' : Value} {od' : Option Addr} {n : Nat} {osl' : Array (Option Value)}
    (l : K.lookup f = some ⟨oc, od, .func (PySem.W.fnOf x qual (defArgs st) (defBody st) (defScope st) (.ref dT) kV doc pm an cdv ct), osl⟩)
    (c : PySem.W.codeIn K cdv qual = true) (k : PySem.W.keepIn K (.ref f) = true) (ld : K.lookup dT = some ⟨oc', od', .seq #[.int i tk] n, osl'⟩) : FunD K x qual st i f (PySem.W.fnOf x qual (defArgs st) (defBody st) (defScope st) (.ref dT) kV doc pm an cdv ct) :=
  ⟨⟨oc, od, kV, doc, pm, an, cdv, ct, osl, dT, tk, oc', od', n, osl', rfl, l, c, ld⟩, k⟩
theorem FunD.binds {x qual : Str} {st : Stmt} {i : Int} {f : Addr} {fd : FuncData} {ps : List Str} (F : FunD K x qual st i f fd)
    (h : ∀ (s : Shared) (dT : Addr) (kV doc pm : Value) (an : Option Addr) (cdv ct : Value) (tk : Tok) (o : Obj) (n : Nat) (us : List Value), s.heap.get? dT = some o → o.data = .seq #[.int i tk] n → us.length = ps.length →
      BindsTo s (PySem.W.fnOf x qual (defArgs st) (defBody st) (defScope st) (.ref dT) kV doc pm an cdv ct) ⟨us, []⟩ (ps.zip us)) : Binds K fd ps [] := by
  obtain ⟨oc, od, kV, doc, pm, an, cdv, ct, osl, dT, tk, oc', od', n, osl', rfl, lk, hcd, ld⟩ := F.ex
  intro s us X hl
  rw [List.append_nil] at hl ⊢
  exact h s dT kV doc pm an cdv ct tk _ n us (X _ _ ld) rfl hl
theorem FunD.binds1 {x qual : Str} {st : Stmt} {i : Int} {f : Addr} {fd : FuncData} {ps : List Str} (F : FunD K x qual st i f fd)
    (h : ∀ (s : Shared) (dT : Addr) (kV doc pm : Value) (an : Option Addr) (cdv ct : Value) (tk : Tok) (o : Obj) (n : Nat) (us : List Value), s.heap.get? dT = some o → o.data = .seq #[.int i tk] n → us.length + 1 = ps.length →
      BindsTo s (PySem.W.fnOf x qual (defArgs st) (defBody st) (defScope st) (.ref dT) kV doc pm an cdv ct) ⟨us, []⟩ (ps.zip (us ++ [.int i tk]))) : ∃ v, Vals [V.int i] [v] ∧ Binds K fd ps [v] := by
  obtain ⟨oc, od, kV, doc, pm, an, cdv, ct, osl, dT, tk, oc', od', n, osl', rfl, lk, hcd, ld⟩ := F.ex
  refine ⟨.int i tk, .cons ⟨tk, rfl⟩ .nil, fun s us X hl => ?_⟩
  exact h s dT kV doc pm an cdv ct tk _ n us (X _ _ ld) rfl (by simpa using hl)
theorem FunD.bindsK {x qual : Str} {st : Stmt} {i : Int} {f : Addr} {fd : FuncData} {ps : List Str} {y : Str} (F : FunD K x qual st i f fd)
    (h : ∀ (s : Shared) (dT : Addr) (kV doc pm : Value) (an : Option Addr) (cdv ct : Value) (tk : Tok) (o : Obj) (n : Nat) (us ws : List Value), s.heap.get? dT = some o → o.data = .seq #[.int i tk] n → ws.length = 1 → us.length + 1 = ps.length →
      BindsTo s (PySem.W.fnOf x qual (defArgs st) (defBody st) (defScope st) (.ref dT) kV doc pm an cdv ct) ⟨us, [y].zip ws⟩ (ps.zip (us ++ ws))) :
    ∀ (s : Shared) (us ws : List Value), K.In s.heap → ws.length = 1 → us.length + 1 = ps.length → BindsTo s fd ⟨us, [y].zip ws⟩ (ps.zip (us ++ ws)) := by
  obtain ⟨oc, od, kV, doc, pm, an, cdv, ct, osl, dT, tk, oc', od', n, osl', rfl, lk, hcd, ld⟩ := F.ex
  intro s us ws X hw hl
  exact h s dT kV doc pm an cdv ct tk _ n us ws (X _ _ ld) rfl hw hl
end
section
variable {X : Cx} {CX : CXT} {k : Nat} {f C : Addr} {fd : FuncData} {ps : List Str} {y : Str} {sp : Sp} {E : XK} {m : Str} {pos apos kpos : Pos} {e e' o : Expr} {ta : TE} {t tk : TA}
end
end L2

/-! numbers of two whole numbers -/
namespace My
open PySem L2
def lowU (a b : Int) : Int := a.fdiv (lowG a b)
def lowD (a b : Int) : Int := b.fdiv (lowG a b)
def spRatio (N : Addr) : Sp := fun vs H Q E => ∃ a b : Int, vs = [.int a, .int b] ∧ Mid b ∧ (b = 0 → E (.ref N) none H) ∧ (b ≠ 0 → ∀ (r : Addr) (H' : Hp), Same H H' → H' r = some (.tup [.int (lowU a b), .int (lowD a b)]) → Q (.ref r) H')
def NoOv (q b : Int) : Prop := if q = 0 then b = 0 else b % q = 0
def OfAt (H : Hp) (q : Int) (v : V) (a b : Int) : Prop :=
  (q = 0 ∧ ∃ r : Addr, v = .ref r ∧ H r = some (.tup [.int (lowU a b), .int (lowD a b)])) ∨ (2 ≤ q ∧ ∃ r : Int, v = .int r ∧ 0 ≤ r ∧ r < q ∧ (r * (b % q)) % q = a % q)
theorem OfAt.mono {H H' : Hp} {q : Int} {v : V} {a b : Int} (h : OfAt H q v a b) (s : Same H H') : OfAt H' q v a b := by
  rcases h with ⟨h, r, e, h2⟩ | h
  · exact .inl ⟨h, r, e, s _ _ h2⟩
  · exact .inr h
def spOf (C N : Addr) : Sp := fun vs H Q E => ∃ (z : Addr) (q a b : Int), vs = [.ref z, .int a, .int b] ∧ WorldAt C H z q ∧ WheelN q ∧ Mid b ∧
  (NoOv q b → E (.ref N) none H) ∧ (¬ NoOv q b → ∀ (v : V) (H' : Hp), Same H H' → OfAt H' q v a b → Q v H')
end My

/-! truths held against one another by is; a list taken apart -/
namespace L2
open PySem PySem.Spec PyProof.Rows
section
variable {X : Cx}
end
end L2

/-! numbers by what they are worth: t over b, in either world -/
namespace My
open PySem L2
inductive IsN (H : Hp) : Int → V → Int → Int → Prop where
  | frac {p : Addr} {u d t b : Int} (e : H p = some (.tup [.int u, .int d])) (l : Low u d) (hb : b ≠ 0) (h : u * b = t * d) : IsN H 0 (.ref p) t b
  | rem {q r t b : Int} (q2 : 2 ≤ q) (h0 : 0 ≤ r) (h1 : r < q) (g : Int.gcd q b = 1) (h : q ∣ r * b - t) : IsN H q (.int r) t b
theorem IsN.mono {H H' : Hp} {q : Int} {v : V} {t b : Int} (h : IsN H q v t b) (s : Same H H') : IsN H' q v t b := by
  cases h with
  | frac e l hb h => exact .frac (s _ _ e) l hb h
  | rem q2 h0 h1 g h => exact .rem q2 h0 h1 g h
theorem NumAt.isN {B : Nat} {H : Hp} {q : Int} {v : V} {x m : Int} (h : NumAt B H q v x m) (hq : WheelN q) : IsN H q v x m := by
  cases h with
  | frac e l bx bm => exact .frac e l (by have := l.pos; omega) rfl
  | rem h0 h1 h2 =>
    have q2 : 2 ≤ q := (hq.resolve_left (by omega)).1
    exact .rem q2 h0 h1 (by rw [Int.gcd_one_right]) ⟨0, by omega⟩
theorem mul_cancel {a b c : Int} (h : c ≠ 0) (e : a * c = b * c) : a = b := Int.eq_of_mul_eq_mul_right h e
theorem dvd_cop {q a c : Int} (q2 : 2 ≤ q) (g : Int.gcd q c = 1) (d : q ∣ a * c) : q ∣ a := by
  have qq : ((q.natAbs : Nat) : Int) = q := by omega
  have z := cut_dvd (a := a) (b := q) (c := c) (d := q.natAbs) g (by rw [qq]; exact Int.dvd_refl q) (by rw [qq]; exact d)
  rw [qq] at z
  exact z
section
variable {C N z : Addr} {q : Int} {v u : V} {t b t' b' : Int} {H : Hp} {Q : VK} {E : XK}
/-- as much worth: the same number -/
theorem low_same {u d u' d' : Int} (l : Low u d) (l' : Low u' d') (e : u * d' = u' * d) : u = u' ∧ d = d' := by
  have h1 := l.pos
  have h2 := l'.pos
  have a := (low_le l (show 0 < d' by omega) e).1
  have c := (low_le l' (show 0 < d by omega) e.symm).1
  have dd : d = d' := by omega
  subst dd
  exact ⟨mul_cancel (show d ≠ 0 by omega) e, rfl⟩
theorem isN_alike (hv : IsN H q v t b) (hu : IsN H q u t' b') (e : t * b' = t' * b) :
    (∃ p p' x m, v = .ref p ∧ u = .ref p' ∧ H p = some (.tup [.int x, .int m]) ∧ H p' = some (.tup [.int x, .int m])) ∨ (∃ i : Int, v = .int i ∧ u = .int i) := by
  cases hv with
  | frac e1 l hb h =>
    cases hu with
    | frac e2 l' hb' h' =>
      rename_i p x m p' y n
      have z : x * n = y * m := by
        refine mul_cancel (c := b * b') (Int.mul_ne_zero hb hb') ?_
        grind
      obtain ⟨rfl, rfl⟩ := low_same l l' z
      exact .inl ⟨_, _, _, _, rfl, rfl, e1, e2⟩
    | rem q2 h0 h1 g h => omega
  | rem q2 h0 h1 g h =>
    cases hu with
    | frac e' l' hb' h' => omega
    | rem q2' h0' h1' g' h' =>
      rename_i i j
      have d : q ∣ (i - j) * (b * b') := by
        obtain ⟨k1, e1⟩ := h
        obtain ⟨k2, e2⟩ := h'
        exact ⟨k1 * b' - k2 * b, by grind⟩
      have d2 := dvd_cop q2 (cop_mul g g') d
      have ij : i = j := by
        obtain ⟨k, ek⟩ := d2
        by_cases z : k = 0
        · rw [z, Int.mul_zero] at ek; omega
        · exfalso
          rcases Int.lt_or_gt_of_ne z with z | z
          · have := Int.mul_le_mul_of_nonneg_left (show k ≤ -1 by omega) (show 0 ≤ q by omega)
            omega
          · have := Int.mul_le_mul_of_nonneg_left (show 1 ≤ k by omega) (show 0 ≤ q by omega)
            omega
      subst ij
      exact .inr ⟨_, rfl, rfl⟩
theorem eqL_self (x m : Int) : eqL [V.int x, V.int m] [V.int x, V.int m] = true := by
  show ((x == x) && ((m == m) && true)) = true
  simp
end
/-! bounds -/
def Bd (k : Nat) (x : Int) : Prop := x.natAbs ≤ 10 ^ k
theorem pow_both (i j : Nat) : 10 ^ i + 10 ^ j ≤ 10 ^ (i + j + 1) := by
  have h1 : 1 ≤ 10 ^ i := Nat.one_le_pow _ _ (by decide)
  have h2 : 1 ≤ 10 ^ j := Nat.one_le_pow _ _ (by decide)
  have h3 : 10 ^ i ≤ 10 ^ i * 10 ^ j := Nat.le_mul_of_pos_right _ h2
  have h4 : 10 ^ j ≤ 10 ^ i * 10 ^ j := Nat.le_mul_of_pos_left _ h1
  rw [Nat.pow_succ, Nat.pow_add]
  omega
theorem Bd.sub {i j : Nat} {x y : Int} (h1 : Bd i x) (h2 : Bd j y) : Bd (i + j + 1) (x - y) := by
  have := pow_both i j
  unfold Bd at *
  omega
theorem Bd.neg {i : Nat} {x : Int} (h1 : Bd i x) : Bd i (-x) := by
  unfold Bd at *
  rw [Int.natAbs_neg]
  exact h1
theorem Bd.big {i : Nat} {x : Int} (h : Bd i x) (hi : i ≤ 300) : Big x := Nat.le_trans h (Nat.pow_le_pow_right (by decide) hi)
/-- a number of a world, its parts of at most nine figures -/
structure N9 (H : Hp) (q : Int) (v : V) (x m : Int) : Prop where
  n : IsN H q v x m
  bx : Bd 9 x
  bm : Bd 9 m
theorem N9.mono {H H' : Hp} {q : Int} {v : V} {x m : Int} (h : N9 H q v x m) (s : Same H H') : N9 H' q v x m := ⟨h.n.mono s, h.bx, h.bm⟩
theorem NumAt.far {B : Nat} {H H' : Hp} {q : Int} {v : V} {x m : Int} {D : Addr} {ys : List V} (h : NumAt B H q v x m) (eD : H D = some (.lst ys)) (k : ∀ b o, b ≠ D → H b = some o → H' b = some o) : NumAt B H' q v x m := by
  cases h with
  | frac e l bx bm =>
    refine .frac (k _ _ (fun z => ?_) e) l bx bm
    rw [z, eD] at e
    cases e
  | rem h0 h1 h2 => exact .rem h0 h1 h2
theorem three {ys : List V} {P : Nat → V → Prop} (h : ys.length = 3) (k : ∀ i y, ys[i]? = some y → P i y) : ∃ a b c, ys = [a, b, c] ∧ P 0 a ∧ P 1 b ∧ P 2 c := by
  match ys, h with
  | [a, b, c], _ => exact ⟨a, b, c, rfl, k 0 a rfl, k 1 b rfl, k 2 c rfl⟩
end My

/-! comprehensions without tests over a known sequence -/
namespace L2
open PySem PySem.Spec PyProof.Rows
structure JSeq (J : It) (xs : List V) (H1 : Hp) : Prop where
  go : ∀ i Hc, Same H1 Hc → i < xs.length → J.go i Hc
  yld : ∀ i Hc x H', Same H1 Hc → J.yld i Hc x H' → H' = Hc ∧ (i < xs.length → xs[i]? = some x)
  stop : ∀ i Hc, Same H1 Hc → xs.length ≤ i → J.stop i Hc
theorem jseq_list {K : PySem.W.Frag} {a : Addr} {xs : List V} {H1 : Hp} (h : SqL K H1 a xs) : JSeq (Itl K a) xs H1 where
  go := fun i Hc s hi => ⟨xs, xs[i], s.seq h, by simp [hi]⟩
  yld := fun i Hc x H' s y => ⟨y.1, fun _ => y.2 xs (s.seq h)⟩
  stop := fun i Hc s hi => ⟨xs, s.seq h, hi⟩
theorem jseq_rng {lo : Int} {n : Nat} {H1 : Hp} : JSeq (Itr lo n) ((List.range n).map fun i : Nat => V.int (lo + (i : Int))) H1 where
  go := fun i Hc s hi => by
    have hi : i < n := by simpa using hi
    exact hi
  yld := fun i Hc x H' s y => ⟨y.1, fun hi => by
    have hi : i < n := by simpa using hi
    rw [y.2]
    simp [hi]⟩
  stop := fun i Hc s hi => by
    have hi : n ≤ i := by simpa using hi
    exact hi
theorem same_but {H H' : Hp} {D : Addr} {o : HO} (s : Same H H') (n : H D = none) : Same H (upd H' D o) := fun b u e => by
  rw [upd_ne (ne_of_none e n)]
  exact s b u e
theorem comp_seq {J : It} {xs : List V} {H1 : Hp} {ρσ : St} {te : TE} {D : Addr} {Q : VK} (js : JSeq J xs H1) (nD : H1 D = none) (hn : xs.length < sizeLine)
    (P : Nat → V → Hp → Prop) (mono : ∀ i y H H' ys, P i y H → H D = some (.lst ys) → (∀ b o, b ≠ D → H b = some o → H' b = some o) → P i y H')
    (step : ∀ i x, xs[i]? = some x → ∀ (Hc : Hp) (R : VK), Same H1 Hc → (∃ ys, Hc D = some (.lst ys)) → (∀ y H3, Same Hc H3 → P i y H3 → R y H3) → te (some x :: ρσ) Hc R)
    (fin : ∀ ys Hc, Same H1 Hc → ys.length = xs.length → (∀ i y, ys[i]? = some y → P i y Hc) → Hc D = some (.lst ys) → Q (.ref D) Hc) :
    ∃ W : Nat → Nat → List V → Hp → Prop, (∃ m, W 0 m [] (upd H1 D (.lst []))) ∧
      ∀ i m ys Hc, W i m ys Hc → Hc D = some (.lst ys) ∧ ((J.stop i Hc ∧ Q (.ref D) Hc) ∨ (J.go i Hc ∧ ∀ x H', J.yld i Hc x H' →
        if true = true then te (some x :: ρσ) H' fun y H3 => H3 D = some (.lst ys) ∧ ys.length < sizeLine ∧ ∃ m', m' < m ∧ W (i + 1) m' (ys ++ [y]) (upd H3 D (.lst (ys ++ [y]))) else ∃ m', m' < m ∧ W (i + 1) m' ys H')) := by
  refine ⟨fun i m ys Hc => m = xs.length - i ∧ i ≤ xs.length ∧ Hc D = some (.lst ys) ∧ Same H1 Hc ∧ ys.length = i ∧ ∀ j y, ys[j]? = some y → P j y Hc, ⟨_, rfl, Nat.zero_le _, upd_same, same_but (Same.refl H1) nD, rfl, fun j y e => by simp at e⟩, ?_⟩
  rintro i m ys Hc ⟨rfl, hi, eD, sH, el, hP⟩
  refine ⟨eD, ?_⟩
  by_cases hlt : i < xs.length
  · refine .inr ⟨js.go i Hc sH hlt, fun x H' hy => ?_⟩
    obtain ⟨rfl, hx⟩ := js.yld i Hc x H' sH hy
    rw [if_pos rfl]
    refine step i x (hx hlt) _ _ sH ⟨ys, eD⟩ fun y H3 s3 hp => ?_
    have e3 := s3 _ _ eD
    refine ⟨e3, by omega, xs.length - (i + 1), by omega, rfl, hlt, upd_same, same_but (sH.trans s3) nD, by simp [el], fun j y' e => ?_⟩
    have far : ∀ b o, b ≠ D → H3 b = some o → upd H3 D (.lst (ys ++ [y])) b = some o := fun b o nb e => by rw [upd_ne nb]; exact e
    by_cases hj : j < i
    · have e' : ys[j]? = some y' := by rw [List.getElem?_append_left (by omega)] at e; exact e
      refine mono j y' H' _ ys (hP j y' e') eD fun b o nb e => ?_
      exact far b o nb (s3 _ _ e)
    · have hj : j = i := by
        have := (List.getElem?_eq_some_iff.mp e).1
        simp at this
        omega
      subst hj
      have e' : y' = y := by rw [List.getElem?_append_right (by omega), el, Nat.sub_self] at e; simpa using e.symm
      subst e'
      exact mono _ _ H3 _ ys hp e3 far
  · have e : i = xs.length := by omega
    subst e
    exact .inl ⟨js.stop _ Hc sH (Nat.le_refl _), fin ys Hc sH el hP eD⟩
theorem comp_of {wi : TI} {ρ : St → St} {te : TE} {σ : St} {H : Hp} {Q : VK} {xs : List V} (hwi : ∀ R : It → Hp → Prop, (∀ J H1, Same H H1 → JSeq J xs H1 → R J H1) → wi σ H R) (hn : xs.length < sizeLine)
    (P : Addr → Nat → V → Hp → Prop) (mono : ∀ D i y H H' ys, P D i y H → H D = some (.lst ys) → (∀ b o, b ≠ D → H b = some o → H' b = some o) → P D i y H')
    (step : ∀ D i x, xs[i]? = some x → ∀ (Hc : Hp) (R : VK), Same H Hc → (∃ ys, Hc D = some (.lst ys)) → (∀ y H3, Same Hc H3 → P D i y H3 → R y H3) → te (some x :: ρ σ) Hc R)
    (fin : ∀ D ys Hc, Same H Hc → ys.length = xs.length → (∀ i y, ys[i]? = some y → P D i y Hc) → Hc D = some (.lst ys) → Q (.ref D) Hc) : tComp wi ρ (fun _ H Q => Q true H) te σ H Q := by
  refine hwi _ fun J H1 s1 js => ?_
  intro D nD
  exact comp_seq (ρσ := ρ σ) (te := te) (Q := Q) js nD hn (P D) (mono D) (fun i x hx Hc R sc => step D i x hx Hc R (s1.trans sc)) (fun ys Hc sc => fin D ys Hc (s1.trans sc))
theorem asg_of {te : TE} {g : TG} {D : Ends} {σ : St} {H : Hp} (h : te σ H fun x H1 => g x σ H1 D.nx) : tAsg te g D σ H := h
theorem seq_of {a b : TS} {D : Ends} {σ : St} {H : Hp} (h : a { D with nx := fun σ H => b D σ H } σ H) : tSeq a b D σ H := h
end L2

/-! name = [a comprehension]: the list is stored ahead of the block's end -/
namespace L2
open PySem PySem.Spec PyProof.Rows
section
variable {X : Cx} {N : List Str} {scope : Scope} {cl : List (Str × Addr)} {x : Str} {px pos : Pos} {iter elt : Expr} {ifs : List Expr} {wi : TI} {ρ : St → St} {tt : TT} {te : TE}
theorem ps_comp {y : Str} {py spos : Pos} {i0 : Nat} (B : Blk X N scope cl x ρ) (hc : X.calm = true) (hN : X.N.Nodup) (hi0 : X.N[i0]? = some y) (hy : Loc X.env.scope y) (hi : PI X (.Name x px) iter wi) (ht : ∀ s₃ H₃ fp, PTs (X.blk N scope cl s₃ H₃ fp) ifs tt) (he : ∀ s₃ H₃ fp, PE (X.blk N scope cl s₃ H₃ fp) elt te)
    (hsw : swapsWith (.ListComp elt [⟨.Name x px, iter, ifs, 0⟩] scope pos) (some (.Name y py)) spos.line X.env = pure true := by rfl) (hf : X.fn y = true ∨ X.env.scope.names.lookup y = some .local := by first | exact .inl rfl | exact .inr rfl | assumption)
    (hs : ∀ x, foldedSetIterable iter X.env x = pure x := by intro _; rfl) : PS X (.Assign [.Name y py] (.ListComp elt [⟨.Name x px, iter, ifs, 0⟩] scope pos) spos) (tAsg (tComp wi ρ tt te) (gName i0)) := by
  intro pins s σ H D0 I h
  have h : tComp wi ρ tt te σ H (fun v H1 => D0.nx (σ.set i0 (some v)) H1) := h
  rw [exec_Assign_Name_used _ _ _ _ hsw]
  refine wpAny_bind (wpAny_standAt (wpAny_bind ?_))
  show wpAny _ X.A (do let _ ← comprehension (.ListComp elt [⟨.Name x px, iter, ifs, 0⟩] scope pos) scope X.env _ (newList []) false (eval iter X.env) (some (assign (.Name y py) X.env))) _ _ s
  refine wpAny_bind (wpAny_mono (Q := fun _ s' => SP X pins D0 .next s') ?_ (fun _ s' hq => wpAny_pure (wpAny_pure hq)) fun _ _ e => e)
  refine wpAny_comprehension_free (use := some (assign (.Name y py) X.env)) rfl hs B.clos B.kind B.names (thn (hi pins s σ H _ I h) fun v s1 h1 => thn h1 fun itv s2 h2 => ?_)
  obtain ⟨it, fp, tn, J, H2, rfl, I2, T, st2, f2, q2⟩ := h2
  -- the list that is told
  have nD : H2 s2.heap.objs.size = none := I2.hok.fresh (Nat.le_refl _)
  obtain ⟨W, ⟨m0, w0⟩, turn⟩ := q2 _ nD
  refine wpAny_newObj_type (wpAny_newFunctionEnv B.nocell (by intro y hy; simp at hy) (fun h₁ hns₁ hsb₁ => ?_) B.kind)
  dsimp only at hns₁ hsb₁ ⊢
  generalize hD : s2.heap.objs.size = D at nD w0 turn hns₁ hsb₁ ⊢
  generalize hS3 : ({ s2 with heap := s2.heap.push { cls := .type "list", dict := none, data := .seq ([] : List Value).toArray } } : Shared) = s3
  have I3 : Inv X pins σ (upd H2 D (.lst [])) s3 := by
    subst hD hS3
    exact I2.laid (t' := s2.toks) (fun b u e => Heap.get?_push_of_some _ e) (Nat.le_refl _) ⟨Nat.zero_le _, [], _, .nil, Heap.get?_push_size _ rfl⟩
  have e3 : s3.heap = s2.heap.push { cls := .type "list", dict := none, data := .seq ([] : List Value).toArray } := by rw [← hS3]
  have k23 : ∀ b o, s2.heap.get? b = some o → s3.heap.get? b = some o := fun b o e => by rw [e3]; exact Heap.get?_push_of_some _ e
  rw [← e3] at hns₁ hsb₁ ⊢
  have below : ∀ b o, s3.heap.get? b = some o → b ≠ s3.heap.objs.size := fun b o e => Nat.ne_of_lt (Heap.lt_size e)
  have k34 : ∀ b o, s3.heap.get? b = some o → h₁.get? b = some o := fun b o e => hsb₁.extBut b o (below b o e) (Heap.get?_push_of_some _ e)
  have fpl : ∀ b ∈ fp, ∃ o, s2.heap.get? b = some o ∧ ∀ v, o.data ≠ .cell v := T.obj _ _ st2
  have nfD : ∀ b ∈ fp, b ≠ D := fun b hb z => by
    obtain ⟨o, e, _⟩ := fpl b hb
    rw [z, ← hD] at e
    exact absurd (Heap.lt_size e) (Nat.lt_irrefl _)
  have cl_of : ∀ y c, cl.lookup y = some c → X.env.cells.lookup y = some c := fun y c e => B.sub (y, c) (PySem.mem_of_lookup e)
  have stkf := I3.stkFree
  -- the block at its start
  have okB : (X.blk N scope cl s3 (upd H2 D (.lst [])) fp).Ok := by
    refine ⟨I.ok.mod, B.kind, I.ok.glob, I.ok.blt, Nat.le_refl _, fun a b c e1 e2 => I.ok.inj a b c (cl_of a c e1) (cl_of b c e2), fun y hy => B.has y hy, (fun _ _ z _ => absurd z Bool.false_ne_true), (fun _ => I.ok.hd hc), I.ok.frames, .inl rfl, fun b hb => ⟨?_, fun y c e z => ?_⟩, fun b o e => ?_, Nat.le_trans I.ok.bsz I3.sz, fun b o e hb => ?_, fun b hb z => ?_, I3.stack, stkf⟩
    · obtain ⟨o, e, _⟩ := fpl b hb
      exact below b o (k23 b o e)
    · exact (f2 b hb).2.2.2.2.1 y c (cl_of y c e) z
    · exact I3.bs b o e
    · rcases (f2 b hb).2.2.2.1 with z | z
      · exact I.ok.noex b o e z
      · exact absurd (Nat.lt_of_lt_of_le (Heap.lt_size e) (Nat.le_trans I.ok.bsz z)) (Nat.lt_irrefl _)
    · rcases List.mem_cons.mp (I3.stkSub b z) with z | z
      · exact (f2 b hb).2.1 z
      · exact (f2 b hb).2.2.1 z
  have IB : ∀ tk : Nat, Inv (X.blk N scope cl s3 (upd H2 D (.lst [])) fp) [] (none :: ρ σ) (upd H2 D (.lst [])) { s3 with heap := h₁, toks := tk } := fun tk => by
    refine ⟨okB, rfl, I3.bare, Un.kept k34, ⟨_, hns₁, fun j y v e1 e2 e3 => ?_⟩, fun y c e => ?_, ?_, fun y c e => I3.freeC y c (cl_of y c e), (fun p hp => nomatch hp), I3.hok.kept k34, ?_⟩
    · cases j with
      | zero => cases e2
      | succ j =>
        obtain ⟨i, y', a1, a2, a3, a4, a5, a6⟩ := B.rho σ j v e2
        have e1' : N[j + 1]? = some y := e1
        rw [e1'] at a1
        cases a1
        obtain ⟨m, hn, hl⟩ := I3.loc
        obtain ⟨u, r, l⟩ := hl i y v a2 a3 a4
        refine ⟨u, r, .inr ⟨a6, ?_⟩⟩
        obtain ⟨c, ec⟩ := B.has y a6
        rcases l with ⟨k, _⟩ | ⟨_, c', ec', z⟩
        · rcases a5 with q | q <;> (rw [k] at q; cases q)
        · have := cl_of y c ec
          rw [this] at ec'
          cases ec'
          obtain ⟨o, ho, hd⟩ := z
          exact ⟨c, ec, o, k34 _ _ ho, hd⟩
    · obtain ⟨v, o, ho, hd⟩ := I3.cell y c (cl_of y c e)
      exact ⟨v, o, k34 _ _ ho, hd⟩
    · exact I3.hok.fresh (Nat.le_refl _)
    · show (none :: ρ σ).length = N.length
      rw [List.length_cons]
      exact B.len σ I.len
  -- behind the block
  have below3 : ∀ b o, s3.heap.get? b = some o → b ≠ s3.heap.objs.size := below
  have fin : ∀ {σ' : St} {H' : Hp} {s' : Shared}, Inv (X.blk N scope cl s3 (upd H2 D (.lst [])) fp) [] σ' H' s' → D0.nx (σ.set i0 (some (.ref D))) H' → compPost (model X.prog X.w) X.A X.xe (some (assign (.Name y py) X.env)) (fun _ s' => SP X pins D0 .next s') (.ref D) s3.heap.objs.size (.ok .next) s' := fun {σ' H' s'} J q => by
    obtain ⟨m, hn, _⟩ := J.loc
    have hn : s'.heap.Ns s3.heap.objs.size m := hn
    have JC : H' s3.heap.objs.size = none := J.free
    have u1 : Un (frs X.stack) fp (upd H2 D (.lst [])) H' s3.heap s'.heap := by
      refine ⟨fun b o e n hb hx => J.base.keep b o e n hb hx, fun b o e n hb hx => J.base.slot b o e n hb hx, J.base.free, fun b o e hx => J.base.there b o e hx, J.base.tups, J.base.frzs, J.base.tbls⟩
    have IX : Inv X pins σ H' s' := I3.call' (ch := fp) (J.os) u1 J.hok J.bare fun b hb => by
      obtain ⟨g0, g1, g2, g3, g4, g5⟩ := f2 b hb
      exact ⟨g3, g1, g4, g5⟩
    have nl : X.env.locals ≠ s3.heap.objs.size := by
      obtain ⟨m3, ⟨o3, _, _, e3, _⟩, _⟩ := I3.loc
      exact below3 _ _ e3
    have nc : ∀ z c, X.env.cells.lookup z = some c → c ≠ s3.heap.objs.size := fun z c e => by
      obtain ⟨v3, o3, e3, _⟩ := I3.cell z c e
      exact below3 _ _ e3
    refine wpAny_assign_Name (store_ok2 (v := .ref D) IX hN hi0 hy rfl (fun s'' I'' hsb => ?_) hf)
    obtain ⟨a, hsb, ha⟩ := hsb
    have na : s3.heap.objs.size ≠ a := by
      rcases ha with rfl | e
      · exact fun z => nl z.symm
      · exact fun z => nc _ _ e z.symm
    refine ⟨m, hn.sameBut hsb na, fun h' hs' => ⟨σ.set i0 (some (.ref D)), H', ?_, q⟩⟩
    have u2 : Un (frs X.stack) [s3.heap.objs.size] H' H' s''.heap h' := by
      refine ⟨fun b o e n hb hx => (hs'.2 b (by simpa using hx)).trans e, fun b o e n hb hx => ⟨o.slots, (hs'.2 b (by simpa using hx)).trans e⟩, fun b o e n hx => n, fun b o e hx => ⟨o, (hs'.2 b (by simpa using hx)).trans e⟩, fun b xs z => z, fun b o u z => z, fun b ps z => ⟨#[], by simpa using z⟩⟩
    have hokE : HOk X.prog X.w H' h' := fun b u e => by
      refine (I''.hok b u e).stay (fun c v hc z => (hs'.2 c fun y => ?_).trans z) (fun _ z => z) fun _ _ z => z
      have y' : c = s3.heap.objs.size := y
      rcases hc with hc | hc
      · rw [← hc, y', JC] at e
        cases e
      · rw [y', JC] at hc
        cases hc
    refine I''.call' (s' := { s'' with heap := h' }) (ch := [s3.heap.objs.size]) rfl u2 hokE I''.bare fun b hb => ?_
    have eb : b = s3.heap.objs.size := by simpa using hb
    subst eb
    refine ⟨.inr I3.sz, fun z => nl z.symm, fun z c e => nc z c e, fun p hp => ?_⟩
    exact below3 _ _ (I3.pin p hp).1
  have stat : ∀ {H' : Hp}, (∀ b ∈ fp, H' b = none) → ∀ b ∈ fp, FpOk (X.blk N scope cl s3 (upd H2 D (.lst [])) fp) [] H' b := fun hn b hb => by
    refine ⟨hn b hb, ?_, ?_, .inl hb, fun y c e z => (f2 b hb).2.2.2.2.1 y c (cl_of y c e) z, fun p hp => nomatch hp⟩
    · obtain ⟨o, e, _⟩ := fpl b hb
      exact below b o (k23 b o e)
    · exact okB.exfs b hb
  have loop : ∀ tk : Nat, codeAny (model X.prog X.w) X.A (.compLoop (.ListComp elt [⟨.Name x px, iter, ifs, 0⟩] scope pos) 0 (.ref it) (.ref D) (compEnvC scope cl s3.heap.objs.size X.env))
      (compPost (model X.prog X.w) X.A X.xe (some (assign (.Name y py) X.env)) (fun _ s' => SP X pins D0 .next s') (.ref D) s3.heap.objs.size) { s3 with heap := h₁, toks := tk } := fun tk => by
    refine codeAny_compLoop_tests (fun n s' => ∃ i ys o H', Inv (X.blk N scope cl s3 (upd H2 D (.lst [])) fp) [] (o :: ρ σ) H' s' ∧ tn i s'.heap ∧ (∀ b ∈ fp, H' b = none) ∧ W i n ys H') ?_ m0
      ⟨0, [], none, _, IB tk, T.keep _ _ _ st2 fun b hb o e => k34 _ _ (k23 _ _ e), fun b hb => by rw [upd_ne (nfD b hb)]; exact (f2 b hb).1, w0⟩
    rintro n s4 ⟨i, ys, o, H4, I4, st4, fr4, w4⟩
    obtain ⟨hD4, hturn⟩ := turn i n ys H4 w4
    rcases hturn with ⟨stop, qn⟩ | ⟨go, step⟩
    · refine wpAny_mono (T.done (X.blk N scope cl s3 (upd H2 D (.lst [])) fp) rfl rfl rfl hc i [] s4 _ H4 (fun _ _ => False) I4 (stat fr4) st4 stop) (fun r s5 ⟨hr, I5⟩ => ?_) fun _ _ z => z.elim
      subst hr
      exact fin I5 qn
    · refine wpAny_mono (T.item (X.blk N scope cl s3 (upd H2 D (.lst [])) fp) rfl rfl rfl hc i [] s4 _ H4 (fun _ _ => False) I4 (stat fr4) st4 go) (fun r s5 ⟨u, hr, h5⟩ => ?_) fun _ _ z => z.elim
      subst hr
      have z : letOwnedTupleGo (.Name x px) (.ref it) u = pure () := rfl
      rw [z] at h5
      show wpAny _ _ ((pure () : Sem Unit) >>= fun _ => assign (.Name x px) (compEnvC scope cl s3.heap.objs.size X.env) u) _ _ s5
      refine wpAny_bind (wpAny_mono h5 (fun _ s5 ⟨y, H5, I5, r5, y5, st5, fr5⟩ => ?_) fun _ _ z => z.elim)
      have I5' := I5.pinned (stat fr5) (T.obj _ _ st5)
      have pg : PG (X.blk N scope cl s3 (upd H2 D (.lst [])) fp) (.Name x px) (gName 0) := pg_name (i := 0) B.nd B.n0 (.inl (lookup_relabel_local B.hx)) (.inr (lookup_relabel_local B.hx))
      have again : ∀ {σ7 : St} {H7 : Hp} {s7 : Shared}, Inv (X.blk N scope cl s3 (upd H2 D (.lst [])) fp) ([] ++ pinsAt fp s5.heap) σ7 H7 s7 → Inv (X.blk N scope cl s3 (upd H2 D (.lst [])) fp) [] σ7 H7 s7 ∧ tn (i + 1) s7.heap ∧ ∀ b ∈ fp, H7 b = none := fun {σ7 H7 s7} I7 => by
        refine ⟨I7.unpinned, T.keep _ _ _ st5 fun b hb o e => (I7.pin (b, o) (List.mem_append_right _ (List.mem_append_right _ (mem_pinsAt hb e)))).1, fun b hb => ?_⟩
        obtain ⟨o, e, d⟩ := T.obj _ _ st5 b hb
        exact (I7.pin (b, o) (List.mem_append_right _ (List.mem_append_right _ (mem_pinsAt hb e)))).2.1
      refine wpAny_mono (pg _ s5 _ H5 y u (fun σ2 H6 => σ2 = some y :: ρ σ ∧ H6 = H5) I5' r5 ⟨rfl, rfl⟩) (fun _ s6 ⟨σ6, H6, I6, q6⟩ => ?_) fun _ _ z => z.elim
      obtain ⟨rfl, rfl⟩ := q6
      have hstep := step y _ y5
      have tests : ∀ {tt' : TT}, PTs (X.blk N scope cl s3 (upd H2 D (.lst [])) fp) ifs tt' → ∀ {R : Bool → Hp → Prop}, tt' (some y :: ρ σ) H6 R → wpAny (model X.prog X.w) X.A
          (forIn ifs true fun c r => if r = true then do let ok ← isTrue c (compEnvC scope cl s3.heap.objs.size X.env) (eval c (compEnvC scope cl s3.heap.objs.size X.env)); pure (ForInStep.yield ok) else pure (ForInStep.yield r))
          (fun ok s7 => ∃ H7, Inv (X.blk N scope cl s3 (upd H2 D (.lst [])) fp) ([] ++ pinsAt fp s5.heap) (some y :: ρ σ) H7 s7 ∧ R ok H7) (fun _ _ => False) s6 := fun {tt'} p {R} hR => by
        cases p with
        | nil => exact wpAny_tests_nil ⟨_, I6, hR⟩
        | one p => exact wpAny_tests_one (p _ s6 _ _ _ I6 hR)
      refine wpAny_mono (tests (ht s3 _ fp) hstep) (fun ok s7 ⟨H7, I7, q7⟩ => ?_) fun _ _ z => z.elim
      cases ok with
      | false =>
        obtain ⟨m', hm', w7⟩ := q7
        obtain ⟨a1, a2, a3⟩ := again I7
        exact ⟨m', hm', i + 1, ys, _, H7, a1, a2, a3, w7⟩
      | true =>
        refine wpAny_mono (he s3 _ fp _ s7 _ H7 _ I7 q7) (fun ev s8 ⟨z, H8, I8, r8, hD8, hz, m', hm', w8⟩ => ?_) fun _ _ z => z.elim
        refine wpAny_mono (mt_append (X := X.blk N scope cl s3 (upd H2 D (.lst [])) fp) _ s8 _ H8 (.ref D) [z] (.ref D) [ev] (fun _ H9 => H9 = upd H8 D (.lst (ys ++ [z]))) I8 rfl (.cons r8 .nil) ⟨D, ys, z, rfl, rfl, hD8, hz, rfl⟩) (fun _ s9 ⟨_, H9, I9, _, q9⟩ => ?_) fun _ _ z => z.elim
        subst q9
        obtain ⟨a1, a2, a3⟩ := again I9
        exact ⟨m', hm', i + 1, ys ++ [z], _, _, a1, a2, a3, w8⟩
  have start := loop (s3.toks + ([] : List (Str × Value)).length)
  have es : ({ s3 with heap := h₁, toks := s3.toks + ([] : List (Str × Value)).length } : Shared) = { s2 with heap := h₁, toks := s2.toks + ([] : List (Str × Value)).length } := by rw [← hS3]
  rw [es] at start
  exact codeAny_compStart_list start (T.self _ 0 _ _ _ (T.keep _ _ _ st2 fun b hb o e => k34 _ _ (k23 _ _ e)) start)
end
end L2

/-! for a, b in zip(one, other): two lists walked side by side -/
namespace L2
open PySem PySem.Spec PyProof.Rows
section
variable {X : Cx}
end
end L2

/-! a list comprehension with one for over two names -/
namespace L2
open PySem PySem.Spec PyProof.Rows
section
variable {prog : Program} {w : World} {A : Around} {R : Result → Shared → Prop} {s : Shared}
end
section
variable {X : Cx} {N : List Str} {scope : Scope} {cl : List (Str × Addr)} {x y : Str} {px py pos tp : Pos} {tk0 : Nat} {iter elt : Expr} {ifs : List Expr} {wi : TI} {ρ : St → St} {tt : TT} {te : TE}
structure Blk2 (X : Cx) (N : List Str) (scope : Scope) (cl : List (Str × Addr)) (x y : Str) (ρ : St → St) : Prop where
  clos : closureFor scope X.env = pure cl
  kind : scope.kind = .function
  nocell : ∀ y ∈ scope.names, y.2 ≠ .cell
  names : ∀ y ∈ scope.names, y.2 = .local → scope.names.lookup y.1 = some .local
  sub : ∀ p ∈ cl, X.env.cells.lookup p.1 = some p.2
  has : ∀ y, ((relabel scope X.env).names.lookup y = some .cell ∨ (relabel scope X.env).names.lookup y = some .free) → ∃ c, cl.lookup y = some c
  n0 : N[0]? = some x
  n1 : N[1]? = some y
  nd : N.Nodup
  hx : scope.names.lookup x = some .local
  hy : scope.names.lookup y = some .local
  rho : ∀ (σ : St) (j : Nat) (v : V), (ρ σ)[j]? = some (some v) → ∃ (i : Nat) (y : Str), N[j + 1 + 1]? = some y ∧ X.N[i]? = some y ∧ σ[i]? = some (some v) ∧ Vis X.env.scope y ∧ (X.env.kindOf y = some .cell ∨ X.env.kindOf y = some .free) ∧ ((relabel scope X.env).names.lookup y = some .cell ∨ (relabel scope X.env).names.lookup y = some .free)
  len : ∀ σ : St, σ.length = X.N.length → (ρ σ).length + 1 + 1 = N.length
end
end L2

/-! any, sum -/
namespace L2
open PySem PySem.Spec PyProof.Rows
section
variable {X : Cx}
end
end L2

/-! a list comprehension whose name is taken by one within it -/
namespace L2
open PySem PySem.Spec PyProof.Rows
section
variable {M : Model} {A : Around} {E : Value → Shared → Prop} {s : Shared}
end
section
variable {X : Cx} {N : List Str} {scope : Scope} {cl : List (Str × Addr)} {x : Str} {px pos : Pos} {iter elt : Expr} {ifs : List Expr} {wi : TI} {ρ : St → St} {tt : TT} {te : TE}
structure BlkC (X : Cx) (N : List Str) (scope : Scope) (cl : List (Str × Addr)) (x : Str) (ρ : St → St) : Prop where
  clos : closureFor scope X.env = pure cl
  kind : scope.kind = .function
  cells1 : ∀ n, cellsFrom n scope.names cl = (x, n) :: cl
  push1 : ∀ h : Heap, pushCells h scope.names = h.push { cls := .type "cell", data := .cell none }
  names : ∀ y ∈ scope.names, y.2 = .local → scope.names.lookup y.1 = some .local
  sub : ∀ p ∈ cl, X.env.cells.lookup p.1 = some p.2
  has : ∀ y, y ≠ x → ((relabel scope X.env).names.lookup y = some .cell ∨ (relabel scope X.env).names.lookup y = some .free) → ∃ c, cl.lookup y = some c
  n0 : N[0]? = some x
  nd : N.Nodup
  relx : (relabel scope X.env).names.lookup x = some .cell
  rho : ∀ (σ : St) (j : Nat) (v : V), (ρ σ)[j]? = some (some v) → ∃ (i : Nat) (y : Str), N[j + 1]? = some y ∧ X.N[i]? = some y ∧ σ[i]? = some (some v) ∧ Vis X.env.scope y ∧ (X.env.kindOf y = some .cell ∨ X.env.kindOf y = some .free) ∧ ((relabel scope X.env).names.lookup y = some .cell ∨ (relabel scope X.env).names.lookup y = some .free)
  len : ∀ σ : St, σ.length = X.N.length → (ρ σ).length + 1 = N.length
end
end L2

/-! == and != of lists and tuples within one another, where all is alike -/
namespace L2
open PySem PySem.Spec PyProof.Rows
/-- alike to a depth: flat values that are the same, or lists (tuples) of as many things that are alike -/
def LikeN (K : PySem.W.Frag) (H : Hp) : Nat → V → V → Prop
  | 0, v, u => v = u ∧ flatV v = true
  | n + 1, v, u => (v = u ∧ flatV v = true) ∨ ∃ a b xs ys, v = .ref a ∧ u = .ref b ∧ ((SqL K H a xs ∧ SqL K H b ys) ∨ (SqT K H a xs ∧ SqT K H b ys)) ∧ xs.length = ys.length ∧ ∀ (j : Nat) (x y : V), xs[j]? = some x → ys[j]? = some y → LikeN K H n x y
theorem eqV_self {v : V} (h : flatV v = true) : eqV v v = true := by
  cases v with
  | non => rfl
  | bl b => show (b == b) = true; simp
  | int i => show (i == i) = true; simp
  | str x => show (x == x) = true; simp
  | _ => cases h
theorem all_range (n : Nat) : (List.range n).all (fun _ => true) = true := by simp
section
variable {X : Cx} {pins : List (Addr × Obj)} {σ : St} {H : Hp} {s : Shared}
theorem like_items (I : Inv X pins σ H s) : ∀ (n : Nat) (A : Around) (v u : V) (a b : Value), LikeN X.K H n v u → RelV v a → RelV u b → A.units + n < cLine → SeqAt.EqAt A s a b true
  | 0, A, v, u, a, b, h, ra, rb, hu => by
    obtain ⟨rfl, hf⟩ := h
    have z := eqAt_V (A := A) (s := s) ra rb hf hf
    rw [eqV_self hf] at z
    exact z
  | n + 1, A, v, u, a, b, h, ra, rb, hu => by
    rcases h with ⟨rfl, hf⟩ | ⟨p, q, xs, ys, rfl, rfl, hs, hl, hi⟩
    · have z := eqAt_V (A := A) (s := s) ra rb hf hf
      rw [eqV_self hf] at z
      exact z
    · cases ra
      cases rb
      by_cases pq : p = q
      · subst pq
        exact SeqAt.EqAt.same _
      rcases hs with ⟨h1, h2⟩ | ⟨h1, h2⟩
      · obtain ⟨us, r1, t1, _⟩ := I.list h1
        obtain ⟨vs, r2, t2, _⟩ := I.list h2
        have l1 := r1.length
        have l2 := r2.length
        have z := SeqAt.RcAt.lists (A := A) (e := fun _ => true) t1.isList t2.isList (by simp; omega) (by omega) (fun j z1 z2 => by
          have z1' : j < us.length := by simpa using z1
          have z2' : j < vs.length := by simpa using z2
          obtain ⟨x, ex⟩ : ∃ x, xs[j]? = some x := ⟨xs[j], by simp [show j < xs.length by omega]⟩
          obtain ⟨y, ey⟩ : ∃ y, ys[j]? = some y := ⟨ys[j], by simp [show j < ys.length by omega]⟩
          obtain ⟨x', ex', rx⟩ := r1.get ex
          obtain ⟨y', ey', ry⟩ := r2.get ey
          have e1 : us.toArray[j] = x' := by simpa using (List.getElem?_eq_some_iff.mp ex').2
          have e2 : vs.toArray[j] = y' := by simpa using (List.getElem?_eq_some_iff.mp ey').2
          rw [e1, e2]
          exact like_items I n A.in1 x y x' y' (hi j x y ex ey) rx ry (by rw [Around.in1_units]; omega))
        rw [all_range] at z
        exact SeqAt.EqAt.of_refs pq z
      · obtain ⟨us, r1, t1, _⟩ := I.tuple h1
        obtain ⟨vs, r2, t2, _⟩ := I.tuple h2
        have l1 := r1.length
        have l2 := r2.length
        have z := SeqAt.RcAt.tuples (A := A) (e := fun _ => true) t1 t2 (by omega) (fun j z1 z2 => by
          have z1' : j < us.length := by simpa using z1
          have z2' : j < vs.length := by simpa using z2
          obtain ⟨x, ex⟩ : ∃ x, xs[j]? = some x := ⟨xs[j], by simp [show j < xs.length by omega]⟩
          obtain ⟨y, ey⟩ : ∃ y, ys[j]? = some y := ⟨ys[j], by simp [show j < ys.length by omega]⟩
          obtain ⟨x', ex', rx⟩ := r1.get ex
          obtain ⟨y', ey', ry⟩ := r2.get ey
          have e1 : us.toArray[j] = x' := by simpa using (List.getElem?_eq_some_iff.mp ex').2
          have e2 : vs.toArray[j] = y' := by simpa using (List.getElem?_eq_some_iff.mp ey').2
          rw [e1, e2]
          exact like_items I n A.in1 x y x' y' (hi j x y ex ey) rx ry (by rw [Around.in1_units]; omega))
        have e3 : (us.toArray.size == vs.toArray.size) = true := by simp; omega
        rw [all_range, e3] at z
        exact SeqAt.EqAt.of_refs pq z
end
section
variable {X : Cx}
/-- == of two lists that are alike to a depth -/
def rLike (K : PySem.W.Frag) (n : Nat) (r : Bool) : R2 := fun x y H Q => ∃ a b xs ys, x = .ref a ∧ y = .ref b ∧ SqL K H a xs ∧ SqL K H b ys ∧ xs.length = ys.length ∧ (∀ (j : Nat) (x y : V), xs[j]? = some x → ys[j]? = some y → LikeN K H n x y) ∧ Q (.bl r) H
theorem op_neL {n : Nat} (hu : X.A.units + 64 < cLine) (hn : n < 60 := by decide) : OpR X (compareOp .NotEq) (rLike X.K n false) := by
  intro pins s σ H x y v u Q I rx ry h
  obtain ⟨a, b, xs, ys, rfl, rfl, h1, h2, hl, hi, q⟩ := h
  cases rx
  cases ry
  obtain ⟨us, r1, t1, _⟩ := I.list h1
  obtain ⟨vs, r2, t2, _⟩ := I.list h2
  have l1 := r1.length
  have l2 := r2.length
  refine SeqAt.RcNeAt.lists (e := fun _ => true) t1.isList t2.isList (by simp; omega) (by omega) (fun j z1 z2 => ?_) _ _ _ _ ?_
  · have z1' : j < us.length := by simpa using z1
    have z2' : j < vs.length := by simpa using z2
    obtain ⟨x, ex⟩ : ∃ x, xs[j]? = some x := ⟨xs[j], by simp [show j < xs.length by omega]⟩
    obtain ⟨y, ey⟩ : ∃ y, ys[j]? = some y := ⟨ys[j], by simp [show j < ys.length by omega]⟩
    obtain ⟨x', ex', rx⟩ := r1.get ex
    obtain ⟨y', ey', ry⟩ := r2.get ey
    have e1 : us.toArray[j] = x' := by simpa using (List.getElem?_eq_some_iff.mp ex').2
    have e2 : vs.toArray[j] = y' := by simpa using (List.getElem?_eq_some_iff.mp ey').2
    rw [e1, e2]
    exact like_items I n X.A.in1 x y x' y' (hi j x y ex ey) rx ry (by rw [Around.in1_units]; omega)
  · rw [all_range]
    exact ⟨.bl false, H, I, rfl, q⟩
end
end L2

/-! name = [a comprehension whose name is taken by one within it] -/
namespace L2
open PySem PySem.Spec PyProof.Rows
section
variable {X : Cx} {N : List Str} {scope : Scope} {cl : List (Str × Addr)} {x : Str} {px pos : Pos} {iter elt : Expr} {ifs : List Expr} {wi : TI} {ρ : St → St} {tt : TT} {te : TE}
end
end L2

/-! comprehensions over two lists side by side -/
namespace L2
open PySem PySem.Spec PyProof.Rows
structure JSeq2 (J : It) (zs : List (V × V)) (H1 : Hp) : Prop where
  go : ∀ i Hc, Same H1 Hc → i < zs.length → J.go i Hc
  yld : ∀ i Hc v H', Same H1 Hc → J.yld i Hc v H' → ∃ T x y, v = .ref T ∧ Hc T = none ∧ H' = upd Hc T (.tup [x, y]) ∧ (i < zs.length → zs[i]? = some (x, y))
  stop : ∀ i Hc, Same H1 Hc → zs.length ≤ i → J.stop i Hc
theorem comp_ofN {wi : TI} {ρ : St → St} {te : TE} {σ : St} {H : Hp} {Q : VK} {xs : List V} (hwi : ∀ R : It → Hp → Prop, (∀ J H1, Same H H1 → JSeq J xs H1 → R J H1) → wi σ H R) (hn : xs.length < sizeLine)
    (P : Addr → Nat → V → Hp → Prop) (mono : ∀ D i y H H' ys, P D i y H → H D = some (.lst ys) → (∀ b o, b ≠ D → H b = some o → H' b = some o) → P D i y H')
    (step : ∀ D i x, xs[i]? = some x → ∀ (Hc : Hp) (R : VK), Same H Hc → (∃ ys, Hc D = some (.lst ys)) → (∀ y H3, Same Hc H3 → P D i y H3 → R y H3) → te (some x :: ρ σ) Hc R)
    (fin : ∀ D ys Hc, H D = none → Same H Hc → ys.length = xs.length → (∀ (i : Nat) (y : V), ys[i]? = some y → P D i y Hc) → Hc D = some (.lst ys) → Q (.ref D) Hc) : tComp wi ρ (fun _ H Q => Q true H) te σ H Q := by
  refine hwi _ fun J H1 s1 js => ?_
  intro D nD
  have hD : H D = none := by
    cases e : H D with
    | none => rfl
    | some o => rw [s1 _ _ e] at nD; cases nD
  exact comp_seq (ρσ := ρ σ) (te := te) (Q := Q) js nD hn (P D) (mono D) (fun i x hx Hc R sc => step D i x hx Hc R (s1.trans sc)) (fun ys Hc sc => fin D ys Hc hD (s1.trans sc))
end L2

/-! the same rules with the fragment named, for use within a comprehension's block -/
namespace L2
open PySem PySem.Spec PyProof.Rows
section
variable {X : Cx} {K : PySem.W.Frag}
theorem ix_tupK (hK : X.K = K := by rfl) : IxR X (rIxT K) := by
  subst hK
  exact ix_tup
theorem ix_listK (hK : X.K = K := by rfl) : IxR X (rIxL K) := by
  subst hK
  exact ix_list
def lenR (K : PySem.W.Frag) : List V → Hp → VK → Prop := fun xs H Q => ∃ p ys, xs = [.ref p] ∧ (SqL K H p ys ∨ SqT K H p ys) ∧ Q (.int (ys.length : Int)) H
theorem call_len_seqK (hK : X.K = K := by rfl) : CallR X (.builtin "len") (lenR K) := by
  subst hK
  exact call_len_seq
end
end L2

/-! rows as whole numbers over one bottom, and their sums of products -/
namespace My
open PySem L2
theorem cb_of {r : List V → Hp → VK → Prop} {te : TE} {σ : St} {H : Hp} {Q : VK} (h : te σ H fun x H1 => r [x] H1 Q) : tCB r (tCons te tNil) σ H Q := h
theorem ret_of {te : TE} {D : Ends} {σ : St} {H : Hp} (h : te σ H D.rt) : tRet te D σ H := h
def WhAt (H : Hp) (v : V) (ts : List Int) (B : Int) : Prop := ∃ tp l : Addr, v = .ref tp ∧ H tp = some (.tup [.ref l, .int B]) ∧ H l = some (.lst (ts.map V.int))
theorem WhAt.mono {H H' : Hp} {v : V} {ts : List Int} {B : Int} (h : WhAt H v ts B) (s : Same H H') : WhAt H' v ts B := by
  obtain ⟨tp, l, e, e1, e2⟩ := h
  exact ⟨tp, l, e, s _ _ e1, s _ _ e2⟩
/-- a row of numbers of a world, by their parts -/
def RowAt (H : Hp) (q : Int) (a : Addr) (ps : List (Int × Int)) : Prop := ∃ vs : List V, H a = some (.lst vs) ∧ vs.length = ps.length ∧ ∀ (i : Nat) (v : V) (p : Int × Int), vs[i]? = some v → ps[i]? = some p → NumAt (10 ^ 6) H q v p.1 p.2
theorem RowAt.mono {H H' : Hp} {q : Int} {a : Addr} {ps : List (Int × Int)} (h : RowAt H q a ps) (s : Same H H') : RowAt H' q a ps := by
  obtain ⟨vs, e, l, k⟩ := h
  exact ⟨vs, s _ _ e, l, fun i v p h1 h2 => (k i v p h1 h2).mono s⟩
structure WhOk (q : Int) (ps : List (Int × Int)) (ts : List Int) (B : Int) : Prop where
  len : ts.length = ps.length
  pos : 1 ≤ B
  bd : B.natAbs ≤ (10 ^ 6) ^ ps.length
  nz : ¬ q ∣ B
  each : ∀ (i : Nat) (p : Int × Int) (t : Int), ps[i]? = some p → ts[i]? = some t → t * p.2 = p.1 * B ∧ t.natAbs ≤ 10 ^ 6 * (10 ^ 6) ^ ps.length
/-- told anew: the list within is no older than H0 -/
def WhNew (H0 H : Hp) (v : V) (ts : List Int) (B : Int) : Prop := ∃ tp l : Addr, v = .ref tp ∧ H tp = some (.tup [.ref l, .int B]) ∧ H l = some (.lst (ts.map V.int)) ∧ H0 l = none
theorem WhNew.at {H0 H : Hp} {v : V} {ts : List Int} {B : Int} (h : WhNew H0 H v ts B) : WhAt H v ts B := by
  obtain ⟨tp, l, e, e1, e2, _⟩ := h
  exact ⟨tp, l, e, e1, e2⟩
/-- apart from the list at D -/
def WhFar (D : Addr) (H : Hp) (v : V) (ts : List Int) (B : Int) : Prop := ∃ tp l : Addr, v = .ref tp ∧ H tp = some (.tup [.ref l, .int B]) ∧ H l = some (.lst (ts.map V.int)) ∧ l ≠ D
theorem WhNew.far {H0 H : Hp} {v : V} {ts : List Int} {zs : List V} {B : Int} {D : Addr} (h : WhNew H0 H v ts B) (e : H0 D = some (.lst zs)) : WhFar D H v ts B := by
  obtain ⟨tp, l, e0, e1, e2, n⟩ := h
  exact ⟨tp, l, e0, e1, e2, fun z => by rw [z, e] at n; cases n⟩
theorem WhFar.keep {D : Addr} {H H' : Hp} {v : V} {ts : List Int} {zs : List V} {B : Int} (h : WhFar D H v ts B) (eD : H D = some (.lst zs)) (k : ∀ b o, b ≠ D → H b = some o → H' b = some o) : WhFar D H' v ts B := by
  obtain ⟨tp, l, e0, e1, e2, n⟩ := h
  exact ⟨tp, l, e0, k _ _ (fun z => by rw [z, eD] at e1; cases e1) e1, k _ _ n e2, n⟩
theorem WhFar.at {D : Addr} {H : Hp} {v : V} {ts : List Int} {B : Int} (h : WhFar D H v ts B) : WhAt H v ts B := by
  obtain ⟨tp, l, e, e1, e2, _⟩ := h
  exact ⟨tp, l, e, e1, e2⟩
/-- rows as wholes, in a list -/
structure WsAt (H : Hp) (a : Addr) (ws : List (List Int × Int)) : Prop where
  ex : ∃ vs : List V, H a = some (.lst vs) ∧ vs.length = ws.length ∧ ∀ (i : Nat) (v : V) (w : List Int × Int), vs[i]? = some v → ws[i]? = some w → WhAt H v w.1 w.2
theorem WsAt.mono {H H' : Hp} {a : Addr} {ws : List (List Int × Int)} (h : WsAt H a ws) (s : Same H H') : WsAt H' a ws := by
  obtain ⟨vs, e, l, k⟩ := h.ex
  exact ⟨⟨vs, s _ _ e, l, fun i v w h1 h2 => (k i v w h1 h2).mono s⟩⟩
theorem pick {α β : Type} {xs : List α} {R : Nat → α → β → Prop} (h : ∀ (i : Nat) (x : α), xs[i]? = some x → ∃ w, R i x w) : ∃ ws : List β, ws.length = xs.length ∧ ∀ (i : Nat) (x : α) (w : β), xs[i]? = some x → ws[i]? = some w → R i x w := by
  refine ⟨List.ofFn fun i : Fin xs.length => Classical.choose (h i.1 xs[i.1] (by simp)), by simp, fun i x w hx hw => ?_⟩
  have hi : i < xs.length := (List.getElem?_eq_some_iff.mp hx).1
  have ex : xs[i] = x := (List.getElem?_eq_some_iff.mp hx).2
  rw [List.getElem?_ofFn, dif_pos hi] at hw
  have hw := Option.some.inj hw
  rw [← hw]
  have z := Classical.choose_spec (h i xs[i] (by simp [hi]))
  rw [← ex]
  exact z
structure WhB (q : Int) (ts : List Int) (B : Int) : Prop where
  len : ts.length ≤ 40
  each : ∀ t ∈ ts, t.natAbs ≤ (10 ^ 6) ^ 41
  pos : 1 ≤ B
  bd : B.natAbs ≤ (10 ^ 6) ^ 40
  nz : ¬ q ∣ B
theorem WhOk.b {q : Int} {ps : List (Int × Int)} {ts : List Int} {B : Int} (h : WhOk q ps ts B) (h40 : ps.length ≤ 40) : WhB q ts B := by
  have hp : (10 ^ 6) ^ ps.length ≤ (10 ^ 6) ^ 40 := Nat.pow_le_pow_right (by decide) h40
  refine ⟨by rw [h.len]; exact h40, fun t ht => ?_, h.pos, Nat.le_trans h.bd hp, h.nz⟩
  obtain ⟨i, hi, e⟩ := List.getElem_of_mem ht
  have hi' : i < ps.length := by rw [← h.len]; exact hi
  have z := (h.each i ps[i] t (by simp [hi']) (by rw [← e]; simp [hi])).2
  refine Nat.le_trans z ?_
  rw [show (10 ^ 6) ^ 41 = 10 ^ 6 * (10 ^ 6) ^ 40 by rw [Nat.pow_succ, Nat.mul_comm]]
  exact Nat.mul_le_mul_left _ hp
theorem IsN.far {H H' : Hp} {q : Int} {v : V} {t b : Int} {D : Addr} {ys : List V} (h : IsN H q v t b) (eD : H D = some (.lst ys)) (k : ∀ b o, b ≠ D → H b = some o → H' b = some o) : IsN H' q v t b := by
  cases h with
  | frac e l hb h =>
    refine .frac (k _ _ (fun z => ?_) e) l hb h
    rw [z, eD] at e
    cases e
  | rem q2 h0 h1 g h => exact .rem q2 h0 h1 g h
/-- a row of numbers by what they are worth -/
def NRow (H : Hp) (q : Int) (a : Addr) (tb : List (Int × Int)) : Prop := ∃ vs : List V, H a = some (.lst vs) ∧ vs.length = tb.length ∧ ∀ (i : Nat) (v : V) (p : Int × Int), vs[i]? = some v → tb[i]? = some p → IsN H q v p.1 p.2
/-- a table, by the parts of its numbers -/
def TabAt (H : Hp) (q : Int) (a : Addr) (pss : List (List (Int × Int))) : Prop := ∃ vs : List V, H a = some (.lst vs) ∧ vs.length = pss.length ∧ ∀ (i : Nat) (v : V) (ps : List (Int × Int)), vs[i]? = some v → pss[i]? = some ps → ∃ r : Addr, v = .ref r ∧ RowAt H q r ps
/-- bottoms that a world may part by -/
def BotOk (q : Int) (b : Int) : Prop := (q = 0 → 1 ≤ b) ∧ (q ≠ 0 → b = 1)
theorem IsN.to {H : Hp} {q : Int} {v : V} {t b t' b' : Int} (h : IsN H q v t b) (hq : WheelN q) (e : t * b' = t' * b) (ok : BotOk q b') : IsN H q v t' b' := by
  cases h with
  | frac e1 l hb h =>
    rename_i p x m
    have b0 := ok.1 rfl
    refine .frac e1 l (by omega) (mul_cancel (c := b) hb ?_)
    grind
  | rem q2 h0 h1 g h =>
    rename_i r
    have b0 := ok.2 (by omega)
    subst b0
    refine .rem q2 h0 h1 (by rw [Int.gcd_one_right]) (dvd_cop q2 g ?_)
    obtain ⟨k, ek⟩ := h
    exact ⟨k, by grind⟩
theorem TabAt.mono {H H' : Hp} {q : Int} {a : Addr} {pss : List (List (Int × Int))} (h : TabAt H q a pss) (s : Same H H') : TabAt H' q a pss := by
  obtain ⟨vs, e, l, k⟩ := h
  exact ⟨vs, s _ _ e, l, fun i v ps h1 h2 => by
    obtain ⟨r, e1, e2⟩ := k i v ps h1 h2
    exact ⟨r, e1, e2.mono s⟩⟩
def NRowFar (D : Addr) (H : Hp) (q : Int) (a : Addr) (tb : List (Int × Int)) : Prop := a ≠ D ∧ NRow H q a tb
theorem NRowFar.keep {D : Addr} {H H' : Hp} {q : Int} {a : Addr} {tb : List (Int × Int)} {zs : List V} (h : NRowFar D H q a tb) (eD : H D = some (.lst zs)) (k : ∀ b o, b ≠ D → H b = some o → H' b = some o) : NRowFar D H' q a tb := by
  obtain ⟨n, vs, e, l, f⟩ := h
  exact ⟨n, vs, k _ _ n e, l, fun i v p h1 h2 => (f i v p h1 h2).far eD k⟩
theorem bls_of {vs : List V} {b : Bool} (h : ∀ (i : Nat) (v : V), vs[i]? = some v → v = .bl b) : vs = (List.replicate vs.length b).map V.bl := by
  refine List.ext_getElem? fun i => ?_
  rw [List.getElem?_map]
  by_cases hi : i < vs.length
  · rw [show vs[i]? = some vs[i] by simp [hi], h i vs[i] (by simp [hi])]
    simp [hi]
  · rw [List.getElem?_eq_none (by omega), List.getElem?_eq_none (by simp; omega)]
    rfl
theorem all_yes (n : Nat) : (List.replicate n true).all id = true := by simp
theorem rng_at {n i : Nat} {v : V} (h : ((List.range n).map fun i : Nat => V.int (0 + (i : Int)))[i]? = some v) : i < n ∧ v = .int (i : Int) := by
  have hi' : i < n := by
    have := (List.getElem?_eq_some_iff.mp h).1
    simpa using this
  refine ⟨hi', ?_⟩
  rw [List.getElem?_map] at h
  simp [hi'] at h
  exact h.symm
theorem none_of {H H' : Hp} {b : Addr} (s : Same H H') (h : H' b = none) : H b = none := by
  cases e : H b with
  | none => rfl
  | some o => rw [s _ _ e] at h; cases h
theorem NumAt.bdM {B : Nat} {H : Hp} {q : Int} {v : V} {x m : Int} (h : NumAt B H q v x m) (b1 : 1 ≤ B) : m.natAbs ≤ B := by
  cases h with
  | frac e l bx bm => exact bm
  | rem h0 h1 h2 => exact b1
theorem RowAt.bd {H : Hp} {q : Int} {a : Addr} {ps : List (Int × Int)} (h : RowAt H q a ps) : ∀ p ∈ ps, p.2.natAbs ≤ 10 ^ 6 := fun p hp => by
  obtain ⟨vs, e, l, k⟩ := h
  obtain ⟨i, hi, ei⟩ := List.getElem_of_mem hp
  have hi' : i < vs.length := by omega
  exact (k i vs[i] p (by simp [hi']) (by rw [← ei]; simp [hi])).bdM (by decide)
theorem isN_like {K : PySem.W.Frag} {H : Hp} {q : Int} {v u : V} {t b t' b' : Int} (hv : IsN H q v t b) (hu : IsN H q u t' b') (e : t * b' = t' * b) (n : Nat) : LikeN K H (n + 1) v u := by
  rcases isN_alike hv hu e with ⟨p, p', x, m, rfl, rfl, e1, e2⟩ | ⟨i, rfl, rfl⟩
  · refine .inr ⟨p, p', _, _, rfl, rfl, .inr ⟨.of e1, .of e2⟩, rfl, fun j x y h1 h2 => ?_⟩
    rw [h1] at h2
    cases h2
    have hf : flatV x = true := by
      match j, h1 with
      | 0, h1 => cases h1; rfl
      | 1, h1 => cases h1; rfl
      | j + 2, h1 => cases h1
    cases n with
    | zero => exact ⟨rfl, hf⟩
    | succ n => exact .inl ⟨rfl, hf⟩
  · exact .inl ⟨rfl, rfl⟩
end My

/-! tables of numbers by what they are worth, place by place -/
namespace My
open PySem L2
def FRow (H : Hp) (q : Int) (r : Addr) (M : Nat) (g : Nat → Int × Int) : Prop := ∃ ws : List V, H r = some (.lst ws) ∧ ws.length = M ∧ ∀ (j : Nat) (w : V), ws[j]? = some w → IsN H q w (g j).1 (g j).2
theorem FRow.mono {H H' : Hp} {q : Int} {r : Addr} {M : Nat} {g : Nat → Int × Int} (h : FRow H q r M g) (s : Same H H') : FRow H' q r M g := by
  obtain ⟨ws, e, l, k⟩ := h
  exact ⟨ws, s _ _ e, l, fun j w hw => (k j w hw).mono s⟩
theorem FRow.far {H H' : Hp} {q : Int} {r D : Addr} {M : Nat} {g : Nat → Int × Int} {zs : List V} (h : FRow H q r M g) (n : r ≠ D) (eD : H D = some (.lst zs)) (k : ∀ b o, b ≠ D → H b = some o → H' b = some o) : FRow H' q r M g := by
  obtain ⟨ws, e, l, f⟩ := h
  exact ⟨ws, k _ _ n e, l, fun j w hw => (f j w hw).far eD k⟩
/-- a table told anew: its rows are no older than H0, and none of them is the table itself -/
def FTab (H0 H : Hp) (q : Int) (a : Addr) (N M : Nat) (f : Nat → Nat → Int × Int) : Prop := ∃ vs : List V, H a = some (.lst vs) ∧ vs.length = N ∧ ∀ (i : Nat) (v : V), vs[i]? = some v → ∃ r : Addr, v = .ref r ∧ r ≠ a ∧ H0 r = none ∧ FRow H q r M (f i)
theorem FTab.mono {H0 H H' : Hp} {q : Int} {a : Addr} {N M : Nat} {f : Nat → Nat → Int × Int} (h : FTab H0 H q a N M f) (s : Same H H') : FTab H0 H' q a N M f := by
  obtain ⟨vs, e, l, k⟩ := h
  exact ⟨vs, s _ _ e, l, fun i v hv => by
    obtain ⟨r, e1, e2, e3, e4⟩ := k i v hv
    exact ⟨r, e1, e2, e3, e4.mono s⟩⟩
theorem FTab.older {H0 H1 H : Hp} {q : Int} {a : Addr} {N M : Nat} {f : Nat → Nat → Int × Int} (h : FTab H1 H q a N M f) (s : Same H0 H1) : FTab H0 H q a N M f := by
  obtain ⟨vs, e, l, k⟩ := h
  exact ⟨vs, e, l, fun i v hv => by
    obtain ⟨r, e1, e2, e3, e4⟩ := k i v hv
    exact ⟨r, e1, e2, none_of s e3, e4⟩⟩
def o1 : Int × Int := (0, 1)
theorem TabAt.row {H : Hp} {q : Int} {a : Addr} {pss : List (List (Int × Int))} (h : TabAt H q a pss) {i : Nat} (hi : i < pss.length) : ∃ (vs : List V) (r : Addr), H a = some (.lst vs) ∧ vs.length = pss.length ∧ vs[i]? = some (.ref r) ∧ RowAt H q r pss[i] := by
  obtain ⟨vs, e, l, k⟩ := h
  have hv : i < vs.length := by omega
  obtain ⟨r, e1, e2⟩ := k i vs[i] pss[i] (by simp [hv]) (by simp [hi])
  exact ⟨vs, r, e, l, by rw [← e1]; simp [hv], e2⟩
theorem RowAt.cell {H : Hp} {q : Int} {r : Addr} {ps : List (Int × Int)} (h : RowAt H q r ps) {j : Nat} (hj : j < ps.length) : ∃ (vs : List V) (v : V), H r = some (.lst vs) ∧ vs.length = ps.length ∧ vs[j]? = some v ∧ NumAt (10 ^ 6) H q v (ps.getD j o1).1 (ps.getD j o1).2 := by
  obtain ⟨vs, e, l, k⟩ := h
  have hv : j < vs.length := by omega
  refine ⟨vs, vs[j], e, l, by simp [hv], ?_⟩
  rw [List.getD_eq_getElem?_getD, show ps[j]? = some ps[j] by simp [hj]]
  exact k j vs[j] ps[j] (by simp [hv]) (by simp [hj])
theorem getD_at {α : Type} {xs : List α} {d : α} {i : Nat} (hi : i < xs.length) : xs.getD i d = xs[i] := by
  rw [List.getD_eq_getElem?_getD, show xs[i]? = some xs[i] by simp [hi]]
  rfl
theorem TabAt.bd {H : Hp} {q : Int} {a : Addr} {pss : List (List (Int × Int))} (h : TabAt H q a pss) : ∀ ps ∈ pss, ∀ p ∈ ps, p.2.natAbs ≤ 10 ^ 6 := fun ps hp => by
  obtain ⟨vs, e, l, k⟩ := h
  obtain ⟨i, hi, ei⟩ := List.getElem_of_mem hp
  have hi' : i < vs.length := by omega
  obtain ⟨r, _, hr⟩ := k i vs[i] ps (by simp [hi']) (by rw [← ei]; simp [hi])
  exact hr.bd
end My

/-! the same for few and greater numbers: at most four in a row, of at most sixty figures -/
namespace My
open PySem L2
def RowN (H : Hp) (q : Int) (a : Addr) (ps : List (Int × Int)) : Prop := ∃ vs : List V, H a = some (.lst vs) ∧ vs.length = ps.length ∧ ∀ (i : Nat) (v : V) (p : Int × Int), vs[i]? = some v → ps[i]? = some p → NumAt (10 ^ 60) H q v p.1 p.2
theorem RowN.mono {H H' : Hp} {q : Int} {a : Addr} {ps : List (Int × Int)} (h : RowN H q a ps) (s : Same H H') : RowN H' q a ps := by
  obtain ⟨vs, e, l, k⟩ := h
  exact ⟨vs, s _ _ e, l, fun i v p h1 h2 => (k i v p h1 h2).mono s⟩
structure WhOkN (q : Int) (ps : List (Int × Int)) (ts : List Int) (B : Int) : Prop where
  len : ts.length = ps.length
  pos : 1 ≤ B
  bd : B.natAbs ≤ (10 ^ 60) ^ ps.length
  nz : ¬ q ∣ B
  each : ∀ (i : Nat) (p : Int × Int) (t : Int), ps[i]? = some p → ts[i]? = some t → t * p.2 = p.1 * B ∧ t.natAbs ≤ 10 ^ 60 * (10 ^ 60) ^ ps.length
structure WhBN (q : Int) (ts : List Int) (B : Int) : Prop where
  len : ts.length ≤ 4
  each : ∀ t ∈ ts, t.natAbs ≤ (10 ^ 60) ^ 5
  pos : 1 ≤ B
  bd : B.natAbs ≤ (10 ^ 60) ^ 4
  nz : ¬ q ∣ B
theorem WhOkN.b {q : Int} {ps : List (Int × Int)} {ts : List Int} {B : Int} (h : WhOkN q ps ts B) (h40 : ps.length ≤ 4) : WhBN q ts B := by
  have hp : (10 ^ 60) ^ ps.length ≤ (10 ^ 60) ^ 4 := Nat.pow_le_pow_right (by decide) h40
  refine ⟨by rw [h.len]; exact h40, fun t ht => ?_, h.pos, Nat.le_trans h.bd hp, h.nz⟩
  obtain ⟨i, hi, e⟩ := List.getElem_of_mem ht
  have hi' : i < ps.length := by rw [← h.len]; exact hi
  have z := (h.each i ps[i] t (by simp [hi']) (by rw [← e]; simp [hi])).2
  refine Nat.le_trans z ?_
  rw [show (10 ^ 60) ^ 5 = 10 ^ 60 * (10 ^ 60) ^ 4 by rw [Nat.pow_succ, Nat.mul_comm]]
  exact Nat.mul_le_mul_left _ hp
def TabN (H : Hp) (q : Int) (a : Addr) (pss : List (List (Int × Int))) : Prop := ∃ vs : List V, H a = some (.lst vs) ∧ vs.length = pss.length ∧ ∀ (i : Nat) (v : V) (ps : List (Int × Int)), vs[i]? = some v → pss[i]? = some ps → ∃ r : Addr, v = .ref r ∧ RowN H q r ps
theorem TabN.mono {H H' : Hp} {q : Int} {a : Addr} {pss : List (List (Int × Int))} (h : TabN H q a pss) (s : Same H H') : TabN H' q a pss := by
  obtain ⟨vs, e, l, k⟩ := h
  exact ⟨vs, s _ _ e, l, fun i v ps h1 h2 => by
    obtain ⟨r, e1, e2⟩ := k i v ps h1 h2
    exact ⟨r, e1, e2.mono s⟩⟩
end My

/-! worths alike in a world, sums of products by their places -/
namespace My
open PySem L2
/-- as much worth: in the fractions (q = 0) the same, on a wheel alike but for turns -/
def Weq (q : Int) (p t : Int × Int) : Prop := q ∣ p.1 * t.2 - t.1 * p.2
theorem Weq.refl {q : Int} (p : Int × Int) : Weq q p p := ⟨0, by rw [Int.sub_self, Int.mul_zero]⟩
theorem Weq.symm {q : Int} {p t : Int × Int} (h : Weq q p t) : Weq q t p := by
  obtain ⟨k, e⟩ := h
  exact ⟨-k, by rw [Int.mul_neg]; omega⟩
theorem Weq.cancel {q b x : Int} (ok : BotOk q b) (h : q ∣ b * x) : q ∣ x := by
  by_cases z : q = 0
  · subst z
    have h0 := Int.zero_dvd.mp h
    have b1 := ok.1 rfl
    rcases Int.mul_eq_zero.mp h0 with e | e
    · omega
    · rw [e]; exact Int.dvd_refl 0
  · rw [ok.2 z, Int.one_mul] at h
    exact h
theorem Weq.trans {q : Int} {p t s : Int × Int} (h1 : Weq q p t) (h2 : Weq q t s) (ok : BotOk q t.2) : Weq q p s := by
  obtain ⟨k1, e1⟩ := h1
  obtain ⟨k2, e2⟩ := h2
  refine Weq.cancel ok ⟨k1 * s.2 + k2 * p.2, ?_⟩
  grind
end My

/-! the product of two tables, the one table -/
namespace My
open PySem L2
theorem one_noOv {q : Int} (hq : WheelN q) : ¬ NoOv q 1 := fun h => by
  unfold NoOv at h
  rcases hq with rfl | ⟨q2, q3, q4⟩
  · rw [if_pos rfl] at h; omega
  · rw [if_neg (by omega), Int.emod_eq_of_lt (by omega) (by omega)] at h; omega
theorem NRow.f {H : Hp} {q : Int} {r : Addr} {tb : List (Int × Int)} {M : Nat} {g : Nat → Int × Int} (h : NRow H q r tb) (hl : tb.length = M) (hg : ∀ j, j < M → tb[j]? = some (g j)) : FRow H q r M g := by
  obtain ⟨ws, e, l, k⟩ := h
  refine ⟨ws, e, by omega, fun j w hw => ?_⟩
  have hj : j < M := by rw [← hl, ← l]; exact (List.getElem?_eq_some_iff.mp hw).1
  exact k j w (g j) hw (hg j hj)
theorem RowN.f {H : Hp} {q : Int} (hq : WheelN q) {r : Addr} {ps : List (Int × Int)} (h : RowN H q r ps) : FRow H q r ps.length (fun j => ps.getD j o1) := by
  obtain ⟨ws, e, l, k⟩ := h
  refine ⟨ws, e, l, fun j w hw => ?_⟩
  have hj : j < ps.length := by rw [← l]; exact (List.getElem?_eq_some_iff.mp hw).1
  show IsN H q w (ps.getD j o1).1 (ps.getD j o1).2
  rw [getD_at hj]
  exact (k j w ps[j] hw (by simp [hj])).isN hq
end My

/-! products of products, by whole numbers over one bottom -/
namespace My
open PySem L2
theorem BotOk.one {q : Int} : BotOk q 1 := ⟨fun _ => by decide, fun _ => rfl⟩
theorem NumAt.both {B : Nat} {H : Hp} {q : Int} {v : V} {x m : Int} (h : NumAt B H q v x m) (b1 : 1000 ≤ B) : x.natAbs ≤ B ∧ m.natAbs ≤ B := by
  cases h with
  | frac e l bx bm => exact ⟨bx, bm⟩
  | rem h0 h1 h2 => exact ⟨by omega, by show Int.natAbs 1 ≤ B; omega⟩
theorem RowAt.both {H : Hp} {q : Int} {a : Addr} {ps : List (Int × Int)} (h : RowAt H q a ps) : ∀ p ∈ ps, p.1.natAbs ≤ 10 ^ 6 ∧ p.2.natAbs ≤ 10 ^ 6 := fun p hp => by
  obtain ⟨vs, e, l, k⟩ := h
  obtain ⟨i, hi, ei⟩ := List.getElem_of_mem hp
  have hi' : i < vs.length := by omega
  exact (k i vs[i] p (by simp [hi']) (by rw [← ei]; simp [hi])).both (by decide)
theorem TabAt.both {H : Hp} {q : Int} {a : Addr} {pss : List (List (Int × Int))} (h : TabAt H q a pss) : ∀ ps ∈ pss, ∀ p ∈ ps, p.1.natAbs ≤ 10 ^ 6 ∧ p.2.natAbs ≤ 10 ^ 6 := fun ps hp => by
  obtain ⟨vs, e, l, k⟩ := h
  obtain ⟨i, hi, ei⟩ := List.getElem_of_mem hp
  have hi' : i < vs.length := by omega
  obtain ⟨r, _, hr⟩ := k i vs[i] ps (by simp [hi']) (by rw [← ei]; simp [hi])
  exact hr.both
end My

/-! a pen: a list that is changed by each draw; the heap without it -/
namespace My
open PySem L2
def er (P : Addr) (H : Hp) : Hp := fun b => if b = P then none else H b
theorem er_le {P : Addr} {H : Hp} : Same (er P H) H := fun b o e => by
  unfold er at e
  split at e
  · cases e
  · exact e
theorem er_ne {P b : Addr} {H : Hp} (h : b ≠ P) : er P H b = H b := if_neg h
theorem er_some {P b : Addr} {H : Hp} {o : HO} (h : b ≠ P) (e : H b = some o) : er P H b = some o := by rw [er_ne h]; exact e
theorem er_same {P : Addr} {H H' : Hp} (s : Same H H') : Same (er P H) (er P H') := fun b o e => by
  unfold er at e ⊢
  split at e
  · cases e
  · rename_i h
    rw [if_neg h]
    exact s _ _ e
theorem er_upd {P : Addr} {H : Hp} {o : HO} : er P (upd H P o) = er P H := funext fun b => by
  unfold er
  split
  · rfl
  · rename_i h
    exact upd_ne h
/-- the pen, as it stands -/
def PenC (H : Hp) (P a : Addr) : Prop := ∃ x y : Int, H P = some (.lst [.ref a, .int x, .int y]) ∧ 0 ≤ x ∧ 0 ≤ y
theorem PenC.mono {H H' : Hp} {P a : Addr} (h : PenC H P a) (s : Same H H') : PenC H' P a := by
  obtain ⟨x, y, e, h1, h2⟩ := h
  exact ⟨x, y, s _ _ e, h1, h2⟩
theorem PenC.upd {H : Hp} {P a D : Addr} {o : HO} (h : PenC H P a) (n : D ≠ P) : PenC (L2.upd H D o) P a := by
  obtain ⟨x, y, e, h1, h2⟩ := h
  exact ⟨x, y, by rw [upd_ne n.symm]; exact e, h1, h2⟩
theorem PenC.ne {H : Hp} {P a D : Addr} (h : PenC H P a) (n : H D = none) : D ≠ P := fun z => by
  obtain ⟨x, y, e, _⟩ := h
  rw [z, e] at n
  cases n
def SameE (P : Addr) (H H' : Hp) : Prop := Same (er P H) (er P H')
theorem SameE.refl {P : Addr} (H : Hp) : SameE P H H := Same.refl _
theorem SameE.trans {P : Addr} {H H' H2 : Hp} (s : SameE P H H') (t : SameE P H' H2) : SameE P H H2 := Same.trans s t
theorem SameE.of {P : Addr} {H H' : Hp} (s : Same H H') : SameE P H H' := er_same s
theorem SameE.pen {P : Addr} {H : Hp} {o : HO} : SameE P H (upd H P o) := by
  unfold SameE
  rw [er_upd]
  exact Same.refl _
theorem SameE.but {P D : Addr} {H H' : Hp} {o : HO} (s : SameE P H H') (n : H D = none) : SameE P H (upd H' D o) := fun b u e => by
  have e0 := s b u e
  have nb : b ≠ P := fun z => by unfold er at e; rw [if_pos z] at e; cases e
  rw [er_ne nb] at e e0 ⊢
  rw [upd_ne (ne_of_none e n)]
  exact e0
theorem SameE.at {P b : Addr} {H H' : Hp} {o : HO} (s : SameE P H H') (nb : b ≠ P) (e : H b = some o) : H' b = some o := by
  have z := s b o (er_some nb e)
  rw [er_ne nb] at z
  exact z
/-! rows of numbers, by their parts -/
def RowG (B : Nat) (H : Hp) (q : Int) (a : Addr) (ps : List (Int × Int)) : Prop := ∃ vs : List V, H a = some (.lst vs) ∧ vs.length = ps.length ∧ ∀ (i : Nat) (v : V) (p : Int × Int), vs[i]? = some v → ps[i]? = some p → NumAt B H q v p.1 p.2
theorem RowG.mono {B : Nat} {H H' : Hp} {q : Int} {a : Addr} {ps : List (Int × Int)} (h : RowG B H q a ps) (s : Same H H') : RowG B H' q a ps := by
  obtain ⟨vs, e, l, k⟩ := h
  exact ⟨vs, s _ _ e, l, fun i v p h1 h2 => (k i v p h1 h2).mono s⟩
theorem NumAt.weak {B B' : Nat} {H : Hp} {q : Int} {v : V} {x m : Int} (h : NumAt B H q v x m) (hb : B ≤ B') : NumAt B' H q v x m := by
  cases h with
  | frac e l bx bm => exact .frac e l (Nat.le_trans bx hb) (Nat.le_trans bm hb)
  | rem h0 h1 h2 => exact .rem h0 h1 h2
theorem RowG.weak {B B' : Nat} {H : Hp} {q : Int} {a : Addr} {ps : List (Int × Int)} (h : RowG B H q a ps) (hb : B ≤ B') : RowG B' H q a ps := by
  obtain ⟨vs, e, l, k⟩ := h
  exact ⟨vs, e, l, fun i v p h1 h2 => (k i v p h1 h2).weak hb⟩
theorem rowG_rlike {K : PySem.W.Frag} {B B' : Nat} {H : Hp} {q : Int} (hq : WheelN q) {a b : Addr} {ps : List (Int × Int)} {R : VK} {r : Bool} (h1 : RowG B H q a ps) (h2 : RowG B' H q b ps) (k : R (.bl r) H) : rLike K 1 r (.ref a) (.ref b) H R := by
  obtain ⟨vs, e1, l1, f1⟩ := h1
  obtain ⟨us, e2, l2, f2⟩ := h2
  refine ⟨a, b, vs, us, rfl, rfl, .of e1, .of e2, by omega, fun j x y hx hy => ?_, k⟩
  have hj : j < ps.length := by rw [← l1]; exact (List.getElem?_eq_some_iff.mp hx).1
  exact isN_like ((f1 j x ps[j] hx (by simp [hj])).isN hq) ((f2 j y ps[j] hy (by simp [hj])).isN hq) rfl 0
theorem cutV_take (xs : List V) (k : Nat) (h : k ≤ xs.length) : cutV xs none (some (k : Int)) = xs.take k := by
  have e : HT.sIx xs.length xs.length (some (k : Int)) = k := by
    rw [HT.sIx_nat]
    omega
  unfold cutV
  rw [e, show HT.sIx xs.length 0 none = 0 from rfl, List.drop_zero, Nat.sub_zero]
theorem RowG.take {B : Nat} {H : Hp} {q : Int} {r : Addr} {vs : List V} {ps : List (Int × Int)} {k : Nat} (e : H r = some (.lst (vs.take k))) (l : vs.length = ps.length) (f : ∀ (i : Nat) (v : V) (p : Int × Int), vs[i]? = some v → ps[i]? = some p → NumAt B H q v p.1 p.2) : RowG B H q r (ps.take k) := by
  refine ⟨vs.take k, e, by simp [l], fun i v p h1 h2 => ?_⟩
  have hi : i < k := by
    have := (List.getElem?_eq_some_iff.mp h1).1
    rw [List.length_take] at this
    omega
  rw [List.getElem?_take_of_lt hi] at h1 h2
  exact f i v p h1 h2
end My

/-! rows by a pen: what the laws of the rows draw -/
namespace L2
open PySem PySem.Spec PyProof.Rows
/-- != of a list and an empty one -/
def rNeE (K : PySem.W.Frag) : R2 := fun x y H Q => ∃ a b xs, x = .ref a ∧ y = .ref b ∧ SqL K H a xs ∧ H b = some (.lst []) ∧ (∀ v ∈ xs, ∃ i, v = .int i) ∧ Q (.bl (!xs.isEmpty)) H
theorem op_neE {X : Cx} (hu : X.A.units + 64 < cLine) : OpR X (compareOp .NotEq) (rNeE X.K) := by
  intro pins s σ H x y v u Q I rx ry h
  obtain ⟨a, b, xs, rfl, rfl, h1, h2, _, q⟩ := h
  cases rx
  cases ry
  obtain ⟨us, r1, t1, _⟩ := I.list h1
  obtain ⟨vs, r2, t2, _⟩ := I.list (SqL.of h2)
  have l1 := r1.length
  have l2 := r2.length
  cases xs with
  | nil =>
    refine SeqAt.RcNeAt.lists (e := fun _ => true) t1.isList t2.isList (by simp at l1 l2 ⊢; omega) (by omega) (fun j z1 z2 => ?_) _ _ _ _ ?_
    · simp at l1
      have : us = [] := List.length_eq_zero_iff.mp l1.symm
      subst this
      simp at z1
    · rw [all_range]
      exact ⟨.bl false, H, I, rfl, q⟩
  | cons w ws =>
    refine SeqAt.RcNeAt.lists_lengths t1.isList t2.isList ?_ (by omega) _ _ _ _ ⟨.bl true, H, I, rfl, q⟩
    simp at l1 l2 ⊢
    omega
end L2
namespace My
open PySem L2
def tdOf (q : Int) : Td := if q = 0 then .a "fractions" else .b "wheel" q
theorem tdOf_good {q : Int} (hq : WheelN q) : (tdOf q).good = true := by
  unfold tdOf
  rcases hq with rfl | ⟨h1, h2, h3⟩
  · rw [if_pos rfl]; simp [Td.good, Td.isF]
  · rw [if_neg (by omega)]; simp [Td.good, Td.isF, Td.isW, h1, h2, h3]
theorem tdOf_zero : tdOf 0 = .a "fractions" := if_pos rfl
theorem tdOf_pos {q : Int} (h : q ≠ 0) : tdOf q = .b "wheel" q := if_neg h
def ToldAt (H : Hp) (td : Addr) (q : Int) : Prop := H td = some (.tup (tdOf q).vs)
theorem ToldAt.mono {H H' : Hp} {td : Addr} {q : Int} (h : ToldAt H td q) (s : Same H H') : ToldAt H' td q := s _ _ h
def spFill : Sp := fun vs H Q _ => ∃ c a : Int, vs = [.int c, .int a] ∧ 0 ≤ a ∧ ∀ r : Int, 0 ≤ r → Q (.int r) H
def spNext (K : PySem.W.Frag) : Sp := fun vs H Q _ => ∃ (P a : Addr) (ns : List Int) (many : Int), vs = [.ref P, .int many] ∧ PenC H P a ∧ SqL K (er P H) a (ns.map V.int) ∧ 1 ≤ many ∧ Mid many ∧ ∀ (r : Int) (H' : Hp), 0 ≤ r → r < many → SameE P H H' → PenC H' P a → Q (.int r) H'
/-- numbers of a world from whole ones -/
def ofP (q i : Int) : Int × Int := if q = 0 then (i, 1) else (i % q, 1)
def addP (q : Int) (p r : Int × Int) : Int × Int := if q = 0 then (lowU (p.1 * r.2 + r.1 * p.2) (p.2 * r.2), lowD (p.1 * r.2 + r.1 * p.2) (p.2 * r.2)) else ((p.1 + r.1) % q, 1)
def spEOf (B : Nat) : Sp := fun vs H Q _ => ∃ (td : Addr) (q i : Int), vs = [.ref td, .int i] ∧ ToldAt H td q ∧ WheelN q ∧ i.natAbs ≤ B ∧ 1000 ≤ B ∧ ∀ (v : V) (H' : Hp), Same H H' → NumAt B H' q v (ofP q i).1 (ofP q i).2 → Q v H'
theorem low_num {B : Nat} {H : Hp} {r : Addr} {a b : Int} (e : H r = some (.tup [.int (lowU a b), .int (lowD a b)])) (hb : 1 ≤ b) (ba : a.natAbs ≤ B) (bb : b.natAbs ≤ B) : NumAt B H 0 (.ref r) (lowU a b) (lowD a b) := by
  obtain ⟨u, d, e1, e2, l, l1, l2⟩ := low_of (a := a) hb
  unfold lowU lowD at e ⊢
  rw [e1, e2] at e ⊢
  exact .frac e l (Nat.le_trans l1 ba) (Nat.le_trans l2 bb)

def spEIs : Sp := fun vs H Q _ => ∃ (td : Addr) (q : Int) (v : V) (x m : Int) (B : Nat), vs = [.ref td, v] ∧ ToldAt H td q ∧ WheelN q ∧ NumAt B H q v x m ∧ B ≤ 10 ^ 300 ∧ ∀ H', Same H H' → Q (.bl true) H'
def spERowIs : Sp := fun vs H Q _ => ∃ (td a : Addr) (q : Int) (ps : List (Int × Int)) (B : Nat), vs = [.ref td, .ref a] ∧ ToldAt H td q ∧ WheelN q ∧ RowG B H q a ps ∧ ps.length ≤ 1000 ∧ B ≤ 10 ^ 300 ∧ ∀ H', Same H H' → Q (.bl true) H'
def spEWorld (K : PySem.W.Frag) : Sp := fun vs H Q _ => ∃ (P a : Addr) (ns : List Int), vs = [.ref P] ∧ PenC H P a ∧ SqL K (er P H) a (ns.map V.int) ∧ ∀ (td : Addr) (q : Int) (H' : Hp), WheelN q → SameE P H H' → PenC H' P a → ToldAt (er P H') td q → Q (.ref td) H'
theorem NumAt.er {B : Nat} {H H' : Hp} {q : Int} {v : V} {x m : Int} {P a : Addr} (h : NumAt B H q v x m) (p : PenC H P a) : NumAt B (er P H) q v x m := by
  cases h with
  | frac e l bx bm =>
    refine .frac (er_some (fun z => ?_) e) l bx bm
    obtain ⟨x, y, e', _⟩ := p
    rw [z, e'] at e
    cases e
  | rem h0 h1 h2 => exact .rem h0 h1 h2
theorem NumAt.farE {B : Nat} {H H' : Hp} {q : Int} {v : V} {x m : Int} {P D : Addr} {ys : List V} (h : NumAt B (My.er P H) q v x m) (eD : H D = some (.lst ys)) (k : ∀ b o, b ≠ D → b ≠ P → H b = some o → H' b = some o) : NumAt B (My.er P H') q v x m := by
  cases h with
  | frac e l bx bm =>
    rename_i r
    have nP : r ≠ P := fun z => by unfold My.er at e; rw [if_pos z] at e; cases e
    rw [er_ne nP] at e
    refine .frac (er_some nP (k _ _ (fun z => ?_) nP e)) l bx bm
    rw [z, eD] at e
    cases e
  | rem h0 h1 h2 => exact .rem h0 h1 h2
theorem rowG_pick {B : Nat} {H : Hp} {q : Int} {D : Addr} {ys : List V} (eD : H D = some (.lst ys)) (hP : ∀ (i : Nat) (y : V), ys[i]? = some y → ∃ xm : Int × Int, NumAt B H q y xm.1 xm.2) : ∃ ps, RowG B H q D ps ∧ ps.length = ys.length := by
  obtain ⟨ps, lp, hp⟩ := pick (R := fun _ y xm => NumAt B H q y (Prod.fst xm) (Prod.snd xm)) hP
  exact ⟨ps, ⟨ys, eD, lp.symm, fun i v x h1 h2 => hp i v x h1 h2⟩, lp⟩
end My

/-! rows put together -/
namespace L2
open PySem PySem.Spec PyProof.Rows
end L2
namespace My
open PySem L2
end My

/-! for i, a in enumerate(one): a list walked with its places -/
namespace L2
open PySem PySem.Spec PyProof.Rows
section
variable {X : Cx}
end
end L2

/-! rows multiplied: whole numbers first -/
namespace My
open PySem L2
end My
namespace My
open PySem L2
theorem Mid.of300 {B : Nat} (hB : B ≤ 10 ^ 300) {x : Int} (h : x.natAbs ≤ 2 * B * B) : Mid x := by
  have z : 2 * B * B ≤ 2 * 10 ^ 300 * 10 ^ 300 := Nat.mul_le_mul (Nat.mul_le_mul_left 2 hB) hB
  exact Nat.lt_of_le_of_lt (Nat.le_trans h z) (by decide +kernel)
def spEArith3 (f : Int → Int × Int → Int × Int → Int × Int) : Sp := fun vs H Q _ => ∃ (td : Addr) (q : Int) (v u : V) (p r : Int × Int) (B : Nat), vs = [.ref td, v, u] ∧ ToldAt H td q ∧ WheelN q ∧ NumAt B H q v p.1 p.2 ∧ NumAt B H q u r.1 r.2 ∧ 1000 ≤ B ∧ B ≤ 10 ^ 300 ∧ ∀ (v' : V) (H' : Hp), Same H H' → NumAt (2 * B * B) H' q v' (f q p r).1 (f q p r).2 → Q v' H'
end My

/-! polynomials by whole numbers over one bottom -/
namespace My
open PySem L2
theorem BotOk.nz {q b : Int} (hq : WheelN q) (h : BotOk q b) : ¬ q ∣ b := fun hd => by
  by_cases z : q = 0
  · subst z
    have := h.1 rfl
    have := Int.zero_dvd.mp hd
    omega
  · rw [h.2 z] at hd
    have q2 : 2 ≤ q := by rcases hq with h | h <;> omega
    have := Int.le_of_dvd (by decide) hd
    omega
structure WhD (q : Int) (ps : List (Int × Int)) (ts : List Int) (b D : Int) (B : Nat) : Prop where
  len : ts.length = ps.length
  ok : BotOk q b
  dvd : b ∣ D
  each : ∀ i, i < ps.length → ts.getD i 0 * (ps.getD i o1).2 = (ps.getD i o1).1 * b ∧ (ts.getD i 0).natAbs ≤ B * D.natAbs
end My

/-! products of rows: what is asked -/
namespace My
open PySem L2
structure Reps (q : Int) (ps : List (Int × Int)) (D : Int) (f : Nat → Int) : Prop where
  ok : BotOk q D
  dvd : ∀ p ∈ ps, p.2 ∣ D
  rep : ∀ i, i < ps.length → Weq q (ps.getD i o1) (f i, D)
  bd : D.natAbs ≤ 10 ^ 100
def spENumberF (K : PySem.W.Frag) : Sp := fun vs H Q _ => ∃ (P a td : Addr) (ns : List Int) (q far : Int) (F : Nat), vs = [.ref P, .ref td, .int far] ∧ PenC H P a ∧ SqL K (er P H) a (ns.map V.int) ∧ ToldAt (er P H) td q ∧ WheelN q ∧ 1 ≤ far ∧ far ≤ (F : Int) ∧ 4 ≤ F ∧ F ≤ 10 ^ 20 ∧ ∀ (v : V) (x m : Int) (H' : Hp), SameE P H H' → PenC H' P a → NumAt F (er P H') q v x m → Q v H'
end My

/-! the law's rows -/
namespace My
open PySem L2
theorem comp_ofEn {wi : TI} {ρ : St → St} {te : TE} {σ : St} {H : Hp} {Q : VK} {P a : Addr} {n : Nat} (hn : n < sizeLine)
    (hwi : ∀ R : It → Hp → Prop, (∀ (H1 : Hp), SameE P H H1 → PenC H1 P a → R (Itr 0 n) H1) → wi σ H R)
    (Pr : Addr → Nat → V → Hp → Prop) (mono : ∀ D i y Hc H' ys, Pr D i y Hc → Hc D = some (.lst ys) → D ≠ P → (∀ b o, b ≠ D → b ≠ P → Hc b = some o → H' b = some o) → Pr D i y H')
    (step : ∀ (D : Addr) (i : Nat), i < n → ∀ (Hc : Hp) (R : VK), SameE P H Hc → PenC Hc P a → (∃ ys, Hc D = some (.lst ys)) → D ≠ P → (∀ y H3, SameE P Hc H3 → PenC H3 P a → Pr D i y H3 → R y H3) → te (some (.int (0 + (i : Int))) :: ρ σ) Hc R)
    (fin : ∀ (D : Addr) (ys : List V) (Hc : Hp), D ≠ P → SameE P H Hc → PenC Hc P a → ys.length = n → (∀ (i : Nat) (y : V), ys[i]? = some y → Pr D i y Hc) → Hc D = some (.lst ys) → Q (.ref D) Hc) : tComp wi ρ (fun _ H Q => Q true H) te σ H Q := by
  refine hwi _ fun H1 s1 p1 => ?_
  intro D nD
  have nP := p1.ne nD
  refine ⟨fun i m ys Hc => m = n - i ∧ i ≤ n ∧ Hc D = some (.lst ys) ∧ SameE P H1 Hc ∧ PenC Hc P a ∧ ys.length = i ∧ ∀ j y, ys[j]? = some y → Pr D j y Hc, ⟨_, rfl, Nat.zero_le _, upd_same, (SameE.refl H1).but nD, p1.upd nP, rfl, fun j y e => by simp at e⟩, ?_⟩
  rintro i m ys Hc ⟨rfl, hi, eD, sH, pc, el, hP⟩
  refine ⟨eD, ?_⟩
  by_cases hlt : i < n
  · refine .inr ⟨hlt, fun x H' hy => ?_⟩
    obtain ⟨rfl, rfl⟩ := hy
    rw [if_pos rfl]
    refine step D i (by omega) _ _ (s1.trans sH) pc ⟨ys, eD⟩ nP fun y H3 s3 p3 hp => ?_
    have e3 := s3.at nP eD
    refine ⟨e3, by omega, n - (i + 1), by omega, rfl, hlt, upd_same, (sH.trans s3).but nD, p3.upd nP, by simp [el], fun j y' e => ?_⟩
    have far : ∀ b o, b ≠ D → b ≠ P → H3 b = some o → upd H3 D (.lst (ys ++ [y])) b = some o := fun b o nb _ e => by rw [upd_ne nb]; exact e
    by_cases hj : j < i
    · have e' : ys[j]? = some y' := by rw [List.getElem?_append_left (by omega)] at e; exact e
      refine mono D j y' H' _ ys (hP j y' e') eD nP fun b o nb np e => ?_
      exact far b o nb np (s3.at np e)
    · have hj : j = i := by
        have := (List.getElem?_eq_some_iff.mp e).1
        simp at this
        omega
      subst hj
      have e' : y' = y := by rw [List.getElem?_append_right (by omega), el, Nat.sub_self] at e; simpa using e.symm
      subst e'
      exact mono D _ _ H3 _ ys hp e3 nP far
  · have e : i = n := by omega
    subst e
    exact .inl ⟨Nat.le_refl _, fin D ys Hc nP (s1.trans sH) pc el hP eD⟩
structure RowOk (H : Hp) (q : Int) (r : Addr) (ps : List (Int × Int)) : Prop where
  row : RowG (10 ^ 21) H q r ps
  len : ps.length ≤ 20
  rep : ∃ (D : Int) (f : Nat → Int), Reps q ps D f ∧ D.natAbs ≤ 10 ^ 40 ∧ ∀ i, i < ps.length → (f i).natAbs ≤ 10 ^ 61
theorem RowOk.mono {H H' : Hp} {q : Int} {r : Addr} {ps : List (Int × Int)} (h : RowOk H q r ps) (s : Same H H') : RowOk H' q r ps := ⟨h.row.mono s, h.len, h.rep⟩
theorem RowOk.farE {H H' : Hp} {q : Int} {P D r : Addr} {ys : List V} {ps : List (Int × Int)} (h : RowOk (er P H) q r ps) (nD : r ≠ D) (nP : r ≠ P) (eD : H D = some (.lst ys)) (k : ∀ b o, b ≠ D → b ≠ P → H b = some o → H' b = some o) : RowOk (er P H') q r ps := by
  refine ⟨?_, h.len, h.rep⟩
  obtain ⟨vs, e, l, f⟩ := h.row
  rw [er_ne nP] at e
  exact ⟨vs, er_some nP (k _ _ nD nP e), l, fun i v p h1 h2 => (f i v p h1 h2).farE eD k⟩
end My

/-! range downwards by one -/
namespace L2
open PySem PySem.Spec PyProof.Rows
section
variable {X : Cx} {tg : Expr}
end
end L2
namespace L2
open PySem PySem.Spec PyProof.Rows
end L2

/-! lists read from behind -/
namespace L2
open PySem PySem.Spec PyProof.Rows
theorem pick_all (its : List Value) : ∀ (L : List Nat), (∀ x ∈ L, x < its.length) → L.filterMap (fun x => its.toArray[x]?) = L.map fun x => its.getD x .none
  | [], _ => rfl
  | x :: L, h => by
    have hx := h x List.mem_cons_self
    rw [List.filterMap_cons_some (b := its.getD x .none), List.map_cons, pick_all its L fun y hy => h y (List.mem_cons_of_mem _ hy)]
    rw [List.getD_eq_getElem?_getD, show its[x]? = some its[x] by simp [hx]]
    simp [hx]
theorem slicePick_rev (its : List Value) : slicePick its.toArray none none (some (-1)) = its.reverse.toArray := by
  unfold slicePick
  have e : sliceRange (sliceBounds none none (some (-1)) its.toArray.size).fst (sliceBounds none none (some (-1)) its.toArray.size).snd.fst (sliceBounds none none (some (-1)) its.toArray.size).snd.snd = (List.range its.length).map fun k => its.length - 1 - k := by
    simp only [sliceBounds, Option.getD_some, show ¬ ((-1 : Int) > 0) by decide, if_false, List.size_toArray]
    unfold sliceRange
    simp only [show ¬ ((-1 : Int) > 0) by decide, if_false]
    have c : (if (its.length : Int) - 1 > -1 then ((its.length : Int) - 1 - -1 - -1 - 1) / - -1 else 0).toNat = its.length := by
      split
      · rw [show (- -1 : Int) = 1 from rfl, Int.ediv_one]
        omega
      · omega
    rw [c]
    refine List.map_congr_left fun k hk => ?_
    omega
  rw [e, pick_all its _ fun x hx => ?_]
  · congr 1
    rw [List.map_map]
    refine List.ext_getElem (by simp) fun k h1 h2 => ?_
    rw [List.getElem_map, List.getElem_range, List.getElem_reverse]
    have hk : its.length - 1 - k < its.length := by simp at h2; omega
    show its.getD (its.length - 1 - k) .none = _
    rw [List.getD_eq_getElem?_getD, show its[its.length - 1 - k]? = some its[its.length - 1 - k] by simp [hk]]
    rfl
  · obtain ⟨k, hk, rfl⟩ := List.mem_map.mp hx
    have := List.mem_range.mp hk
    omega
theorem Vals.rev {xs : List V} {us : List Value} (h : Vals xs us) : Vals xs.reverse us.reverse := by
  have hl := h.length
  refine paired_of (by simp [hl]) fun i x u h1 h2 => ?_
  have hi : i < xs.length := by simpa using (List.getElem?_eq_some_iff.mp h1).1
  rw [List.getElem?_reverse hi] at h1
  rw [List.getElem?_reverse (by omega), ← hl] at h2
  obtain ⟨u', e, r⟩ := h.get h1
  rw [h2] at e
  cases e
  exact r
section
variable {X : Cx} {e : Expr} {te : TE} {pos p2 : Pos}
def tRev (K : PySem.W.Frag) (te ts : TE) : TE := fun σ H Q => te σ H fun x H1 => ts σ H1 fun y H2 => y = .int (-1) ∧ ∃ a xs, x = .ref a ∧ SqL K H2 a xs ∧ ∀ p, H2 p = none → Q (.ref p) (upd H2 p (.lst xs.reverse))
theorem pe_rev {st : Expr} {ts : TE} (he : PE X e te) (hst : PE X st ts) : PE X (.Subscript e (.Slice none none (some st) p2) pos) (tRev X.K te ts) := by
  intro pins s σ H Q I h
  refine Subscript_ (thn (he pins s σ H _ I h) fun v s1 ⟨x, H1, I1, r1, q1⟩ => ?_)
  refine wpAny_Slice ?_
  rw [evalPart_none]
  refine wpAny_pure ?_
  refine wpAny_pure ?_
  rw [evalPart_some]
  refine thn (hst pins s1 σ H1 _ I1 q1) fun u s3 ⟨y, H3, I3, r3, q3⟩ => ?_
  obtain ⟨rfl, a, xs, rfl, hx, q⟩ := q3
  obtain ⟨t, rfl⟩ := r3
  cases r1
  have I4 : Inv X pins σ H3 { s3 with heap := s3.heap.push { cls := .type "slice", data := .fields #[.none, .none, .int (-1) t] } } := I3.kept (t' := s3.toks) fun b ob q => Heap.get?_push_of_some _ q
  obtain ⟨its, r, ht, hz⟩ := I4.list hx
  have hlen := r.length
  show wpAny (model X.prog X.w) X.A (subscriptTail e (.Slice none none (some st) p2) (.ref a) (.ref s3.heap.objs.size)) (EP X pins σ Q) X.xe { s3 with heap := s3.heap.push { cls := .type "slice", data := .fields #[.none, .none, .int (-1) t] } }
  refine tail_any (ops := [.ref a, .ref s3.heap.objs.size]) ht.isList.typeIs slot_list_getitem.lookup ?_ (by with_unfolding_all rfl)
  refine wpAny_getItem_list_slice ht.isList (Heap.IsSliceOf.new ..) .none .none (.int (-1) t) (by simp) ?_ (by rw [List.size_toArray] <;> omega)
  rw [slicePick_rev]
  refine ⟨.ref (s3.heap.push { cls := .type "slice", data := .fields #[.none, .none, .int (-1) t] }).objs.size, _, I4.laid (t' := s3.toks) (o := .lst xs.reverse) (fun b ob q => Heap.get?_push_of_some _ q) (Nat.le_refl _) ?_, rfl, q _ (I4.hok.fresh (Nat.le_refl _))⟩
  exact ⟨by rw [List.length_reverse]; exact hz, _, 0, r.rev, Heap.get?_push_size _ rfl⟩
end
end L2

/-! rows as tables -/
namespace My
open PySem L2
def spNever : Sp := fun _ _ _ _ => False
/-- a table of new rows, by the pairs of its numbers -/
def TabG (B : Nat) (H0 H : Hp) (q : Int) (r : Addr) (N : Nat) (f : Nat → List (Int × Int)) : Prop := ∃ vs : List V, H r = some (.lst vs) ∧ vs.length = N ∧ ∀ (i : Nat) (v : V), vs[i]? = some v → ∃ x : Addr, v = .ref x ∧ x ≠ r ∧ H0 x = none ∧ RowG B H q x (f i)
def shRow (ps : List (Int × Int)) (n i : Nat) : List (Int × Int) := (List.range n).map fun j => ps.getD (ps.length / 2 + i - j) o1
def tuRow (ps : List (Int × Int)) (i : Nat) : List (Int × Int) := (List.range ps.length).map fun (j : Nat) => ps.getD (((i : Int) - (j : Int)) % (ps.length : Int)).toNat o1
def ShBad (n : Nat) : Prop := n % 2 = 0 ∨ 80 ≤ n
def TuBad (n : Nat) : Prop := n = 0 ∨ 40 < n
def spShSize (N : Addr) : Sp := fun vs H Q E => ∃ (a : Addr) (xs : List V), vs = [.ref a] ∧ H a = some (.lst xs) ∧ xs.length ≤ 1000 ∧ (ShBad xs.length → E (.ref N) none H) ∧ (¬ ShBad xs.length → Q (.int (((xs.length + 1) / 2 : Nat) : Int)) H)
def spTuSize (N : Addr) : Sp := fun vs H Q E => ∃ (a : Addr) (xs : List V), vs = [.ref a] ∧ H a = some (.lst xs) ∧ xs.length ≤ 1000 ∧ (TuBad xs.length → E (.ref N) none H) ∧ (¬ TuBad xs.length → Q (.int (xs.length : Int)) H)
def spAim (N : Addr) : Sp := fun vs H Q E => ∃ (n : Nat) (a : Addr) (xs : List V), vs = [.int (n : Int), .ref a] ∧ H a = some (.lst xs) ∧ (xs.length ≠ n → E (.ref N) none H) ∧ (xs.length = n → Q .non H)
def spShRow : Sp := fun vs H Q _ => ∃ (a : Addr) (q : Int) (ps : List (Int × Int)) (B n i : Nat), vs = [.ref a, .int (i : Int), .int (n : Int)] ∧ RowG B H q a ps ∧ ps.length = 2 * n - 1 ∧ 1 ≤ n ∧ n ≤ 40 ∧ i < n ∧ ∀ (r : Addr) (H' : Hp), Same H H' → H r = none → RowG B H' q r (shRow ps n i) → Q (.ref r) H'
def spTuRow : Sp := fun vs H Q _ => ∃ (a : Addr) (q : Int) (ps : List (Int × Int)) (B i : Nat), vs = [.ref a, .int (i : Int)] ∧ RowG B H q a ps ∧ 1 ≤ ps.length ∧ ps.length ≤ 40 ∧ i < ps.length ∧ ∀ (r : Addr) (H' : Hp), Same H H' → H r = none → RowG B H' q r (tuRow ps i) → Q (.ref r) H'
def spShTab (N : Addr) : Sp := fun vs H Q E => ∃ (z : V) (a : Addr) (xs : List V), vs = [z, .ref a] ∧ H a = some (.lst xs) ∧ xs.length ≤ 1000 ∧ (ShBad xs.length → E (.ref N) none H) ∧
  (¬ ShBad xs.length → ∃ (q : Int) (ps : List (Int × Int)) (B : Nat), RowG B H q a ps ∧ ∀ (r : Addr) (H' : Hp), Same H H' → H r = none → TabG B H H' q r ((ps.length + 1) / 2) (shRow ps ((ps.length + 1) / 2)) → Q (.ref r) H')
def spTuTab (N : Addr) : Sp := fun vs H Q E => ∃ (z : V) (a : Addr) (xs : List V), vs = [z, .ref a] ∧ H a = some (.lst xs) ∧ xs.length ≤ 1000 ∧ (TuBad xs.length → E (.ref N) none H) ∧
  (¬ TuBad xs.length → ∃ (q : Int) (ps : List (Int × Int)) (B : Nat), RowG B H q a ps ∧ ∀ (r : Addr) (H' : Hp), Same H H' → H r = none → TabG B H H' q r ps.length (tuRow ps) → Q (.ref r) H')
/-- asked by a row that no such table is told by, or with an aim of another length -/
def spRefuse2 (N : Addr) : Sp := fun vs H _ E => ∃ (z : V) (a : Addr) (xs : List V), vs = [z, .ref a] ∧ H a = some (.lst xs) ∧ xs.length ≤ 1000 ∧ ShBad xs.length ∧ E (.ref N) none H
def spRefuse4 (N : Addr) : Sp := fun vs H _ E => ∃ (z : V) (a : Addr) (xs : List V) (u v : V), vs = [z, .ref a, u, v] ∧ H a = some (.lst xs) ∧ xs.length ≤ 1000 ∧ ShBad xs.length ∧ E (.ref N) none H
def spRefuseT (N : Addr) : Sp := fun vs H _ E => ∃ (z : V) (a : Addr) (xs : List V), vs = [z, .ref a] ∧ H a = some (.lst xs) ∧ xs.length ≤ 1000 ∧ TuBad xs.length ∧ E (.ref N) none H
def spRefuseSA (N : Addr) : Sp := fun vs H _ E => ∃ (z : V) (a b : Addr) (xs ys : List V), vs = [z, .ref a, .ref b] ∧ H a = some (.lst xs) ∧ H b = some (.lst ys) ∧ xs.length ≤ 1000 ∧ (ShBad xs.length ∨ ys.length ≠ (xs.length + 1) / 2) ∧ E (.ref N) none H
def spRefuseTA (N : Addr) : Sp := fun vs H _ E => ∃ (z : V) (a b : Addr) (xs ys : List V), vs = [z, .ref a, .ref b] ∧ H a = some (.lst xs) ∧ H b = some (.lst ys) ∧ xs.length ≤ 1000 ∧ (TuBad xs.length ∨ ys.length ≠ xs.length) ∧ E (.ref N) none H
end My
namespace My
open PySem L2
theorem TabG.mono {B : Nat} {H0 H H' : Hp} {q : Int} {r : Addr} {N : Nat} {f : Nat → List (Int × Int)} (h : TabG B H0 H q r N f) (s : Same H H') : TabG B H0 H' q r N f := by
  obtain ⟨vs, e, l, k⟩ := h
  exact ⟨vs, s _ _ e, l, fun i v hv => by
    obtain ⟨x, e1, e2, e3, e4⟩ := k i v hv
    exact ⟨x, e1, e2, e3, e4.mono s⟩⟩
theorem shRow_len (ps : List (Int × Int)) (n i : Nat) : (shRow ps n i).length = n := by simp [shRow]
theorem tuRow_len (ps : List (Int × Int)) (i : Nat) : (tuRow ps i).length = ps.length := by simp [tuRow]
theorem shRow_next (ps : List (Int × Int)) (m i : Nat) : shRow ps (m + 1) (i + 1) = ps.getD (ps.length / 2 + (i + 1)) o1 :: (shRow ps (m + 1) i).take m := by
  unfold shRow
  refine List.ext_getElem (by simp) fun j h1 h2 => ?_
  cases j with
  | zero => simp
  | succ j =>
    simp at h1
    simp [show ps.length / 2 + (i + 1) - (j + 1) = ps.length / 2 + i - j by omega]
theorem shRow_first {ps : List (Int × Int)} {m : Nat} (h : m < ps.length) (hm : ps.length / 2 = m) : shRow ps (m + 1) 0 = (ps.take (m + 1)).reverse := by
  unfold shRow
  refine List.ext_getElem (by simp; omega) fun j h1 h2 => ?_
  simp at h1
  rw [List.getElem_map, List.getElem_range, List.getElem_reverse, List.getElem_take, getD_at (by omega)]
  congr 1
  simp
  omega
theorem tuRow_first {p : Int × Int} {ps : List (Int × Int)} : tuRow (p :: ps) 0 = [p] ++ ps.reverse := by
  unfold tuRow
  refine List.ext_getElem (by simp) fun j h1 h2 => ?_
  simp at h1
  rw [List.getElem_map, List.getElem_range]
  cases j with
  | zero => simp
  | succ j =>
    have e : ((((0 : Nat) : Int) - ((j + 1 : Nat) : Int)) % ((p :: ps).length : Int)).toNat = ps.length - j := by
      rw [← Int.add_emod_right, Int.emod_eq_of_lt (by simp; omega) (by simp; omega)]
      simp
      omega
    rw [e, getD_at (by simp; omega)]
    simp only [List.singleton_append, List.getElem_cons_succ, List.getElem_reverse]
    rw [List.getElem_cons, dif_neg (by omega)]
    congr 1
    omega
theorem tuRow_next {ps : List (Int × Int)} (hp : 1 ≤ ps.length) (i : Nat) : tuRow ps (i + 1) = (tuRow ps i).drop (ps.length - 1) ++ (tuRow ps i).dropLast := by
  have l := tuRow_len ps i
  refine List.ext_getElem (by rw [tuRow_len, List.length_append, List.length_drop, List.length_dropLast, l]; omega) fun j h1 h2 => ?_
  rw [tuRow_len] at h1
  have ge : ∀ (i j : Nat) (h : j < (tuRow ps i).length), (tuRow ps i)[j] = ps.getD (((i : Int) - (j : Int)) % (ps.length : Int)).toNat o1 := fun i j h => by simp [tuRow]
  rw [ge]
  by_cases z : j = 0
  · subst z
    rw [List.getElem_append_left (by rw [List.length_drop, l]; omega), List.getElem_drop, ge]
    congr 2
    rw [show ((i + 1 : Nat) : Int) - ((0 : Nat) : Int) = (i : Int) - ((ps.length - 1 + 0 : Nat) : Int) + (ps.length : Int) by omega, Int.add_emod_right]
  · rw [List.getElem_append_right (by rw [List.length_drop, l]; omega), List.getElem_dropLast, ge]
    congr 2
    rw [List.length_drop, l]
    congr 1
    omega
end My
namespace My
open PySem L2
/-- values and the parts of their numbers -/
def RelN (B : Nat) (H : Hp) (q : Int) (vs : List V) (ps : List (Int × Int)) : Prop := vs.length = ps.length ∧ ∀ (i : Nat) (v : V) (p : Int × Int), vs[i]? = some v → ps[i]? = some p → NumAt B H q v p.1 p.2
theorem RelN.row {B : Nat} {H : Hp} {q : Int} {vs : List V} {ps : List (Int × Int)} {r : Addr} (h : RelN B H q vs ps) (e : H r = some (.lst vs)) : RowG B H q r ps := ⟨vs, e, h.1, h.2⟩
theorem RowG.rel {B : Nat} {H : Hp} {q : Int} {ps : List (Int × Int)} {r : Addr} {vs : List V} (h : RowG B H q r ps) (e : H r = some (.lst vs)) : RelN B H q vs ps := by
  obtain ⟨us, e1, l, k⟩ := h
  rw [e] at e1
  cases e1
  exact ⟨l, k⟩
theorem RelN.mono {B : Nat} {H H' : Hp} {q : Int} {vs : List V} {ps : List (Int × Int)} (h : RelN B H q vs ps) (s : Same H H') : RelN B H' q vs ps := ⟨h.1, fun i v p h1 h2 => (h.2 i v p h1 h2).mono s⟩
theorem RelN.take {B : Nat} {H : Hp} {q : Int} {vs : List V} {ps : List (Int × Int)} (h : RelN B H q vs ps) (k : Nat) : RelN B H q (vs.take k) (ps.take k) := by
  refine ⟨by simp [h.1], fun i v p h1 h2 => ?_⟩
  have hi : i < k := by
    have := (List.getElem?_eq_some_iff.mp h1).1
    rw [List.length_take] at this
    omega
  rw [List.getElem?_take_of_lt hi] at h1 h2
  exact h.2 i v p h1 h2
theorem RelN.drop {B : Nat} {H : Hp} {q : Int} {vs : List V} {ps : List (Int × Int)} (h : RelN B H q vs ps) (k : Nat) : RelN B H q (vs.drop k) (ps.drop k) := by
  refine ⟨by simp [h.1], fun i v p h1 h2 => ?_⟩
  rw [List.getElem?_drop] at h1 h2
  exact h.2 _ v p h1 h2
theorem RelN.rev {B : Nat} {H : Hp} {q : Int} {vs : List V} {ps : List (Int × Int)} (h : RelN B H q vs ps) : RelN B H q vs.reverse ps.reverse := by
  have hl := h.1
  refine ⟨by simp [h.1], fun i v p h1 h2 => ?_⟩
  have hi : i < vs.length := by simpa using (List.getElem?_eq_some_iff.mp h1).1
  rw [List.getElem?_reverse hi] at h1
  rw [List.getElem?_reverse (by omega), ← hl] at h2
  exact h.2 _ v p h1 h2
theorem RelN.app {B : Nat} {H : Hp} {q : Int} {vs us : List V} {ps rs : List (Int × Int)} (h : RelN B H q vs ps) (h' : RelN B H q us rs) : RelN B H q (vs ++ us) (ps ++ rs) := by
  have hl := h.1
  refine ⟨by simp [h.1, h'.1], fun i v p h1 h2 => ?_⟩
  by_cases hi : i < vs.length
  · rw [List.getElem?_append_left hi] at h1
    rw [List.getElem?_append_left (by omega)] at h2
    exact h.2 i v p h1 h2
  · rw [List.getElem?_append_right (by omega)] at h1
    rw [List.getElem?_append_right (by omega), ← hl] at h2
    exact h'.2 _ v p h1 h2
theorem RelN.one {B : Nat} {H : Hp} {q : Int} {v : V} {p : Int × Int} (h : NumAt B H q v p.1 p.2) : RelN B H q [v] [p] := ⟨rfl, fun i v' p' h1 h2 => by
  match i, h1, h2 with
  | 0, h1, h2 => cases h1; cases h2; exact h
  | i + 1, h1, h2 => cases h1⟩
theorem RelN.at {B : Nat} {H : Hp} {q : Int} {vs : List V} {ps : List (Int × Int)} (h : RelN B H q vs ps) {i : Nat} (hi : i < vs.length) : NumAt B H q vs[i] (ps.getD i o1).1 (ps.getD i o1).2 := by
  have hp : i < ps.length := by have := h.1; omega
  rw [getD_at hp]
  exact h.2 i vs[i] ps[i] (by simp [hi]) (by simp [hp])
theorem TabG.push {B : Nat} {H0 H : Hp} {q : Int} {d x : Addr} {N : Nat} {f : Nat → List (Int × Int)} {vs : List V} (h : TabG B H0 H q d N f) (e : H d = some (.lst vs)) (nx : H0 x = none) (ne : x ≠ d) (hx : RowG B H q x (f N)) : TabG B H0 (upd H d (.lst (vs ++ [.ref x]))) q d (N + 1) f := by
  obtain ⟨us, e1, l, k⟩ := h
  rw [e] at e1
  cases e1
  have far : ∀ b o, b ≠ d → H b = some o → upd H d (.lst (vs ++ [.ref x])) b = some o := fun b o nb eb => by rw [upd_ne nb]; exact eb
  refine ⟨_, upd_same, by simp [l], fun i v hv => ?_⟩
  by_cases hi : i < vs.length
  · rw [List.getElem?_append_left hi] at hv
    obtain ⟨y, e1, e2, e3, vs', e4, e5, e6⟩ := k i v hv
    exact ⟨y, e1, e2, e3, vs', far _ _ e2 e4, e5, fun j w p h1 h2 => (e6 j w p h1 h2).far e far⟩
  · rw [List.getElem?_append_right (by omega)] at hv
    have hi2 : i = vs.length := by
      have := (List.getElem?_eq_some_iff.mp hv).1
      simp at this
      omega
    rw [hi2, Nat.sub_self] at hv
    cases hv
    rw [hi2, l]
    obtain ⟨vs', e4, e5, e6⟩ := hx
    exact ⟨x, rfl, ne, nx, vs', far _ _ ne e4, e5, fun j w p h1 h2 => (e6 j w p h1 h2).far e far⟩
def spShDue : Sp := fun vs H Q _ => ∃ (a : Addr) (q : Int) (ps : List (Int × Int)) (B m : Nat), vs = [.ref a] ∧ RowG B H q a ps ∧ ps.length = 2 * m + 1 ∧ m < 40 ∧ ∀ (r : Addr) (H' : Hp), Same H H' → H r = none → TabG B H H' q r (m + 1) (shRow ps (m + 1)) → Q (.ref r) H'
def spTuDue : Sp := fun vs H Q _ => ∃ (a : Addr) (q : Int) (ps : List (Int × Int)) (B : Nat), vs = [.ref a] ∧ RowG B H q a ps ∧ 1 ≤ ps.length ∧ ps.length ≤ 40 ∧ ∀ (r : Addr) (H' : Hp), Same H H' → H r = none → TabG B H H' q r ps.length (tuRow ps) → Q (.ref r) H'
end My
namespace My
open PySem L2
def spTabR : Sp := fun vs H Q _ => ∃ (td f d : Addr) (q : Int) (N : Nat) (F : Nat → List (Int × Int)) (B : Nat) (H0 H1 : Hp), vs = [.ref td, .ref f, .ref d] ∧ ToldAt H td q ∧ WheelN q ∧ TabG B H0 H q f N F ∧ TabG B H1 H q d N F ∧ N ≤ 40 ∧ (∀ i, (F i).length ≤ 100) ∧ B ≤ 10 ^ 300 ∧ ∀ H', Same H H' → Q (.bl true) H'
def BadAt (c : Int) (n m : Nat) : Prop := ((c = 0 ∨ c = 1 ∨ c = 3) ∧ ShBad n) ∨ (c = 2 ∧ (ShBad n ∨ m ≠ (n + 1) / 2)) ∨ ((c = 4 ∨ c = 5) ∧ TuBad n) ∨ (c = 6 ∧ (TuBad n ∨ m ≠ n))
def spAsked (C N : Addr) : Sp := fun vs H _ E => ∃ (c : Int) (z a b : Addr) (q : Int) (xs ys : List V), vs = [.int c, .ref z, .ref a, .ref b] ∧ WorldAt C H z q ∧ WheelN q ∧ H a = some (.lst xs) ∧ H b = some (.lst ys) ∧ xs.length ≤ 1000 ∧ BadAt c xs.length ys.length ∧ ∀ H', Same H H' → E (.ref N) none H'
def spRefd (C : Addr) : Sp := fun vs H Q _ => ∃ (c : Int) (z a b : Addr) (q : Int) (xs ys : List V), vs = [.int c, .ref z, .ref a, .ref b] ∧ WorldAt C H z q ∧ WheelN q ∧ H a = some (.lst xs) ∧ H b = some (.lst ys) ∧ xs.length ≤ 1000 ∧ BadAt c xs.length ys.length ∧ ∀ H', Same H H' → Q (.bl true) H'
theorem RowG.farD {B : Nat} {H H' : Hp} {q : Int} {a D : Addr} {ps : List (Int × Int)} {ys : List V} (h : RowG B H q a ps) (n : a ≠ D) (eD : H D = some (.lst ys)) (k : ∀ b o, b ≠ D → H b = some o → H' b = some o) : RowG B H' q a ps := by
  obtain ⟨vs, e, l, f⟩ := h
  exact ⟨vs, k _ _ n e, l, fun i v p h1 h2 => (f i v p h1 h2).far eD k⟩
theorem TabG.farD {B : Nat} {H0 H H' : Hp} {q : Int} {r D : Addr} {N : Nat} {f : Nat → List (Int × Int)} {ys : List V} (h : TabG B H0 H q r N f) (n : r ≠ D) (n0 : H0 D ≠ none) (eD : H D = some (.lst ys)) (k : ∀ b o, b ≠ D → H b = some o → H' b = some o) : TabG B H0 H' q r N f := by
  obtain ⟨vs, e, l, g⟩ := h
  exact ⟨vs, k _ _ n e, l, fun i v hv => by
    obtain ⟨x, e1, e2, e3, e4⟩ := g i v hv
    exact ⟨x, e1, e2, e3, e4.farD (fun e => n0 (by rw [← e]; exact e3)) eD k⟩⟩
theorem RelN.set {B : Nat} {H : Hp} {q : Int} {vs : List V} {ps : List (Int × Int)} (h : RelN B H q vs ps) {v : V} {p : Int × Int} (hv : NumAt B H q v p.1 p.2) (x : Nat) : RelN B H q (vs.set x v) (ps.set x p) := by
  refine ⟨by simp [h.1], fun i w r h1 h2 => ?_⟩
  by_cases z : x = i
  · subst z
    have hx : x < vs.length := by simpa using (List.getElem?_eq_some_iff.mp h1).1
    rw [List.getElem?_set_self hx] at h1
    rw [List.getElem?_set_self (by have := h.1; omega)] at h2
    cases h1
    cases h2
    exact hv
  · rw [List.getElem?_set_ne z] at h1 h2
    exact h.2 i w r h1 h2
theorem RelN.far {B : Nat} {H H' : Hp} {q : Int} {vs : List V} {ps : List (Int × Int)} {D : Addr} {ys : List V} (h : RelN B H q vs ps) (eD : H D = some (.lst ys)) (k : ∀ b o, b ≠ D → H b = some o → H' b = some o) : RelN B H' q vs ps := ⟨h.1, fun i v p h1 h2 => (h.2 i v p h1 h2).far eD k⟩
end My

set_option maxRecDepth 100000
set_option maxHeartbeats 4000000
namespace My
open PySem L2
def top (i : Nat) : Stmt := PySem.Challenge.pw_bandwright_k56_rows_as_tables_and_refuse.main.body.getD i (.Pass ⟨0, 0, 0, 0⟩)
abbrev s_is_whole : Stmt := top 40
abbrev s_common_divisor : Stmt := top 42
abbrev s_is_prime : Stmt := top 43
abbrev s_ratio : Stmt := top 45
abbrev s_remainder_back : Stmt := top 50
abbrev s_remainder_over : Stmt := top 51
abbrev s_is_fractions : Stmt := top 54
abbrev s_is_wheel : Stmt := top 55
abbrev s_padded : Stmt := top 17
abbrev s_numbers_of : Stmt := top 18
abbrev s_poly_times : Stmt := top 19
abbrev s_parted : Stmt := top 20
abbrev s_common : Stmt := top 21
abbrev s_check_aim : Stmt := top 24
abbrev s_shifted_size : Stmt := top 26
abbrev s_shifted_row : Stmt := top 27
abbrev s_shifted_table : Stmt := top 28
abbrev s_next_pair : Stmt := top 30
abbrev s_whole_pairs : Stmt := top 31
abbrev s_told_pair : Stmt := top 32
abbrev s_growth : Stmt := top 33
abbrev s_grown : Stmt := top 34
abbrev s_whole_answer : Stmt := top 35
abbrev s_shifted_undone : Stmt := top 36
abbrev s_turned_size : Stmt := top 58
abbrev s_turned_row : Stmt := top 59
abbrev s_turned_table : Stmt := top 60
abbrev s_whole_turn : Stmt := top 61
abbrev s_turned_undone : Stmt := top 62
abbrev s_turned_back : Stmt := top 63
abbrev s_law_e_fill : Stmt := top 65
abbrev s_law_e_next : Stmt := top 66
abbrev s_law_e_low : Stmt := top 67
abbrev s_law_e_of : Stmt := top 68
abbrev s_law_e_plus : Stmt := top 69
abbrev s_law_e_is_number : Stmt := top 71
abbrev s_law_e_is_row : Stmt := top 72
abbrev s_law_e_world : Stmt := top 73
abbrev s_law_e_number : Stmt := top 74
abbrev s_law_e_shifted_due : Stmt := top 75
abbrev s_law_e_turned_due : Stmt := top 76
abbrev s_law_e_table_right : Stmt := top 77
abbrev s_law_e_tables_right : Stmt := top 78
abbrev s_law_e_asked : Stmt := top 79
abbrev s_law_e_refused : Stmt := top 80
abbrev s_law_e_all_refused : Stmt := top 81
abbrev s_law : Stmt := top 82
abbrev s_World___init__ : Stmt := inClass (top 56) 0
abbrev s_World_of : Stmt := inClass (top 56) 3
abbrev s_World_as_wholes : Stmt := inClass (top 56) 8
structure Adr where
  f_is_whole : Addr
  d_is_whole : FuncData
  f_common_divisor : Addr
  d_common_divisor : FuncData
  f_is_prime : Addr
  d_is_prime : FuncData
  f_ratio : Addr
  d_ratio : FuncData
  f_remainder_back : Addr
  d_remainder_back : FuncData
  f_remainder_over : Addr
  d_remainder_over : FuncData
  f_is_fractions : Addr
  d_is_fractions : FuncData
  f_is_wheel : Addr
  d_is_wheel : FuncData
  f_padded : Addr
  d_padded : FuncData
  f_numbers_of : Addr
  d_numbers_of : FuncData
  f_poly_times : Addr
  d_poly_times : FuncData
  f_parted : Addr
  d_parted : FuncData
  f_common : Addr
  d_common : FuncData
  f_check_aim : Addr
  d_check_aim : FuncData
  f_shifted_size : Addr
  d_shifted_size : FuncData
  f_shifted_row : Addr
  d_shifted_row : FuncData
  f_shifted_table : Addr
  d_shifted_table : FuncData
  f_next_pair : Addr
  d_next_pair : FuncData
  f_whole_pairs : Addr
  d_whole_pairs : FuncData
  f_told_pair : Addr
  d_told_pair : FuncData
  f_growth : Addr
  d_growth : FuncData
  f_grown : Addr
  d_grown : FuncData
  f_whole_answer : Addr
  d_whole_answer : FuncData
  f_shifted_undone : Addr
  d_shifted_undone : FuncData
  f_turned_size : Addr
  d_turned_size : FuncData
  f_turned_row : Addr
  d_turned_row : FuncData
  f_turned_table : Addr
  d_turned_table : FuncData
  f_whole_turn : Addr
  d_whole_turn : FuncData
  f_turned_undone : Addr
  d_turned_undone : FuncData
  f_turned_back : Addr
  d_turned_back : FuncData
  f_law_e_fill : Addr
  d_law_e_fill : FuncData
  f_law_e_next : Addr
  d_law_e_next : FuncData
  f_law_e_low : Addr
  d_law_e_low : FuncData
  f_law_e_of : Addr
  d_law_e_of : FuncData
  f_law_e_plus : Addr
  d_law_e_plus : FuncData
  f_law_e_is_number : Addr
  d_law_e_is_number : FuncData
  f_law_e_is_row : Addr
  d_law_e_is_row : FuncData
  f_law_e_world : Addr
  d_law_e_world : FuncData
  f_law_e_number : Addr
  d_law_e_number : FuncData
  f_law_e_shifted_due : Addr
  d_law_e_shifted_due : FuncData
  f_law_e_turned_due : Addr
  d_law_e_turned_due : FuncData
  f_law_e_table_right : Addr
  d_law_e_table_right : FuncData
  f_law_e_tables_right : Addr
  d_law_e_tables_right : FuncData
  f_law_e_asked : Addr
  d_law_e_asked : FuncData
  f_law_e_refused : Addr
  d_law_e_refused : FuncData
  f_law_e_all_refused : Addr
  d_law_e_all_refused : FuncData
  f_law : Addr
  d_law : FuncData
  f_World___init__ : Addr
  d_World___init__ : FuncData
  f_World_of : Addr
  d_World_of : FuncData
  f_World_as_wholes : Addr
  d_World_as_wholes : FuncData
  C_World : Addr
  C_NoWorld : Addr
  C_NoOver : Addr
  C_NoOrder : Addr
  C_WrightError : Addr
  C_NoFit : Addr
structure Txt (K : PySem.W.Frag) (mg : Str → Option Value) (t : Adr) : Prop where
  F_is_whole : Fun K "is_whole" "is_whole" s_is_whole t.f_is_whole t.d_is_whole
  b_is_whole : Binds K t.d_is_whole ["thing"] []
  mg_is_whole : mg "is_whole" = some (.ref t.f_is_whole)
  F_common_divisor : Fun K "common_divisor" "common_divisor" s_common_divisor t.f_common_divisor t.d_common_divisor
  b_common_divisor : Binds K t.d_common_divisor ["one", "other"] []
  mg_common_divisor : mg "common_divisor" = some (.ref t.f_common_divisor)
  F_is_prime : Fun K "is_prime" "is_prime" s_is_prime t.f_is_prime t.d_is_prime
  b_is_prime : Binds K t.d_is_prime ["number"] []
  mg_is_prime : mg "is_prime" = some (.ref t.f_is_prime)
  F_ratio : Fun K "ratio" "ratio" s_ratio t.f_ratio t.d_ratio
  b_ratio : Binds K t.d_ratio ["top", "bottom"] []
  mg_ratio : mg "ratio" = some (.ref t.f_ratio)
  F_remainder_back : Fun K "remainder_back" "remainder_back" s_remainder_back t.f_remainder_back t.d_remainder_back
  b_remainder_back : Binds K t.d_remainder_back ["prime", "number"] []
  mg_remainder_back : mg "remainder_back" = some (.ref t.f_remainder_back)
  F_remainder_over : Fun K "remainder_over" "remainder_over" s_remainder_over t.f_remainder_over t.d_remainder_over
  b_remainder_over : Binds K t.d_remainder_over ["prime", "a", "b"] []
  mg_remainder_over : mg "remainder_over" = some (.ref t.f_remainder_over)
  F_is_fractions : Fun K "is_fractions" "is_fractions" s_is_fractions t.f_is_fractions t.d_is_fractions
  b_is_fractions : Binds K t.d_is_fractions ["told"] []
  mg_is_fractions : mg "is_fractions" = some (.ref t.f_is_fractions)
  F_is_wheel : Fun K "is_wheel" "is_wheel" s_is_wheel t.f_is_wheel t.d_is_wheel
  b_is_wheel : Binds K t.d_is_wheel ["told"] []
  mg_is_wheel : mg "is_wheel" = some (.ref t.f_is_wheel)
  F_padded : Fun K "padded" "padded" s_padded t.f_padded t.d_padded
  b_padded : Binds K t.d_padded ["world", "row", "many"] []
  mg_padded : mg "padded" = some (.ref t.f_padded)
  F_numbers_of : Fun K "numbers_of" "numbers_of" s_numbers_of t.f_numbers_of t.d_numbers_of
  b_numbers_of : Binds K t.d_numbers_of ["world", "wholes", "times", "bottom"] []
  mg_numbers_of : mg "numbers_of" = some (.ref t.f_numbers_of)
  F_poly_times : Fun K "poly_times" "poly_times" s_poly_times t.f_poly_times t.d_poly_times
  b_poly_times : Binds K t.d_poly_times ["world", "one", "other"] []
  mg_poly_times : mg "poly_times" = some (.ref t.f_poly_times)
  F_parted : Fun K "parted" "parted" s_parted t.f_parted t.d_parted
  b_parted : Binds K t.d_parted ["world", "one", "other"] []
  mg_parted : mg "parted" = some (.ref t.f_parted)
  F_common : Fun K "common" "common" s_common t.f_common t.d_common
  b_common : Binds K t.d_common ["world", "one", "other"] []
  mg_common : mg "common" = some (.ref t.f_common)
  F_check_aim : Fun K "check_aim" "check_aim" s_check_aim t.f_check_aim t.d_check_aim
  b_check_aim : Binds K t.d_check_aim ["n", "aim"] []
  mg_check_aim : mg "check_aim" = some (.ref t.f_check_aim)
  F_shifted_size : Fun K "shifted_size" "shifted_size" s_shifted_size t.f_shifted_size t.d_shifted_size
  b_shifted_size : Binds K t.d_shifted_size ["row"] []
  mg_shifted_size : mg "shifted_size" = some (.ref t.f_shifted_size)
  F_shifted_row : Fun K "shifted_row" "shifted_row" s_shifted_row t.f_shifted_row t.d_shifted_row
  b_shifted_row : Binds K t.d_shifted_row ["row", "i", "many"] []
  mg_shifted_row : mg "shifted_row" = some (.ref t.f_shifted_row)
  F_shifted_table : Fun K "shifted_table" "shifted_table" s_shifted_table t.f_shifted_table t.d_shifted_table
  b_shifted_table : Binds K t.d_shifted_table ["world", "row"] []
  mg_shifted_table : mg "shifted_table" = some (.ref t.f_shifted_table)
  F_next_pair : Fun K "next_pair" "next_pair" s_next_pair t.f_next_pair t.d_next_pair
  b_next_pair : Binds K t.d_next_pair ["world", "row", "pair", "last"] []
  mg_next_pair : mg "next_pair" = some (.ref t.f_next_pair)
  F_whole_pairs : Fun K "whole_pairs" "whole_pairs" s_whole_pairs t.f_whole_pairs t.d_whole_pairs
  b_whole_pairs : Binds K t.d_whole_pairs ["world", "row"] []
  mg_whole_pairs : mg "whole_pairs" = some (.ref t.f_whole_pairs)
  F_told_pair : Fun K "told_pair" "told_pair" s_told_pair t.f_told_pair t.d_told_pair
  b_told_pair : Binds K t.d_told_pair ["world", "pair", "bottom"] []
  mg_told_pair : mg "told_pair" = some (.ref t.f_told_pair)
  F_growth : Fun K "growth" "growth" s_growth t.f_growth t.d_growth
  b_growth : Binds K t.d_growth ["world", "row"] []
  mg_growth : mg "growth" = some (.ref t.f_growth)
  F_grown : Fun K "grown" "grown" s_grown t.f_grown t.d_grown
  b_grown : Binds K t.d_grown ["world", "row", "front", "back"] []
  mg_grown : mg "grown" = some (.ref t.f_grown)
  F_whole_answer : Fun K "whole_answer" "whole_answer" s_whole_answer t.f_whole_answer t.d_whole_answer
  b_whole_answer : Binds K t.d_whole_answer ["world", "row", "pairs", "aim"] []
  mg_whole_answer : mg "whole_answer" = some (.ref t.f_whole_answer)
  F_shifted_undone : Fun K "shifted_undone" "shifted_undone" s_shifted_undone t.f_shifted_undone t.d_shifted_undone
  b_shifted_undone : Binds K t.d_shifted_undone ["world", "row", "aim"] []
  mg_shifted_undone : mg "shifted_undone" = some (.ref t.f_shifted_undone)
  F_turned_size : Fun K "turned_size" "turned_size" s_turned_size t.f_turned_size t.d_turned_size
  b_turned_size : Binds K t.d_turned_size ["row"] []
  mg_turned_size : mg "turned_size" = some (.ref t.f_turned_size)
  F_turned_row : Fun K "turned_row" "turned_row" s_turned_row t.f_turned_row t.d_turned_row
  b_turned_row : Binds K t.d_turned_row ["row", "i"] []
  mg_turned_row : mg "turned_row" = some (.ref t.f_turned_row)
  F_turned_table : Fun K "turned_table" "turned_table" s_turned_table t.f_turned_table t.d_turned_table
  b_turned_table : Binds K t.d_turned_table ["world", "row"] []
  mg_turned_table : mg "turned_table" = some (.ref t.f_turned_table)
  F_whole_turn : Fun K "whole_turn" "whole_turn" s_whole_turn t.f_whole_turn t.d_whole_turn
  b_whole_turn : Binds K t.d_whole_turn ["world", "n"] []
  mg_whole_turn : mg "whole_turn" = some (.ref t.f_whole_turn)
  F_turned_undone : Fun K "turned_undone" "turned_undone" s_turned_undone t.f_turned_undone t.d_turned_undone
  b_turned_undone : Binds K t.d_turned_undone ["world", "row", "aim"] []
  mg_turned_undone : mg "turned_undone" = some (.ref t.f_turned_undone)
  F_turned_back : Fun K "turned_back" "turned_back" s_turned_back t.f_turned_back t.d_turned_back
  b_turned_back : Binds K t.d_turned_back ["world", "row"] []
  mg_turned_back : mg "turned_back" = some (.ref t.f_turned_back)
  F_law_e_fill : Fun K "_law_e_fill" "_law_e_fill" s_law_e_fill t.f_law_e_fill t.d_law_e_fill
  b_law_e_fill : Binds K t.d_law_e_fill ["cell", "at"] []
  mg_law_e_fill : mg "_law_e_fill" = some (.ref t.f_law_e_fill)
  F_law_e_next : Fun K "_law_e_next" "_law_e_next" s_law_e_next t.f_law_e_next t.d_law_e_next
  b_law_e_next : Binds K t.d_law_e_next ["pen", "many"] []
  mg_law_e_next : mg "_law_e_next" = some (.ref t.f_law_e_next)
  F_law_e_low : Fun K "_law_e_low" "_law_e_low" s_law_e_low t.f_law_e_low t.d_law_e_low
  b_law_e_low : Binds K t.d_law_e_low ["top", "bottom"] []
  mg_law_e_low : mg "_law_e_low" = some (.ref t.f_law_e_low)
  F_law_e_of : Fun K "_law_e_of" "_law_e_of" s_law_e_of t.f_law_e_of t.d_law_e_of
  b_law_e_of : Binds K t.d_law_e_of ["told", "number"] []
  mg_law_e_of : mg "_law_e_of" = some (.ref t.f_law_e_of)
  F_law_e_plus : Fun K "_law_e_plus" "_law_e_plus" s_law_e_plus t.f_law_e_plus t.d_law_e_plus
  b_law_e_plus : Binds K t.d_law_e_plus ["told", "a", "b"] []
  mg_law_e_plus : mg "_law_e_plus" = some (.ref t.f_law_e_plus)
  F_law_e_is_number : Fun K "_law_e_is_number" "_law_e_is_number" s_law_e_is_number t.f_law_e_is_number t.d_law_e_is_number
  b_law_e_is_number : Binds K t.d_law_e_is_number ["told", "a"] []
  mg_law_e_is_number : mg "_law_e_is_number" = some (.ref t.f_law_e_is_number)
  F_law_e_is_row : Fun K "_law_e_is_row" "_law_e_is_row" s_law_e_is_row t.f_law_e_is_row t.d_law_e_is_row
  b_law_e_is_row : Binds K t.d_law_e_is_row ["told", "found"] []
  mg_law_e_is_row : mg "_law_e_is_row" = some (.ref t.f_law_e_is_row)
  F_law_e_world : Fun K "_law_e_world" "_law_e_world" s_law_e_world t.f_law_e_world t.d_law_e_world
  b_law_e_world : Binds K t.d_law_e_world ["pen"] []
  mg_law_e_world : mg "_law_e_world" = some (.ref t.f_law_e_world)
  F_law_e_number : Fun K "_law_e_number" "_law_e_number" s_law_e_number t.f_law_e_number t.d_law_e_number
  b_law_e_number : Binds K t.d_law_e_number ["pen", "told", "far"] []
  mg_law_e_number : mg "_law_e_number" = some (.ref t.f_law_e_number)
  F_law_e_shifted_due : Fun K "_law_e_shifted_due" "_law_e_shifted_due" s_law_e_shifted_due t.f_law_e_shifted_due t.d_law_e_shifted_due
  b_law_e_shifted_due : Binds K t.d_law_e_shifted_due ["row"] []
  mg_law_e_shifted_due : mg "_law_e_shifted_due" = some (.ref t.f_law_e_shifted_due)
  F_law_e_turned_due : Fun K "_law_e_turned_due" "_law_e_turned_due" s_law_e_turned_due t.f_law_e_turned_due t.d_law_e_turned_due
  b_law_e_turned_due : Binds K t.d_law_e_turned_due ["row"] []
  mg_law_e_turned_due : mg "_law_e_turned_due" = some (.ref t.f_law_e_turned_due)
  F_law_e_table_right : Fun K "_law_e_table_right" "_law_e_table_right" s_law_e_table_right t.f_law_e_table_right t.d_law_e_table_right
  b_law_e_table_right : Binds K t.d_law_e_table_right ["told", "found", "due"] []
  mg_law_e_table_right : mg "_law_e_table_right" = some (.ref t.f_law_e_table_right)
  F_law_e_tables_right : Fun K "_law_e_tables_right" "_law_e_tables_right" s_law_e_tables_right t.f_law_e_tables_right t.d_law_e_tables_right
  b_law_e_tables_right : Binds K t.d_law_e_tables_right ["told", "world", "row", "at"] []
  mg_law_e_tables_right : mg "_law_e_tables_right" = some (.ref t.f_law_e_tables_right)
  F_law_e_asked : Fun K "_law_e_asked" "_law_e_asked" s_law_e_asked t.f_law_e_asked t.d_law_e_asked
  b_law_e_asked : Binds K t.d_law_e_asked ["door", "world", "row", "aim"] []
  mg_law_e_asked : mg "_law_e_asked" = some (.ref t.f_law_e_asked)
  F_law_e_refused : Fun K "_law_e_refused" "_law_e_refused" s_law_e_refused t.f_law_e_refused t.d_law_e_refused
  b_law_e_refused : Binds K t.d_law_e_refused ["door", "world", "row", "aim"] []
  mg_law_e_refused : mg "_law_e_refused" = some (.ref t.f_law_e_refused)
  F_law_e_all_refused : Fun K "_law_e_all_refused" "_law_e_all_refused" s_law_e_all_refused t.f_law_e_all_refused t.d_law_e_all_refused
  b_law_e_all_refused : Binds K t.d_law_e_all_refused ["pen", "world", "row"] []
  mg_law_e_all_refused : mg "_law_e_all_refused" = some (.ref t.f_law_e_all_refused)
  F_law : Fun K "law" "law" s_law t.f_law t.d_law
  b_law : Binds K t.d_law ["script"] []
  mg_law : mg "law" = some (.ref t.f_law)
  F_World___init__ : Fun K "__init__" "World.__init__" s_World___init__ t.f_World___init__ t.d_World___init__
  b_World___init__ : Binds K t.d_World___init__ ["self", "told"] []
  M_World : Mk K t.C_World t.f_World___init__
  F_World_of : FunD K "of" "World.of" s_World_of 1 t.f_World_of t.d_World_of
  b_World_of : Binds K t.d_World_of ["self", "top", "bottom"] []
  b1_World_of : ∃ v, Vals [V.int 1] [v] ∧ Binds K t.d_World_of ["self", "top", "bottom"] [v]
  bk_World_of : ∀ (s : Shared) (us ws : List Value), K.In s.heap → ws.length = 1 → us.length + 1 = (["self", "top", "bottom"] : List Str).length → BindsTo s t.d_World_of ⟨us, [("bottom" : Str)].zip ws⟩ ((["self", "top", "bottom"] : List Str).zip (us ++ ws))
  m_World_of : Meth K t.C_World "of" t.f_World_of
  F_World_as_wholes : Fun K "as_wholes" "World.as_wholes" s_World_as_wholes t.f_World_as_wholes t.d_World_as_wholes
  b_World_as_wholes : Binds K t.d_World_as_wholes ["self", "row"] []
  m_World_as_wholes : Meth K t.C_World "as_wholes" t.f_World_as_wholes
  cl_World : Cls K t.C_World
  mg_World : mg "World" = some (.ref t.C_World)
  na_World_prime : NoAttr K t.C_World "prime"
  mg_NoWorld : mg "NoWorld" = some (.ref t.C_NoWorld)
  mg_NoOver : mg "NoOver" = some (.ref t.C_NoOver)
  mg_NoOrder : mg "NoOrder" = some (.ref t.C_NoOrder)
  mg_WrightError : mg "WrightError" = some (.ref t.C_WrightError)
  mg_NoFit : mg "NoFit" = some (.ref t.C_NoFit)
  n_len : mg "len" = none
  n_isinstance : mg "isinstance" = none
  n_int : mg "int" = none
  n_bool : mg "bool" = none
  n_tuple : mg "tuple" = none
  n_list : mg "list" = none
  n_range : mg "range" = none
  n_abs : mg "abs" = none
  n_all : mg "all" = none
  n_enumerate : mg "enumerate" = none
  n_ValueError : mg "ValueError" = none
  mg_GREATEST_PRIME : ∃ u, mg "GREATEST_PRIME" = some u ∧ RelV (.int 997) u
  mg_LONG : ∃ u, mg "LONG" = some u ∧ RelV (.int 2048) u
  mg_MOST : ∃ u, mg "MOST" = some u ∧ RelV (.int 40) u
  x_NoWorld : PySem.W.excIn K t.C_NoWorld [.type "ValueError", .type "Exception", .type "BaseException", .type "object"] "ValueError.__new__" = true
  x_NoOver : PySem.W.excIn K t.C_NoOver [.type "ValueError", .type "Exception", .type "BaseException", .type "object"] "ValueError.__new__" = true
  x_NoFit : PySem.W.excIn K t.C_NoFit [.type "ValueError", .type "Exception", .type "BaseException", .type "object"] "ValueError.__new__" = true
  x_WrightError : PySem.W.excIn K t.C_WrightError [.type "ValueError", .type "Exception", .type "BaseException", .type "object"] "ValueError.__new__" = true
  m_NF_NF : PySem.W.mroIn K t.C_NoFit (.ref t.C_NoFit) = some true
  m_NF_WE : PySem.W.mroIn K t.C_NoFit (.ref t.C_WrightError) = some true
  k_VE : PySem.W.kitOne K (.ref t.C_NoFit) (.type "ValueError") = some true
  k_NF : PySem.W.kitOne K (.ref t.C_NoFit) (.ref t.C_NoFit) = some true
  k_NoWorld : PySem.W.kitOne K (.ref t.C_NoFit) (.ref t.C_NoWorld) = some false
  k_NoOver : PySem.W.kitOne K (.ref t.C_NoFit) (.ref t.C_NoOver) = some false
  k_NoOrder : PySem.W.kitOne K (.ref t.C_NoFit) (.ref t.C_NoOrder) = some false
  cx1 : PySem.W.hasDictIn K t.C_NoFit = true
  cx2 : PySem.W.findIn K (.ref t.C_NoFit) "__getattribute__" = some (some (.builtin "BaseException.__getattribute__"))
  cx3 : PySem.W.findIn K (.ref t.C_NoFit) "__getattr__" = some none
  cx4 : PySem.W.findIn K (.ref t.C_NoFit) "__class__" = some (some (.builtin "object.__class__"))
  cx5 : PySem.W.mroIn K t.C_NoFit (.type "object") = some true
  cx6 : PySem.W.mroIn K t.C_NoFit (.type "BaseException") = some true
section
variable {P : Program} {w : World} {K : PySem.W.Frag} {mg : Str → Option Value} {base : Heap} {t : Adr}
theorem sc_is_whole : FnScope ["thing"] ["thing"] (defScope s_is_whole) := ⟨rfl, rfl, rfl, by decide +kernel, rfl, by decide +kernel, by decide +kernel⟩
theorem ok_is_whole (T : Txt K mg t) : FnOk P w K mg base CX0 1 t.f_is_whole t.d_is_whole ["thing"] spWhole := by
  have S := sc_is_whole
  refine T.F_is_whole.ok S (fun vs H Q E h => ?_) (fun cdv A outer s H vs Q E hr h => ?_)
  · obtain ⟨v, rfl, _⟩ := h
    rfl
  · obtain ⟨v, rfl, ha, k⟩ := h
    refine ⟨_, (@pss_one _ _ _ (@ps_ret _ _ _ _ (@pe_and _ _ _ _ _ _ _ (pe_callB (call_isi (K := K)) rfl T.n_isinstance boot_isinstance (@pa_mor _ _ _ _ _ (by rfl) (pv 0) (@pa_mor _ _ _ _ _ (by rfl) (pe_bltn (v := .ty "int") rfl T.n_int boot_int rfl) pa_nil))) (@pe_one _ _ _ _ _ (@pe_not _ _ _ _ (pe_callB (call_isi (K := K)) rfl T.n_isinstance boot_isinstance (@pa_mor _ _ _ _ _ (by rfl) (pv 0) (@pa_mor _ _ _ _ _ (by rfl) (pe_bltn (v := .ty "bool") rfl T.n_bool boot_bool rfl) pa_nil)))))))), ?_⟩
    obtain ⟨Ty, ty, k1, k2, _⟩ := ha.kit (K := K)
    refine ⟨_, rfl, _, _, _, _, rfl, rfl, ty, k1, _, rfl, ite2 (fun h1 => ?_) (fun h1 => ?_)⟩
    · refine ⟨_, rfl, _, _, _, _, rfl, rfl, ty, k2, _, rfl, ?_⟩
      have e : (!isBlV v) = isIntV v := by
        cases h2 : isBlV v with
        | true => rw [bl_int h2]; rfl
        | false => rw [h2, Bool.or_false] at h1; rw [h1]; rfl
      show Q (.bl (!isBlV v)) H
      rw [e]
      exact k
    · have e : isIntV v = false := by
        cases h2 : isIntV v with
        | true => rw [h2] at h1; exact absurd rfl h1
        | false => rfl
      rw [e] at k
      exact k
theorem sc_common_divisor : FnScope ["one", "other", "left", "shorter"] ["one", "other"] (defScope s_common_divisor) := ⟨rfl, rfl, rfl, by decide +kernel, rfl, by decide +kernel, by decide +kernel⟩
theorem ok_common_divisor (T : Txt K mg t) : FnOk P w K mg base CX0 1 t.f_common_divisor t.d_common_divisor ["one", "other"] spGcd := by
  have S := sc_common_divisor
  obtain ⟨uL, hL, rL⟩ := T.mg_LONG
  refine T.F_common_divisor.ok S (fun vs H Q E h => ?_) (fun cdv A outer s H vs Q E hr h => ?_)
  · obtain ⟨a, b, rfl, _⟩ := h
    rfl
  · obtain ⟨a, b, rfl, mb, k⟩ := h
    refine ⟨_, (@pss_cons _ _ _ _ _ (@ps_put _ _ 0 _ _ _ _ (by rfl) (by first | exact .inl rfl | exact .inr rfl | assumption) S.nd rfl (Or.inl rfl) (pe_callB call_abs rfl T.n_abs boot_abs (@pa_mor _ _ _ _ _ (by rfl) (pv 0) pa_nil)))
      (@pss_cons _ _ _ _ _ (@ps_put _ _ 1 _ _ _ _ (by rfl) (by first | exact .inl rfl | exact .inr rfl | assumption) S.nd rfl (Or.inl rfl) (pe_callB call_abs rfl T.n_abs boot_abs (@pa_mor _ _ _ _ _ (by rfl) (pv 1) pa_nil)))
      (@pss_cons _ _ _ _ _ (@ps_while _ _ _ _ _ _ PassesOwn.never (@pt_cmpR _ _ _ _ _ _ _ _ op_gt (pv 1) pe_int (nomark _)) (@pss_cons _ _ _ _ _ (@ps_put _ _ 2 _ _ _ _ (by rfl) (by first | exact .inl rfl | exact .inr rfl | assumption) S.nd rfl (Or.inl rfl) (@pe_op _ _ _ _ _ _ _ _ op_mod (pv 0) (pv 1)))
      (@pss_cons _ _ _ _ _ (@ps_put _ _ 0 _ _ _ _ (by rfl) (by first | exact .inl rfl | exact .inr rfl | assumption) S.nd rfl (Or.inl rfl) (pv 1))
      (@pss_cons _ _ _ _ _ (@ps_put _ _ 1 _ _ _ _ (by rfl) (by first | exact .inl rfl | exact .inr rfl | assumption) S.nd rfl (Or.inl rfl) (pv 2))
      (@pss_one _ _ _ (@ps_if _ _ _ _ _ _ _ _ (@pt_cmpR _ _ _ _ _ _ _ _ op_gt (pe_bm0 PySem.F.plainAttrs_int PySem.F.slot_int_bit_length PySem.F.type_int_bit_length mt_bits (pv 0)) (pe_glob (v := .int 2048) rfl hL rL) (nomark _)) pss_never pss_nil))))))
      (@pss_one _ _ _ (@ps_ret _ _ _ _ (pv 0)))))), ?_⟩
    refine ⟨_, rfl, a, rfl, _, rfl, b, rfl, fun m σ H' => H' = H ∧ ∃ (x y : Nat) (v u : Option V), σ = [some (.int (x : Int)), some (.int (y : Int)), v, u] ∧ m = y ∧ y ≤ b.natAbs ∧ Nat.gcd x y = Int.gcd a b, ⟨b.natAbs, rfl, a.natAbs, b.natAbs, none, none, ?_, rfl, Nat.le_refl _, rfl⟩, ?_⟩
    · show [some (V.int (if a < 0 then -a else a)), some (V.int (if b < 0 then -b else b)), none, none] = _
      rw [abs_nat, abs_nat]
    · rintro m σ H' ⟨rfl, x, y, v, u, rfl, em, hb, hg⟩
      refine ⟨_, rfl, _, _, rfl, rfl, _, rfl, ite2 (fun hy => ?_) (fun hy => ?_)⟩
      · have hy : (0 : Int) < y := of_decide_eq_true hy
        refine ⟨fun σ' H2 => H2 = H' ∧ σ' = [some (.int (y : Int)), some (.int (((x % y : Nat)) : Int)), some (.int (((x % y : Nat)) : Int)), u], ?_, ?_⟩
        · rintro σ' H2 ⟨rfl, rfl⟩
          exact ⟨x % y, by rw [em]; exact Nat.mod_lt _ (by omega), rfl, y, x % y, _, _, rfl, rfl, Nat.le_trans (Nat.le_of_lt (Nat.mod_lt _ (by omega))) hb, by rw [gcd_step]; exact hg⟩
        · have hm : Mid (y : Int) := Nat.lt_of_le_of_lt (by rw [Int.natAbs_natCast]; exact hb) mb
          have hbt := bits_mid hm
          refine ⟨_, rfl, _, rfl, _, _, rfl, rfl, hy, _, rfl, _, rfl, _, rfl, rfl, _, rfl, rfl, _, _, rfl, rfl, _, rfl, ite2 (fun hz => ?_) (fun _ => ⟨rfl, rfl⟩)⟩
          have hz := of_decide_eq_true hz
          exact absurd hz (by omega)
      · have hy : ¬ (0 : Int) < y := fun z => hy (decide_eq_true z)
        have y0 : y = 0 := by omega
        subst y0
        rw [Nat.gcd_zero_right] at hg
        rw [← hg] at k
        exact ⟨_, rfl, k⟩
theorem sc_is_prime : FnScope ["number", "divisor"] ["number"] (defScope s_is_prime) := ⟨rfl, rfl, rfl, by decide +kernel, rfl, by decide +kernel, by decide +kernel⟩
theorem ok_is_prime (T : Txt K mg t) : FnOk P w K mg base CX0 1 t.f_is_prime t.d_is_prime ["number"] spPrime := by
  have S := sc_is_prime
  refine T.F_is_prime.ok S (fun vs H Q E h => ?_) (fun cdv A outer s H vs Q E hr h => ?_)
  · obtain ⟨n, rfl, _⟩ := h
    rfl
  · obtain ⟨n, rfl, hn1, hn2, k⟩ := h
    refine ⟨_, (@pss_cons _ _ _ _ _ (@ps_put _ _ 1 _ _ _ _ (by rfl) (by first | exact .inl rfl | exact .inr rfl | assumption) S.nd rfl (Or.inl rfl) pe_int)
      (@pss_cons _ _ _ _ _ (@ps_while _ _ _ _ _ _ PassesOwn.never (@pt_cmpR _ _ _ _ _ _ _ _ op_le (@pe_op _ _ _ _ _ _ _ _ op_mul (pv 1) (pv 1)) (pv 0) (nomark _)) (@pss_cons _ _ _ _ _ (@ps_if _ _ _ _ _ _ _ _ (@pt_cmpR _ _ _ _ _ _ _ _ op_eq (@pe_op _ _ _ _ _ _ _ _ op_mod (pv 0) (pv 1)) pe_int (nomark _)) (@pss_one _ _ _ (@ps_ret _ _ _ _ pe_bl)) pss_nil)
      (@pss_one _ _ _ (ps_aug (i := 1) S.nd rfl (Or.inl rfl) pe_int ip_add))))
      (@pss_one _ _ _ (@ps_ret _ _ _ _ (@pe_cmpR _ _ _ _ _ _ _ _ op_ge (pv 0) pe_int (nomark _)))))), ?_⟩
    refine ⟨fun m σ H' => H' = H ∧ ∃ d : Int, σ = [some (.int n), some (.int d)] ∧ 2 ≤ d ∧ d ≤ 32 ∧ m = (33 - d).toNat ∧ ∀ e : Int, 2 ≤ e → e < d → n % e ≠ 0, ⟨_, rfl, 2, rfl, by omega, by omega, rfl, fun e a b => by omega⟩, ?_⟩
    rintro m σ H' ⟨rfl, d, rfl, h1, h2, rfl, h3⟩
    refine ⟨_, rfl, _, rfl, _, _, rfl, rfl, .inl ⟨by omega, by omega⟩, _, rfl, _, _, rfl, rfl, _, rfl, ite2 (fun hq => ?_) (fun hq => ?_)⟩
    · have hq := of_decide_eq_true hq
      have hd : d < 32 := by
        by_cases z : d < 32
        · exact z
        · have : d = 32 := by omega
          subst this
          omega
      refine ⟨fun σ' H2 => H2 = H' ∧ σ' = [some (.int n), some (.int (d + 1))] ∧ n % d ≠ 0, ?_, ?_⟩
      · rintro σ' H2 ⟨rfl, rfl, hm⟩
        refine ⟨(33 - (d + 1)).toNat, by omega, rfl, d + 1, rfl, by omega, by omega, rfl, fun e a b => ?_⟩
        by_cases z : e = d
        · subst z; exact hm
        · exact h3 e a (by omega)
      · refine ⟨_, rfl, _, rfl, _, _, rfl, rfl, (show (0 : Int) < d by omega), rfl, _, rfl, ite2 (fun hm => ?_) (fun hm => ?_)⟩
        · have hm := V.int.inj (of_decide_eq_true hm)
          rw [primeB_no hn2 h1 hq hm] at k
          exact k
        · exact ⟨_, rfl, _, _, rfl, rfl, rfl, rfl, fun z => hm (decide_eq_true (congrArg V.int z))⟩
    · have hq : ¬ d * d ≤ n := fun z => hq (decide_eq_true z)
      refine ⟨_, rfl, _, _, rfl, rfl, ?_⟩
      rw [primeB_yes (n := n) (d := d) (by omega) h1 h3] at k
      have e : decide ((2 : Int) ≤ n) = true := decide_eq_true hn1
      show Q (.bl (decide ((2 : Int) ≤ n))) H'
      rw [e]
      exact k
theorem sc_is_fractions : FnScope ["told"] ["told"] (defScope s_is_fractions) := ⟨rfl, rfl, rfl, by decide +kernel, rfl, by decide +kernel, by decide +kernel⟩
theorem ok_is_fractions (T : Txt K mg t) : FnOk P w K mg base CX0 1 t.f_is_fractions t.d_is_fractions ["told"] spIsF := by
  have S := sc_is_fractions
  refine T.F_is_fractions.ok S (fun vs H Q E h => ?_) (fun cdv A outer s H vs Q E hr h => ?_)
  · obtain ⟨p, d, rfl, _⟩ := h
    rfl
  · obtain ⟨p, d, rfl, hp, k⟩ := h
    refine ⟨_, (@pss_one _ _ _ (@ps_ret _ _ _ _ (@pe_and _ _ _ _ _ _ _ (pe_callB (call_isi (K := K)) rfl T.n_isinstance boot_isinstance (@pa_mor _ _ _ _ _ (by rfl) (pv 0) (@pa_mor _ _ _ _ _ (by rfl) (pe_bltn (v := .ty "tuple") rfl T.n_tuple boot_tuple rfl) pa_nil))) (@pe_and _ _ _ _ _ _ _ (@pe_cmpR _ _ _ _ _ _ _ _ op_eq (pe_callB call_len_seq rfl T.n_len boot_len (@pa_mor _ _ _ _ _ (by rfl) (pv 0) pa_nil)) pe_int (nomark _)) (@pe_one _ _ _ _ _ (@pe_cmpR _ _ _ _ _ _ _ _ op_eq (@pe_ix _ _ _ _ _ _ _ ix_tup (pv 0) pe_int (fun _ _ => rfl)) pe_str (nomark _))))))), ?_⟩
    refine ⟨_, rfl, _, _, _, true, rfl, rfl, .of (.tup hp), kit_same, true, rfl, iteT ?_⟩
    cases d with
    | a x =>
      refine ⟨_, rfl, p, _, rfl, .inr (.of hp), rfl, true, rfl, iteT ?_⟩
      refine ⟨_, rfl, p, _, 0, .str x, rfl, rfl, .of hp, rfl, rfl, ?_⟩
      rw [dV_str]
      exact k
    | b x n =>
      exact ⟨_, rfl, p, _, rfl, .inr (.of hp), rfl, false, rfl, iteF k⟩
theorem sc_is_wheel : FnScope ["told"] ["told"] (defScope s_is_wheel) := ⟨rfl, rfl, rfl, by decide +kernel, rfl, by decide +kernel, by decide +kernel⟩
theorem ok_is_wheel (T : Txt K mg t) : FnOk P w K mg base CX0 2 t.f_is_wheel t.d_is_wheel ["told"] spIsW := by
  have S := sc_is_wheel
  have G_is_whole := ok_is_whole (P := P) (w := w) (base := base) T
  have G_is_prime := ok_is_prime (P := P) (w := w) (base := base) T
  obtain ⟨uG, hG, rG⟩ := T.mg_GREATEST_PRIME
  refine T.F_is_wheel.ok S (fun vs H Q E h => ?_) (fun cdv A outer s H vs Q E hr h => ?_)
  · obtain ⟨p, d, rfl, _⟩ := h
    rfl
  · obtain ⟨p, d, rfl, hp, k⟩ := h
    refine ⟨_, (@pss_cons _ _ _ _ _ (@ps_if _ _ _ _ _ _ _ _ (PW.pt (@pw_or _ _ _ _ _ _ _ (@pt_not _ _ _ _ (pt_val (pe_callB (call_isi (K := K)) rfl T.n_isinstance boot_isinstance (@pa_mor _ _ _ _ _ (by rfl) (pv 0) (@pa_mor _ _ _ _ _ (by rfl) (pe_bltn (v := .ty "tuple") rfl T.n_tuple boot_tuple rfl) pa_nil))))) (@pw_or _ _ _ _ _ _ _ (@pt_cmpR _ _ _ _ _ _ _ _ op_ne (pe_callB call_len_seq rfl T.n_len boot_len (@pa_mor _ _ _ _ _ (by rfl) (pv 0) pa_nil)) pe_int (nomark _)) (@pw_or1 _ _ _ _ (@pt_cmpR _ _ _ _ _ _ _ _ op_ne (@pe_ix _ _ _ _ _ _ _ ix_tup (pv 0) pe_int (fun _ _ => rfl)) pe_str (nomark _)))))) (@pss_one _ _ _ (@ps_ret _ _ _ _ pe_bl)) pss_nil)
      (@pss_one _ _ _ (@ps_ret _ _ _ _ (@pe_and _ _ _ _ _ _ _ (pe_call G_is_whole (hr.mono (by decide)) rfl T.mg_is_whole T.F_is_whole.kp T.b_is_whole .nil pass0 (@pa_mor _ _ _ _ _ (by rfl) (@pe_ix _ _ _ _ _ _ _ ix_tup (pv 0) pe_int (fun _ _ => rfl)) pa_nil)) (@pe_and _ _ _ _ _ _ _ (pe_chain op_le op_le pe_int (@pe_ix _ _ _ _ _ _ _ ix_tup (pv 0) pe_int (fun _ _ => rfl)) (pe_glob (v := .int 997) rfl hG rG)) (@pe_one _ _ _ _ _ (pe_call G_is_prime (hr.mono (by decide)) rfl T.mg_is_prime T.F_is_prime.kp T.b_is_prime .nil pass0 (@pa_mor _ _ _ _ _ (by rfl) (@pe_ix _ _ _ _ _ _ _ ix_tup (pv 0) pe_int (fun _ _ => rfl)) pa_nil)))))))), ?_⟩
    refine ⟨_, rfl, _, _, _, true, rfl, rfl, .of (.tup hp), kit_same, true, rfl, iteF ?_⟩
    cases d with
    | a x => exact ⟨_, rfl, p, _, rfl, .inr (.of hp), rfl, true, rfl, iteT (iteT k)⟩
    | b x n =>
      refine ⟨_, rfl, p, _, rfl, .inr (.of hp), rfl, false, rfl, iteF ?_⟩
      refine ⟨_, rfl, p, _, 0, .str x, rfl, rfl, .of hp, rfl, rfl, _, rfl, ite2 (fun hw => ?_) (fun hw => ?_)⟩
      · have hw : ¬ x = "wheel" := by
          rw [dV_str] at hw
          simpa using hw
        have e : (Td.b x n).isW = false := by simp [Td.isW, hw]
        rw [e] at k
        exact k
      · have hw : x = "wheel" := by
          rw [dV_str] at hw
          simpa using hw
        refine ⟨_, rfl, p, _, 1, .int n, rfl, rfl, .of hp, rfl, .int n, rfl, .int n, true, rfl, iteT ?_⟩
        refine ⟨_, rfl, p, _, 1, .int n, rfl, rfl, .of hp, rfl, _, _, rfl, rfl, _, rfl, ?_⟩
        refine ite2 (fun h2 => ?_) (fun h2 => ?_)
        · have h2 := of_decide_eq_true h2
          refine ⟨_, _, rfl, rfl, _, rfl, ite2 (fun h3 => ?_) (fun h3 => ?_)⟩
          · have h3 := of_decide_eq_true h3
            refine ⟨_, rfl, p, _, 1, .int n, rfl, rfl, .of hp, rfl, n, rfl, h2, h3, ?_⟩
            have e : (Td.b x n).isW = primeB n := by simp [Td.isW, hw, h2, h3]
            rw [e] at k
            exact k
          · have h3 : ¬ n ≤ 997 := fun z => h3 (decide_eq_true z)
            have e : (Td.b x n).isW = false := by simp [Td.isW, h3]
            rw [e] at k
            exact k
        · have h2 : ¬ 2 ≤ n := fun z => h2 (decide_eq_true z)
          have e : (Td.b x n).isW = false := by simp [Td.isW, h2]
          rw [e] at k
          exact ⟨false, rfl, iteF k⟩
theorem sc_init : FnScope ["self", "told"] ["self", "told"] (defScope s_World___init__) := ⟨rfl, rfl, rfl, by decide +kernel, rfl, by decide +kernel, by decide +kernel⟩
theorem ok_init (T : Txt K mg t) : FnOk P w K mg base (CXF P w) 3 t.f_World___init__ t.d_World___init__ ["self", "told"] (spInit t.C_World t.C_NoWorld) := by
  have S := sc_init
  have G_is_fractions := ok_is_fractions (P := P) (w := w) (base := base) T
  have G_is_wheel := ok_is_wheel (P := P) (w := w) (base := base) T
  refine T.F_World___init__.okX S (fun vs H Q E h => ?_) (fun cdv A outer s H vs Q E hr h L => ?_)
  · obtain ⟨x, dx, p, d, rfl, _⟩ := h
    rfl
  · obtain ⟨x, dx, p, d, rfl, hx, hp, k1, k2⟩ := h
    refine ⟨_, (@pss_one _ _ _ (@ps_if _ _ _ _ _ _ _ _ (pt_val (pe_call G_is_fractions (hr.mono (by decide)) rfl T.mg_is_fractions T.F_is_fractions.kp T.b_is_fractions .nil pass0 (@pa_mor _ _ _ _ _ (by rfl) (pv 1) pa_nil))) (@pss_one _ _ _ (@ps_fld _ _ _ _ _ _ _ _ (pv 0) pe_non rfl)) (@pss_one _ _ _ (@ps_if _ _ _ _ _ _ _ _ (pt_val (pe_call G_is_wheel (hr.mono (by decide)) rfl T.mg_is_wheel T.F_is_wheel.kp T.b_is_wheel .nil pass0 (@pa_mor _ _ _ _ _ (by rfl) (pv 1) pa_nil))) (@pss_one _ _ _ (@ps_fld _ _ _ _ _ _ _ _ (pv 0) (@pe_ix _ _ _ _ _ _ _ ix_tup (pv 1) pe_int (fun _ _ => rfl)) rfl)) (@pss_one _ _ _ (ps_raise L rfl PySem.F.excBase_ValueError T.x_NoWorld rfl T.mg_NoWorld (@pa_mor _ _ _ _ _ (by rfl) pe_str pa_nil))))))), ?_⟩
    refine ⟨_, rfl, p, d, rfl, hp, _, rfl, ite2 (fun hF => ?_) (fun hF => ?_)⟩
    · refine ⟨_, rfl, x, t.C_World, dx, [], rfl, hx, T.cl_World, T.na_World_prime, (by show 0 < 1000; decide), ?_⟩
      have e : d.prime = .non := by
        cases d with
        | a x => rfl
        | b x n => cases hF
      have k := k1 (by unfold Td.good; rw [hF]; rfl)
      rw [e] at k
      exact k
    · have hF : d.isF = false := by simpa using hF
      refine ⟨_, rfl, p, d, rfl, hp, _, rfl, ite2 (fun hW => ?_) (fun hW => ?_)⟩
      · have k := k1 (by unfold Td.good; rw [hW, Bool.or_true])
        cases d with
        | a x => cases hW
        | b y n =>
          exact ⟨_, rfl, p, _, 1, .int n, rfl, rfl, .of hp, rfl, _, rfl, x, t.C_World, dx, [], rfl, hx, T.cl_World, T.na_World_prime, (by show 0 < 1000; decide), k⟩
      · have hW : d.isW = false := by simpa using hW
        exact ⟨by show 1 ≤ sizeLine; decide, k2 (by unfold Td.good; rw [hF, hW]; rfl)⟩
theorem sc_ratio : FnScope ["top", "bottom", "shared"] ["top", "bottom"] (defScope s_ratio) := ⟨rfl, rfl, rfl, by decide +kernel, rfl, by decide +kernel, by decide +kernel⟩
theorem ok_ratio (T : Txt K mg t) : FnOk P w K mg base (CXF P w) 2 t.f_ratio t.d_ratio ["top", "bottom"] (spRatio t.C_NoOver) := by
  have S := sc_ratio
  have G_common_divisor := ok_common_divisor (P := P) (w := w) (base := base) T
  refine T.F_ratio.okX S (fun vs H Q E h => ?_) (fun cdv A outer s H vs Q E hr h L => ?_)
  · obtain ⟨a, b, rfl, _⟩ := h
    rfl
  · obtain ⟨a, b, rfl, mb, kE, k⟩ := h
    refine ⟨_, (@pss_cons _ _ _ _ _ (@ps_if _ _ _ _ _ _ _ _ (@pt_cmpR _ _ _ _ _ _ _ _ op_eq (pv 1) pe_int (nomark _)) (@pss_one _ _ _ (ps_raise L rfl PySem.F.excBase_ValueError T.x_NoOver rfl T.mg_NoOver (@pa_mor _ _ _ _ _ (by rfl) pe_str pa_nil))) pss_nil)
      (PSs.nox (@pss_cons _ _ _ _ _ (@ps_put _ _ 2 _ _ _ _ (by rfl) (by first | exact .inl rfl | exact .inr rfl | assumption) S.nd rfl (Or.inl rfl) (pe_call G_common_divisor (hr.mono (by decide)) rfl T.mg_common_divisor T.F_common_divisor.kp T.b_common_divisor .nil pass0 (@pa_mor _ _ _ _ _ (by rfl) (pv 0) (@pa_mor _ _ _ _ _ (by rfl) (pv 1) pa_nil))))
      (@pss_cons _ _ _ _ _ (@ps_if _ _ _ _ _ _ _ _ (@pt_cmpR _ _ _ _ _ _ _ _ op_lt (pv 1) pe_int (nomark _)) (@pss_one _ _ _ (@ps_put _ _ 2 _ _ _ _ (by rfl) (by first | exact .inl rfl | exact .inr rfl | assumption) S.nd rfl (Or.inl rfl) (@pe_un _ _ _ _ _ _ un_neg (pv 2)))) pss_nil)
      (@pss_one _ _ _ (@ps_ret _ _ _ _ (@pe_tup _ _ _ _ _ (@pa_mor _ _ _ _ _ (by rfl) (@pe_op _ _ _ _ _ _ _ _ op_fdivM (pv 0) (pv 2)) (@pa_mor _ _ _ _ _ (by rfl) (@pe_op _ _ _ _ _ _ _ _ op_fdivM (pv 1) (pv 2)) pa_nil))))))))), ?_⟩
    have n2 : 2 ≤ sizeLine := by decide
    refine ⟨_, rfl, rfl, _, rfl, ite2 (fun hz => ?_) (fun hz => ?_)⟩
    · have hz : b = 0 := V.int.inj (of_decide_eq_true hz)
      exact ⟨by show 1 ≤ sizeLine; decide, kE hz⟩
    have hz : b ≠ 0 := fun z => hz (decide_eq_true (by rw [z]))
    have ok := lowG_ok (a := a) hz mb
    have kk := k hz
    unfold lowU lowD at kk
    refine ⟨_, rfl, _, rfl, a, b, rfl, mb, _, rfl, _, _, rfl, rfl, _, rfl, ite2 (fun hn => ?_) (fun hn => ?_)⟩
    · have hn : b < 0 := of_decide_eq_true hn
      have e : lowG a b = -(Int.gcd a b : Int) := by unfold lowG; rw [if_pos hn, Int.zero_sub]
      rw [e] at ok kk
      refine ⟨_, rfl, _, rfl, _, rfl, _, rfl, _, _, rfl, rfl, ok, _, rfl, _, rfl, _, _, rfl, rfl, ok, n2, fun r hr => kk r _ (same_upd hr) upd_same⟩
    · have hn : ¬ b < 0 := fun z => hn (decide_eq_true z)
      have e : lowG a b = (Int.gcd a b : Int) := by unfold lowG; rw [if_neg hn]
      rw [e] at ok kk
      refine ⟨_, rfl, _, rfl, _, _, rfl, rfl, ok, _, rfl, _, rfl, _, _, rfl, rfl, ok, n2, fun r hr => kk r _ (same_upd hr) upd_same⟩
theorem sc_remainder_back : FnScope ["prime", "number", "last", "last_times", "now", "now_times", "fits", "left", "left_times"] ["prime", "number"] (defScope s_remainder_back) := ⟨rfl, rfl, rfl, by decide +kernel, rfl, by decide +kernel, by decide +kernel⟩
theorem ok_remainder_back (T : Txt K mg t) : FnOk P w K mg base (CXF P w) 1 t.f_remainder_back t.d_remainder_back ["prime", "number"] (spBack t.C_NoOver) := by
  have S := sc_remainder_back
  refine T.F_remainder_back.okX S (fun vs H Q E h => ?_) (fun cdv A outer s H vs Q E hr h L => ?_)
  · obtain ⟨q, b, rfl, _⟩ := h
    rfl
  · obtain ⟨q, b, rfl, q1, q2, q3, b0, b1, kE, k⟩ := h
    refine ⟨_, (@pss_cons _ _ _ _ _ (@ps_if _ _ _ _ _ _ _ _ (@pt_cmpR _ _ _ _ _ _ _ _ op_eq (pv 1) pe_int (nomark _)) (@pss_one _ _ _ (ps_raise L rfl PySem.F.excBase_ValueError T.x_NoOver rfl T.mg_NoOver (@pa_mor _ _ _ _ _ (by rfl) pe_str pa_nil))) pss_nil)
      (PSs.nox (@pss_cons _ _ _ _ _ (@ps_put _ _ 2 _ _ _ _ (by rfl) (by first | exact .inl rfl | exact .inr rfl | assumption) S.nd rfl (Or.inl rfl) (pv 0))
      (@pss_cons _ _ _ _ _ (@ps_put _ _ 3 _ _ _ _ (by rfl) (by first | exact .inl rfl | exact .inr rfl | assumption) S.nd rfl (Or.inl rfl) pe_int)
      (@pss_cons _ _ _ _ _ (@ps_put _ _ 4 _ _ _ _ (by rfl) (by first | exact .inl rfl | exact .inr rfl | assumption) S.nd rfl (Or.inl rfl) (pv 1))
      (@pss_cons _ _ _ _ _ (@ps_put _ _ 5 _ _ _ _ (by rfl) (by first | exact .inl rfl | exact .inr rfl | assumption) S.nd rfl (Or.inl rfl) pe_int)
      (@pss_cons _ _ _ _ _ (@ps_while _ _ _ _ _ _ PassesOwn.never (@pt_cmpR _ _ _ _ _ _ _ _ op_gt (pv 4) pe_int (nomark _)) (@pss_cons _ _ _ _ _ (@ps_put _ _ 6 _ _ _ _ (by rfl) (by first | exact .inl rfl | exact .inr rfl | assumption) S.nd rfl (Or.inl rfl) (@pe_op _ _ _ _ _ _ _ _ op_fdiv (pv 2) (pv 4)))
      (@pss_cons _ _ _ _ _ (@ps_put _ _ 7 _ _ _ _ (by rfl) (by first | exact .inl rfl | exact .inr rfl | assumption) S.nd rfl (Or.inl rfl) (@pe_op _ _ _ _ _ _ _ _ op_sub (pv 2) (@pe_op _ _ _ _ _ _ _ _ op_mul (pv 6) (pv 4))))
      (@pss_cons _ _ _ _ _ (@ps_put _ _ 8 _ _ _ _ (by rfl) (by first | exact .inl rfl | exact .inr rfl | assumption) S.nd rfl (Or.inl rfl) (@pe_op _ _ _ _ _ _ _ _ op_sub (pv 3) (@pe_op _ _ _ _ _ _ _ _ op_mul (pv 6) (pv 5))))
      (@pss_cons _ _ _ _ _ (@ps_put _ _ 2 _ _ _ _ (by rfl) (by first | exact .inl rfl | exact .inr rfl | assumption) S.nd rfl (Or.inl rfl) (pv 4))
      (@pss_cons _ _ _ _ _ (@ps_put _ _ 3 _ _ _ _ (by rfl) (by first | exact .inl rfl | exact .inr rfl | assumption) S.nd rfl (Or.inl rfl) (pv 5))
      (@pss_cons _ _ _ _ _ (@ps_put _ _ 4 _ _ _ _ (by rfl) (by first | exact .inl rfl | exact .inr rfl | assumption) S.nd rfl (Or.inl rfl) (pv 7))
      (@pss_one _ _ _ (@ps_put _ _ 5 _ _ _ _ (by rfl) (by first | exact .inl rfl | exact .inr rfl | assumption) S.nd rfl (Or.inl rfl) (pv 8))))))))))
      (@pss_one _ _ _ (@ps_ret _ _ _ _ (@pe_op _ _ _ _ _ _ _ _ op_mod (pv 5) (pv 0))))))))))), ?_⟩
    refine ⟨_, rfl, rfl, _, rfl, ite2 (fun hz => ?_) (fun hz => ?_)⟩
    · have hz : b = 0 := V.int.inj (of_decide_eq_true hz)
      exact ⟨by show 1 ≤ sizeLine; decide, kE hz⟩
    have hz : b ≠ 0 := fun z => hz (decide_eq_true (by rw [z]))
    refine ⟨_, rfl, _, rfl, fun m σ H' => H' = H ∧ ∃ (l lt n nt : Int) (v1 v2 v3 : Option V), σ = [some (.int q), some (.int b), some (.int l), some (.int lt), some (.int n), some (.int nt), v1, v2, v3] ∧ m = n.toNat ∧ Bond q b l lt n nt ∧ l ≤ 997,
      ⟨b.toNat, rfl, q, 0, b, 1, none, none, none, rfl, rfl, Bond.start q1 q2 q3 (by omega) b1, q2⟩, ?_⟩
    rintro m σ H' ⟨rfl, l, lt, n, nt, v1, v2, v3, rfl, em, hb, hl⟩
    have p1 := hb.pos
    have p2 := hb.less
    refine ⟨_, rfl, _, _, rfl, rfl, _, rfl, ite2 (fun hy => ?_) (fun hy => ?_)⟩
    · have hy : 1 < n := of_decide_eq_true hy
      have hs := hb.step hy
      have f0 : 0 ≤ l / n := Int.ediv_nonneg (by omega) (by omega)
      have f1 : l / n ≤ l := Int.ediv_le_self _ (by omega)
      refine ⟨fun σ' H2 => H2 = H' ∧ σ' = [some (.int q), some (.int b), some (.int n), some (.int nt), some (.int (l - l / n * n)), some (.int (lt - l / n * nt)), some (.int (l / n)), some (.int (l - l / n * n)), some (.int (lt - l / n * nt))], ?_, ?_⟩
      · rintro σ' H2 ⟨rfl, rfl⟩
        exact ⟨(l - l / n * n).toNat, by rw [em]; omega, rfl, _, _, _, _, _, _, _, rfl, rfl, hs.1, by omega⟩
      · exact ⟨_, rfl, _, rfl, _, _, rfl, rfl, ⟨by omega, by omega⟩, _, rfl, _, rfl, _, rfl, _, _, rfl, rfl, .inr ⟨by omega, by omega⟩, _, _, rfl, rfl,
          _, rfl, _, rfl, _, rfl, _, _, rfl, rfl, .inl ⟨by omega, by omega⟩, _, _, rfl, rfl, _, rfl, _, rfl, _, rfl, _, rfl, rfl, rfl⟩
    · have hy : ¬ 1 < n := fun z => hy (decide_eq_true z)
      have n1 : n = 1 := by omega
      subst n1
      exact ⟨_, rfl, _, rfl, _, _, rfl, rfl, (show (0 : Int) < q by omega), k hz _ (Int.emod_nonneg _ (by omega)) (Int.emod_lt_of_pos _ (by omega)) (hb.done q1)⟩
theorem sc_remainder_over : FnScope ["prime", "a", "b"] ["prime", "a", "b"] (defScope s_remainder_over) := ⟨rfl, rfl, rfl, by decide +kernel, rfl, by decide +kernel, by decide +kernel⟩
theorem ok_remainder_over (T : Txt K mg t) : FnOk P w K mg base (CXF P w) 2 t.f_remainder_over t.d_remainder_over ["prime", "a", "b"] (spRemOver t.C_NoOver) := by
  have S := sc_remainder_over
  have G_remainder_back := ok_remainder_back (P := P) (w := w) (base := base) T
  refine T.F_remainder_over.okX S (fun vs H Q E h => ?_) (fun cdv A outer s H vs Q E hr h L => ?_)
  · obtain ⟨q, i, j, rfl, _⟩ := h
    rfl
  · obtain ⟨q, i, j, rfl, q1, q2, q3, i0, i1, j0, j1, kE, k⟩ := h
    refine ⟨_, (@pss_one _ _ _ (@ps_ret _ _ _ _ (@pe_op _ _ _ _ _ _ _ _ op_mod (@pe_op _ _ _ _ _ _ _ _ op_mul (pv 1) (pe_call G_remainder_back (hr.mono (by decide)) rfl T.mg_remainder_back T.F_remainder_back.kp T.b_remainder_back .nil (passF L) (@pa_mor _ _ _ _ _ (by rfl) (pv 0) (@pa_mor _ _ _ _ _ (by rfl) (pv 2) pa_nil)))) (pv 0)))), ?_⟩
    exact ⟨_, rfl, _, rfl, _, rfl, q, j, rfl, q1, q2, q3, j0, j1, kE, fun hj r r0 r1 hr' => ⟨_, _, rfl, rfl, .inl ⟨by omega, by omega⟩, _, rfl, _, _, rfl, rfl, (show (0 : Int) < q by omega),
      k hj _ (Int.emod_nonneg _ (by omega)) (Int.emod_lt_of_pos _ (by omega)) (rem_over q1 i0 i1 hr')⟩⟩
theorem sc_of : FnScope ["self", "top", "bottom"] ["self", "top", "bottom"] (defScope s_World_of) := ⟨rfl, rfl, rfl, by decide +kernel, rfl, by decide +kernel, by decide +kernel⟩
theorem ok_of (T : Txt K mg t) : FnOk P w K mg base (CXF P w) 3 t.f_World_of t.d_World_of ["self", "top", "bottom"] (spOf t.C_World t.C_NoOver) := by
  have S := sc_of
  have G_ratio := ok_ratio (P := P) (w := w) (base := base) T
  have G_remainder_over := ok_remainder_over (P := P) (w := w) (base := base) T
  refine T.F_World_of.okX S (fun vs H Q E h => ?_) (fun cdv A outer s H vs Q E hr h L => ?_)
  · obtain ⟨z, q, a, b, rfl, _⟩ := h
    rfl
  · obtain ⟨z, q, a, b, rfl, ⟨dx, hx⟩, hq, mb, kE, k⟩ := h
    refine ⟨_, (@pss_cons _ _ _ _ _ (@ps_if _ _ _ _ _ _ _ _ (@pt_cmpR _ _ _ _ _ _ _ _ op_isN (@pe_fld _ _ _ _ _ (pv 0) rfl) pe_non (nomark _)) (@pss_one _ _ _ (@ps_ret _ _ _ _ (pe_call G_ratio (hr.mono (by decide)) rfl T.mg_ratio T.F_ratio.kp T.b_ratio .nil (passF L) (@pa_mor _ _ _ _ _ (by rfl) (pv 1) (@pa_mor _ _ _ _ _ (by rfl) (pv 2) pa_nil))))) pss_nil)
      (@pss_one _ _ _ (@ps_ret _ _ _ _ (pe_call G_remainder_over (hr.mono (by decide)) rfl T.mg_remainder_over T.F_remainder_over.kp T.b_remainder_over .nil (passF L) (@pa_mor _ _ _ _ _ (by rfl) (@pe_fld _ _ _ _ _ (pv 0) rfl) (@pa_mor _ _ _ _ _ (by rfl) (@pe_op _ _ _ _ _ _ _ _ op_mod (pv 1) (@pe_fld _ _ _ _ _ (pv 0) rfl)) (@pa_mor _ _ _ _ _ (by rfl) (@pe_op _ _ _ _ _ _ _ _ op_mod (pv 2) (@pe_fld _ _ _ _ _ (pv 0) rfl)) pa_nil))))))), ?_⟩
    refine ⟨_, rfl, z, t.C_World, dx, _, _, rfl, hx, T.cl_World, T.na_World_prime, lk_prime _, rfl, _, rfl, ?_⟩
    rcases hq with rfl | ⟨q2, q3, q4⟩
    · rw [if_pos rfl]
      refine iteT ⟨_, rfl, _, rfl, a, b, rfl, mb, fun hb => kE (by unfold NoOv; rw [if_pos rfl]; exact hb), fun hb r H' s' er => k (fun hn => hb (by unfold NoOv at hn; rw [if_pos rfl] at hn; exact hn)) _ H' s' (.inl ⟨rfl, r, rfl, er⟩)⟩
    · have hq : q ≠ 0 := by omega
      rw [if_neg hq] at hx ⊢
      have p0 : (0 : Int) < q := by omega
      refine iteF ⟨_, rfl, z, t.C_World, dx, _, _, rfl, hx, T.cl_World, T.na_World_prime, lk_prime _, _, rfl, _, rfl, z, t.C_World, dx, _, _, rfl, hx, T.cl_World, T.na_World_prime, lk_prime _, _, _, rfl, rfl, p0, _, rfl, _, rfl, z, t.C_World, dx, _, _, rfl, hx, T.cl_World, T.na_World_prime, lk_prime _, _, _, rfl, rfl, p0, ?_⟩
      have nv : NoOv q b ↔ b % q = 0 := by unfold NoOv; rw [if_neg hq]
      exact ⟨q, a % q, b % q, rfl, q2, q3, q4, Int.emod_nonneg _ hq, Int.emod_lt_of_pos _ p0, Int.emod_nonneg _ hq, Int.emod_lt_of_pos _ p0, fun hj => kE (nv.mpr hj), fun hj r r0 r1 hr' => k (fun z => hj (nv.mp z)) _ H (Same.refl H) (.inr ⟨q2, r, rfl, r0, r1, hr'⟩)⟩
theorem sc_padded : FnScope ["world", "row", "many"] ["world", "row", "many"] (defScope s_padded) := ⟨rfl, rfl, rfl, by decide +kernel, rfl, by decide +kernel, by decide +kernel⟩
theorem ok_padded (T : Txt K mg t) : FnOk P w K mg base CX0 2 t.f_padded t.d_padded ["world", "row", "many"] spNever := by
  have S := sc_padded
  exact T.F_padded.ok S (fun vs H Q E h => h.elim) (fun cdv A outer s H vs Q E hr h => h.elim)
theorem sc_numbers_of : FnScope ["world", "wholes", "times", "bottom"] ["world", "wholes", "times", "bottom"] (defScope s_numbers_of) := ⟨rfl, rfl, rfl, by decide +kernel, rfl, by decide +kernel, by decide +kernel⟩
theorem ok_numbers_of (T : Txt K mg t) : FnOk P w K mg base CX0 2 t.f_numbers_of t.d_numbers_of ["world", "wholes", "times", "bottom"] spNever := by
  have S := sc_numbers_of
  exact T.F_numbers_of.ok S (fun vs H Q E h => h.elim) (fun cdv A outer s H vs Q E hr h => h.elim)
theorem sc_poly_times : FnScope ["world", "one", "other", "first", "second"] ["world", "one", "other"] (defScope s_poly_times) := ⟨rfl, rfl, rfl, by decide +kernel, rfl, by decide +kernel, by decide +kernel⟩
theorem ok_poly_times (T : Txt K mg t) : FnOk P w K mg base CX0 2 t.f_poly_times t.d_poly_times ["world", "one", "other"] spNever := by
  have S := sc_poly_times
  exact T.F_poly_times.ok S (fun vs H Q E h => h.elim) (fun cdv A outer s H vs Q E hr h => h.elim)
theorem sc_parted : FnScope ["world", "one", "other", "first", "second", "told", "bottom", "by"] ["world", "one", "other"] (defScope s_parted) := ⟨rfl, rfl, rfl, by decide +kernel, rfl, by decide +kernel, by decide +kernel⟩
theorem ok_parted (T : Txt K mg t) : FnOk P w K mg base CX0 2 t.f_parted t.d_parted ["world", "one", "other"] spNever := by
  have S := sc_parted
  exact T.F_parted.ok S (fun vs H Q E h => h.elim) (fun cdv A outer s H vs Q E hr h => h.elim)
theorem sc_common : FnScope ["world", "one", "other", "first", "second", "told", "lead", "u", "v"] ["world", "one", "other"] (defScope s_common) := ⟨rfl, rfl, rfl, by decide +kernel, rfl, by decide +kernel, by decide +kernel⟩
theorem ok_common (T : Txt K mg t) : FnOk P w K mg base CX0 2 t.f_common t.d_common ["world", "one", "other"] spNever := by
  have S := sc_common
  exact T.F_common.ok S (fun vs H Q E h => h.elim) (fun cdv A outer s H vs Q E hr h => h.elim)
theorem sc_next_pair : FnScope ["world", "row", "pair", "last", "many", "much", "down", "up", "front", "back", "mended_front", "mended_back"] ["world", "row", "pair", "last"] (defScope s_next_pair) := ⟨rfl, rfl, rfl, by decide +kernel, rfl, by decide +kernel, by decide +kernel⟩
theorem ok_next_pair (T : Txt K mg t) : FnOk P w K mg base CX0 2 t.f_next_pair t.d_next_pair ["world", "row", "pair", "last"] spNever := by
  have S := sc_next_pair
  exact T.F_next_pair.ok S (fun vs H Q E h => h.elim) (fun cdv A outer s H vs Q E hr h => h.elim)
theorem sc_whole_pairs : FnScope ["world", "row", "pair", "told", "last", "following"] ["world", "row"] (defScope s_whole_pairs) := ⟨rfl, rfl, rfl, by decide +kernel, rfl, by decide +kernel, by decide +kernel⟩
theorem ok_whole_pairs (T : Txt K mg t) : FnOk P w K mg base CX0 2 t.f_whole_pairs t.d_whole_pairs ["world", "row"] spNever := by
  have S := sc_whole_pairs
  exact T.F_whole_pairs.ok S (fun vs H Q E h => h.elim) (fun cdv A outer s H vs Q E hr h => h.elim)
theorem sc_told_pair : FnScope ["world", "pair", "bottom"] ["world", "pair", "bottom"] (defScope s_told_pair) := ⟨rfl, rfl, rfl, by decide +kernel, rfl, by decide +kernel, by decide +kernel⟩
theorem ok_told_pair (T : Txt K mg t) : FnOk P w K mg base CX0 2 t.f_told_pair t.d_told_pair ["world", "pair", "bottom"] spNever := by
  have S := sc_told_pair
  exact T.F_told_pair.ok S (fun vs H Q E h => h.elim) (fun cdv A outer s H vs Q E hr h => h.elim)
theorem sc_whole_answer : FnScope ["world", "row", "pairs", "aim", "answer", "last", "place", "pair", "short"] ["world", "row", "pairs", "aim"] (defScope s_whole_answer) := ⟨rfl, rfl, rfl, by decide +kernel, rfl, by decide +kernel, by decide +kernel⟩
theorem ok_whole_answer (T : Txt K mg t) : FnOk P w K mg base CX0 2 t.f_whole_answer t.d_whole_answer ["world", "row", "pairs", "aim"] spNever := by
  have S := sc_whole_answer
  exact T.F_whole_answer.ok S (fun vs H Q E h => h.elim) (fun cdv A outer s H vs Q E hr h => h.elim)
theorem sc_whole_turn : FnScope ["world", "n"] ["world", "n"] (defScope s_whole_turn) := ⟨rfl, rfl, rfl, by decide +kernel, rfl, by decide +kernel, by decide +kernel⟩
theorem ok_whole_turn (T : Txt K mg t) : FnOk P w K mg base CX0 2 t.f_whole_turn t.d_whole_turn ["world", "n"] spNever := by
  have S := sc_whole_turn
  exact T.F_whole_turn.ok S (fun vs H Q E h => h.elim) (fun cdv A outer s H vs Q E hr h => h.elim)
theorem sc_as_wholes : FnScope ["self", "row"] ["self", "row"] (defScope s_World_as_wholes) := ⟨rfl, rfl, rfl, by decide +kernel, rfl, by decide +kernel, by decide +kernel⟩
theorem ok_as_wholes (T : Txt K mg t) : FnOk P w K mg base CX0 2 t.f_World_as_wholes t.d_World_as_wholes ["self", "row"] spNever := by
  have S := sc_as_wholes
  exact T.F_World_as_wholes.ok S (fun vs H Q E h => h.elim) (fun cdv A outer s H vs Q E hr h => h.elim)
theorem sc_shifted_size : FnScope ["row"] ["row"] (defScope s_shifted_size) := ⟨rfl, rfl, rfl, by decide +kernel, rfl, by decide +kernel, by decide +kernel⟩
theorem ok_shifted_size (T : Txt K mg t) : FnOk P w K mg base (CXF P w) 1 t.f_shifted_size t.d_shifted_size ["row"] (spShSize t.C_NoFit) := by
  have S := sc_shifted_size
  obtain ⟨uM, hM, rM⟩ := T.mg_MOST
  refine T.F_shifted_size.okX S (fun vs H Q E h => ?_) (fun cdv A outer s H vs Q E hr h L => ?_)
  · obtain ⟨a, xs, rfl, _⟩ := h
    rfl
  · obtain ⟨a, xs, rfl, ea, l1000, kE, k⟩ := h
    refine ⟨_, (@pss_cons _ _ _ _ _ (@ps_if _ _ _ _ _ _ _ _ (PW.pt (@pw_or _ _ _ _ _ _ _ (@pt_cmpR _ _ _ _ _ _ _ _ op_eq (@pe_op _ _ _ _ _ _ _ _ op_mod (pe_callB call_len_seq rfl T.n_len boot_len (@pa_mor _ _ _ _ _ (by rfl) (pv 0) pa_nil)) pe_int) pe_int (nomark _)) (@pw_or1 _ _ _ _ (@pt_cmpR _ _ _ _ _ _ _ _ op_ge (pe_callB call_len_seq rfl T.n_len boot_len (@pa_mor _ _ _ _ _ (by rfl) (pv 0) pa_nil)) (@pe_op _ _ _ _ _ _ _ _ op_mul pe_int (pe_glob (v := .int 40) rfl hM rM)) (nomark _))))) (@pss_one _ _ _ (ps_raise L rfl PySem.F.excBase_ValueError T.x_NoFit rfl T.mg_NoFit (@pa_mor _ _ _ _ _ (by rfl) pe_str pa_nil))) pss_nil)
      (@pss_one _ _ _ (@ps_ret _ _ _ _ (@pe_op _ _ _ _ _ _ _ _ op_fdiv (@pe_op _ _ _ _ _ _ _ _ op_add (pe_callB call_len_seq rfl T.n_len boot_len (@pa_mor _ _ _ _ _ (by rfl) (pv 0) pa_nil)) pe_int) pe_int)))), ?_⟩
    refine ⟨_, rfl, a, xs, rfl, .inl (.of ea), _, _, rfl, rfl, (show (0 : Int) < 2 by decide), rfl, _, rfl, ite2 (fun h => ?_) (fun h => ?_)⟩
    · have e : ((xs.length : Int) % 2) = 0 := by simpa using h
      exact iteT ⟨by show 1 ≤ sizeLine; decide, kE (.inl (by omega))⟩
    · have e : ¬ ((xs.length : Int) % 2) = 0 := by simpa using h
      refine ⟨_, rfl, a, xs, rfl, .inl (.of ea), _, _, rfl, rfl, .inl ⟨by decide, by decide⟩, _, _, rfl, rfl, _, rfl, ite2 (fun h2 => ?_) (fun h2 => ?_)⟩
      · have e2 : (2 * 40 : Int) ≤ (xs.length : Int) := of_decide_eq_true h2
        exact ⟨by show 1 ≤ sizeLine; decide, kE (.inr (by omega))⟩
      · have e2 : ¬ (2 * 40 : Int) ≤ (xs.length : Int) := fun z => h2 (decide_eq_true z)
        dsimp only [tNext]
        refine ⟨_, rfl, a, xs, rfl, .inl (.of ea), _, _, rfl, rfl, _, _, rfl, rfl, ⟨by decide, by decide⟩, ?_⟩
        have z := k (fun h => by rcases h with h | h <;> omega)
        show Q (.int (((xs.length : Int) + 1) / 2)) H
        rw [show ((xs.length : Int) + 1) / 2 = (((xs.length + 1) / 2 : Nat) : Int) by omega]
        exact z
theorem sc_turned_size : FnScope ["row"] ["row"] (defScope s_turned_size) := ⟨rfl, rfl, rfl, by decide +kernel, rfl, by decide +kernel, by decide +kernel⟩
theorem ok_turned_size (T : Txt K mg t) : FnOk P w K mg base (CXF P w) 1 t.f_turned_size t.d_turned_size ["row"] (spTuSize t.C_NoFit) := by
  have S := sc_turned_size
  obtain ⟨uM, hM, rM⟩ := T.mg_MOST
  refine T.F_turned_size.okX S (fun vs H Q E h => ?_) (fun cdv A outer s H vs Q E hr h L => ?_)
  · obtain ⟨a, xs, rfl, _⟩ := h
    rfl
  · obtain ⟨a, xs, rfl, ea, l1000, kE, k⟩ := h
    refine ⟨_, (@pss_cons _ _ _ _ _ (@ps_if _ _ _ _ _ _ _ _ (@pt_not _ _ _ _ (pt_chain op_le op_le pe_int (pe_callB call_len_seq rfl T.n_len boot_len (@pa_mor _ _ _ _ _ (by rfl) (pv 0) pa_nil)) (pe_glob (v := .int 40) rfl hM rM))) (@pss_one _ _ _ (ps_raise L rfl PySem.F.excBase_ValueError T.x_NoFit rfl T.mg_NoFit (@pa_mor _ _ _ _ _ (by rfl) pe_str pa_nil))) pss_nil)
      (@pss_one _ _ _ (@ps_ret _ _ _ _ (pe_callB call_len_seq rfl T.n_len boot_len (@pa_mor _ _ _ _ _ (by rfl) (pv 0) pa_nil))))), ?_⟩
    refine ⟨_, rfl, a, xs, rfl, .inl (.of ea), _, _, rfl, rfl, _, rfl, ite2 (fun h1 => ?_) (fun h1 => ?_)⟩
    · have e1 : (1 : Int) ≤ (xs.length : Int) := of_decide_eq_true h1
      refine ⟨_, _, rfl, rfl, _, rfl, ite2 (fun h2 => ?_) (fun h2 => ?_)⟩
      · have e2 : ¬ (xs.length : Int) ≤ 40 := by simpa using h2
        exact ⟨by show 1 ≤ sizeLine; decide, kE (.inr (by omega))⟩
      · have e2 : (xs.length : Int) ≤ 40 := by simpa using h2
        exact ⟨_, rfl, a, xs, rfl, .inl (.of ea), k fun h => by rcases h with h | h <;> omega⟩
    · have e1 : ¬ (1 : Int) ≤ (xs.length : Int) := fun z => h1 (decide_eq_true z)
      exact ⟨false, rfl, iteT ⟨by show 1 ≤ sizeLine; decide, kE (.inl (by omega))⟩⟩
theorem sc_check_aim : FnScope ["n", "aim"] ["n", "aim"] (defScope s_check_aim) := ⟨rfl, rfl, rfl, by decide +kernel, rfl, by decide +kernel, by decide +kernel⟩
theorem ok_check_aim (T : Txt K mg t) : FnOk P w K mg base (CXF P w) 1 t.f_check_aim t.d_check_aim ["n", "aim"] (spAim t.C_NoFit) := by
  have S := sc_check_aim
  refine T.F_check_aim.okX S (fun vs H Q E h => ?_) (fun cdv A outer s H vs Q E hr h L => ?_)
  · obtain ⟨n, a, xs, rfl, _⟩ := h
    rfl
  · obtain ⟨n, a, xs, rfl, ea, kE, k⟩ := h
    refine ⟨_, (@pss_one _ _ _ (@ps_if _ _ _ _ _ _ _ _ (@pt_cmpR _ _ _ _ _ _ _ _ op_ne (pe_callB call_len_seq rfl T.n_len boot_len (@pa_mor _ _ _ _ _ (by rfl) (pv 1) pa_nil)) (pv 0) (nomark _)) (@pss_one _ _ _ (ps_raise L rfl PySem.F.excBase_ValueError T.x_NoFit rfl T.mg_NoFit (@pa_mor _ _ _ _ _ (by rfl) pe_str pa_nil))) pss_nil)), ?_⟩
    refine ⟨_, rfl, a, xs, rfl, .inl (.of ea), _, rfl, rfl, _, rfl, ite2 (fun hne => ?_) (fun hne => ?_)⟩
    · have hne : xs.length ≠ n := fun z => by
        have : (xs.length : Int) = (n : Int) := by omega
        rw [dV_int, decide_eq_true this] at hne
        cases hne
      exact ⟨by show 1 ≤ sizeLine; decide, kE hne⟩
    · have heq : xs.length = n := by
        by_cases z : (xs.length : Int) = (n : Int)
        · omega
        · exact absurd (by rw [dV_int, decide_eq_false z]; rfl) hne
      exact k heq
theorem sc_shifted_row : FnScope ["row", "i", "many", "start"] ["row", "i", "many"] (defScope s_shifted_row) := ⟨rfl, rfl, rfl, by decide +kernel, rfl, by decide +kernel, by decide +kernel⟩
theorem ok_shifted_row (T : Txt K mg t) : FnOk P w K mg base CX0 1 t.f_shifted_row t.d_shifted_row ["row", "i", "many"] spShRow := by
  have S := sc_shifted_row
  refine T.F_shifted_row.ok S (fun vs H Q E h => ?_) (fun cdv A outer s H vs Q E hr h => ?_)
  · obtain ⟨a, q, ps, B, n, i, rfl, _⟩ := h
    rfl
  · obtain ⟨a, q, ps, B, n, i, rfl, hA, lp, n1, n40, hi, k⟩ := h
    refine ⟨_, (@pss_cons _ _ _ _ _ (@ps_put _ _ 3 _ _ _ _ (by rfl) (by first | exact .inl rfl | exact .inr rfl | assumption) S.nd rfl (Or.inr rfl) (@pe_op _ _ _ _ _ _ _ _ op_add (@pe_op _ _ _ _ _ _ _ _ op_fdiv (pe_callB call_len_seq rfl T.n_len boot_len (@pa_mor _ _ _ _ _ (by rfl) (pv 0) pa_nil)) pe_int) (pv 1)))
      (@pss_one _ _ _ (@ps_ret _ _ _ _ (pe_comp (N := ["j", "row", "start"]) (ρ := (fun σ => [σ[0]?.join, σ[3]?.join])) ⟨rfl, rfl, by decide +kernel, by decide +kernel, (List.forall_mem_cons.mpr ⟨rfl, (List.forall_mem_cons.mpr ⟨rfl, (List.forall_mem_nil _)⟩)⟩), has_of (by rfl), rfl, by decide +kernel, rfl, (fun σ j v h => match j, h with | 0, h => ⟨0, _, rfl, rfl, join_some h, Or.inr (Or.inl rfl), .inl rfl, .inl rfl⟩ | 1, h => ⟨3, _, rfl, rfl, join_some h, Or.inr (Or.inl rfl), .inl rfl, .inl rfl⟩ | j + 2, h => by cases h), (fun _ _ => rfl)⟩ rfl (pi_range1 rfl T.n_range (@pa_mor _ _ _ _ _ (by rfl) (pv 2) pa_nil)) (fun s₃ H₃ fp => .nil) (fun s₃ H₃ fp => (@pe_ix _ _ _ _ _ _ _ (ix_listK (K := K)) (pv 1) (@pe_op _ _ _ _ _ _ _ _ op_sub (pv 2) (pv 0)) (fun _ _ => rfl))))))), ?_⟩
    obtain ⟨vs, ea, lv, fv⟩ := id hA
    refine ⟨_, rfl, a, vs, rfl, .inl (.of ea), _, _, rfl, rfl, ⟨by decide, by decide⟩, _, rfl, _, _, rfl, rfl, ?_⟩
    dsimp only [gName]
    refine ret_of (comp_ofN (xs := (List.range n).map fun i : Nat => V.int (0 + (i : Int))) (fun R h => ⟨_, rfl, (n : Int), rfl, by omega, by omega, h _ _ (Same.refl _) (by rw [Int.toNat_natCast]; exact jseq_rng)⟩) (by rw [List.length_map, List.length_range]; exact small1000 (by omega)) (fun _ j y Hx => NumAt B Hx q y (ps.getD (ps.length / 2 + i - j) o1).1 (ps.getD (ps.length / 2 + i - j) o1).2) (fun _ _ _ _ _ _ h1 e f => h1.far e f) ?_ ?_)
    · intro D j v hj Hc R sc _ kc
      obtain ⟨hj', rfl⟩ := rng_at hj
      have hx : ps.length / 2 + i - j < vs.length := by omega
      refine ⟨_, rfl, _, rfl, _, rfl, _, _, rfl, rfl, a, vs, _, vs[ps.length / 2 + i - j], rfl, rfl, .of (sc _ _ ea), ?_, kc _ Hc (Same.refl _) ?_⟩
      · show atI vs ((vs.length : Int) / 2 + (i : Int) - (j : Int)) = _
        rw [show (vs.length : Int) / 2 + (i : Int) - (j : Int) = ((ps.length / 2 + i - j : Nat) : Int) by omega]
        exact atI_nat (by simp [hx])
      · have hp : ps.length / 2 + i - j < ps.length := by omega
        rw [getD_at hp]
        exact (fv (ps.length / 2 + i - j) vs[ps.length / 2 + i - j] ps[ps.length / 2 + i - j] (by simp [hx]) (by simp [hp])).mono sc
    · intro D ys Hc nD sc lys hP eD
      rw [List.length_map, List.length_range] at lys
      refine k D Hc sc nD ⟨ys, eD, by unfold shRow; rw [List.length_map, List.length_range]; exact lys, fun j v p h1 h2 => ?_⟩
      have hj : j < n := by rw [← lys]; exact (List.getElem?_eq_some_iff.mp h1).1
      unfold shRow at h2
      rw [List.getElem?_map] at h2
      simp [hj] at h2
      subst h2
      exact hP j v h1
theorem sc_turned_row : FnScope ["row", "i"] ["row", "i"] (defScope s_turned_row) := ⟨rfl, rfl, rfl, by decide +kernel, rfl, by decide +kernel, by decide +kernel⟩
theorem ok_turned_row (T : Txt K mg t) : FnOk P w K mg base CX0 1 t.f_turned_row t.d_turned_row ["row", "i"] spTuRow := by
  have S := sc_turned_row
  refine T.F_turned_row.ok S (fun vs H Q E h => ?_) (fun cdv A outer s H vs Q E hr h => ?_)
  · obtain ⟨a, q, ps, B, i, rfl, _⟩ := h
    rfl
  · obtain ⟨a, q, ps, B, i, rfl, hA, n1, n40, hi, k⟩ := h
    refine ⟨_, (@pss_one _ _ _ (@ps_ret _ _ _ _ (pe_comp (N := ["j", "row", "i"]) (ρ := (fun σ => [σ[0]?.join, σ[1]?.join])) ⟨rfl, rfl, by decide +kernel, by decide +kernel, (List.forall_mem_cons.mpr ⟨rfl, (List.forall_mem_cons.mpr ⟨rfl, (List.forall_mem_nil _)⟩)⟩), has_of (by rfl), rfl, by decide +kernel, rfl, (fun σ j v h => match j, h with | 0, h => ⟨0, _, rfl, rfl, join_some h, Or.inr (Or.inl rfl), .inl rfl, .inl rfl⟩ | 1, h => ⟨1, _, rfl, rfl, join_some h, Or.inr (Or.inl rfl), .inl rfl, .inl rfl⟩ | j + 2, h => by cases h), (fun _ _ => rfl)⟩ rfl (pi_range1 rfl T.n_range (@pa_mor _ _ _ _ _ (by rfl) (pe_callB call_len_seq rfl T.n_len boot_len (@pa_mor _ _ _ _ _ (by rfl) (pv 0) pa_nil)) pa_nil)) (fun s₃ H₃ fp => .nil) (fun s₃ H₃ fp => (@pe_ix _ _ _ _ _ _ _ (ix_listK (K := K)) (pv 1) (@pe_op _ _ _ _ _ _ _ _ op_mod (@pe_op _ _ _ _ _ _ _ _ op_sub (pv 2) (pv 0)) (pe_callB (call_len_seqK (K := K)) rfl T.n_len boot_len (@pa_mor _ _ _ _ _ (by rfl) (pv 1) pa_nil))) (fun _ _ => rfl)))))), ?_⟩
    obtain ⟨vs, ea, lv, fv⟩ := id hA
    refine ret_of (comp_ofN (xs := (List.range ps.length).map fun i : Nat => V.int (0 + (i : Int))) (fun R h => ⟨_, rfl, a, vs, rfl, .inl (.of ea), (vs.length : Int), rfl, by omega, by omega, h _ _ (Same.refl _) (by rw [Int.toNat_natCast, lv]; exact jseq_rng)⟩) (by rw [List.length_map, List.length_range]; exact small1000 (by omega)) (fun _ j y Hx => NumAt B Hx q y (ps.getD (((i : Int) - (j : Int)) % (ps.length : Int)).toNat o1).1 (ps.getD (((i : Int) - (j : Int)) % (ps.length : Int)).toNat o1).2) (fun _ _ _ _ _ _ h1 e f => h1.far e f) ?_ ?_)
    · intro D j v hj Hc R sc _ kc
      obtain ⟨hj', rfl⟩ := rng_at hj
      have p0 : (0 : Int) < (vs.length : Int) := by omega
      have m0 := Int.emod_nonneg ((i : Int) - (j : Int)) (show (ps.length : Int) ≠ 0 by omega)
      have m1 := Int.emod_lt_of_pos ((i : Int) - (j : Int)) (show (0 : Int) < (ps.length : Int) by omega)
      obtain ⟨x, ex⟩ : ∃ x : Nat, ((i : Int) - (j : Int)) % (ps.length : Int) = (x : Int) := ⟨_, (Int.toNat_of_nonneg m0).symm⟩
      have hx : x < vs.length := by omega
      have hp : x < ps.length := by omega
      refine ⟨_, rfl, _, rfl, _, rfl, _, _, rfl, rfl, _, rfl, a, vs, rfl, .inl (.of (sc _ _ ea)), _, _, rfl, rfl, p0, a, vs, _, vs[x], rfl, rfl, .of (sc _ _ ea), ?_, kc _ Hc (Same.refl _) ?_⟩
      · show atI vs (((i : Int) - (j : Int)) % (vs.length : Int)) = _
        rw [lv, ex]
        exact atI_nat (by simp [hx])
      · rw [ex, Int.toNat_natCast, getD_at hp]
        exact (fv x vs[x] ps[x] (by simp [hx]) (by simp [hp])).mono sc
    · intro D ys Hc nD sc lys hP eD
      rw [List.length_map, List.length_range] at lys
      refine k D Hc sc nD ⟨ys, eD, by unfold tuRow; rw [List.length_map, List.length_range]; exact lys, fun j v p h1 h2 => ?_⟩
      have hj : j < ps.length := by rw [← lys]; exact (List.getElem?_eq_some_iff.mp h1).1
      unfold tuRow at h2
      rw [List.getElem?_map] at h2
      simp [hj] at h2
      subst h2
      exact hP j v h1
theorem sc_shifted_table : FnScope ["world", "row", "n"] ["world", "row"] (defScope s_shifted_table) := ⟨rfl, rfl, rfl, by decide +kernel, rfl, by decide +kernel, by decide +kernel⟩
theorem ok_shifted_table (T : Txt K mg t) : FnOk P w K mg base (CXF P w) 2 t.f_shifted_table t.d_shifted_table ["world", "row"] (spShTab t.C_NoFit) := by
  have S := sc_shifted_table
  have G_shifted_size := ok_shifted_size (P := P) (w := w) (base := base) T
  have G_shifted_row := ok_shifted_row (P := P) (w := w) (base := base) T
  refine T.F_shifted_table.okX S (fun vs H Q E h => ?_) (fun cdv A outer s H vs Q E hr h L => ?_)
  · obtain ⟨z, a, xs, rfl, _⟩ := h
    rfl
  · obtain ⟨z, a, xs, rfl, ea, l1000, kE, k⟩ := h
    refine ⟨_, (@pss_cons _ _ _ _ _ (@ps_put _ _ 2 _ _ _ _ (by rfl) (by first | exact .inl rfl | exact .inr rfl | assumption) S.nd rfl (Or.inr rfl) (pe_call G_shifted_size (hr.mono (by decide)) rfl T.mg_shifted_size T.F_shifted_size.kp T.b_shifted_size .nil (passF L) (@pa_mor _ _ _ _ _ (by rfl) (pv 1) pa_nil)))
      (@pss_one _ _ _ (@ps_ret _ _ _ _ (pe_comp (N := ["i", "row", "n"]) (ρ := (fun σ => [σ[1]?.join, σ[2]?.join])) ⟨rfl, rfl, by decide +kernel, by decide +kernel, (List.forall_mem_cons.mpr ⟨rfl, (List.forall_mem_cons.mpr ⟨rfl, (List.forall_mem_nil _)⟩)⟩), has_of (by rfl), rfl, by decide +kernel, rfl, (fun σ j v h => match j, h with | 0, h => ⟨1, _, rfl, rfl, join_some h, Or.inr (Or.inl rfl), .inl rfl, .inl rfl⟩ | 1, h => ⟨2, _, rfl, rfl, join_some h, Or.inr (Or.inl rfl), .inl rfl, .inl rfl⟩ | j + 2, h => by cases h), (fun _ _ => rfl)⟩ rfl (pi_range1 rfl T.n_range (@pa_mor _ _ _ _ _ (by rfl) (pv 2) pa_nil)) (fun s₃ H₃ fp => .nil) (fun s₃ H₃ fp => (pe_call G_shifted_row (hr.mono (by decide)) rfl T.mg_shifted_row T.F_shifted_row.kp T.b_shifted_row .nil pass0 (@pa_mor _ _ _ _ _ (by rfl) (pv 1) (@pa_mor _ _ _ _ _ (by rfl) (pv 0) (@pa_mor _ _ _ _ _ (by rfl) (pv 2) pa_nil))))))))), ?_⟩
    refine ⟨_, rfl, a, xs, rfl, ea, l1000, fun hb => kE hb, fun hg => ?_⟩
    obtain ⟨q, ps, B, hA, k⟩ := k hg
    obtain ⟨vs, ea', lv, fv⟩ := id hA
    have e := ea.symm.trans ea'
    cases e
    have hg' : ¬ ShBad ps.length := by rw [← lv]; exact hg
    generalize hn : (ps.length + 1) / 2 = n at k
    have en : (xs.length + 1) / 2 = n := by omega
    have n40 : n ≤ 40 := Nat.le_of_not_lt fun z => hg' (.inr (by omega))
    have odd : ps.length % 2 = 1 := by
      have : ¬ ps.length % 2 = 0 := fun z => hg' (.inl z)
      omega
    rw [en]
    dsimp only [gName]
    refine ret_of (comp_ofN (xs := (List.range n).map fun i : Nat => V.int (0 + (i : Int))) (fun R h => ⟨_, rfl, (n : Int), rfl, by omega, by omega, h _ _ (Same.refl _) (by rw [Int.toNat_natCast]; exact jseq_rng)⟩) (by rw [List.length_map, List.length_range]; exact small1000 (by omega)) (fun D i y Hx => ∃ x : Addr, y = .ref x ∧ x ≠ D ∧ H x = none ∧ RowG B Hx q x (shRow ps n i)) (fun D i y Ha Hb ys ⟨x, h1, h2, h3, vs, e1, e2, e3⟩ e f => ⟨x, h1, h2, h3, vs, f _ _ h2 e1, e2, fun j v p x y => (e3 j v p x y).far e f⟩) ?_ ?_)
    · intro D i v hi Hc R sc ⟨ys, eD⟩ kc
      obtain ⟨hi', rfl⟩ := rng_at hi
      refine ⟨_, rfl, _, rfl, _, rfl, a, q, ps, B, n, i, rfl, hA.mono sc, by omega, by omega, n40, hi', fun r H' s' nr hR => kc _ H' s' ⟨r, rfl, (fun e => by rw [e, eD] at nr; cases nr), none_of sc nr, hR⟩⟩
    · intro D ys Hc nD sc lys hP eD
      rw [List.length_map, List.length_range] at lys
      exact k D Hc sc nD ⟨ys, eD, lys, hP⟩
theorem sc_turned_table : FnScope ["world", "row"] ["world", "row"] (defScope s_turned_table) := ⟨rfl, rfl, rfl, by decide +kernel, rfl, by decide +kernel, by decide +kernel⟩
theorem ok_turned_table (T : Txt K mg t) : FnOk P w K mg base (CXF P w) 2 t.f_turned_table t.d_turned_table ["world", "row"] (spTuTab t.C_NoFit) := by
  have S := sc_turned_table
  have G_turned_size := ok_turned_size (P := P) (w := w) (base := base) T
  have G_turned_row := ok_turned_row (P := P) (w := w) (base := base) T
  refine T.F_turned_table.okX S (fun vs H Q E h => ?_) (fun cdv A outer s H vs Q E hr h L => ?_)
  · obtain ⟨z, a, xs, rfl, _⟩ := h
    rfl
  · obtain ⟨z, a, xs, rfl, ea, l1000, kE, k⟩ := h
    refine ⟨_, (@pss_one _ _ _ (@ps_ret _ _ _ _ (pe_comp (N := ["i", "row"]) (ρ := (fun σ => [σ[1]?.join])) ⟨rfl, rfl, by decide +kernel, by decide +kernel, (List.forall_mem_cons.mpr ⟨rfl, (List.forall_mem_nil _)⟩), has_of (by rfl), rfl, by decide +kernel, rfl, (fun σ j v h => match j, h with | 0, h => ⟨1, _, rfl, rfl, join_some h, Or.inr (Or.inl rfl), .inl rfl, .inl rfl⟩ | j + 1, h => by cases h), (fun _ _ => rfl)⟩ rfl (pi_range1 rfl T.n_range (@pa_mor _ _ _ _ _ (by rfl) (pe_call G_turned_size (hr.mono (by decide)) rfl T.mg_turned_size T.F_turned_size.kp T.b_turned_size .nil (passF L) (@pa_mor _ _ _ _ _ (by rfl) (pv 1) pa_nil)) pa_nil)) (fun s₃ H₃ fp => .nil) (fun s₃ H₃ fp => (pe_call G_turned_row (hr.mono (by decide)) rfl T.mg_turned_row T.F_turned_row.kp T.b_turned_row .nil pass0 (@pa_mor _ _ _ _ _ (by rfl) (pv 1) (@pa_mor _ _ _ _ _ (by rfl) (pv 0) pa_nil))))))), ?_⟩
    by_cases hg : TuBad xs.length
    · exact ⟨_, rfl, a, xs, rfl, ea, l1000, fun hb => kE hb, fun h => absurd hg h⟩
    obtain ⟨q, ps, B, hA, k⟩ := k hg
    obtain ⟨vs, ea', lv, fv⟩ := id hA
    have e := ea.symm.trans ea'
    cases e
    have n1 : 1 ≤ ps.length := Nat.pos_of_ne_zero fun z => hg (.inl (by omega))
    have n40 : ps.length ≤ 40 := Nat.le_of_not_lt fun z => hg (.inr (by omega))
    refine ret_of (comp_ofN (xs := (List.range ps.length).map fun i : Nat => V.int (0 + (i : Int))) (fun R h => ⟨_, rfl, a, xs, rfl, ea, l1000, fun hb => absurd hb hg, fun _ => ⟨(xs.length : Int), rfl, by omega, by omega, h _ _ (Same.refl _) (by rw [Int.toNat_natCast, lv]; exact jseq_rng)⟩⟩) (by rw [List.length_map, List.length_range]; exact small1000 (by omega)) (fun D i y Hx => ∃ x : Addr, y = .ref x ∧ x ≠ D ∧ H x = none ∧ RowG B Hx q x (tuRow ps i)) (fun D i y Ha Hb ys ⟨x, h1, h2, h3, vs, e1, e2, e3⟩ e f => ⟨x, h1, h2, h3, vs, f _ _ h2 e1, e2, fun j v p x y => (e3 j v p x y).far e f⟩) ?_ ?_)
    · intro D i v hi Hc R sc ⟨ys, eD⟩ kc
      obtain ⟨hi', rfl⟩ := rng_at hi
      refine ⟨_, rfl, _, rfl, a, q, ps, B, i, rfl, hA.mono sc, n1, n40, hi', fun r H' s' nr hR => kc _ H' s' ⟨r, rfl, (fun e => by rw [e, eD] at nr; cases nr), none_of sc nr, hR⟩⟩
    · intro D ys Hc nD sc lys hP eD
      rw [List.length_map, List.length_range] at lys
      exact k D Hc sc nD ⟨ys, eD, lys, hP⟩
theorem sc_growth : FnScope ["world", "row", "wholes"] ["world", "row"] (defScope s_growth) := ⟨rfl, rfl, rfl, by decide +kernel, rfl, by decide +kernel, by decide +kernel⟩
theorem ok_growth (T : Txt K mg t) : FnOk P w K mg base (CXF P w) 4 t.f_growth t.d_growth ["world", "row"] (spRefuse2 t.C_NoFit) := by
  have S := sc_growth
  have G_shifted_size := ok_shifted_size (P := P) (w := w) (base := base) T
  have G_padded := ok_padded (P := P) (w := w) (base := base) T
  have G_numbers_of := ok_numbers_of (P := P) (w := w) (base := base) T
  have G_poly_times := ok_poly_times (P := P) (w := w) (base := base) T
  have G_parted := ok_parted (P := P) (w := w) (base := base) T
  have G_common := ok_common (P := P) (w := w) (base := base) T
  have G_next_pair := ok_next_pair (P := P) (w := w) (base := base) T
  have G_whole_pairs := ok_whole_pairs (P := P) (w := w) (base := base) T
  have G_told_pair := ok_told_pair (P := P) (w := w) (base := base) T
  have G_whole_answer := ok_whole_answer (P := P) (w := w) (base := base) T
  have G_whole_turn := ok_whole_turn (P := P) (w := w) (base := base) T
  have G_check_aim := ok_check_aim (P := P) (w := w) (base := base) T
  have G_World_as_wholes := ok_as_wholes (P := P) (w := w) (base := base) T
  refine T.F_growth.okX S (fun vs H Q E h => ?_) (fun cdv A outer s H vs Q E hr h L => ?_)
  · obtain ⟨z, a, xs, rfl, _⟩ := h
    rfl
  · obtain ⟨z, a, xs, rfl, ea, l, hb, kE⟩ := h
    refine ⟨_, (@pss_cons _ _ _ _ _ (ps_expr (pe_call G_shifted_size (hr.mono (by decide)) rfl T.mg_shifted_size T.F_shifted_size.kp T.b_shifted_size .nil (passF L) (@pa_mor _ _ _ _ _ (by rfl) (pv 1) pa_nil)))
      (@pss_cons _ _ _ _ _ (@ps_put _ _ 2 _ _ _ _ (by rfl) (by first | exact .inl rfl | exact .inr rfl | assumption) S.nd rfl (Or.inr rfl) (pe_meth (pv 0) T.cl_World T.m_World_as_wholes G_World_as_wholes (hr.mono (by decide)) T.b_World_as_wholes .nil pass0 (@pa_mor _ _ _ _ _ (by rfl) (pv 1) pa_nil)))
      (@pss_one _ _ _ (@ps_ret _ _ _ _ (pe_comp (N := ["pair", "world", "wholes"]) (ρ := (fun σ => [σ[0]?.join, σ[2]?.join])) ⟨rfl, rfl, by decide +kernel, by decide +kernel, (List.forall_mem_cons.mpr ⟨rfl, (List.forall_mem_cons.mpr ⟨rfl, (List.forall_mem_nil _)⟩)⟩), has_of (by rfl), rfl, by decide +kernel, rfl, (fun σ j v h => match j, h with | 0, h => ⟨0, _, rfl, rfl, join_some h, Or.inr (Or.inl rfl), .inl rfl, .inl rfl⟩ | 1, h => ⟨2, _, rfl, rfl, join_some h, Or.inr (Or.inl rfl), .inl rfl, .inl rfl⟩ | j + 2, h => by cases h), (fun _ _ => rfl)⟩ rfl (pi_list (pe_call G_whole_pairs (hr.mono (by decide)) rfl T.mg_whole_pairs T.F_whole_pairs.kp T.b_whole_pairs .nil pass0 (@pa_mor _ _ _ _ _ (by rfl) (pv 0) (@pa_mor _ _ _ _ _ (by rfl) (@pe_ix _ _ _ _ _ _ _ ix_tup (pv 2) pe_int (fun _ _ => rfl)) pa_nil)))) (fun s₃ H₃ fp => (.one (@pt_cmpR _ _ _ _ _ _ _ _ op_ne (@pe_ix _ _ _ _ _ _ _ (ix_tupK (K := K)) (pv 0) pe_int (fun _ _ => rfl)) pe_int (nomark _)))) (fun s₃ H₃ fp => (pe_call G_told_pair (hr.mono (by decide)) rfl T.mg_told_pair T.F_told_pair.kp T.b_told_pair .nil pass0 (@pa_mor _ _ _ _ _ (by rfl) (pv 1) (@pa_mor _ _ _ _ _ (by rfl) (pv 0) (@pa_mor _ _ _ _ _ (by rfl) (@pe_ix _ _ _ _ _ _ _ (ix_tupK (K := K)) (pv 2) pe_int (fun _ _ => rfl)) pa_nil)))))))))), ?_⟩
    exact ⟨_, rfl, a, xs, rfl, ea, l, fun _ => kE, fun h => absurd hb h⟩
theorem sc_grown : FnScope ["world", "row", "front", "back", "n", "many", "wholes", "both", "pair"] ["world", "row", "front", "back"] (defScope s_grown) := ⟨rfl, rfl, rfl, by decide +kernel, rfl, by decide +kernel, by decide +kernel⟩
theorem ok_grown (T : Txt K mg t) : FnOk P w K mg base (CXF P w) 4 t.f_grown t.d_grown ["world", "row", "front", "back"] (spRefuse4 t.C_NoFit) := by
  have S := sc_grown
  have G_shifted_size := ok_shifted_size (P := P) (w := w) (base := base) T
  have G_padded := ok_padded (P := P) (w := w) (base := base) T
  have G_numbers_of := ok_numbers_of (P := P) (w := w) (base := base) T
  have G_poly_times := ok_poly_times (P := P) (w := w) (base := base) T
  have G_parted := ok_parted (P := P) (w := w) (base := base) T
  have G_common := ok_common (P := P) (w := w) (base := base) T
  have G_next_pair := ok_next_pair (P := P) (w := w) (base := base) T
  have G_whole_pairs := ok_whole_pairs (P := P) (w := w) (base := base) T
  have G_told_pair := ok_told_pair (P := P) (w := w) (base := base) T
  have G_whole_answer := ok_whole_answer (P := P) (w := w) (base := base) T
  have G_whole_turn := ok_whole_turn (P := P) (w := w) (base := base) T
  have G_check_aim := ok_check_aim (P := P) (w := w) (base := base) T
  have G_World_as_wholes := ok_as_wholes (P := P) (w := w) (base := base) T
  refine T.F_grown.okX S (fun vs H Q E h => ?_) (fun cdv A outer s H vs Q E hr h L => ?_)
  · obtain ⟨z, a, xs, u, v, rfl, _⟩ := h
    rfl
  · obtain ⟨z, a, xs, u, v, rfl, ea, l, hb, kE⟩ := h
    refine ⟨_, (@pss_cons _ _ _ _ _ (@ps_put _ _ 4 _ _ _ _ (by rfl) (by first | exact .inl rfl | exact .inr rfl | assumption) S.nd rfl (Or.inl rfl) (pe_call G_shifted_size (hr.mono (by decide)) rfl T.mg_shifted_size T.F_shifted_size.kp T.b_shifted_size .nil (passF L) (@pa_mor _ _ _ _ _ (by rfl) (pv 1) pa_nil)))
      (@pss_cons _ _ _ _ _ (@ps_put _ _ 5 _ _ _ _ (by rfl) (by first | exact .inl rfl | exact .inr rfl | assumption) S.nd rfl (Or.inl rfl) (pe_callB call_len_seq rfl T.n_len boot_len (@pa_mor _ _ _ _ _ (by rfl) (pv 2) pa_nil)))
      (@pss_cons _ _ _ _ _ (@ps_if _ _ _ _ _ _ _ _ (PW.pt (@pw_or _ _ _ _ _ _ _ (@pt_cmpR _ _ _ _ _ _ _ _ op_ne (pe_callB call_len_seq rfl T.n_len boot_len (@pa_mor _ _ _ _ _ (by rfl) (pv 3) pa_nil)) (pv 5) (nomark _)) (@pw_or1 _ _ _ _ (@pt_not _ _ _ _ (pt_chain op_le op_lt pe_int (pv 5) (pv 4)))))) (@pss_one _ _ _ (ps_raise L rfl PySem.F.excBase_ValueError T.x_NoFit rfl T.mg_NoFit (@pa_mor _ _ _ _ _ (by rfl) pe_str pa_nil))) pss_nil)
      (@pss_cons _ _ _ _ _ (@ps_put _ _ 6 _ _ _ _ (by rfl) (by first | exact .inl rfl | exact .inr rfl | assumption) S.nd rfl (Or.inl rfl) (pe_meth (pv 0) T.cl_World T.m_World_as_wholes G_World_as_wholes (hr.mono (by decide)) T.b_World_as_wholes .nil pass0 (@pa_mor _ _ _ _ _ (by rfl) (pv 1) pa_nil)))
      (@pss_cons _ _ _ _ _ (@ps_put _ _ 7 _ _ _ _ (by rfl) (by first | exact .inl rfl | exact .inr rfl | assumption) S.nd rfl (Or.inl rfl) (pe_meth (pv 0) T.cl_World T.m_World_as_wholes G_World_as_wholes (hr.mono (by decide)) T.b_World_as_wholes .nil pass0 (@pa_mor _ _ _ _ _ (by rfl) (@pe_op _ _ _ _ _ _ _ _ op_cat (pv 2) (pv 3)) pa_nil)))
      (@pss_cons _ _ _ _ _ (@ps_put _ _ 8 _ _ _ _ (by rfl) (by first | exact .inl rfl | exact .inr rfl | assumption) S.nd rfl (Or.inl rfl) (pe_call G_next_pair (hr.mono (by decide)) rfl T.mg_next_pair T.F_next_pair.kp T.b_next_pair .nil pass0 (@pa_mor _ _ _ _ _ (by rfl) (pv 0) (@pa_mor _ _ _ _ _ (by rfl) (@pe_ix _ _ _ _ _ _ _ ix_tup (pv 6) pe_int (fun _ _ => rfl)) (@pa_mor _ _ _ _ _ (by rfl) (@pe_tup _ _ _ _ _ (@pa_mor _ _ _ _ _ (by rfl) (@pe_slice _ _ _ _ _ _ _ _ _ _ sl_list (@pe_ix _ _ _ _ _ _ _ ix_tup (pv 7) pe_int (fun _ _ => rfl)) po_none (po_some (pv 5))) (@pa_mor _ _ _ _ _ (by rfl) (@pe_slice _ _ _ _ _ _ _ _ _ _ sl_list (@pe_ix _ _ _ _ _ _ _ ix_tup (pv 7) pe_int (fun _ _ => rfl)) (po_some (pv 5)) po_none) (@pa_mor _ _ _ _ _ (by rfl) (@pe_op _ _ _ _ _ _ _ _ op_mul (@pe_ix _ _ _ _ _ _ _ ix_tup (pv 7) pe_int (fun _ _ => rfl)) (@pe_ix _ _ _ _ _ _ _ ix_tup (pv 6) pe_int (fun _ _ => rfl))) pa_nil)))) (@pa_mor _ _ _ _ _ (by rfl) pe_int pa_nil))))))
      (@pss_cons _ _ _ _ _ (@ps_if _ _ _ _ _ _ _ _ (@pt_cmpR _ _ _ _ _ _ _ _ op_eq (@pe_ix _ _ _ _ _ _ _ ix_tup (pv 8) pe_int (fun _ _ => rfl)) pe_int (nomark _)) (@pss_one _ _ _ (@ps_ret _ _ _ _ pe_non)) pss_nil)
      (@pss_one _ _ _ (@ps_ret _ _ _ _ (pe_call G_told_pair (hr.mono (by decide)) rfl T.mg_told_pair T.F_told_pair.kp T.b_told_pair .nil pass0 (@pa_mor _ _ _ _ _ (by rfl) (pv 0) (@pa_mor _ _ _ _ _ (by rfl) (pv 8) (@pa_mor _ _ _ _ _ (by rfl) (@pe_ix _ _ _ _ _ _ _ ix_tup (pv 6) pe_int (fun _ _ => rfl)) pa_nil))))))))))))), ?_⟩
    exact ⟨_, rfl, a, xs, rfl, ea, l, fun _ => kE, fun h => absurd hb h⟩
theorem sc_turned_back : FnScope ["world", "row", "n", "told"] ["world", "row"] (defScope s_turned_back) := ⟨rfl, rfl, rfl, by decide +kernel, rfl, by decide +kernel, by decide +kernel⟩
theorem ok_turned_back (T : Txt K mg t) : FnOk P w K mg base (CXF P w) 4 t.f_turned_back t.d_turned_back ["world", "row"] (spRefuseT t.C_NoFit) := by
  have S := sc_turned_back
  have G_turned_size := ok_turned_size (P := P) (w := w) (base := base) T
  have G_padded := ok_padded (P := P) (w := w) (base := base) T
  have G_numbers_of := ok_numbers_of (P := P) (w := w) (base := base) T
  have G_poly_times := ok_poly_times (P := P) (w := w) (base := base) T
  have G_parted := ok_parted (P := P) (w := w) (base := base) T
  have G_common := ok_common (P := P) (w := w) (base := base) T
  have G_next_pair := ok_next_pair (P := P) (w := w) (base := base) T
  have G_whole_pairs := ok_whole_pairs (P := P) (w := w) (base := base) T
  have G_told_pair := ok_told_pair (P := P) (w := w) (base := base) T
  have G_whole_answer := ok_whole_answer (P := P) (w := w) (base := base) T
  have G_whole_turn := ok_whole_turn (P := P) (w := w) (base := base) T
  have G_check_aim := ok_check_aim (P := P) (w := w) (base := base) T
  have G_World_as_wholes := ok_as_wholes (P := P) (w := w) (base := base) T
  refine T.F_turned_back.okX S (fun vs H Q E h => ?_) (fun cdv A outer s H vs Q E hr h L => ?_)
  · obtain ⟨z, a, xs, rfl, _⟩ := h
    rfl
  · obtain ⟨z, a, xs, rfl, ea, l, hb, kE⟩ := h
    refine ⟨_, (@pss_cons _ _ _ _ _ (@ps_put _ _ 2 _ _ _ _ (by rfl) (by first | exact .inl rfl | exact .inr rfl | assumption) S.nd rfl (Or.inl rfl) (pe_call G_turned_size (hr.mono (by decide)) rfl T.mg_turned_size T.F_turned_size.kp T.b_turned_size .nil (passF L) (@pa_mor _ _ _ _ _ (by rfl) (pv 1) pa_nil)))
      (@pss_cons _ _ _ _ _ (@ps_put _ _ 3 _ _ _ _ (by rfl) (by first | exact .inl rfl | exact .inr rfl | assumption) S.nd rfl (Or.inl rfl) (pe_call G_common (hr.mono (by decide)) rfl T.mg_common T.F_common.kp T.b_common .nil pass0 (@pa_mor _ _ _ _ _ (by rfl) (pv 0) (@pa_mor _ _ _ _ _ (by rfl) (pv 1) (@pa_mor _ _ _ _ _ (by rfl) (pe_call G_whole_turn (hr.mono (by decide)) rfl T.mg_whole_turn T.F_whole_turn.kp T.b_whole_turn .nil pass0 (@pa_mor _ _ _ _ _ (by rfl) (pv 0) (@pa_mor _ _ _ _ _ (by rfl) (pv 2) pa_nil))) pa_nil)))))
      (@pss_cons _ _ _ _ _ (@ps_if _ _ _ _ _ _ _ _ (@pt_cmpR _ _ _ _ _ _ _ _ op_gt (pe_callB call_len_seq rfl T.n_len boot_len (@pa_mor _ _ _ _ _ (by rfl) (@pe_ix _ _ _ _ _ _ _ ix_tup (pv 3) pe_int (fun _ _ => rfl)) pa_nil)) pe_int (nomark _)) (@pss_one _ _ _ (@ps_ret _ _ _ _ pe_non)) pss_nil)
      (@pss_one _ _ _ (@ps_ret _ _ _ _ (pe_call G_padded (hr.mono (by decide)) rfl T.mg_padded T.F_padded.kp T.b_padded .nil pass0 (@pa_mor _ _ _ _ _ (by rfl) (pv 0) (@pa_mor _ _ _ _ _ (by rfl) (@pe_ix _ _ _ _ _ _ _ ix_tup (pv 3) pe_int (fun _ _ => rfl)) (@pa_mor _ _ _ _ _ (by rfl) (pv 2) pa_nil))))))))), ?_⟩
    exact ⟨_, rfl, a, xs, rfl, ea, l, fun _ => kE, fun h => absurd hb h⟩
theorem sc_shifted_undone : FnScope ["world", "row", "aim", "n", "wholes", "pairs", "back", "much", "aims", "answer"] ["world", "row", "aim"] (defScope s_shifted_undone) := ⟨rfl, rfl, rfl, by decide +kernel, rfl, by decide +kernel, by decide +kernel⟩
theorem ok_shifted_undone (T : Txt K mg t) : FnOk P w K mg base (CXF P w) 4 t.f_shifted_undone t.d_shifted_undone ["world", "row", "aim"] (spRefuseSA t.C_NoFit) := by
  have S := sc_shifted_undone
  have G_shifted_size := ok_shifted_size (P := P) (w := w) (base := base) T
  have G_padded := ok_padded (P := P) (w := w) (base := base) T
  have G_numbers_of := ok_numbers_of (P := P) (w := w) (base := base) T
  have G_poly_times := ok_poly_times (P := P) (w := w) (base := base) T
  have G_parted := ok_parted (P := P) (w := w) (base := base) T
  have G_common := ok_common (P := P) (w := w) (base := base) T
  have G_next_pair := ok_next_pair (P := P) (w := w) (base := base) T
  have G_whole_pairs := ok_whole_pairs (P := P) (w := w) (base := base) T
  have G_told_pair := ok_told_pair (P := P) (w := w) (base := base) T
  have G_whole_answer := ok_whole_answer (P := P) (w := w) (base := base) T
  have G_whole_turn := ok_whole_turn (P := P) (w := w) (base := base) T
  have G_check_aim := ok_check_aim (P := P) (w := w) (base := base) T
  have G_World_as_wholes := ok_as_wholes (P := P) (w := w) (base := base) T
  refine T.F_shifted_undone.okX S (fun vs H Q E h => ?_) (fun cdv A outer s H vs Q E hr h L => ?_)
  · obtain ⟨z, a, b, xs, ys, rfl, _⟩ := h
    rfl
  · obtain ⟨z, a, b, xs, ys, rfl, ea, eb, l, hb, kE⟩ := h
    refine ⟨_, (@pss_cons _ _ _ _ _ (@ps_put _ _ 3 _ _ _ _ (by rfl) (by first | exact .inl rfl | exact .inr rfl | assumption) S.nd rfl (Or.inl rfl) (pe_call G_shifted_size (hr.mono (by decide)) rfl T.mg_shifted_size T.F_shifted_size.kp T.b_shifted_size .nil (passF L) (@pa_mor _ _ _ _ _ (by rfl) (pv 1) pa_nil)))
      (@pss_cons _ _ _ _ _ (ps_expr (pe_call G_check_aim (hr.mono (by decide)) rfl T.mg_check_aim T.F_check_aim.kp T.b_check_aim .nil (passF L) (@pa_mor _ _ _ _ _ (by rfl) (pv 3) (@pa_mor _ _ _ _ _ (by rfl) (pv 2) pa_nil))))
      (@pss_cons _ _ _ _ _ (@ps_put _ _ 4 _ _ _ _ (by rfl) (by first | exact .inl rfl | exact .inr rfl | assumption) S.nd rfl (Or.inl rfl) (pe_meth (pv 0) T.cl_World T.m_World_as_wholes G_World_as_wholes (hr.mono (by decide)) T.b_World_as_wholes .nil pass0 (@pa_mor _ _ _ _ _ (by rfl) (pv 1) pa_nil)))
      (@pss_cons _ _ _ _ _ (@ps_put _ _ 5 _ _ _ _ (by rfl) (by first | exact .inl rfl | exact .inr rfl | assumption) S.nd rfl (Or.inl rfl) (pe_call G_whole_pairs (hr.mono (by decide)) rfl T.mg_whole_pairs T.F_whole_pairs.kp T.b_whole_pairs .nil pass0 (@pa_mor _ _ _ _ _ (by rfl) (pv 0) (@pa_mor _ _ _ _ _ (by rfl) (@pe_ix _ _ _ _ _ _ _ ix_list (pv 4) pe_int (fun _ _ => rfl)) pa_nil))))
      (@pss_cons _ _ _ _ _ (@ps_put _ _ 6 _ _ _ _ (by rfl) (by first | exact .inl rfl | exact .inr rfl | assumption) S.nd rfl (Or.inl rfl) (@pe_ix _ _ _ _ _ _ _ ix_list (@pe_ix _ _ _ _ _ _ _ ix_list (pv 5) (@pe_un _ _ _ _ _ _ un_neg pe_int) (fun _ _ => rfl)) pe_int (fun _ _ => rfl)))
      (@pss_cons _ _ _ _ _ (@ps_put _ _ 7 _ _ _ _ (by rfl) (by first | exact .inl rfl | exact .inr rfl | assumption) S.nd rfl (Or.inl rfl) (@pe_ix _ _ _ _ _ _ _ ix_list (@pe_ix _ _ _ _ _ _ _ ix_list (pv 5) (@pe_un _ _ _ _ _ _ un_neg pe_int) (fun _ _ => rfl)) pe_int (fun _ _ => rfl)))
      (@pss_cons _ _ _ _ _ (@ps_if _ _ _ _ _ _ _ _ (@pt_cmpR _ _ _ _ _ _ _ _ op_eq (pv 7) pe_int (nomark _)) (@pss_one _ _ _ (@ps_ret _ _ _ _ (@pe_tup _ _ _ _ _ (@pa_mor _ _ _ _ _ (by rfl) pe_str (@pa_mor _ _ _ _ _ (by rfl) (pe_callB call_len_seq rfl T.n_len boot_len (@pa_mor _ _ _ _ _ (by rfl) (pv 5) pa_nil)) (@pa_mor _ _ _ _ _ (by rfl) (pe_call G_padded (hr.mono (by decide)) rfl T.mg_padded T.F_padded.kp T.b_padded .nil pass0 (@pa_mor _ _ _ _ _ (by rfl) (pv 0) (@pa_mor _ _ _ _ _ (by rfl) (pe_call G_numbers_of (hr.mono (by decide)) rfl T.mg_numbers_of T.F_numbers_of.kp T.b_numbers_of .nil pass0 (@pa_mor _ _ _ _ _ (by rfl) (pv 0) (@pa_mor _ _ _ _ _ (by rfl) (pv 6) (@pa_mor _ _ _ _ _ (by rfl) pe_int (@pa_mor _ _ _ _ _ (by rfl) (@pe_ix _ _ _ _ _ _ _ ix_list (pv 6) (@pe_un _ _ _ _ _ _ un_neg pe_int) (fun _ _ => rfl)) pa_nil))))) (@pa_mor _ _ _ _ _ (by rfl) (pv 3) pa_nil)))) pa_nil)))))) pss_nil)
      (@pss_cons _ _ _ _ _ (@ps_put _ _ 8 _ _ _ _ (by rfl) (by first | exact .inl rfl | exact .inr rfl | assumption) S.nd rfl (Or.inl rfl) (pe_meth (pv 0) T.cl_World T.m_World_as_wholes G_World_as_wholes (hr.mono (by decide)) T.b_World_as_wholes .nil pass0 (@pa_mor _ _ _ _ _ (by rfl) (pv 2) pa_nil)))
      (@pss_cons _ _ _ _ _ (@ps_put _ _ 9 _ _ _ _ (by rfl) (by first | exact .inl rfl | exact .inr rfl | assumption) S.nd rfl (Or.inl rfl) (pe_call G_whole_answer (hr.mono (by decide)) rfl T.mg_whole_answer T.F_whole_answer.kp T.b_whole_answer .nil pass0 (@pa_mor _ _ _ _ _ (by rfl) (pv 0) (@pa_mor _ _ _ _ _ (by rfl) (@pe_ix _ _ _ _ _ _ _ ix_list (pv 4) pe_int (fun _ _ => rfl)) (@pa_mor _ _ _ _ _ (by rfl) (pv 5) (@pa_mor _ _ _ _ _ (by rfl) (@pe_ix _ _ _ _ _ _ _ ix_list (pv 8) pe_int (fun _ _ => rfl)) pa_nil))))))
      (@pss_one _ _ _ (@ps_ret _ _ _ _ (@pe_tup _ _ _ _ _ (@pa_mor _ _ _ _ _ (by rfl) pe_str (@pa_mor _ _ _ _ _ (by rfl) (pe_call G_numbers_of (hr.mono (by decide)) rfl T.mg_numbers_of T.F_numbers_of.kp T.b_numbers_of .nil pass0 (@pa_mor _ _ _ _ _ (by rfl) (pv 0) (@pa_mor _ _ _ _ _ (by rfl) (pv 9) (@pa_mor _ _ _ _ _ (by rfl) (@pe_ix _ _ _ _ _ _ _ ix_list (pv 4) pe_int (fun _ _ => rfl)) (@pa_mor _ _ _ _ _ (by rfl) (@pe_op _ _ _ _ _ _ _ _ op_mul (pv 7) (@pe_ix _ _ _ _ _ _ _ ix_list (pv 8) pe_int (fun _ _ => rfl))) pa_nil))))) pa_nil)))))))))))))), ?_⟩
    refine ⟨_, rfl, a, xs, rfl, ea, l, fun _ => kE, fun h => ?_⟩
    exact ⟨_, rfl, _, rfl, _, b, ys, rfl, eb, fun _ => kE, fun e => absurd e (hb.resolve_left h)⟩
theorem sc_turned_undone : FnScope ["world", "row", "aim", "n", "turn", "told", "answer"] ["world", "row", "aim"] (defScope s_turned_undone) := ⟨rfl, rfl, rfl, by decide +kernel, rfl, by decide +kernel, by decide +kernel⟩
theorem ok_turned_undone (T : Txt K mg t) : FnOk P w K mg base (CXF P w) 4 t.f_turned_undone t.d_turned_undone ["world", "row", "aim"] (spRefuseTA t.C_NoFit) := by
  have S := sc_turned_undone
  have G_turned_size := ok_turned_size (P := P) (w := w) (base := base) T
  have G_padded := ok_padded (P := P) (w := w) (base := base) T
  have G_numbers_of := ok_numbers_of (P := P) (w := w) (base := base) T
  have G_poly_times := ok_poly_times (P := P) (w := w) (base := base) T
  have G_parted := ok_parted (P := P) (w := w) (base := base) T
  have G_common := ok_common (P := P) (w := w) (base := base) T
  have G_next_pair := ok_next_pair (P := P) (w := w) (base := base) T
  have G_whole_pairs := ok_whole_pairs (P := P) (w := w) (base := base) T
  have G_told_pair := ok_told_pair (P := P) (w := w) (base := base) T
  have G_whole_answer := ok_whole_answer (P := P) (w := w) (base := base) T
  have G_whole_turn := ok_whole_turn (P := P) (w := w) (base := base) T
  have G_check_aim := ok_check_aim (P := P) (w := w) (base := base) T
  have G_World_as_wholes := ok_as_wholes (P := P) (w := w) (base := base) T
  refine T.F_turned_undone.okX S (fun vs H Q E h => ?_) (fun cdv A outer s H vs Q E hr h L => ?_)
  · obtain ⟨z, a, b, xs, ys, rfl, _⟩ := h
    rfl
  · obtain ⟨z, a, b, xs, ys, rfl, ea, eb, l, hb, kE⟩ := h
    refine ⟨_, (@pss_cons _ _ _ _ _ (@ps_put _ _ 3 _ _ _ _ (by rfl) (by first | exact .inl rfl | exact .inr rfl | assumption) S.nd rfl (Or.inl rfl) (pe_call G_turned_size (hr.mono (by decide)) rfl T.mg_turned_size T.F_turned_size.kp T.b_turned_size .nil (passF L) (@pa_mor _ _ _ _ _ (by rfl) (pv 1) pa_nil)))
      (@pss_cons _ _ _ _ _ (ps_expr (pe_call G_check_aim (hr.mono (by decide)) rfl T.mg_check_aim T.F_check_aim.kp T.b_check_aim .nil (passF L) (@pa_mor _ _ _ _ _ (by rfl) (pv 3) (@pa_mor _ _ _ _ _ (by rfl) (pv 2) pa_nil))))
      (@pss_cons _ _ _ _ _ (@ps_put _ _ 4 _ _ _ _ (by rfl) (by first | exact .inl rfl | exact .inr rfl | assumption) S.nd rfl (Or.inl rfl) (pe_call G_whole_turn (hr.mono (by decide)) rfl T.mg_whole_turn T.F_whole_turn.kp T.b_whole_turn .nil pass0 (@pa_mor _ _ _ _ _ (by rfl) (pv 0) (@pa_mor _ _ _ _ _ (by rfl) (pv 3) pa_nil))))
      (@pss_cons _ _ _ _ _ (@ps_put _ _ 5 _ _ _ _ (by rfl) (by first | exact .inl rfl | exact .inr rfl | assumption) S.nd rfl (Or.inl rfl) (pe_call G_common (hr.mono (by decide)) rfl T.mg_common T.F_common.kp T.b_common .nil pass0 (@pa_mor _ _ _ _ _ (by rfl) (pv 0) (@pa_mor _ _ _ _ _ (by rfl) (pv 1) (@pa_mor _ _ _ _ _ (by rfl) (pv 4) pa_nil)))))
      (@pss_cons _ _ _ _ _ (@ps_if _ _ _ _ _ _ _ _ (@pt_cmpR _ _ _ _ _ _ _ _ op_gt (pe_callB call_len_seq rfl T.n_len boot_len (@pa_mor _ _ _ _ _ (by rfl) (@pe_ix _ _ _ _ _ _ _ ix_tup (pv 5) pe_int (fun _ _ => rfl)) pa_nil)) pe_int (nomark _)) (@pss_one _ _ _ (@ps_ret _ _ _ _ (@pe_tup _ _ _ _ _ (@pa_mor _ _ _ _ _ (by rfl) pe_str (@pa_mor _ _ _ _ _ (by rfl) (@pe_ix _ _ _ _ _ _ _ ix_tup (pv 5) pe_int (fun _ _ => rfl)) (@pa_mor _ _ _ _ _ (by rfl) (pe_call G_padded (hr.mono (by decide)) rfl T.mg_padded T.F_padded.kp T.b_padded .nil pass0 (@pa_mor _ _ _ _ _ (by rfl) (pv 0) (@pa_mor _ _ _ _ _ (by rfl) (@pe_ix _ _ _ _ _ _ _ ix_list (pe_call G_parted (hr.mono (by decide)) rfl T.mg_parted T.F_parted.kp T.b_parted .nil pass0 (@pa_mor _ _ _ _ _ (by rfl) (pv 0) (@pa_mor _ _ _ _ _ (by rfl) (pv 4) (@pa_mor _ _ _ _ _ (by rfl) (@pe_ix _ _ _ _ _ _ _ ix_tup (pv 5) pe_int (fun _ _ => rfl)) pa_nil)))) pe_int (fun _ _ => rfl)) (@pa_mor _ _ _ _ _ (by rfl) (pv 3) pa_nil)))) pa_nil)))))) pss_nil)
      (@pss_cons _ _ _ _ _ (@ps_put _ _ 6 _ _ _ _ (by rfl) (by first | exact .inl rfl | exact .inr rfl | assumption) S.nd rfl (Or.inl rfl) (@pe_ix _ _ _ _ _ _ _ ix_list (pe_call G_parted (hr.mono (by decide)) rfl T.mg_parted T.F_parted.kp T.b_parted .nil pass0 (@pa_mor _ _ _ _ _ (by rfl) (pv 0) (@pa_mor _ _ _ _ _ (by rfl) (pe_call G_poly_times (hr.mono (by decide)) rfl T.mg_poly_times T.F_poly_times.kp T.b_poly_times .nil pass0 (@pa_mor _ _ _ _ _ (by rfl) (pv 0) (@pa_mor _ _ _ _ _ (by rfl) (@pe_ix _ _ _ _ _ _ _ ix_tup (pv 5) pe_int (fun _ _ => rfl)) (@pa_mor _ _ _ _ _ (by rfl) (pv 2) pa_nil)))) (@pa_mor _ _ _ _ _ (by rfl) (pv 4) pa_nil)))) pe_int (fun _ _ => rfl)))
      (@pss_one _ _ _ (@ps_ret _ _ _ _ (@pe_tup _ _ _ _ _ (@pa_mor _ _ _ _ _ (by rfl) pe_str (@pa_mor _ _ _ _ _ (by rfl) (pe_call G_padded (hr.mono (by decide)) rfl T.mg_padded T.F_padded.kp T.b_padded .nil pass0 (@pa_mor _ _ _ _ _ (by rfl) (pv 0) (@pa_mor _ _ _ _ _ (by rfl) (pv 6) (@pa_mor _ _ _ _ _ (by rfl) (pv 3) pa_nil)))) pa_nil))))))))))), ?_⟩
    refine ⟨_, rfl, a, xs, rfl, ea, l, fun _ => kE, fun h => ?_⟩
    exact ⟨_, rfl, _, rfl, _, b, ys, rfl, eb, fun _ => kE, fun e => absurd e (hb.resolve_left h)⟩
theorem sc_law_e_fill : FnScope ["cell", "at", "x"] ["cell", "at"] (defScope s_law_e_fill) := ⟨rfl, rfl, rfl, by decide +kernel, rfl, by decide +kernel, by decide +kernel⟩
theorem ok_law_e_fill (T : Txt K mg t) : FnOk P w K mg base CX0 1 t.f_law_e_fill t.d_law_e_fill ["cell", "at"] spFill := by
  have S := sc_law_e_fill
  refine T.F_law_e_fill.ok S (fun vs H Q E h => ?_) (fun cdv A outer s H vs Q E hr h => ?_)
  · obtain ⟨c, a, rfl, _⟩ := h
    rfl
  · obtain ⟨c, a, rfl, ha, k⟩ := h
    refine ⟨_, (@pss_cons _ _ _ _ _ (@ps_if _ _ _ _ _ _ _ _ (@pt_cmpR _ _ _ _ _ _ _ _ op_ge (pv 0) (@pe_op _ _ _ _ _ _ _ _ op_pow pe_int pe_int) (nomark _)) (@pss_one _ _ _ (@ps_ret _ _ _ _ (pv 0))) pss_nil)
      (@pss_cons _ _ _ _ _ (@ps_put _ _ 2 _ _ _ _ (by rfl) (by first | exact .inl rfl | exact .inr rfl | assumption) S.nd rfl (Or.inl rfl) (@pe_op _ _ _ _ _ _ _ _ op_mod (@pe_op _ _ _ _ _ _ _ _ op_add (@pe_op _ _ _ _ _ _ _ _ op_add (@pe_op _ _ _ _ _ _ _ _ op_mul (@pe_op _ _ _ _ _ _ _ _ op_mod (pv 0) pe_int) pe_int) (@pe_op _ _ _ _ _ _ _ _ op_mul (pv 1) pe_int)) pe_int) pe_int))
      (@pss_cons _ _ _ _ _ (@ps_put _ _ 2 _ _ _ _ (by rfl) (by first | exact .inl rfl | exact .inr rfl | assumption) S.nd rfl (Or.inl rfl) (@pe_op _ _ _ _ _ _ _ _ op_mod (@pe_op _ _ _ _ _ _ _ _ op_add (@pe_op _ _ _ _ _ _ _ _ op_add (@pe_op _ _ _ _ _ _ _ _ op_add (@pe_op _ _ _ _ _ _ _ _ op_mul (pv 2) (pv 2)) (@pe_op _ _ _ _ _ _ _ _ op_mul pe_int (pv 2))) (pv 1)) pe_int) pe_int))
      (@pss_one _ _ _ (@ps_ret _ _ _ _ (@pe_op _ _ _ _ _ _ _ _ op_add (@pe_op _ _ _ _ _ _ _ _ op_mul (pv 2) pe_int) (@pe_op _ _ _ _ _ _ _ _ op_mod (@pe_op _ _ _ _ _ _ _ _ op_add (@pe_op _ _ _ _ _ _ _ _ op_add (@pe_op _ _ _ _ _ _ _ _ op_mul (pv 2) (pv 2)) (@pe_op _ _ _ _ _ _ _ _ op_mul pe_int (pv 1))) pe_int) pe_int))))))), ?_⟩
    refine ⟨_, rfl, _, _, rfl, rfl, ⟨by decide, by decide, by decide⟩, _, _, rfl, rfl, _, rfl, ite2 (fun h => ?_) (fun h => ?_)⟩
    · have h := of_decide_eq_true h
      exact ⟨_, rfl, k _ (Int.le_trans (by decide) h)⟩
    · refine ⟨_, rfl, _, _, rfl, rfl, (by show (0 : Int) < 2147483647; decide), _, _, rfl, rfl, .inr ⟨by decide, by decide⟩, _, rfl, _, _, rfl, rfl, .inr ⟨by decide, by decide⟩, _, _, rfl, rfl, _, _, rfl, rfl, _, _, rfl, rfl, (by show (0 : Int) < 2147483399; decide), ?_⟩
      have b0 := Int.emod_nonneg (c % 2147483647 * 40692 + a * 65539 + 7) (show (2147483399 : Int) ≠ 0 by decide)
      have b1 := Int.emod_lt_of_pos (c % 2147483647 * 40692 + a * 65539 + 7) (show (0 : Int) < 2147483399 by decide)
      generalize (c % 2147483647 * 40692 + a * 65539 + 7) % 2147483399 = x at b0 b1 ⊢
      refine ⟨_, rfl, _, rfl, _, _, rfl, rfl, .inl ⟨by omega, by omega⟩, _, rfl, _, _, rfl, rfl, .inl ⟨by decide, by decide⟩, _, _, rfl, rfl, _, rfl, _, _, rfl, rfl, _, _, rfl, rfl, _, _, rfl, rfl, (by show (0 : Int) < 2147483563; decide), ?_⟩
      have c0 := Int.emod_nonneg (x * x + 40014 * x + a + 1) (show (2147483563 : Int) ≠ 0 by decide)
      have c1 := Int.emod_lt_of_pos (x * x + 40014 * x + a + 1) (show (0 : Int) < 2147483563 by decide)
      generalize (x * x + 40014 * x + a + 1) % 2147483563 = y at c0 c1 ⊢
      refine ⟨_, rfl, _, _, rfl, rfl, .inr ⟨by decide, by decide⟩, _, rfl, _, rfl, _, _, rfl, rfl, .inl ⟨by omega, by omega⟩, _, rfl, _, _, rfl, rfl, .inl ⟨by decide, by decide⟩, _, _, rfl, rfl, _, _, rfl, rfl, _, _, rfl, rfl, (by show (0 : Int) < 2147483543; decide), _, _, rfl, rfl, k _ (Int.add_nonneg (Int.mul_nonneg (Int.emod_nonneg _ (by decide)) (by decide)) (Int.emod_nonneg _ (by decide)))⟩
theorem sc_law_e_next : FnScope ["pen", "many", "at", "cell", "found"] ["pen", "many"] (defScope s_law_e_next) := ⟨rfl, rfl, rfl, by decide +kernel, rfl, by decide +kernel, by decide +kernel⟩
theorem ok_law_e_next (T : Txt K mg t) : FnOk P w K mg base CX0 2 t.f_law_e_next t.d_law_e_next ["pen", "many"] (spNext K) := by
  have S := sc_law_e_next
  have G_law_e_fill := ok_law_e_fill (P := P) (w := w) (base := base) T
  refine T.F_law_e_next.ok S (fun vs H Q E h => ?_) (fun cdv A outer s H vs Q E hr h => ?_)
  · obtain ⟨P0, a, ns, many, rfl, _⟩ := h
    rfl
  · obtain ⟨P0, a, ns, many, rfl, ⟨x, y, eP, hx, hy⟩, hS, m1, mm, k⟩ := h
    have hu8 := hr.units
    refine ⟨_, (@pss_cons _ _ _ _ _ (@ps_if _ _ _ _ _ _ _ _ (@pt_cmpR _ _ _ _ _ _ _ _ op_lt (@pe_ix _ _ _ _ _ _ _ ix_list (pv 0) pe_int (fun _ _ => rfl)) (pv 1) (nomark _)) (@pss_cons _ _ _ _ _ (@ps_put _ _ 2 _ _ _ _ (by rfl) (by first | exact .inl rfl | exact .inr rfl | assumption) S.nd rfl (Or.inl rfl) (@pe_ix _ _ _ _ _ _ _ ix_list (pv 0) pe_int (fun _ _ => rfl)))
      (@pss_cons _ _ _ _ _ (@ps_put _ _ 3 _ _ _ _ (by rfl) (by first | exact .inl rfl | exact .inr rfl | assumption) S.nd rfl (Or.inl rfl) pe_int)
      (@pss_cons _ _ _ _ _ (@ps_if _ _ _ _ _ _ _ _ (@pt_cmpR _ _ _ _ _ _ _ _ op_lt (pv 2) (pe_callB call_len_seq rfl T.n_len boot_len (@pa_mor _ _ _ _ _ (by rfl) (@pe_ix _ _ _ _ _ _ _ ix_list (pv 0) pe_int (fun _ _ => rfl)) pa_nil)) (nomark _)) (@pss_one _ _ _ (@ps_put _ _ 3 _ _ _ _ (by rfl) (by first | exact .inl rfl | exact .inr rfl | assumption) S.nd rfl (Or.inl rfl) (@pe_ix _ _ _ _ _ _ _ ix_list (@pe_ix _ _ _ _ _ _ _ ix_list (pv 0) pe_int (fun _ _ => rfl)) (pv 2) (fun _ _ => rfl)))) (@pss_one _ _ _ (@ps_if _ _ _ _ _ _ _ _ (@pt_cmpR _ _ _ _ _ _ _ _ (op_neE hu8) (@pe_ix _ _ _ _ _ _ _ ix_list (pv 0) pe_int (fun _ _ => rfl)) (@pe_lst _ _ _ _ pa_nil) (nomark _)) (@pss_one _ _ _ (@ps_put _ _ 3 _ _ _ _ (by rfl) (by first | exact .inl rfl | exact .inr rfl | assumption) S.nd rfl (Or.inl rfl) (@pe_op _ _ _ _ _ _ _ _ op_add (@pe_op _ _ _ _ _ _ _ _ op_mod (@pe_ix _ _ _ _ _ _ _ ix_list (@pe_ix _ _ _ _ _ _ _ ix_list (pv 0) pe_int (fun _ _ => rfl)) (@pe_op _ _ _ _ _ _ _ _ op_mod (@pe_op _ _ _ _ _ _ _ _ op_mul (pv 2) pe_int) (pe_callB call_len_seq rfl T.n_len boot_len (@pa_mor _ _ _ _ _ (by rfl) (@pe_ix _ _ _ _ _ _ _ ix_list (pv 0) pe_int (fun _ _ => rfl)) pa_nil))) (fun _ _ => rfl)) pe_int) (@pe_op _ _ _ _ _ _ _ _ op_mul (pv 2) pe_int)))) pss_nil)))
      (@pss_cons _ _ _ _ _ (@ps_asg _ _ _ _ _ _ (@pe_op _ _ _ _ _ _ _ _ op_add (pv 2) pe_int) (pg_sub (pv 0) pe_int set_list) (by rfl) (by rfl) (by rfl))
      (@pss_one _ _ _ (@ps_asg _ _ _ _ _ _ (pe_call G_law_e_fill (hr.mono (by decide)) rfl T.mg_law_e_fill T.F_law_e_fill.kp T.b_law_e_fill .nil pass0 (@pa_mor _ _ _ _ _ (by rfl) (pv 3) (@pa_mor _ _ _ _ _ (by rfl) (pv 2) pa_nil))) (pg_sub (pv 0) pe_int set_list) (by rfl) (by rfl) (by rfl))))))) pss_nil)
      (@pss_cons _ _ _ _ _ (@ps_put _ _ 4 _ _ _ _ (by rfl) (by first | exact .inl rfl | exact .inr rfl | assumption) S.nd rfl (Or.inl rfl) (@pe_op _ _ _ _ _ _ _ _ op_mod (@pe_ix _ _ _ _ _ _ _ ix_list (pv 0) pe_int (fun _ _ => rfl)) (pv 1)))
      (@pss_cons _ _ _ _ _ (@ps_asg _ _ _ _ _ _ (@pe_op _ _ _ _ _ _ _ _ op_fdivP (@pe_ix _ _ _ _ _ _ _ ix_list (pv 0) pe_int (fun _ _ => rfl)) (pv 1)) (pg_sub (pv 0) pe_int set_list) (by rfl) (by rfl) (by rfl))
      (@pss_one _ _ _ (@ps_ret _ _ _ _ (pv 4)))))), ?_⟩
    have hS' := er_le.seq hS
    refine ⟨_, rfl, P0, _, _, _, rfl, rfl, .of eP, rfl, _, rfl, _, _, rfl, rfl, _, rfl, ite2 (fun hlt => ?_) (fun hlt => ?_)⟩
    · refine ⟨_, rfl, P0, _, _, _, rfl, rfl, .of eP, rfl, ?_⟩
      refine ⟨_, rfl, _, rfl, P0, _, _, _, rfl, rfl, .of eP, rfl, a, ns.map V.int, rfl, .inl hS', _, _, rfl, rfl, _, rfl, ite2 (fun h1 => ?_) (fun h1 => ?_)⟩
      · have h1 : x < ((ns.map V.int).length : Int) := of_decide_eq_true h1
        obtain ⟨v, hv, mv⟩ := atI_some (xs := ns.map V.int) hx h1
        obtain ⟨c, _, rfl⟩ := List.mem_map.mp mv
        refine ⟨_, rfl, P0, _, _, _, rfl, rfl, .of eP, rfl, _, rfl, a, ns.map V.int, _, _, rfl, rfl, hS', hv, ?_⟩
        refine ⟨_, rfl, _, _, rfl, rfl, _, rfl, P0, _, 1, 1, rfl, rfl, eP, rfl, ?_⟩
        refine ⟨_, rfl, _, rfl, c, x, rfl, hx, fun r hr' => ⟨_, rfl, P0, _, 2, 2, rfl, rfl, upd_same, rfl, ?_⟩⟩
        have q0 := Int.emod_nonneg (r) (show many ≠ 0 by omega)
        have q1 := Int.emod_lt_of_pos (r) (show 0 < many by omega)
        have q2 := Int.ediv_nonneg (hr') (show 0 ≤ many by omega)
        refine ⟨_, rfl, P0, _, _, _, rfl, rfl, .of upd_same, rfl, _, rfl, _, _, rfl, rfl, (show 0 < many by omega), ?_⟩
        refine ⟨_, rfl, P0, _, _, _, rfl, rfl, .of upd_same, rfl, _, rfl, _, _, rfl, rfl, ⟨show 0 < many by omega, mm⟩, _, rfl, P0, _, 2, 2, rfl, rfl, upd_same, rfl, ?_⟩
        exact ⟨_, rfl, k _ _ q0 q1 (((SameE.refl H).trans SameE.pen).trans (SameE.pen.trans SameE.pen)) ⟨x + 1, r / many, upd_same, by omega, q2⟩⟩
      · refine ⟨_, rfl, P0, _, _, _, rfl, rfl, .of eP, rfl, by show 0 ≤ sizeLine; decide, fun l nl => ?_⟩
        have sl : Same H (upd H l (.lst [])) := same_upd nl
        refine ⟨a, l, ns.map V.int, rfl, rfl, sl.seq hS', upd_same, fun v hv => ?_, _, rfl, ?_⟩
        · obtain ⟨c, _, rfl⟩ := List.mem_map.mp hv
          exact ⟨c, rfl⟩
        have eP2 := sl _ _ eP
        have hS2 := sl.seq hS'
        generalize upd H l (.lst []) = H2 at sl eP2 hS2 ⊢
        refine ite2 (fun h2 => ?_) (fun h2 => ?_)
        · have hl : 0 < (ns.map V.int).length := by
            cases ns with
            | nil => simp at h2
            | cons => simp
          have hm0 := Int.emod_nonneg (x * 5) (show ((ns.map V.int).length : Int) ≠ 0 by omega)
          have hm1 := Int.emod_lt_of_pos (x * 5) (show (0 : Int) < ((ns.map V.int).length : Int) by omega)
          obtain ⟨v, hv, mv⟩ := atI_some (xs := ns.map V.int) hm0 hm1
          obtain ⟨c, _, rfl⟩ := List.mem_map.mp mv
          refine ⟨_, rfl, P0, _, _, _, rfl, rfl, .of eP2, rfl, _, rfl, _, _, rfl, rfl, .inr ⟨by decide, by decide⟩, _, rfl, P0, _, _, _, rfl, rfl, .of eP2, rfl, a, ns.map V.int, rfl, .inl hS2, _, _, rfl, rfl, (show (0 : Int) < ((ns.map V.int).length : Int) by omega), a, ns.map V.int, _, _, rfl, rfl, hS2, hv, _, _, rfl, rfl, (show (0 : Int) < 1000003 by decide), _, rfl, _, _, rfl, rfl, .inr ⟨by decide, by decide⟩, _, _, rfl, rfl, ?_⟩
          refine ⟨_, rfl, _, _, rfl, rfl, _, rfl, P0, _, 1, 1, rfl, rfl, eP2, rfl, ?_⟩
          refine ⟨_, rfl, _, rfl, _, x, rfl, hx, fun r hr' => ⟨_, rfl, P0, _, 2, 2, rfl, rfl, upd_same, rfl, ?_⟩⟩
          have q0 := Int.emod_nonneg (r) (show many ≠ 0 by omega)
          have q1 := Int.emod_lt_of_pos (r) (show 0 < many by omega)
          have q2 := Int.ediv_nonneg (hr') (show 0 ≤ many by omega)
          refine ⟨_, rfl, P0, _, _, _, rfl, rfl, .of upd_same, rfl, _, rfl, _, _, rfl, rfl, (show 0 < many by omega), ?_⟩
          refine ⟨_, rfl, P0, _, _, _, rfl, rfl, .of upd_same, rfl, _, rfl, _, _, rfl, rfl, ⟨show 0 < many by omega, mm⟩, _, rfl, P0, _, 2, 2, rfl, rfl, upd_same, rfl, ?_⟩
          exact ⟨_, rfl, k _ _ q0 q1 (((SameE.of sl).trans SameE.pen).trans (SameE.pen.trans SameE.pen)) ⟨x + 1, r / many, upd_same, by omega, q2⟩⟩
        ·
          refine ⟨_, rfl, _, _, rfl, rfl, _, rfl, P0, _, 1, 1, rfl, rfl, eP2, rfl, ?_⟩
          refine ⟨_, rfl, _, rfl, 0, x, rfl, hx, fun r hr' => ⟨_, rfl, P0, _, 2, 2, rfl, rfl, upd_same, rfl, ?_⟩⟩
          have q0 := Int.emod_nonneg (r) (show many ≠ 0 by omega)
          have q1 := Int.emod_lt_of_pos (r) (show 0 < many by omega)
          have q2 := Int.ediv_nonneg (hr') (show 0 ≤ many by omega)
          refine ⟨_, rfl, P0, _, _, _, rfl, rfl, .of upd_same, rfl, _, rfl, _, _, rfl, rfl, (show 0 < many by omega), ?_⟩
          refine ⟨_, rfl, P0, _, _, _, rfl, rfl, .of upd_same, rfl, _, rfl, _, _, rfl, rfl, ⟨show 0 < many by omega, mm⟩, _, rfl, P0, _, 2, 2, rfl, rfl, upd_same, rfl, ?_⟩
          exact ⟨_, rfl, k _ _ q0 q1 (((SameE.of sl).trans SameE.pen).trans (SameE.pen.trans SameE.pen)) ⟨x + 1, r / many, upd_same, by omega, q2⟩⟩
    · dsimp only [tNext]
      have q0 := Int.emod_nonneg (y) (show many ≠ 0 by omega)
      have q1 := Int.emod_lt_of_pos (y) (show 0 < many by omega)
      have q2 := Int.ediv_nonneg (hy) (show 0 ≤ many by omega)
      refine ⟨_, rfl, P0, _, _, _, rfl, rfl, .of eP, rfl, _, rfl, _, _, rfl, rfl, (show 0 < many by omega), ?_⟩
      refine ⟨_, rfl, P0, _, _, _, rfl, rfl, .of eP, rfl, _, rfl, _, _, rfl, rfl, ⟨show 0 < many by omega, mm⟩, _, rfl, P0, _, 2, 2, rfl, rfl, eP, rfl, ?_⟩
      exact ⟨_, rfl, k _ _ q0 q1 (SameE.pen) ⟨x, y / many, upd_same, hx, q2⟩⟩
theorem sc_law_e_low : FnScope ["top", "bottom", "one", "other"] ["top", "bottom"] (defScope s_law_e_low) := ⟨rfl, rfl, rfl, by decide +kernel, rfl, by decide +kernel, by decide +kernel⟩
theorem ok_law_e_low (T : Txt K mg t) : FnOk P w K mg base CX0 1 t.f_law_e_low t.d_law_e_low ["top", "bottom"] spLow := by
  have S := sc_law_e_low
  refine T.F_law_e_low.ok S (fun vs H Q E h => ?_) (fun cdv A outer s H vs Q E hr h => ?_)
  · obtain ⟨a, b, rfl, _⟩ := h
    rfl
  · obtain ⟨a, b, rfl, hb, mb, k⟩ := h
    refine ⟨_, (@pss_cons _ _ _ _ _ (@ps_put _ _ 2 _ _ _ _ (by rfl) (by first | exact .inl rfl | exact .inr rfl | assumption) S.nd rfl (Or.inl rfl) (pe_callB call_abs rfl T.n_abs boot_abs (@pa_mor _ _ _ _ _ (by rfl) (pv 0) pa_nil)))
      (@pss_cons _ _ _ _ _ (@ps_put _ _ 3 _ _ _ _ (by rfl) (by first | exact .inl rfl | exact .inr rfl | assumption) S.nd rfl (Or.inl rfl) (pe_callB call_abs rfl T.n_abs boot_abs (@pa_mor _ _ _ _ _ (by rfl) (pv 1) pa_nil)))
      (@pss_cons _ _ _ _ _ (@ps_while _ _ _ _ _ _ PassesOwn.never (@pt_cmpR _ _ _ _ _ _ _ _ op_ne (pv 3) pe_int (nomark _)) (@pss_one _ _ _ (ps_par (i := 2) (j := 3) rfl S.nd rfl rfl (by decide) rfl rfl (@pa_mor _ _ _ _ _ (by rfl) (pv 3) (@pa_mor _ _ _ _ _ (by rfl) (@pe_op _ _ _ _ _ _ _ _ op_mod (pv 2) (pv 3)) pa_nil)) rfl)))
      (@pss_cons _ _ _ _ _ (@ps_if _ _ _ _ _ _ _ _ (@pt_cmpR _ _ _ _ _ _ _ _ op_lt (pv 1) pe_int (nomark _)) (@pss_one _ _ _ (@ps_put _ _ 2 _ _ _ _ (by rfl) (by first | exact .inl rfl | exact .inr rfl | assumption) S.nd rfl (Or.inl rfl) (@pe_un _ _ _ _ _ _ un_neg (pv 2)))) pss_nil)
      (@pss_one _ _ _ (@ps_ret _ _ _ _ (@pe_tup _ _ _ _ _ (@pa_mor _ _ _ _ _ (by rfl) (@pe_op _ _ _ _ _ _ _ _ op_fdivM (pv 0) (pv 2)) (@pa_mor _ _ _ _ _ (by rfl) (@pe_op _ _ _ _ _ _ _ _ op_fdivM (pv 1) (pv 2)) pa_nil))))))))), ?_⟩
    have ok := lowG_ok (a := a) hb mb
    refine ⟨_, rfl, a, rfl, _, rfl, b, rfl, fun m σ H' => H' = H ∧ ∃ (x y : Nat), σ = [some (.int a), some (.int b), some (.int (x : Int)), some (.int (y : Int))] ∧ m = y ∧ Nat.gcd x y = Int.gcd a b, ⟨b.natAbs, rfl, a.natAbs, b.natAbs, ?_, rfl, rfl⟩, ?_⟩
    · show [some (V.int a), some (V.int b), some (V.int (if a < 0 then -a else a)), some (V.int (if b < 0 then -b else b))] = _
      rw [abs_nat, abs_nat]
    · rintro m σ H' ⟨rfl, x, y, rfl, em, hg⟩
      refine ⟨_, rfl, rfl, _, rfl, ite2 (fun hy => ?_) (fun hy => ?_)⟩
      · have hy : y ≠ 0 := fun z => by subst z; revert hy; decide
        refine ⟨fun σ' H2 => H2 = H' ∧ σ' = [some (.int a), some (.int b), some (.int (y : Int)), some (.int (((x % y : Nat)) : Int))], ?_, ?_⟩
        · rintro σ' H2 ⟨rfl, rfl⟩
          exact ⟨x % y, by rw [em]; exact Nat.mod_lt _ (by omega), rfl, y, x % y, rfl, rfl, by rw [gcd_step]; exact hg⟩
        · exact ⟨_, rfl, _, rfl, _, rfl, _, _, rfl, rfl, (show (0 : Int) < y by omega), _, _, rfl, rfl, rfl⟩
      · have y0 : y = 0 := by
          by_cases z : y = 0
          · exact z
          · refine absurd ?_ hy
            rw [dV_int, decide_eq_false (by omega)]
            rfl
        subst y0
        rw [Nat.gcd_zero_right] at hg
        have fin1 : ∀ (g : Int), g = lowG a b → ∀ (p : Addr), H' p = none → Q (.ref p) (upd H' p (.tup [.int (a.fdiv g), .int (b.fdiv g)])) := fun g e p hp => by
          rw [e]
          exact k p _ (same_upd hp) upd_same
        refine ⟨_, rfl, _, _, rfl, rfl, _, rfl, ite2 (fun hn => ?_) (fun hn => ?_)⟩
        · have hn : b < 0 := of_decide_eq_true hn
          have eg : -(x : Int) = lowG a b := by unfold lowG; rw [if_pos hn, hg, Int.zero_sub]
          have ok2 : CDivM 0 (-(x : Int)) := by rw [eg]; exact ok
          exact ⟨_, rfl, _, rfl, _, rfl, _, rfl, _, _, rfl, rfl, ok2, _, rfl, _, rfl, _, _, rfl, rfl, ok2, by show 2 ≤ sizeLine; decide, fin1 _ eg⟩
        · have hn : ¬ b < 0 := fun z => hn (decide_eq_true z)
          have eg : (x : Int) = lowG a b := by unfold lowG; rw [if_neg hn, hg]
          have ok2 : CDivM 0 (x : Int) := by rw [eg]; exact ok
          exact ⟨_, rfl, _, rfl, _, _, rfl, rfl, ok2, _, rfl, _, rfl, _, _, rfl, rfl, ok2, by show 2 ≤ sizeLine; decide, fin1 _ eg⟩
theorem sc_law_e_of : FnScope ["told", "number"] ["told", "number"] (defScope s_law_e_of) := ⟨rfl, rfl, rfl, by decide +kernel, rfl, by decide +kernel, by decide +kernel⟩
theorem ok_law_e_of (T : Txt K mg t) {B : Nat} : FnOk P w K mg base CX0 1 t.f_law_e_of t.d_law_e_of ["told", "number"] (spEOf B) := by
  have S := sc_law_e_of
  refine T.F_law_e_of.ok S (fun vs H Q E h => ?_) (fun cdv A outer s H vs Q E hr h => ?_)
  · obtain ⟨td, q, i, rfl, _⟩ := h
    rfl
  · obtain ⟨td, q, i, rfl, ht, hq, bi, b1, k⟩ := h
    refine ⟨_, (@pss_cons _ _ _ _ _ (@ps_if _ _ _ _ _ _ _ _ (@pt_cmpR _ _ _ _ _ _ _ _ op_eq (@pe_ix _ _ _ _ _ _ _ ix_tup (pv 0) pe_int (fun _ _ => rfl)) pe_str (nomark _)) (@pss_one _ _ _ (@ps_ret _ _ _ _ (@pe_op _ _ _ _ _ _ _ _ op_mod (pv 1) (@pe_ix _ _ _ _ _ _ _ ix_tup (pv 0) pe_int (fun _ _ => rfl))))) pss_nil)
      (@pss_one _ _ _ (@ps_ret _ _ _ _ (@pe_tup _ _ _ _ _ (@pa_mor _ _ _ _ _ (by rfl) (pv 1) (@pa_mor _ _ _ _ _ (by rfl) pe_int pa_nil)))))), ?_⟩
    unfold ToldAt at ht
    by_cases z : q = 0
    · subst z
      rw [tdOf_zero] at ht
      refine ⟨_, rfl, td, _, _, _, rfl, rfl, .of ht, rfl, rfl, false, by decide +kernel, iteF ?_⟩
      refine ⟨_, rfl, by show 2 ≤ sizeLine; decide, fun r nr => k _ _ (same_upd nr) ?_⟩
      unfold ofP
      rw [if_pos rfl]
      exact .frac upd_same ⟨show (1 : Int) ≤ 1 by decide, Int.gcd_one_right ..⟩ bi (by show Int.natAbs 1 ≤ B; omega)
    · rw [tdOf_pos z] at ht
      obtain ⟨q2, q3, q4⟩ := hq.resolve_left z
      refine ⟨_, rfl, td, _, _, _, rfl, rfl, .of ht, rfl, rfl, true, by decide +kernel, iteT ?_⟩
      refine ⟨_, rfl, _, rfl, td, _, _, _, rfl, rfl, .of ht, rfl, _, _, rfl, rfl, (show 0 < q by omega), k _ H (Same.refl H) ?_⟩
      unfold ofP
      rw [if_neg z]
      exact .rem (Int.emod_nonneg _ z) (Int.emod_lt_of_pos _ (by omega)) q3
theorem sc_law_e_plus : FnScope ["told", "a", "b"] ["told", "a", "b"] (defScope s_law_e_plus) := ⟨rfl, rfl, rfl, by decide +kernel, rfl, by decide +kernel, by decide +kernel⟩
theorem ok_law_e_plus (T : Txt K mg t) : FnOk P w K mg base CX0 2 t.f_law_e_plus t.d_law_e_plus ["told", "a", "b"] (spEArith3 addP) := by
  have S := sc_law_e_plus
  have G_law_e_low := ok_law_e_low (P := P) (w := w) (base := base) T
  refine T.F_law_e_plus.ok S (fun vs H Q E h => ?_) (fun cdv A outer s H vs Q E hr h => ?_)
  · obtain ⟨td, q, v, u, p, r, B, rfl, _⟩ := h
    rfl
  · obtain ⟨td, q, v, u, ⟨x, m⟩, ⟨y, n⟩, B, rfl, ht, hq, hv, hu, b1, b60, k⟩ := h
    refine ⟨_, (@pss_cons _ _ _ _ _ (@ps_if _ _ _ _ _ _ _ _ (@pt_cmpR _ _ _ _ _ _ _ _ op_eq (@pe_ix _ _ _ _ _ _ _ ix_tup (pv 0) pe_int (fun _ _ => rfl)) pe_str (nomark _)) (@pss_one _ _ _ (@ps_ret _ _ _ _ (@pe_op _ _ _ _ _ _ _ _ op_mod (@pe_op _ _ _ _ _ _ _ _ op_add (pv 1) (pv 2)) (@pe_ix _ _ _ _ _ _ _ ix_tup (pv 0) pe_int (fun _ _ => rfl))))) pss_nil)
      (@pss_one _ _ _ (@ps_ret _ _ _ _ (pe_call G_law_e_low (hr.mono (by decide)) rfl T.mg_law_e_low T.F_law_e_low.kp T.b_law_e_low .nil pass0 (@pa_mor _ _ _ _ _ (by rfl) (@pe_op _ _ _ _ _ _ _ _ op_add (@pe_op _ _ _ _ _ _ _ _ op_mulM (@pe_ix _ _ _ _ _ _ _ ix_tup (pv 1) pe_int (fun _ _ => rfl)) (@pe_ix _ _ _ _ _ _ _ ix_tup (pv 2) pe_int (fun _ _ => rfl))) (@pe_op _ _ _ _ _ _ _ _ op_mulM (@pe_ix _ _ _ _ _ _ _ ix_tup (pv 2) pe_int (fun _ _ => rfl)) (@pe_ix _ _ _ _ _ _ _ ix_tup (pv 1) pe_int (fun _ _ => rfl)))) (@pa_mor _ _ _ _ _ (by rfl) (@pe_op _ _ _ _ _ _ _ _ op_mulM (@pe_ix _ _ _ _ _ _ _ ix_tup (pv 1) pe_int (fun _ _ => rfl)) (@pe_ix _ _ _ _ _ _ _ ix_tup (pv 2) pe_int (fun _ _ => rfl))) pa_nil)))))), ?_⟩
    unfold ToldAt at ht
    have bB : B ≤ 2 * B * B := Nat.le_trans (Nat.le_mul_of_pos_left B (by omega)) (Nat.le_mul_of_pos_right _ (by omega))
    have big : ∀ {x : Int}, x.natAbs ≤ B → Mid x := fun h => Mid.of300 b60 (Nat.le_trans h bB)
    by_cases z : q = 0
    · subst z
      rw [tdOf_zero] at ht
      refine ⟨_, rfl, td, _, _, _, rfl, rfl, .of ht, rfl, rfl, false, by decide +kernel, iteF ?_⟩
      dsimp only at hv hu
      cases hv with
      | frac e l bx bm =>
        rename_i p
        cases hu with
        | frac e' l' bx' bm' =>
          rename_i p'
          have m0 := l.pos
          have n0 := l'.pos
          have mn : 0 < m * n := Int.mul_pos (by omega) (by omega)
          have bmn : (m * n).natAbs ≤ 2 * B * B := by
            rw [Int.natAbs_mul]
            exact Nat.le_trans (Nat.mul_le_mul bm bm') (Nat.mul_le_mul_right _ (by omega))
          have bt : (x * n + y * m).natAbs ≤ 2 * B * B := by
            refine Nat.le_trans (Int.natAbs_add_le ..) ?_
            rw [Int.natAbs_mul, Int.natAbs_mul]
            refine Nat.le_trans (Nat.add_le_add (Nat.mul_le_mul bx bm') (Nat.mul_le_mul bx' bm)) (Nat.le_of_eq ?_)
            rw [Nat.mul_assoc, Nat.two_mul]
          refine ⟨_, rfl, p, _, _, _, rfl, rfl, .of e, rfl, _, rfl, p', _, _, _, rfl, rfl, .of e', rfl, _, _, rfl, rfl, ⟨big bx, big bm'⟩, _, rfl, p', _, _, _, rfl, rfl, .of e', rfl, _, rfl, p, _, _, _, rfl, rfl, .of e, rfl, _, _, rfl, rfl, ⟨big bx', big bm⟩, _, _, rfl, rfl, _, rfl, p, _, _, _, rfl, rfl, .of e, rfl, _, rfl, p', _, _, _, rfl, rfl, .of e', rfl, _, _, rfl, rfl, ⟨big bm, big bm'⟩, _, _, rfl, Int.ne_of_gt mn, Mid.of300 b60 bmn, fun r H' s' er' => k _ H' s' ?_⟩
          unfold addP
          rw [if_pos rfl]
          exact low_num er' (show 1 ≤ m * n by omega) bt bmn
        | rem h0 h1 h2 => omega
      | rem h0 h1 h2 => omega
    · rw [tdOf_pos z] at ht
      obtain ⟨q2, q3, q4⟩ := hq.resolve_left z
      refine ⟨_, rfl, td, _, _, _, rfl, rfl, .of ht, rfl, rfl, true, by decide +kernel, iteT ?_⟩
      dsimp only at hv hu
      cases hv with
      | frac => omega
      | rem h0 h1 h2 =>
        cases hu with
        | frac => omega
        | rem h0' h1' h2' =>
          refine ⟨_, rfl, _, rfl, _, _, rfl, rfl, _, rfl, td, _, _, _, rfl, rfl, .of ht, rfl, _, _, rfl, rfl, (show 0 < q by omega), k _ H (Same.refl H) ?_⟩
          unfold addP
          rw [if_neg z]
          exact .rem (Int.emod_nonneg _ z) (Int.emod_lt_of_pos _ (by omega)) q3
theorem sc_law_e_is_number : FnScope ["told", "a", "part"] ["told", "a"] (defScope s_law_e_is_number) := ⟨rfl, rfl, rfl, by decide +kernel, rfl, by decide +kernel, by decide +kernel⟩
theorem ok_law_e_is_number (T : Txt K mg t) : FnOk P w K mg base CX0 2 t.f_law_e_is_number t.d_law_e_is_number ["told", "a"] spEIs := by
  have S := sc_law_e_is_number
  have G_law_e_low := ok_law_e_low (P := P) (w := w) (base := base) T
  refine T.F_law_e_is_number.ok S (fun vs H Q E h => ?_) (fun cdv A outer s H vs Q E hr h => ?_)
  · obtain ⟨td, q, v, x, m, B, rfl, _⟩ := h
    rfl
  · obtain ⟨td, q, v, x, m, B, rfl, ht, hq, hv, hB, k⟩ := h
    have hu := hr.units0
    refine ⟨_, (@pss_cons _ _ _ _ _ (@ps_if _ _ _ _ _ _ _ _ (@pt_cmpR _ _ _ _ _ _ _ _ op_eq (@pe_ix _ _ _ _ _ _ _ ix_tup (pv 0) pe_int (fun _ _ => rfl)) pe_str (nomark _)) (@pss_one _ _ _ (@ps_ret _ _ _ _ (@pe_and _ _ _ _ _ _ _ (pe_callB (call_isi (K := K)) rfl T.n_isinstance boot_isinstance (@pa_mor _ _ _ _ _ (by rfl) (pv 1) (@pa_mor _ _ _ _ _ (by rfl) (pe_bltn (v := .ty "int") rfl T.n_int boot_int rfl) pa_nil))) (@pe_and _ _ _ _ _ _ _ (@pe_not _ _ _ _ (pe_callB (call_isi (K := K)) rfl T.n_isinstance boot_isinstance (@pa_mor _ _ _ _ _ (by rfl) (pv 1) (@pa_mor _ _ _ _ _ (by rfl) (pe_bltn (v := .ty "bool") rfl T.n_bool boot_bool rfl) pa_nil)))) (@pe_one _ _ _ _ _ (pe_chain op_le op_lt pe_int (pv 1) (@pe_ix _ _ _ _ _ _ _ ix_tup (pv 0) pe_int (fun _ _ => rfl)))))))) pss_nil)
      (@pss_cons _ _ _ _ _ (@ps_if _ _ _ _ _ _ _ _ (PW.pt (@pw_or _ _ _ _ _ _ _ (@pt_not _ _ _ _ (pt_val (pe_callB (call_isi (K := K)) rfl T.n_isinstance boot_isinstance (@pa_mor _ _ _ _ _ (by rfl) (pv 1) (@pa_mor _ _ _ _ _ (by rfl) (pe_bltn (v := .ty "tuple") rfl T.n_tuple boot_tuple rfl) pa_nil))))) (@pw_or1 _ _ _ _ (@pt_cmpR _ _ _ _ _ _ _ _ op_ne (pe_callB call_len_seq rfl T.n_len boot_len (@pa_mor _ _ _ _ _ (by rfl) (pv 1) pa_nil)) pe_int (nomark _))))) (@pss_one _ _ _ (@ps_ret _ _ _ _ pe_bl)) pss_nil)
      (@pss_cons _ _ _ _ _ (ps_for PassesOwn.never rfl (pi_tup (pv 1)) (pg_name (i := 2) S.nd rfl (Or.inl rfl))
        (@pss_one _ _ _ (@ps_if _ _ _ _ _ _ _ _ (PW.pt (@pw_or _ _ _ _ _ _ _ (@pt_not _ _ _ _ (pt_val (pe_callB (call_isi (K := K)) rfl T.n_isinstance boot_isinstance (@pa_mor _ _ _ _ _ (by rfl) (pv 2) (@pa_mor _ _ _ _ _ (by rfl) (pe_bltn (v := .ty "int") rfl T.n_int boot_int rfl) pa_nil))))) (@pw_or1 _ _ _ _ (pt_val (pe_callB (call_isi (K := K)) rfl T.n_isinstance boot_isinstance (@pa_mor _ _ _ _ _ (by rfl) (pv 2) (@pa_mor _ _ _ _ _ (by rfl) (pe_bltn (v := .ty "bool") rfl T.n_bool boot_bool rfl) pa_nil))))))) (@pss_one _ _ _ (@ps_ret _ _ _ _ pe_bl)) pss_nil)))
      (@pss_one _ _ _ (@ps_ret _ _ _ _ (@pe_and _ _ _ _ _ _ _ (@pe_cmpR _ _ _ _ _ _ _ _ op_gt (@pe_ix _ _ _ _ _ _ _ ix_tup (pv 1) pe_int (fun _ _ => rfl)) pe_int (nomark _)) (@pe_one _ _ _ _ _ (@pe_cmpR _ _ _ _ _ _ _ _ (op_eqT hu) (pv 1) (pe_call G_law_e_low (hr.mono (by decide)) rfl T.mg_law_e_low T.F_law_e_low.kp T.b_law_e_low .nil pass0 (@pa_mor _ _ _ _ _ (by rfl) (@pe_ix _ _ _ _ _ _ _ ix_tup (pv 1) pe_int (fun _ _ => rfl)) (@pa_mor _ _ _ _ _ (by rfl) (@pe_ix _ _ _ _ _ _ _ ix_tup (pv 1) pe_int (fun _ _ => rfl)) pa_nil))) (nomark _))))))))), ?_⟩
    unfold ToldAt at ht
    cases hv with
    | frac e l bx bm =>
      rename_i p
      rw [tdOf_zero] at ht
      refine ⟨_, rfl, td, _, _, _, rfl, rfl, .of ht, rfl, rfl, false, by decide +kernel, iteF ?_⟩
      refine ⟨_, rfl, _, _, _, true, rfl, rfl, .of (.tup e), kit_same, true, rfl, iteF ?_⟩
      refine ⟨_, rfl, p, _, rfl, .inr (.of e), rfl, false, by rw [dV_int]; rfl, iteF ?_⟩
      refine ⟨_, rfl, p, rfl, ⟨_, .of e⟩, ?_⟩
      refine for_tup (K := K) (a := p) (xs := [.int x, .int m]) (fun i σ Hc => Hc = H ∧ ∃ v2 : Option V, σ = [some (.ref td), some (.ref p), v2]) ⟨rfl, _, rfl⟩ (fun i σ Hc _ ⟨z, _⟩ => by rw [z]; exact .of e) ?_ ?_
      · rintro i v σ Hc hi ⟨rfl, v2, rfl⟩
        obtain ⟨c, rfl⟩ : ∃ c : Int, v = .int c := by
          match i, hi with
          | 0, h => cases h; exact ⟨_, rfl⟩
          | 1, h => cases h; exact ⟨_, rfl⟩
          | i + 2, h => cases h
        refine ⟨_, rfl, _, _, _, true, rfl, rfl, .of (.int c), rfl, true, rfl, iteF ?_⟩
        refine ⟨_, rfl, _, _, _, false, rfl, rfl, .of (.int c), rfl, false, rfl, iteF ?_⟩
        exact ⟨rfl, _, rfl⟩
      · rintro σ Hc ⟨rfl, v2, rfl⟩
        have m0 := l.pos
        refine ⟨_, rfl, p, _, _, _, rfl, rfl, .of e, rfl, _, _, rfl, rfl, true, by show V.bl (decide ((0 : Int) < m)) = _; rw [decide_eq_true (show (0 : Int) < m by omega)], iteT ?_⟩
        refine ⟨_, rfl, _, rfl, p, _, _, _, rfl, rfl, .of e, rfl, _, rfl, p, _, _, _, rfl, rfl, .of e, rfl, x, m, rfl, by omega, Nat.lt_of_le_of_lt (Nat.le_trans bm hB) pow300, fun r H' s' er' => ?_⟩
        have e1 : lowG x m = 1 := by unfold lowG; rw [if_neg (by omega), l.cop]; rfl
        rw [e1, Int.fdiv_one, Int.fdiv_one] at er'
        refine ⟨p, r, _, _, rfl, rfl, .of (s' _ _ e), .of er', rfl, rfl, ?_⟩
        show Q (.bl (eqL [V.int x, V.int m] [V.int x, V.int m])) H'
        rw [eqL_self]
        exact k H' s'
    | rem h0 h1 h2 =>
      have z : q ≠ 0 := by omega
      rw [tdOf_pos z] at ht
      refine ⟨_, rfl, td, _, _, _, rfl, rfl, .of ht, rfl, rfl, true, by decide +kernel, iteT ?_⟩
      refine ⟨_, rfl, _, _, _, true, rfl, rfl, .of (.int x), rfl, true, rfl, iteT ?_⟩
      refine ⟨_, rfl, _, _, _, false, rfl, rfl, .of (.int x), rfl, false, rfl, _, rfl, iteT ?_⟩
      refine ⟨_, rfl, _, _, rfl, rfl, true, by show V.bl (decide ((0 : Int) ≤ x)) = _; rw [decide_eq_true h0], iteT ?_⟩
      refine ⟨_, rfl, td, _, _, _, rfl, rfl, .of ht, rfl, _, _, rfl, rfl, ?_⟩
      show Q (.bl (decide (x < q))) H
      rw [decide_eq_true h1]
      exact k H (Same.refl H)
theorem sc_law_e_is_row : FnScope ["told", "found"] ["told", "found"] (defScope s_law_e_is_row) := ⟨rfl, rfl, rfl, by decide +kernel, rfl, by decide +kernel, by decide +kernel⟩
theorem ok_law_e_is_row (T : Txt K mg t) : FnOk P w K mg base CX0 3 t.f_law_e_is_row t.d_law_e_is_row ["told", "found"] spERowIs := by
  have S := sc_law_e_is_row
  have G_law_e_is_number := ok_law_e_is_number (P := P) (w := w) (base := base) T
  refine T.F_law_e_is_row.ok S (fun vs H Q E h => ?_) (fun cdv A outer s H vs Q E hr h => ?_)
  · obtain ⟨td, a, q, ps, B, rfl, _⟩ := h
    rfl
  · obtain ⟨td, a, q, ps, B, rfl, ht, hq, ⟨vs, ea, hl, hn⟩, h1000, hB, k⟩ := h
    refine ⟨_, (@pss_one _ _ _ (@ps_ret _ _ _ _ (@pe_and _ _ _ _ _ _ _ (pe_callB (call_isi (K := K)) rfl T.n_isinstance boot_isinstance (@pa_mor _ _ _ _ _ (by rfl) (pv 1) (@pa_mor _ _ _ _ _ (by rfl) (pe_bltn (v := .ty "list") rfl T.n_list boot_list rfl) pa_nil))) (@pe_one _ _ _ _ _ (pe_callB (call_all (K := K) rfl) rfl T.n_all boot_all (@pa_mor _ _ _ _ _ (by rfl) (pe_comp (N := ["a", "told"]) (ρ := (fun σ => [σ[0]?.join])) ⟨rfl, rfl, by decide +kernel, by decide +kernel, (List.forall_mem_cons.mpr ⟨rfl, (List.forall_mem_nil _)⟩), has_of (by rfl), rfl, by decide +kernel, rfl, (fun σ j v h => match j, h with | 0, h => ⟨0, _, rfl, rfl, join_some h, Or.inr (Or.inl rfl), .inl rfl, .inl rfl⟩ | j + 1, h => by cases h), (fun _ _ => rfl)⟩ rfl (pi_list (pv 1)) (fun s₃ H₃ fp => .nil) (fun s₃ H₃ fp => (pe_call G_law_e_is_number (hr.mono (by decide)) rfl T.mg_law_e_is_number T.F_law_e_is_number.kp T.b_law_e_is_number .nil pass0 (@pa_mor _ _ _ _ _ (by rfl) (pv 1) (@pa_mor _ _ _ _ _ (by rfl) (pv 0) pa_nil))))) pa_nil)))))), ?_⟩
    refine ⟨_, rfl, _, _, _, true, rfl, rfl, .of (.lst ea), kit_same, true, rfl, iteT ?_⟩
    refine cb_of (comp_of (xs := vs) (fun R h => ⟨_, rfl, a, rfl, ⟨_, .of ea⟩, h _ _ (Same.refl _) (jseq_list (.of ea))⟩) (by rw [hl]; exact small1000 (by omega)) (fun _ i y _ => y = .bl true) (fun _ _ _ _ _ _ h _ _ => h) ?_ ?_)
    · intro D i v hi Hc R sc _ kc
      have hi' : i < ps.length := by rw [← hl]; exact (List.getElem?_eq_some_iff.mp hi).1
      exact ⟨_, rfl, _, rfl, td, q, v, _, _, B, rfl, ht.mono sc, hq, (hn i v ps[i] hi (by simp [hi'])).mono sc, hB, fun H' s' => kc _ H' s' rfl⟩
    · intro D ys Hc sc hys hP eD
      refine ⟨D, List.replicate ys.length true, rfl, .of (by rw [eD]; exact congrArg _ (congrArg _ (bls_of hP))), ?_⟩
      rw [all_yes]
      exact k Hc sc
theorem sc_law_e_world : FnScope ["pen", "way"] ["pen"] (defScope s_law_e_world) := ⟨rfl, rfl, rfl, by decide +kernel, rfl, by decide +kernel, by decide +kernel⟩
theorem ok_law_e_world (T : Txt K mg t) : FnOk P w K mg base CX0 3 t.f_law_e_world t.d_law_e_world ["pen"] (spEWorld K) := by
  have S := sc_law_e_world
  have G_law_e_next := ok_law_e_next (P := P) (w := w) (base := base) T
  refine T.F_law_e_world.ok S (fun vs H Q E h => ?_) (fun cdv A outer s H vs Q E hr h => ?_)
  · obtain ⟨P0, a, ns, rfl, _⟩ := h
    rfl
  · obtain ⟨P0, a, ns, rfl, pc, hS, k⟩ := h
    refine ⟨_, (@pss_cons _ _ _ _ _ (@ps_put _ _ 1 _ _ _ _ (by rfl) (by first | exact .inl rfl | exact .inr rfl | assumption) S.nd rfl (Or.inl rfl) (pe_call G_law_e_next (hr.mono (by decide)) rfl T.mg_law_e_next T.F_law_e_next.kp T.b_law_e_next .nil pass0 (@pa_mor _ _ _ _ _ (by rfl) (pv 0) (@pa_mor _ _ _ _ _ (by rfl) pe_int pa_nil))))
      (@pss_cons _ _ _ _ _ (@ps_if _ _ _ _ _ _ _ _ (@pt_cmpR _ _ _ _ _ _ _ _ op_lt (pv 1) pe_int (nomark _)) (@pss_one _ _ _ (@ps_ret _ _ _ _ (@pe_tup _ _ _ _ _ (@pa_mor _ _ _ _ _ (by rfl) pe_str pa_nil)))) pss_nil)
      (@pss_cons _ _ _ _ _ (@ps_if _ _ _ _ _ _ _ _ (@pt_cmpR _ _ _ _ _ _ _ _ op_lt (pv 1) pe_int (nomark _)) (@pss_one _ _ _ (@ps_ret _ _ _ _ (@pe_tup _ _ _ _ _ (@pa_mor _ _ _ _ _ (by rfl) pe_str (@pa_mor _ _ _ _ _ (by rfl) (@pe_ix _ _ _ _ _ _ _ ix_list (@pe_lst _ _ _ _ (@pa_mor _ _ _ _ _ (by rfl) pe_int (@pa_mor _ _ _ _ _ (by rfl) pe_int (@pa_mor _ _ _ _ _ (by rfl) pe_int (@pa_mor _ _ _ _ _ (by rfl) pe_int pa_nil))))) (pe_call G_law_e_next (hr.mono (by decide)) rfl T.mg_law_e_next T.F_law_e_next.kp T.b_law_e_next .nil pass0 (@pa_mor _ _ _ _ _ (by rfl) (pv 0) (@pa_mor _ _ _ _ _ (by rfl) pe_int pa_nil))) (fun _ _ => rfl)) pa_nil))))) pss_nil)
      (@pss_one _ _ _ (@ps_ret _ _ _ _ (@pe_tup _ _ _ _ _ (@pa_mor _ _ _ _ _ (by rfl) pe_str (@pa_mor _ _ _ _ _ (by rfl) (@pe_ix _ _ _ _ _ _ _ ix_list (@pe_lst _ _ _ _ (@pa_mor _ _ _ _ _ (by rfl) pe_int (@pa_mor _ _ _ _ _ (by rfl) pe_int (@pa_mor _ _ _ _ _ (by rfl) pe_int (@pa_mor _ _ _ _ _ (by rfl) pe_int (@pa_mor _ _ _ _ _ (by rfl) pe_int (@pa_mor _ _ _ _ _ (by rfl) pe_int (@pa_mor _ _ _ _ _ (by rfl) pe_int (@pa_mor _ _ _ _ _ (by rfl) pe_int (@pa_mor _ _ _ _ _ (by rfl) pe_int (@pa_mor _ _ _ _ _ (by rfl) pe_int pa_nil))))))))))) (pe_call G_law_e_next (hr.mono (by decide)) rfl T.mg_law_e_next T.F_law_e_next.kp T.b_law_e_next .nil pass0 (@pa_mor _ _ _ _ _ (by rfl) (pv 0) (@pa_mor _ _ _ _ _ (by rfl) pe_int pa_nil))) (fun _ _ => rfl)) pa_nil)))))))), ?_⟩
    refine ⟨_, rfl, P0, a, ns, 5, rfl, pc, hS, by decide, Mid.of_lt (by decide) (by decide), fun r H1 r0 r1 sA p1 => ?_⟩
    have hS1 : SqL K (er P0 H1) a (ns.map V.int) := Same.seq sA hS
    refine ⟨_, rfl, _, _, rfl, rfl, _, rfl, ite2 (fun _ => ?_) (fun _ => ?_)⟩
    · refine ⟨by show 1 ≤ sizeLine; decide, fun td ntd => ?_⟩
      have np := p1.ne ntd
      refine k td 0 _ (.inl rfl) (sA.trans (SameE.of (same_upd ntd))) (p1.mono (same_upd ntd)) ?_
      unfold ToldAt
      rw [tdOf_zero, er_ne np]
      exact upd_same
    refine ⟨_, rfl, _, _, rfl, rfl, _, rfl, ite2 (fun _ => ?_) (fun _ => ?_)⟩
    · refine ⟨by show 4 ≤ sizeLine; decide, fun l nl => ?_⟩
      have nP := p1.ne nl
      have sl : Same H1 (upd H1 l (.lst [.int 2, .int 3, .int 5, .int 7])) := same_upd nl
      have el : upd H1 l (.lst [.int 2, .int 3, .int 5, .int 7]) l = some (.lst [.int 2, .int 3, .int 5, .int 7]) := upd_same
      have pl := p1.mono sl
      have hSl : SqL K (er P0 (upd H1 l (.lst [.int 2, .int 3, .int 5, .int 7]))) a (ns.map V.int) := Same.seq (er_same sl) hS1
      generalize upd H1 l (.lst [.int 2, .int 3, .int 5, .int 7]) = H2 at sl el pl hSl ⊢
      refine ⟨_, rfl, P0, a, ns, 4, rfl, pl, hSl, by decide, Mid.of_lt (by decide) (by decide), fun r H3 r0 r1 s3 p3 => ?_⟩
      obtain ⟨q, hat, hq, hq0⟩ : ∃ q : Int, atI ([.int 2, .int 3, .int 5, .int 7] : List V) r = some (.int q) ∧ WheelN q ∧ q ≠ 0 := by
        rcases (show r = 0 ∨ r = 1 ∨ r = 2 ∨ r = 3 by omega) with rfl | rfl | rfl | rfl
        · exact ⟨2, rfl, .inr ⟨by decide, by decide, by decide⟩, by decide⟩
        · exact ⟨3, rfl, .inr ⟨by decide, by decide, by decide⟩, by decide⟩
        · exact ⟨5, rfl, .inr ⟨by decide, by decide, by decide⟩, by decide⟩
        · exact ⟨7, rfl, .inr ⟨by decide, by decide, by decide⟩, by decide⟩
      refine ⟨l, _, _, _, rfl, rfl, .of (s3.at nP el), hat, by show 2 ≤ sizeLine; decide, fun td ntd => ?_⟩
      have np := p3.ne ntd
      refine k td q _ hq ((sA.trans (SameE.of sl)).trans (s3.trans (SameE.of (same_upd ntd)))) (p3.mono (same_upd ntd)) ?_
      unfold ToldAt
      rw [tdOf_pos hq0, er_ne np]
      exact upd_same
    · refine ⟨by show 10 ≤ sizeLine; decide, fun l nl => ?_⟩
      have nP := p1.ne nl
      have sl : Same H1 (upd H1 l (.lst [.int 11, .int 13, .int 29, .int 97, .int 101, .int 257, .int 499, .int 743, .int 991, .int 997])) := same_upd nl
      have el : upd H1 l (.lst [.int 11, .int 13, .int 29, .int 97, .int 101, .int 257, .int 499, .int 743, .int 991, .int 997]) l = some (.lst [.int 11, .int 13, .int 29, .int 97, .int 101, .int 257, .int 499, .int 743, .int 991, .int 997]) := upd_same
      have pl := p1.mono sl
      have hSl : SqL K (er P0 (upd H1 l (.lst [.int 11, .int 13, .int 29, .int 97, .int 101, .int 257, .int 499, .int 743, .int 991, .int 997]))) a (ns.map V.int) := Same.seq (er_same sl) hS1
      generalize upd H1 l (.lst [.int 11, .int 13, .int 29, .int 97, .int 101, .int 257, .int 499, .int 743, .int 991, .int 997]) = H2 at sl el pl hSl ⊢
      refine ⟨_, rfl, P0, a, ns, 10, rfl, pl, hSl, by decide, Mid.of_lt (by decide) (by decide), fun r H3 r0 r1 s3 p3 => ?_⟩
      obtain ⟨q, hat, hq, hq0⟩ : ∃ q : Int, atI ([.int 11, .int 13, .int 29, .int 97, .int 101, .int 257, .int 499, .int 743, .int 991, .int 997] : List V) r = some (.int q) ∧ WheelN q ∧ q ≠ 0 := by
        rcases (show r = 0 ∨ r = 1 ∨ r = 2 ∨ r = 3 ∨ r = 4 ∨ r = 5 ∨ r = 6 ∨ r = 7 ∨ r = 8 ∨ r = 9 by omega) with rfl | rfl | rfl | rfl | rfl | rfl | rfl | rfl | rfl | rfl
        · exact ⟨11, rfl, .inr ⟨by decide, by decide, by decide⟩, by decide⟩
        · exact ⟨13, rfl, .inr ⟨by decide, by decide, by decide⟩, by decide⟩
        · exact ⟨29, rfl, .inr ⟨by decide, by decide, by decide⟩, by decide⟩
        · exact ⟨97, rfl, .inr ⟨by decide, by decide, by decide⟩, by decide⟩
        · exact ⟨101, rfl, .inr ⟨by decide, by decide, by decide⟩, by decide⟩
        · exact ⟨257, rfl, .inr ⟨by decide, by decide, by decide⟩, by decide⟩
        · exact ⟨499, rfl, .inr ⟨by decide, by decide, by decide⟩, by decide⟩
        · exact ⟨743, rfl, .inr ⟨by decide, by decide, by decide⟩, by decide⟩
        · exact ⟨991, rfl, .inr ⟨by decide, by decide, by decide⟩, by decide⟩
        · exact ⟨997, rfl, .inr ⟨by decide, by decide, by decide⟩, by decide⟩
      refine ⟨l, _, _, _, rfl, rfl, .of (s3.at nP el), hat, by show 2 ≤ sizeLine; decide, fun td ntd => ?_⟩
      have np := p3.ne ntd
      refine k td q _ hq ((sA.trans (SameE.of sl)).trans (s3.trans (SameE.of (same_upd ntd)))) (p3.mono (same_upd ntd)) ?_
      unfold ToldAt
      rw [tdOf_pos hq0, er_ne np]
      exact upd_same
theorem sc_law_e_number : FnScope ["pen", "told", "far", "kind", "top"] ["pen", "told", "far"] (defScope s_law_e_number) := ⟨rfl, rfl, rfl, by decide +kernel, rfl, by decide +kernel, by decide +kernel⟩
theorem ok_law_e_number (T : Txt K mg t) : FnOk P w K mg base CX0 3 t.f_law_e_number t.d_law_e_number ["pen", "told", "far"] (spENumberF K) := by
  have S := sc_law_e_number
  have G_law_e_next := ok_law_e_next (P := P) (w := w) (base := base) T
  have G_law_e_low := ok_law_e_low (P := P) (w := w) (base := base) T
  refine T.F_law_e_number.ok S (fun vs H Q E h => ?_) (fun cdv A outer s H vs Q E hr h => ?_)
  · obtain ⟨P0, a, td, ns, q, far, F, rfl, _⟩ := h
    rfl
  · obtain ⟨P0, a, td, ns, q, far, F, rfl, pc, hS, ht, hq, f1, f2, f3, f4, k⟩ := h
    refine ⟨_, (@pss_cons _ _ _ _ _ (@ps_put _ _ 3 _ _ _ _ (by rfl) (by first | exact .inl rfl | exact .inr rfl | assumption) S.nd rfl (Or.inl rfl) (pe_call G_law_e_next (hr.mono (by decide)) rfl T.mg_law_e_next T.F_law_e_next.kp T.b_law_e_next .nil pass0 (@pa_mor _ _ _ _ _ (by rfl) (pv 0) (@pa_mor _ _ _ _ _ (by rfl) pe_int pa_nil))))
      (@pss_cons _ _ _ _ _ (@ps_if _ _ _ _ _ _ _ _ (@pt_cmpR _ _ _ _ _ _ _ _ op_eq (@pe_ix _ _ _ _ _ _ _ ix_tup (pv 1) pe_int (fun _ _ => rfl)) pe_str (nomark _)) (@pss_cons _ _ _ _ _ (@ps_if _ _ _ _ _ _ _ _ (@pt_cmpR _ _ _ _ _ _ _ _ op_lt (pv 3) pe_int (nomark _)) (@pss_one _ _ _ (@ps_ret _ _ _ _ pe_int)) pss_nil)
      (@pss_one _ _ _ (@ps_ret _ _ _ _ (pe_call G_law_e_next (hr.mono (by decide)) rfl T.mg_law_e_next T.F_law_e_next.kp T.b_law_e_next .nil pass0 (@pa_mor _ _ _ _ _ (by rfl) (pv 0) (@pa_mor _ _ _ _ _ (by rfl) (@pe_ix _ _ _ _ _ _ _ ix_tup (pv 1) pe_int (fun _ _ => rfl)) pa_nil)))))) pss_nil)
      (@pss_cons _ _ _ _ _ (@ps_if _ _ _ _ _ _ _ _ (@pt_cmpR _ _ _ _ _ _ _ _ op_lt (pv 3) pe_int (nomark _)) (@pss_one _ _ _ (@ps_ret _ _ _ _ (@pe_tup _ _ _ _ _ (@pa_mor _ _ _ _ _ (by rfl) pe_int (@pa_mor _ _ _ _ _ (by rfl) pe_int pa_nil))))) pss_nil)
      (@pss_cons _ _ _ _ _ (@ps_if _ _ _ _ _ _ _ _ (@pt_cmpR _ _ _ _ _ _ _ _ op_eq (pv 3) pe_int (nomark _)) (@pss_cons _ _ _ _ _ (@ps_put _ _ 4 _ _ _ _ (by rfl) (by first | exact .inl rfl | exact .inr rfl | assumption) S.nd rfl (Or.inl rfl) (@pe_op _ _ _ _ _ _ _ _ op_mul (@pe_op _ _ _ _ _ _ _ _ op_sub pe_int (@pe_op _ _ _ _ _ _ _ _ op_mul pe_int (pe_call G_law_e_next (hr.mono (by decide)) rfl T.mg_law_e_next T.F_law_e_next.kp T.b_law_e_next .nil pass0 (@pa_mor _ _ _ _ _ (by rfl) (pv 0) (@pa_mor _ _ _ _ _ (by rfl) pe_int pa_nil))))) (pe_call G_law_e_next (hr.mono (by decide)) rfl T.mg_law_e_next T.F_law_e_next.kp T.b_law_e_next .nil pass0 (@pa_mor _ _ _ _ _ (by rfl) (pv 0) (@pa_mor _ _ _ _ _ (by rfl) (pv 2) pa_nil)))))
      (@pss_one _ _ _ (@ps_ret _ _ _ _ (pe_call G_law_e_low (hr.mono (by decide)) rfl T.mg_law_e_low T.F_law_e_low.kp T.b_law_e_low .nil pass0 (@pa_mor _ _ _ _ _ (by rfl) (pv 4) (@pa_mor _ _ _ _ _ (by rfl) (@pe_op _ _ _ _ _ _ _ _ op_add pe_int (pe_call G_law_e_next (hr.mono (by decide)) rfl T.mg_law_e_next T.F_law_e_next.kp T.b_law_e_next .nil pass0 (@pa_mor _ _ _ _ _ (by rfl) (pv 0) (@pa_mor _ _ _ _ _ (by rfl) (pv 2) pa_nil)))) pa_nil)))))) pss_nil)
      (@pss_one _ _ _ (@ps_ret _ _ _ _ (pe_call G_law_e_low (hr.mono (by decide)) rfl T.mg_law_e_low T.F_law_e_low.kp T.b_law_e_low .nil pass0 (@pa_mor _ _ _ _ _ (by rfl) (@pe_op _ _ _ _ _ _ _ _ op_sub (pe_call G_law_e_next (hr.mono (by decide)) rfl T.mg_law_e_next T.F_law_e_next.kp T.b_law_e_next .nil pass0 (@pa_mor _ _ _ _ _ (by rfl) (pv 0) (@pa_mor _ _ _ _ _ (by rfl) pe_int pa_nil))) pe_int) (@pa_mor _ _ _ _ _ (by rfl) (@pe_ix _ _ _ _ _ _ _ ix_list (@pe_lst _ _ _ _ (@pa_mor _ _ _ _ _ (by rfl) pe_int (@pa_mor _ _ _ _ _ (by rfl) pe_int (@pa_mor _ _ _ _ _ (by rfl) pe_int (@pa_mor _ _ _ _ _ (by rfl) pe_int pa_nil))))) (pe_call G_law_e_next (hr.mono (by decide)) rfl T.mg_law_e_next T.F_law_e_next.kp T.b_law_e_next .nil pass0 (@pa_mor _ _ _ _ _ (by rfl) (pv 0) (@pa_mor _ _ _ _ _ (by rfl) pe_int pa_nil))) (fun _ _ => rfl)) pa_nil))))))))), ?_⟩
    have mf : Mid far := Mid.of_lt (by omega) (by omega)
    refine ⟨_, rfl, P0, a, ns, 16, rfl, pc, hS, by decide, Mid.of_lt (by decide) (by decide), fun kd H1 kd0 kd1 s1 p1 => ?_⟩
    have hS1 : SqL K (er P0 H1) a (ns.map V.int) := Same.seq s1 hS
    have ht1 := ht.mono s1
    unfold ToldAt at ht1
    by_cases z : q = 0
    · subst z
      rw [tdOf_zero] at ht1
      refine ⟨_, rfl, td, _, _, _, rfl, rfl, .of (er_le _ _ ht1), rfl, rfl, false, by decide +kernel, iteF ?_⟩
      refine ⟨_, rfl, _, _, rfl, rfl, _, rfl, ite2 (fun _ => ?_) (fun _ => ?_)⟩
      · refine ⟨by show 2 ≤ sizeLine; decide, fun r nr => ?_⟩
        have np := p1.ne nr
        exact k _ 0 1 _ (s1.trans (SameE.of (same_upd nr))) (p1.mono (same_upd nr)) (.frac (er_some np upd_same) ⟨by decide, by decide⟩ (by show Int.natAbs 0 ≤ F; omega) (by show Int.natAbs 1 ≤ F; omega))
      refine ⟨_, rfl, rfl, _, rfl, ite2 (fun _ => ?_) (fun _ => ?_)⟩
      · refine ⟨_, rfl, P0, a, ns, 2, rfl, p1, hS1, by decide, Mid.of_lt (by decide) (by decide), fun sg H2 sg0 sg1 s2 p2 => ?_⟩
        refine ⟨_, _, rfl, rfl, .inl ⟨by decide, by decide⟩, _, _, rfl, rfl, _, rfl, _, rfl, P0, a, ns, far, rfl, p2, Same.seq s2 hS1, f1, mf, fun tp H3 tp0 tp1 s3 p3 => ?_⟩
        refine ⟨_, _, rfl, rfl, .inl ⟨by omega, by omega⟩, ?_⟩
        refine ⟨_, rfl, _, rfl, _, rfl, P0, a, ns, far, rfl, p3, Same.seq s3 (Same.seq s2 hS1), f1, mf, fun bt H4 bt0 bt1 s4 p4 => ?_⟩
        refine ⟨_, _, rfl, rfl, _, _, rfl, (show 1 + bt ≠ 0 by omega), Mid.of_lt (by omega) (by omega), fun r H5 s5 er' => ?_⟩
        have b1 : ((1 - 2 * sg) * tp).natAbs ≤ F := by
          rcases (show sg = 0 ∨ sg = 1 by omega) with rfl | rfl
          · rw [show (1 - 2 * (0 : Int)) * tp = tp by omega]; omega
          · rw [show (1 - 2 * (1 : Int)) * tp = -tp by omega]; omega
        refine k _ _ _ H5 (s1.trans (s2.trans (s3.trans (s4.trans (SameE.of s5))))) (p4.mono s5) ((low_num (B := F) er' (show 1 ≤ 1 + bt by omega) b1 (by omega)).er (H' := H5) (p4.mono s5))
      · refine ⟨_, rfl, P0, a, ns, 9, rfl, p1, hS1, by decide, Mid.of_lt (by decide) (by decide), fun tp H2 tp0 tp1 s2 p2 => ?_⟩
        refine ⟨_, _, rfl, rfl, by show 4 ≤ sizeLine; decide, fun l nl => ?_⟩
        have nP := p2.ne nl
        have sl : Same H2 (upd H2 l (.lst [.int 1, .int 1, .int 2, .int 3])) := same_upd nl
        have el : upd H2 l (.lst [.int 1, .int 1, .int 2, .int 3]) l = some (.lst [.int 1, .int 1, .int 2, .int 3]) := upd_same
        have pl := p2.mono sl
        have hSl : SqL K (er P0 (upd H2 l (.lst [.int 1, .int 1, .int 2, .int 3]))) a (ns.map V.int) := Same.seq (er_same sl) (Same.seq s2 hS1)
        generalize upd H2 l (.lst [.int 1, .int 1, .int 2, .int 3]) = H3 at sl el pl hSl ⊢
        refine ⟨_, rfl, P0, a, ns, 4, rfl, pl, hSl, by decide, Mid.of_lt (by decide) (by decide), fun r H4 r0 r1 s4 p4 => ?_⟩
        obtain ⟨b, hat, b1, b3⟩ : ∃ b : Int, atI ([.int 1, .int 1, .int 2, .int 3] : List V) r = some (.int b) ∧ 1 ≤ b ∧ b ≤ 3 := by
          rcases (show r = 0 ∨ r = 1 ∨ r = 2 ∨ r = 3 by omega) with rfl | rfl | rfl | rfl
          · exact ⟨1, rfl, by decide, by decide⟩
          · exact ⟨1, rfl, by decide, by decide⟩
          · exact ⟨2, rfl, by decide, by decide⟩
          · exact ⟨3, rfl, by decide, by decide⟩
        refine ⟨l, _, _, _, rfl, rfl, .of (s4.at nP el), hat, _, _, rfl, by omega, Mid.of_lt (by omega) (by omega), fun r' H5 s5 er' => ?_⟩
        exact k _ _ _ H5 (s1.trans (s2.trans ((SameE.of sl).trans (s4.trans (SameE.of s5))))) (p4.mono s5) ((low_num (B := F) er' b1 (show (tp - 4).natAbs ≤ _ by omega) (by omega)).er (H' := H5) (p4.mono s5))
    · rw [tdOf_pos z] at ht1
      obtain ⟨q2, q3, q4⟩ := hq.resolve_left z
      refine ⟨_, rfl, td, _, _, _, rfl, rfl, .of (er_le _ _ ht1), rfl, rfl, true, by decide +kernel, iteT ?_⟩
      refine ⟨_, rfl, _, _, rfl, rfl, _, rfl, ite2 (fun _ => ?_) (fun _ => ?_)⟩
      · exact k _ 0 1 H1 s1 p1 (.rem (by decide) (by omega) q3)
      · refine ⟨_, rfl, _, rfl, td, _, _, _, rfl, rfl, .of (er_le _ _ ht1), rfl, P0, a, ns, q, rfl, p1, hS1, by omega, Mid.of_lt (by omega) (by omega), fun r H2 r0 r1 s2 p2 => ?_⟩
        exact k _ r 1 H2 (s1.trans s2) p2 (.rem r0 r1 q3)
theorem sc_law_e_shifted_due : FnScope ["row", "half", "due", "i"] ["row"] (defScope s_law_e_shifted_due) := ⟨rfl, rfl, rfl, by decide +kernel, rfl, by decide +kernel, by decide +kernel⟩
theorem ok_law_e_shifted_due (T : Txt K mg t) : FnOk P w K mg base CX0 1 t.f_law_e_shifted_due t.d_law_e_shifted_due ["row"] spShDue := by
  have S := sc_law_e_shifted_due
  refine T.F_law_e_shifted_due.ok S (fun vs H Q E h => ?_) (fun cdv A outer s H vs Q E hr h => ?_)
  · obtain ⟨a, q, ps, B, m, rfl, _⟩ := h
    rfl
  · obtain ⟨a, q, ps, B, m, rfl, hA, lp, m40, k⟩ := h
    refine ⟨_, (@pss_cons _ _ _ _ _ (@ps_put _ _ 1 _ _ _ _ (by rfl) (by first | exact .inl rfl | exact .inr rfl | assumption) S.nd rfl (Or.inl rfl) (@pe_op _ _ _ _ _ _ _ _ op_fdiv (pe_callB call_len_seq rfl T.n_len boot_len (@pa_mor _ _ _ _ _ (by rfl) (pv 0) pa_nil)) pe_int))
      (@pss_cons _ _ _ _ _ (@ps_put _ _ 2 _ _ _ _ (by rfl) (by first | exact .inl rfl | exact .inr rfl | assumption) S.nd rfl (Or.inl rfl) (@pe_lst _ _ _ _ (@pa_mor _ _ _ _ _ (by rfl) (pe_rev (@pe_slice _ _ _ _ _ _ _ _ _ _ sl_list (pv 0) po_none (po_some (@pe_op _ _ _ _ _ _ _ _ op_add (pv 1) pe_int))) (@pe_un _ _ _ _ _ _ un_neg pe_int)) pa_nil)))
      (@pss_cons _ _ _ _ _ (ps_for PassesOwn.never rfl (pi_range2 rfl T.n_range (@pa_mor _ _ _ _ _ (by rfl) pe_int (@pa_mor _ _ _ _ _ (by rfl) (@pe_op _ _ _ _ _ _ _ _ op_add (pv 1) pe_int) pa_nil))) (pg_name (i := 3) S.nd rfl (Or.inl rfl))
        (@pss_one _ _ _ (ps_expr (pe_bm PySem.F.plainAttrs_list PySem.F.slot_list_append PySem.F.type_list_append mt_append (pv 2) (@pa_mor _ _ _ _ _ (by rfl) (@pe_op _ _ _ _ _ _ _ _ op_cat (@pe_lst _ _ _ _ (@pa_mor _ _ _ _ _ (by rfl) (@pe_ix _ _ _ _ _ _ _ ix_list (pv 0) (@pe_op _ _ _ _ _ _ _ _ op_add (pv 1) (pv 3)) (fun _ _ => rfl)) pa_nil)) (@pe_slice _ _ _ _ _ _ _ _ _ _ sl_list (@pe_ix _ _ _ _ _ _ _ ix_list (pv 2) (@pe_op _ _ _ _ _ _ _ _ op_sub (pv 3) pe_int) (fun _ _ => rfl)) po_none (po_some (pv 1)))) pa_nil)))))
      (@pss_one _ _ _ (@ps_ret _ _ _ _ (pv 2)))))), ?_⟩
    obtain ⟨vs, ea, lv, fv⟩ := id hA
    have hR : RelN B H q vs ps := ⟨lv, fv⟩
    have hm : ps.length / 2 = m := by omega
    refine ⟨_, rfl, a, vs, rfl, .inl (.of ea), _, _, rfl, rfl, ⟨by decide, by decide⟩, ?_⟩
    dsimp only [gName]
    rw [show (vs.length : Int) / 2 = (m : Int) by omega]
    simp only [L2.start, List.length_cons, List.length_nil, List.map_cons, List.map_nil, List.replicate, List.cons_append, List.nil_append, List.set_cons_zero, List.set_cons_succ]
    refine ⟨_, rfl, _, rfl, _, _, rfl, rfl, _, rfl, a, vs, rfl, .of ea, fun c nc => ⟨_, rfl, rfl, c, _, rfl, .of upd_same, fun p np => ⟨by show 1 ≤ sizeLine; decide, fun d nd => ?_⟩⟩⟩
    have ecut : cutV vs none (some ((m : Int) + 1)) = vs.take (m + 1) := by
      rw [show (m : Int) + 1 = ((m + 1 : Nat) : Int) by omega]
      exact cutV_take vs (m + 1) (by omega)
    rw [ecut] at nd np ⊢
    have s1 : Same H (upd H c (.lst (vs.take (m + 1)))) := same_upd nc
    have s2 := s1.trans (same_upd (o := .lst (vs.take (m + 1)).reverse) np)
    have ep : upd (upd H c (.lst (vs.take (m + 1)))) p (.lst (vs.take (m + 1)).reverse) p = some (.lst (vs.take (m + 1)).reverse) := upd_same
    have npH : H p = none := none_of s1 np
    generalize upd (upd H c (.lst (vs.take (m + 1)))) p (.lst (vs.take (m + 1)).reverse) = Hb at s2 ep nd ⊢
    have s3 : Same Hb (upd Hb d (.lst [.ref p])) := same_upd nd
    have ed : upd Hb d (.lst [.ref p]) d = some (.lst [.ref p]) := upd_same
    have ndH : H d = none := none_of s2 nd
    have pd : p ≠ d := fun e => by rw [e, nd] at ep; cases ep
    dsimp only [gName]
    generalize upd Hb d (.lst [.ref p]) = Hd at s3 ed ⊢
    simp only [List.set_cons_zero, List.set_cons_succ]
    have s4 := s2.trans s3
    have t0 : TabG B H Hd q d 1 (shRow ps (m + 1)) := ⟨_, ed, rfl, fun i v hv => by
      match i, hv with
      | 0, hv =>
        cases hv
        refine ⟨p, rfl, pd, npH, ?_⟩
        rw [shRow_first (by omega) hm]
        exact (((hR.take (m + 1)).rev).mono s4).row (s3 _ _ ep)
      | i + 1, hv => cases hv⟩
    refine ⟨_, rfl, _, _, rfl, rfl, 1, (m : Int) + 1, rfl, ⟨by decide, by decide, by omega, by omega⟩, ?_⟩
    rw [show ((m : Int) + 1 - 1).toNat = m by omega]
    refine for_range (fun i σ Hc => Same H Hc ∧ ∃ v3 : Option V, σ = [some (.ref a), some (.int (m : Int)), some (.ref d), v3] ∧ TabG B H Hc q d (i + 1) (shRow ps (m + 1))) ⟨s4, none, rfl, t0⟩ ?_ ?_
    · rintro i σ Hc hi ⟨sc, v3, rfl, tc⟩
      obtain ⟨us, eu, lu, fu⟩ := id tc
      have hiu : i < us.length := by omega
      obtain ⟨x, ex, xd, xn, hx⟩ := fu i us[i] (by simp [hiu])
      obtain ⟨ws, ew, lw, _⟩ := id hx
      have hw := hx.rel ew
      rw [shRow_len] at lw
      have hv : m + (i + 1) < vs.length := by omega
      refine ⟨_, rfl, .inl ⟨rfl, _, .of eu⟩, _, rfl, _, rfl, _, rfl, _, _, rfl, rfl, a, vs, _, vs[m + (i + 1)], rfl, rfl, .of (sc _ _ ea), ?_, by show 1 ≤ sizeLine; decide, fun l nl => ?_⟩
      · show atI vs ((m : Int) + (1 + (i : Int))) = _
        rw [show (m : Int) + (1 + (i : Int)) = ((m + (i + 1) : Nat) : Int) by omega]
        exact atI_nat (by simp [hv])
      have sl : Same Hc (upd Hc l (.lst [vs[m + (i + 1)]])) := same_upd nl
      have el : upd Hc l (.lst [vs[m + (i + 1)]]) l = some (.lst [vs[m + (i + 1)]]) := upd_same
      generalize upd Hc l (.lst [vs[m + (i + 1)]]) = He at sl el ⊢
      refine ⟨_, rfl, _, rfl, _, _, rfl, rfl, d, us, _, .ref x, rfl, rfl, .of (sl _ _ eu), ?_, _, rfl, _, rfl, x, ws, rfl, .of (sl _ _ ew), fun c2 nc2 => ?_⟩
      · show atI us (1 + (i : Int) - 1) = _
        rw [show 1 + (i : Int) - 1 = (i : Int) by omega]
        exact atI_nat (by rw [← ex]; simp [hiu])
      rw [cutV_take ws m (by omega)]
      have sc2 : Same He (upd He c2 (.lst (ws.take m))) := same_upd nc2
      refine ⟨l, c2, _, _, rfl, rfl, sc2 _ _ el, upd_same, Nat.le_trans (show _ ≤ 100 by simp; omega) (by decide), fun p2 np2 => ?_⟩
      have sp2 := sc2.trans (same_upd (o := .lst ([vs[m + (i + 1)]] ++ ws.take m)) np2)
      have ep2 : upd (upd He c2 (.lst (ws.take m))) p2 (.lst ([vs[m + (i + 1)]] ++ ws.take m)) p2 = some (.lst ([vs[m + (i + 1)]] ++ ws.take m)) := upd_same
      have s5 := sl.trans sp2
      have np2' : H p2 = none := none_of (sc.trans (sl.trans sc2)) np2
      have pd2 : p2 ≠ d := fun e => by
        have := (sl.trans sc2) _ _ eu
        rw [e, this] at np2
        cases np2
      generalize upd (upd He c2 (.lst (ws.take m))) p2 (.lst ([vs[m + (i + 1)]] ++ ws.take m)) = Hf at s5 ep2 ⊢
      refine ⟨d, us, _, rfl, rfl, s5 _ _ eu, small1000 (by omega), same_but (sc.trans s5) ndH, _, rfl, (tc.mono s5).push (s5 _ _ eu) np2' pd2 ?_⟩
      rw [shRow_next, hm]
      exact ((RelN.one ((hR.mono (sc.trans s5)).at hv)).app ((hw.take m).mono s5)).row ep2
    · rintro σ Hc ⟨sc, v3, rfl, tc⟩
      exact ⟨_, rfl, k d Hc sc ndH tc⟩
theorem cutV_rest (xs : List V) (h : 1 ≤ xs.length) : cutV xs (some 1) none = xs.drop 1 := by
  have e : HT.sIx xs.length 0 (some 1) = 1 := by
    unfold HT.sIx
    simp
    omega
  unfold cutV
  rw [e, show HT.sIx xs.length xs.length none = xs.length from rfl]
  exact List.take_of_length_le (by simp)
theorem cutV_end (xs : List V) (h : 1 ≤ xs.length) : cutV xs (some (-1)) none = xs.drop (xs.length - 1) := by
  have e : HT.sIx xs.length 0 (some (-1)) = xs.length - 1 := by
    unfold HT.sIx
    simp
    omega
  unfold cutV
  rw [e, show HT.sIx xs.length xs.length none = xs.length from rfl]
  exact List.take_of_length_le (by simp)
theorem cutV_but (xs : List V) : cutV xs none (some (-1)) = xs.dropLast := by
  have e : HT.sIx xs.length xs.length (some (-1)) = xs.length - 1 := by
    unfold HT.sIx
    simp
    omega
  unfold cutV
  rw [e, show HT.sIx xs.length 0 none = 0 from rfl, List.drop_zero, Nat.sub_zero, List.dropLast_eq_take]
theorem sc_law_e_turned_due : FnScope ["row", "due", "i"] ["row"] (defScope s_law_e_turned_due) := ⟨rfl, rfl, rfl, by decide +kernel, rfl, by decide +kernel, by decide +kernel⟩
theorem ok_law_e_turned_due (T : Txt K mg t) : FnOk P w K mg base CX0 1 t.f_law_e_turned_due t.d_law_e_turned_due ["row"] spTuDue := by
  have S := sc_law_e_turned_due
  refine T.F_law_e_turned_due.ok S (fun vs H Q E h => ?_) (fun cdv A outer s H vs Q E hr h => ?_)
  · obtain ⟨a, q, ps, B, rfl, _⟩ := h
    rfl
  · obtain ⟨a, q, ps, B, rfl, hA, n1, n40, k⟩ := h
    refine ⟨_, (@pss_cons _ _ _ _ _ (@ps_put _ _ 1 _ _ _ _ (by rfl) (by first | exact .inl rfl | exact .inr rfl | assumption) S.nd rfl (Or.inl rfl) (@pe_lst _ _ _ _ (@pa_mor _ _ _ _ _ (by rfl) (@pe_op _ _ _ _ _ _ _ _ op_cat (@pe_slice _ _ _ _ _ _ _ _ _ _ sl_list (pv 0) po_none (po_some pe_int)) (pe_rev (@pe_slice _ _ _ _ _ _ _ _ _ _ sl_list (pv 0) (po_some pe_int) po_none) (@pe_un _ _ _ _ _ _ un_neg pe_int))) pa_nil)))
      (@pss_cons _ _ _ _ _ (ps_for PassesOwn.never rfl (pi_range2 rfl T.n_range (@pa_mor _ _ _ _ _ (by rfl) pe_int (@pa_mor _ _ _ _ _ (by rfl) (pe_callB call_len_seq rfl T.n_len boot_len (@pa_mor _ _ _ _ _ (by rfl) (pv 0) pa_nil)) pa_nil))) (pg_name (i := 2) S.nd rfl (Or.inl rfl))
        (@pss_one _ _ _ (ps_expr (pe_bm PySem.F.plainAttrs_list PySem.F.slot_list_append PySem.F.type_list_append mt_append (pv 1) (@pa_mor _ _ _ _ _ (by rfl) (@pe_op _ _ _ _ _ _ _ _ op_cat (@pe_slice _ _ _ _ _ _ _ _ _ _ sl_list (@pe_ix _ _ _ _ _ _ _ ix_list (pv 1) (@pe_op _ _ _ _ _ _ _ _ op_sub (pv 2) pe_int) (fun _ _ => rfl)) (po_some (@pe_un _ _ _ _ _ _ un_neg pe_int)) po_none) (@pe_slice _ _ _ _ _ _ _ _ _ _ sl_list (@pe_ix _ _ _ _ _ _ _ ix_list (pv 1) (@pe_op _ _ _ _ _ _ _ _ op_sub (pv 2) pe_int) (fun _ _ => rfl)) po_none (po_some (@pe_un _ _ _ _ _ _ un_neg pe_int)))) pa_nil)))))
      (@pss_one _ _ _ (@ps_ret _ _ _ _ (pv 1))))), ?_⟩
    obtain ⟨vs, ea, lv, fv⟩ := id hA
    have hR : RelN B H q vs ps := ⟨lv, fv⟩
    refine ⟨_, rfl, _, rfl, a, vs, rfl, .of ea, fun c nc => ?_⟩
    have e1 : cutV vs none (some 1) = vs.take 1 := cutV_take vs 1 (by omega)
    rw [e1]
    have s1 : Same H (upd H c (.lst (vs.take 1))) := same_upd nc
    have ec : upd H c (.lst (vs.take 1)) c = some (.lst (vs.take 1)) := upd_same
    generalize upd H c (.lst (vs.take 1)) = H1 at s1 ec ⊢
    refine ⟨_, rfl, _, rfl, a, vs, rfl, .of (s1 _ _ ea), fun c2 nc2 => ⟨_, rfl, rfl, c2, _, rfl, .of upd_same, fun c3 nc3 => ?_⟩⟩
    rw [cutV_rest vs (by omega)] at nc3 ⊢
    have s2 : Same H1 (upd (upd H1 c2 (.lst (vs.drop 1))) c3 (.lst (vs.drop 1).reverse)) := (same_upd nc2).trans (same_upd nc3)
    have ec3 : upd (upd H1 c2 (.lst (vs.drop 1))) c3 (.lst (vs.drop 1).reverse) c3 = some (.lst (vs.drop 1).reverse) := upd_same
    generalize upd (upd H1 c2 (.lst (vs.drop 1))) c3 (.lst (vs.drop 1).reverse) = H2 at s2 ec3 ⊢
    refine ⟨c, c3, _, _, rfl, rfl, s2 _ _ ec, ec3, Nat.le_trans (show _ ≤ 100 by simp; omega) (by decide), fun p np => ⟨by show 1 ≤ sizeLine; decide, fun d nd => ?_⟩⟩
    have s3 := s1.trans (s2.trans (same_upd (o := .lst (vs.take 1 ++ (vs.drop 1).reverse)) np))
    have ep : upd H2 p (.lst (vs.take 1 ++ (vs.drop 1).reverse)) p = some (.lst (vs.take 1 ++ (vs.drop 1).reverse)) := upd_same
    have npH : H p = none := none_of (s1.trans s2) np
    generalize upd H2 p (.lst (vs.take 1 ++ (vs.drop 1).reverse)) = Hb at s3 ep nd ⊢
    have s4 : Same Hb (upd Hb d (.lst [.ref p])) := same_upd nd
    have ed : upd Hb d (.lst [.ref p]) d = some (.lst [.ref p]) := upd_same
    have ndH : H d = none := none_of s3 nd
    have pd : p ≠ d := fun e => by rw [e, nd] at ep; cases ep
    dsimp only [gName]
    generalize upd Hb d (.lst [.ref p]) = Hd at s4 ed ⊢
    simp only [L2.start, List.length_cons, List.length_nil, List.map_cons, List.map_nil, List.replicate, List.cons_append, List.nil_append, List.set_cons_zero, List.set_cons_succ]
    have s5 := s3.trans s4
    have e0 : tuRow ps 0 = ps.take 1 ++ (ps.drop 1).reverse := by
      cases ps with
      | nil => simp at n1
      | cons p ps => exact tuRow_first
    have t0 : TabG B H Hd q d 1 (tuRow ps) := ⟨_, ed, rfl, fun i v hv => by
      match i, hv with
      | 0, hv =>
        cases hv
        refine ⟨p, rfl, pd, npH, ?_⟩
        rw [e0]
        exact (((hR.take 1).app (hR.drop 1).rev).mono s5).row (s4 _ _ ep)
      | i + 1, hv => cases hv⟩
    refine ⟨_, rfl, a, vs, rfl, .inl (.of (s5 _ _ ea)), 1, (vs.length : Int), rfl, ⟨by decide, by decide, by omega, by omega⟩, ?_⟩
    rw [show ((vs.length : Int) - 1).toNat = ps.length - 1 by omega]
    refine for_range (fun i σ Hc => Same H Hc ∧ ∃ v2 : Option V, σ = [some (.ref a), some (.ref d), v2] ∧ TabG B H Hc q d (i + 1) (tuRow ps)) ⟨s5, none, rfl, t0⟩ ?_ ?_
    · rintro i σ Hc hi ⟨sc, v2, rfl, tc⟩
      obtain ⟨us, eu, lu, fu⟩ := id tc
      have hiu : i < us.length := by omega
      obtain ⟨x, ex, xd, xn, hx⟩ := fu i us[i] (by simp [hiu])
      obtain ⟨ws, ew, lw, _⟩ := id hx
      have hw := hx.rel ew
      rw [tuRow_len] at lw
      have ati : atI us (1 + (i : Int) - 1) = some (.ref x) := by
        rw [show 1 + (i : Int) - 1 = (i : Int) by omega]
        exact atI_nat (by rw [← ex]; simp [hiu])
      refine ⟨_, rfl, .inl ⟨rfl, _, .of eu⟩, _, rfl, _, rfl, _, _, rfl, rfl, d, us, _, .ref x, rfl, rfl, .of eu, ati, _, rfl, _, rfl, x, ws, rfl, .of ew, fun l nl => ?_⟩
      have ee : cutV ws (some (-1)) none = ws.drop (ws.length - 1) := cutV_end ws (by omega)
      rw [ee]
      have sl : Same Hc (upd Hc l (.lst (ws.drop (ws.length - 1)))) := same_upd nl
      have el : upd Hc l (.lst (ws.drop (ws.length - 1))) l = some (.lst (ws.drop (ws.length - 1))) := upd_same
      generalize upd Hc l (.lst (ws.drop (ws.length - 1))) = He at sl el ⊢
      refine ⟨_, rfl, _, rfl, _, _, rfl, rfl, d, us, _, .ref x, rfl, rfl, .of (sl _ _ eu), ati, _, rfl, _, rfl, x, ws, rfl, .of (sl _ _ ew), fun c2 nc2 => ?_⟩
      have ef : cutV ws none (some (-1)) = ws.dropLast := cutV_but ws
      rw [ef]
      have sc2 : Same He (upd He c2 (.lst ws.dropLast)) := same_upd nc2
      refine ⟨l, c2, _, _, rfl, rfl, sc2 _ _ el, upd_same, Nat.le_trans (show _ ≤ 100 by simp; omega) (by decide), fun p2 np2 => ?_⟩
      have sp2 := sc2.trans (same_upd (o := .lst (ws.drop (ws.length - 1) ++ ws.dropLast)) np2)
      have ep2 : upd (upd He c2 (.lst ws.dropLast)) p2 (.lst (ws.drop (ws.length - 1) ++ ws.dropLast)) p2 = some (.lst (ws.drop (ws.length - 1) ++ ws.dropLast)) := upd_same
      have s6 := sl.trans sp2
      have np2' : H p2 = none := none_of (sc.trans (sl.trans sc2)) np2
      have pd2 : p2 ≠ d := fun e => by
        have := (sl.trans sc2) _ _ eu
        rw [e, this] at np2
        cases np2
      generalize upd (upd He c2 (.lst ws.dropLast)) p2 (.lst (ws.drop (ws.length - 1) ++ ws.dropLast)) = Hf at s6 ep2 ⊢
      refine ⟨d, us, _, rfl, rfl, s6 _ _ eu, small1000 (by omega), same_but (sc.trans s6) ndH, _, rfl, (tc.mono s6).push (s6 _ _ eu) np2' pd2 ?_⟩
      rw [tuRow_next n1, ← lw, List.dropLast_eq_take, tuRow_len, ← lw]
      have hd : ws.dropLast = ws.take (ws.length - 1) := List.dropLast_eq_take
      rw [hd] at ep2
      exact (((hw.drop (ws.length - 1)).app (hw.take (ws.length - 1))).mono s6).row ep2
    · rintro σ Hc ⟨sc, v2, rfl, tc⟩
      rw [show ps.length - 1 + 1 = ps.length by omega] at tc
      exact ⟨_, rfl, k d Hc sc ndH tc⟩
theorem sc_law_e_table_right : FnScope ["told", "found", "due", "i"] ["told", "found", "due"] (defScope s_law_e_table_right) := ⟨rfl, rfl, rfl, by decide +kernel, rfl, by decide +kernel, by decide +kernel⟩
theorem ok_law_e_table_right (T : Txt K mg t) : FnOk P w K mg base CX0 4 t.f_law_e_table_right t.d_law_e_table_right ["told", "found", "due"] spTabR := by
  have S := sc_law_e_table_right
  have G_law_e_is_row := ok_law_e_is_row (P := P) (w := w) (base := base) T
  refine T.F_law_e_table_right.ok S (fun vs H Q E h => ?_) (fun cdv A outer s H vs Q E hr h => ?_)
  · obtain ⟨td, f, d, q, N, F, B, H0, H1, rfl, _⟩ := h
    rfl
  · obtain ⟨td, f, d, q, N, F, B, H0, H1, rfl, ht, hq, hF, hD, n40, lF, b300, k⟩ := h
    have hu8 := hr.units
    refine ⟨_, (@pss_cons _ _ _ _ _ (@ps_if _ _ _ _ _ _ _ _ (PW.pt (@pw_or _ _ _ _ _ _ _ (@pt_not _ _ _ _ (pt_val (pe_callB (call_isi (K := K)) rfl T.n_isinstance boot_isinstance (@pa_mor _ _ _ _ _ (by rfl) (pv 1) (@pa_mor _ _ _ _ _ (by rfl) (pe_bltn (v := .ty "list") rfl T.n_list boot_list rfl) pa_nil))))) (@pw_or1 _ _ _ _ (@pt_cmpR _ _ _ _ _ _ _ _ op_ne (pe_callB call_len_seq rfl T.n_len boot_len (@pa_mor _ _ _ _ _ (by rfl) (pv 1) pa_nil)) (pe_callB call_len_seq rfl T.n_len boot_len (@pa_mor _ _ _ _ _ (by rfl) (pv 2) pa_nil)) (nomark _))))) (@pss_one _ _ _ (@ps_ret _ _ _ _ pe_bl)) pss_nil)
      (@pss_cons _ _ _ _ _ (ps_for PassesOwn.never rfl (pi_range1 rfl T.n_range (@pa_mor _ _ _ _ _ (by rfl) (pe_callB call_len_seq rfl T.n_len boot_len (@pa_mor _ _ _ _ _ (by rfl) (pv 2) pa_nil)) pa_nil)) (pg_name (i := 3) S.nd rfl (Or.inl rfl))
        (@pss_one _ _ _ (@ps_if _ _ _ _ _ _ _ _ (PW.pt (@pw_or _ _ _ _ _ _ _ (@pt_not _ _ _ _ (pt_val (pe_call G_law_e_is_row (hr.mono (by decide)) rfl T.mg_law_e_is_row T.F_law_e_is_row.kp T.b_law_e_is_row .nil pass0 (@pa_mor _ _ _ _ _ (by rfl) (pv 0) (@pa_mor _ _ _ _ _ (by rfl) (@pe_ix _ _ _ _ _ _ _ ix_list (pv 1) (pv 3) (fun _ _ => rfl)) pa_nil))))) (@pw_or1 _ _ _ _ (@pt_cmpR _ _ _ _ _ _ _ _ (op_neL (n := 1) hu8) (@pe_ix _ _ _ _ _ _ _ ix_list (pv 1) (pv 3) (fun _ _ => rfl)) (@pe_ix _ _ _ _ _ _ _ ix_list (pv 2) (pv 3) (fun _ _ => rfl)) (nomark _))))) (@pss_one _ _ _ (@ps_ret _ _ _ _ pe_bl)) pss_nil)))
      (@pss_one _ _ _ (@ps_ret _ _ _ _ pe_bl)))), ?_⟩
    obtain ⟨vs, ef, lv, fv⟩ := id hF
    obtain ⟨us, ed, lu, fu⟩ := id hD
    refine ⟨_, rfl, _, _, _, true, rfl, rfl, .of (.lst ef), kit_same, true, rfl, iteF ⟨_, rfl, f, vs, rfl, .inl (.of ef), _, rfl, d, us, rfl, .inl (.of ed), rfl, _, rfl, ite2 (fun h => ?_) (fun _ => ?_)⟩⟩
    · simp [lv, lu] at h
    dsimp only [tNext]
    refine ⟨_, rfl, d, us, rfl, .inl (.of ed), (us.length : Int), rfl, by omega, by omega, ?_⟩
    rw [Int.toNat_natCast]
    refine for_range (fun i σ Hc => Same H Hc ∧ ∃ v3 : Option V, σ = [some (.ref td), some (.ref f), some (.ref d), v3]) ⟨Same.refl _, none, rfl⟩ ?_ ?_
    · rintro i σ Hc hi ⟨sc, v3, rfl⟩
      have hv : i < vs.length := by omega
      obtain ⟨x, ex, _, _, hx⟩ := fv i vs[i] (by simp [hv])
      obtain ⟨y, ey, _, _, hy⟩ := fu i us[i] (by simp [hi])
      have a1 : atI vs (0 + (i : Int)) = some (.ref x) := by rw [Int.zero_add]; exact atI_nat (by rw [← ex]; simp [hv])
      have a2 : atI us (0 + (i : Int)) = some (.ref y) := by rw [Int.zero_add]; exact atI_nat (by rw [← ey]; simp [hi])
      have li := lF i
      refine ⟨_, rfl, _, rfl, _, rfl, f, vs, _, .ref x, rfl, rfl, .of (sc _ _ ef), a1, td, x, q, F i, B, rfl, ht.mono sc, hq, hx.mono sc, by omega, b300, fun Hg sg => ⟨true, rfl, iteF ?_⟩⟩
      have s1 := sc.trans sg
      refine ⟨_, rfl, _, rfl, f, vs, _, .ref x, rfl, rfl, .of (s1 _ _ ef), a1, _, rfl, _, rfl, d, us, _, .ref y, rfl, rfl, .of (s1 _ _ ed), a2, rowG_rlike hq (hx.mono s1) (hy.mono s1) ⟨false, rfl, iteF ?_⟩⟩
      exact ⟨s1, _, rfl⟩
    · rintro σ Hc ⟨sc, v3, rfl⟩
      exact k Hc sc
theorem sc_law_e_asked : FnScope ["door", "world", "row", "aim"] ["door", "world", "row", "aim"] (defScope s_law_e_asked) := ⟨rfl, rfl, rfl, by decide +kernel, rfl, by decide +kernel, by decide +kernel⟩
theorem ok_law_e_asked (T : Txt K mg t) : FnOk P w K mg base (CXF P w) 5 t.f_law_e_asked t.d_law_e_asked ["door", "world", "row", "aim"] (spAsked t.C_World t.C_NoFit) := by
  have S := sc_law_e_asked
  have G_shifted_table := ok_shifted_table (P := P) (w := w) (base := base) T
  have G_growth := ok_growth (P := P) (w := w) (base := base) T
  have G_shifted_undone := ok_shifted_undone (P := P) (w := w) (base := base) T
  have G_grown := ok_grown (P := P) (w := w) (base := base) T
  have G_turned_table := ok_turned_table (P := P) (w := w) (base := base) T
  have G_turned_back := ok_turned_back (P := P) (w := w) (base := base) T
  have G_turned_undone := ok_turned_undone (P := P) (w := w) (base := base) T
  have G_World_of := ok_of (P := P) (w := w) (base := base) T
  obtain ⟨dv, hd1, hb1⟩ := T.b1_World_of
  refine T.F_law_e_asked.okX S (fun vs H Q E h => ?_) (fun cdv A outer s H vs Q E hr h L => ?_)
  · obtain ⟨c, z, a, b, q, xs, ys, rfl, _⟩ := h
    rfl
  · obtain ⟨c, z, a, b, q, xs, ys, rfl, hz, hq, ea, eb, l, hb, kE⟩ := h
    have k0 := kE H (Same.refl H)
    refine ⟨_, (@pss_cons _ _ _ _ _ (@ps_if _ _ _ _ _ _ _ _ (@pt_cmpR _ _ _ _ _ _ _ _ op_eq (pv 0) pe_int (nomark _)) (@pss_one _ _ _ (@ps_ret _ _ _ _ (pe_call G_shifted_table (hr.mono (by decide)) rfl T.mg_shifted_table T.F_shifted_table.kp T.b_shifted_table .nil (passF L) (@pa_mor _ _ _ _ _ (by rfl) (pv 1) (@pa_mor _ _ _ _ _ (by rfl) (pv 2) pa_nil))))) pss_nil)
      (@pss_cons _ _ _ _ _ (@ps_if _ _ _ _ _ _ _ _ (@pt_cmpR _ _ _ _ _ _ _ _ op_eq (pv 0) pe_int (nomark _)) (@pss_one _ _ _ (@ps_ret _ _ _ _ (pe_call G_growth (hr.mono (by decide)) rfl T.mg_growth T.F_growth.kp T.b_growth .nil (passF L) (@pa_mor _ _ _ _ _ (by rfl) (pv 1) (@pa_mor _ _ _ _ _ (by rfl) (pv 2) pa_nil))))) pss_nil)
      (@pss_cons _ _ _ _ _ (@ps_if _ _ _ _ _ _ _ _ (@pt_cmpR _ _ _ _ _ _ _ _ op_eq (pv 0) pe_int (nomark _)) (@pss_one _ _ _ (@ps_ret _ _ _ _ (pe_call G_shifted_undone (hr.mono (by decide)) rfl T.mg_shifted_undone T.F_shifted_undone.kp T.b_shifted_undone .nil (passF L) (@pa_mor _ _ _ _ _ (by rfl) (pv 1) (@pa_mor _ _ _ _ _ (by rfl) (pv 2) (@pa_mor _ _ _ _ _ (by rfl) (pv 3) pa_nil)))))) pss_nil)
      (@pss_cons _ _ _ _ _ (@ps_if _ _ _ _ _ _ _ _ (@pt_cmpR _ _ _ _ _ _ _ _ op_eq (pv 0) pe_int (nomark _)) (@pss_one _ _ _ (@ps_ret _ _ _ _ (pe_call G_grown (hr.mono (by decide)) rfl T.mg_grown T.F_grown.kp T.b_grown .nil (passF L) (@pa_mor _ _ _ _ _ (by rfl) (pv 1) (@pa_mor _ _ _ _ _ (by rfl) (pv 2) (@pa_mor _ _ _ _ _ (by rfl) (@pe_lst _ _ _ _ (@pa_mor _ _ _ _ _ (by rfl) (pe_meth (pv 1) T.cl_World T.m_World_of G_World_of (hr.mono (by decide)) hb1 hd1 passN (@pa_mor _ _ _ _ _ (by rfl) pe_int pa_nil)) pa_nil)) (@pa_mor _ _ _ _ _ (by rfl) (@pe_lst _ _ _ _ (@pa_mor _ _ _ _ _ (by rfl) (pe_meth (pv 1) T.cl_World T.m_World_of G_World_of (hr.mono (by decide)) hb1 hd1 passN (@pa_mor _ _ _ _ _ (by rfl) pe_int pa_nil)) pa_nil)) pa_nil))))))) pss_nil)
      (@pss_cons _ _ _ _ _ (@ps_if _ _ _ _ _ _ _ _ (@pt_cmpR _ _ _ _ _ _ _ _ op_eq (pv 0) pe_int (nomark _)) (@pss_one _ _ _ (@ps_ret _ _ _ _ (pe_call G_turned_table (hr.mono (by decide)) rfl T.mg_turned_table T.F_turned_table.kp T.b_turned_table .nil (passF L) (@pa_mor _ _ _ _ _ (by rfl) (pv 1) (@pa_mor _ _ _ _ _ (by rfl) (pv 2) pa_nil))))) pss_nil)
      (@pss_cons _ _ _ _ _ (@ps_if _ _ _ _ _ _ _ _ (@pt_cmpR _ _ _ _ _ _ _ _ op_eq (pv 0) pe_int (nomark _)) (@pss_one _ _ _ (@ps_ret _ _ _ _ (pe_call G_turned_back (hr.mono (by decide)) rfl T.mg_turned_back T.F_turned_back.kp T.b_turned_back .nil (passF L) (@pa_mor _ _ _ _ _ (by rfl) (pv 1) (@pa_mor _ _ _ _ _ (by rfl) (pv 2) pa_nil))))) pss_nil)
      (@pss_one _ _ _ (@ps_ret _ _ _ _ (pe_call G_turned_undone (hr.mono (by decide)) rfl T.mg_turned_undone T.F_turned_undone.kp T.b_turned_undone .nil (passF L) (@pa_mor _ _ _ _ _ (by rfl) (pv 1) (@pa_mor _ _ _ _ _ (by rfl) (pv 2) (@pa_mor _ _ _ _ _ (by rfl) (pv 3) pa_nil)))))))))))), ?_⟩
    refine ⟨_, rfl, rfl, _, rfl, ite2 (fun h => ?_) (fun h => ?_)⟩
    · have e : c = 0 := by simpa using h
      have bad : ShBad xs.length := by
        rcases hb with ⟨_, h⟩ | ⟨h, _⟩ | ⟨h, _⟩ | ⟨h, _⟩
        · exact h
        · omega
        · omega
        · omega
      exact ⟨_, rfl, _, rfl, .ref z, a, xs, rfl, ea, l, fun _ => k0, fun hg => absurd bad hg⟩
    have n0 : c ≠ 0 := by simpa using h
    dsimp only [tNext]
    refine ⟨_, rfl, rfl, _, rfl, ite2 (fun h => ?_) (fun h => ?_)⟩
    · have e : c = 1 := by simpa using h
      have bad : ShBad xs.length := by
        rcases hb with ⟨_, h⟩ | ⟨h, _⟩ | ⟨h, _⟩ | ⟨h, _⟩
        · exact h
        · omega
        · omega
        · omega
      exact ⟨_, rfl, _, rfl, .ref z, a, xs, rfl, ea, l, bad, k0⟩
    have n1 : c ≠ 1 := by simpa using h
    dsimp only [tNext]
    refine ⟨_, rfl, rfl, _, rfl, ite2 (fun h => ?_) (fun h => ?_)⟩
    · have e : c = 2 := by simpa using h
      have bad : ShBad xs.length ∨ ys.length ≠ (xs.length + 1) / 2 := by
        rcases hb with ⟨h, _⟩ | ⟨_, h⟩ | ⟨h, _⟩ | ⟨h, _⟩
        · omega
        · exact h
        · omega
        · omega
      exact ⟨_, rfl, _, rfl, _, rfl, .ref z, a, b, xs, ys, rfl, ea, eb, l, bad, k0⟩
    have n2 : c ≠ 2 := by simpa using h
    dsimp only [tNext]
    refine ⟨_, rfl, rfl, _, rfl, ite2 (fun h => ?_) (fun h => ?_)⟩
    · have e : c = 3 := by simpa using h
      have bad : ShBad xs.length := by
        rcases hb with ⟨_, h⟩ | ⟨h, _⟩ | ⟨h, _⟩ | ⟨h, _⟩
        · exact h
        · omega
        · omega
        · omega
      obtain ⟨dz, hd⟩ := id hz
      have m1 : Mid 1 := Mid.of_lt (by decide) (by decide)
      refine ⟨_, rfl, _, rfl, _, rfl, z, dz, _, rfl, hd, lk_no (by decide +kernel), z, q, 1, 1, rfl, hz, hq, m1, fun h => absurd h (one_noOv hq), fun _ v H1 s1 _ => ⟨by show 1 ≤ sizeLine; decide, fun l1 nl1 => ?_⟩⟩
      have s2 := s1.trans (same_upd (o := .lst [v]) nl1)
      refine ⟨_, rfl, z, dz, _, rfl, s2 _ _ hd, lk_no (by decide +kernel), z, q, 1, 1, rfl, hz.mono s2, hq, m1, fun h => absurd h (one_noOv hq), fun _ v2 H2 s3 _ => ⟨by show 1 ≤ sizeLine; decide, fun l2 nl2 => ?_⟩⟩
      have s4 := s2.trans (s3.trans (same_upd (o := .lst [v2]) nl2))
      exact ⟨.ref z, a, xs, _, _, rfl, s4 _ _ ea, l, bad, kE _ s4⟩
    have n3 : c ≠ 3 := by simpa using h
    dsimp only [tNext]
    refine ⟨_, rfl, rfl, _, rfl, ite2 (fun h => ?_) (fun h => ?_)⟩
    · have e : c = 4 := by simpa using h
      have bad : TuBad xs.length := by
        rcases hb with ⟨h, _⟩ | ⟨h, _⟩ | ⟨_, h⟩ | ⟨h, _⟩
        · omega
        · omega
        · exact h
        · omega
      exact ⟨_, rfl, _, rfl, .ref z, a, xs, rfl, ea, l, fun _ => k0, fun hg => absurd bad hg⟩
    have n4 : c ≠ 4 := by simpa using h
    dsimp only [tNext]
    refine ⟨_, rfl, rfl, _, rfl, ite2 (fun h => ?_) (fun h => ?_)⟩
    · have e : c = 5 := by simpa using h
      have bad : TuBad xs.length := by
        rcases hb with ⟨h, _⟩ | ⟨h, _⟩ | ⟨_, h⟩ | ⟨h, _⟩
        · omega
        · omega
        · exact h
        · omega
      exact ⟨_, rfl, _, rfl, .ref z, a, xs, rfl, ea, l, bad, k0⟩
    have n5 : c ≠ 5 := by simpa using h
    dsimp only [tNext]
    have bad : TuBad xs.length ∨ ys.length ≠ xs.length := by
      rcases hb with ⟨h, _⟩ | ⟨h, _⟩ | ⟨h, _⟩ | ⟨_, h⟩
      · omega
      · omega
      · omega
      · exact h
    exact ⟨_, rfl, _, rfl, _, rfl, .ref z, a, b, xs, ys, rfl, ea, eb, l, bad, k0⟩
theorem Txt.cx_NoFit {K : PySem.W.Frag} {mg : Str → Option Value} {t : Adr} (T : Txt K mg t) : ClsX K t.C_NoFit := ⟨T.cx1, T.cx2, T.cx3, T.cx4, T.cx5, T.cx6⟩
theorem sc_law_e_refused : FnScope ["door", "world", "row", "aim", "refused", "e"] ["door", "world", "row", "aim"] (defScope s_law_e_refused) := ⟨rfl, rfl, rfl, by decide +kernel, rfl, by decide +kernel, by decide +kernel⟩
theorem ok_law_e_refused (T : Txt K mg t) : FnOk P w K mg base CX0 6 t.f_law_e_refused t.d_law_e_refused ["door", "world", "row", "aim"] (spRefd t.C_World) := by
  have S := sc_law_e_refused
  have G_law_e_asked := ok_law_e_asked (P := P) (w := w) (base := base) T
  refine T.F_law_e_refused.ok S (fun vs H Q E h => ?_) (fun cdv A outer s H vs Q E hr h => ?_)
  · obtain ⟨c, z, a, b, q, xs, ys, rfl, _⟩ := h
    rfl
  · obtain ⟨c, z, a, b, q, xs, ys, rfl, hz, hq, ea, eb, l, hb, k⟩ := h
    refine ⟨_, (@pss_cons _ _ _ _ _ (@ps_put _ _ 4 _ _ _ _ (by rfl) (by first | exact .inl rfl | exact .inr rfl | assumption) S.nd rfl (Or.inl rfl) pe_bl)
      (@pss_cons _ _ _ _ _ (ps_tryAs rfl rfl S.nd (i := 5) rfl rfl (psx_expr (pex_call G_law_e_asked (hr.mono (by decide)) rfl T.mg_law_e_asked T.F_law_e_asked.kp T.b_law_e_asked .nil (@pa_mor _ _ _ _ _ (by rfl) (pv 0) (@pa_mor _ _ _ _ _ (by rfl) (pv 1) (@pa_mor _ _ _ _ _ (by rfl) (pe_callTy call_list_of rfl T.n_list boot_list (@pa_mor _ _ _ _ _ (by rfl) (pv 2) pa_nil)) (@pa_mor _ _ _ _ _ (by rfl) (pe_callTy call_list_of rfl T.n_list boot_list (@pa_mor _ _ _ _ _ (by rfl) (pv 3) pa_nil)) pa_nil))))))
        (fun ea => (@pss_cons _ _ _ _ _ (@ps_put _ _ 4 _ _ _ _ (by rfl) (by first | exact .inl rfl | exact .inr rfl | assumption) S.nd rfl (Or.inl rfl) (@pe_and _ _ _ _ _ _ _ (pe_callB (call_isi (K := K)) rfl T.n_isinstance boot_isinstance (@pa_mor _ _ _ _ _ (by rfl) (pv 5) (@pa_mor _ _ _ _ _ (by rfl) (pe_glob (v := .ref _) rfl T.mg_NoFit rfl) pa_nil))) (@pe_one _ _ _ _ _ (pe_callB (call_isi (K := K)) rfl T.n_isinstance boot_isinstance (@pa_mor _ _ _ _ _ (by rfl) (pv 5) (@pa_mor _ _ _ _ _ (by rfl) (pe_bltn (v := .ty "ValueError") rfl T.n_ValueError boot_ValueError rfl) pa_nil))))))
      (@pss_one _ _ _ (@ps_put _ _ 4 _ _ _ _ (by rfl) (by first | exact .inl rfl | exact .inr rfl | assumption) S.nd rfl (Or.inl rfl) (@pe_and _ _ _ _ _ _ _ (pv 4) (@pe_and _ _ _ _ _ _ _ (@pe_not _ _ _ _ (pe_callB (call_isi (K := K)) rfl T.n_isinstance boot_isinstance (@pa_mor _ _ _ _ _ (by rfl) (pv 5) (@pa_mor _ _ _ _ _ (by rfl) (pe_glob (v := .ref _) rfl T.mg_NoOver rfl) pa_nil)))) (@pe_one _ _ _ _ _ (@pe_not _ _ _ _ (pe_callB (call_isi (K := K)) rfl T.n_isinstance boot_isinstance (@pa_mor _ _ _ _ _ (by rfl) (pv 5) (@pa_mor _ _ _ _ _ (by rfl) (pe_glob (v := .ref _) rfl T.mg_NoOrder rfl) pa_nil))))))))))) rfl T.mg_WrightError T.x_WrightError PySem.F.excBase_ValueError.hasBase)
      (@pss_one _ _ _ (@ps_ret _ _ _ _ (pv 4))))), ?_⟩
    refine ⟨_, rfl, _, rfl, _, rfl, a, xs, rfl, .inl (.of ea), fun k1 nk1 => ⟨_, rfl, b, ys, rfl, .inl (.of (same_upd nk1 _ _ eb)), fun k2 nk2 => ?_⟩⟩
    have s2 : Same H (upd (upd H k1 (.lst xs)) k2 (.lst ys)) := (same_upd nk1).trans (same_upd nk2)
    have e1 : upd (upd H k1 (.lst xs)) k2 (.lst ys) k1 = some (.lst xs) := same_upd nk2 _ _ upd_same
    have e2 : upd (upd H k1 (.lst xs)) k2 (.lst ys) k2 = some (.lst ys) := upd_same
    generalize upd (upd H k1 (.lst xs)) k2 (.lst ys) = Hb at s2 e1 e2 ⊢
    refine ⟨c, z, k1, k2, q, xs, ys, rfl, hz.mono s2, hq, e1, e2, l, hb, fun H1 s1 => ⟨_, rfl, ⟨T.x_NoFit, T.m_NF_WE⟩, fun ea hea => ?_⟩⟩
    have ty : TyX K (upd H1 ea (ExcO ea t.C_NoFit)) (.ref ea) (.ref t.C_NoFit) := .exc upd_same T.cx_NoFit
    refine ⟨_, rfl, _, _, _, true, rfl, rfl, ty, T.k_NF, true, rfl, iteT ?_⟩
    refine ⟨_, rfl, _, _, _, true, rfl, rfl, ty, T.k_VE, ?_⟩
    refine ⟨_, rfl, true, rfl, iteT ⟨_, rfl, _, _, _, false, rfl, rfl, ty, T.k_NoOver, false, rfl, true, rfl, iteT ?_⟩⟩
    refine ⟨_, rfl, _, _, _, false, rfl, rfl, ty, T.k_NoOrder, false, rfl, ?_⟩
    exact ⟨_, rfl, k _ (s2.trans (s1.trans (same_upd hea)))⟩
def spTabsR (C : Addr) : Sp := fun vs H Q _ => ∃ (td z a : Addr) (q : Int) (ps : List (Int × Int)) (m at' : Nat), vs = [.ref td, .ref z, .ref a, .int (at' : Int)] ∧ ToldAt H td q ∧ WheelN q ∧ RowG (10 ^ 21) H q a ps ∧ ps.length = 2 * m + 1 ∧ m < 40 ∧ at' < ps.length ∧ ∀ H', Same H H' → Q (.bl true) H'
theorem sc_law_e_tables_right : FnScope ["told", "world", "row", "at", "many", "handed", "short", "one", "other"] ["told", "world", "row", "at"] (defScope s_law_e_tables_right) := ⟨rfl, rfl, rfl, by decide +kernel, rfl, by decide +kernel, by decide +kernel⟩
theorem ok_law_e_tables_right (T : Txt K mg t) : FnOk P w K mg base CX0 6 t.f_law_e_tables_right t.d_law_e_tables_right ["told", "world", "row", "at"] (spTabsR t.C_World) := by
  have S := sc_law_e_tables_right
  have G_shifted_table := ok_shifted_table (P := P) (w := w) (base := base) T
  have G_turned_table := ok_turned_table (P := P) (w := w) (base := base) T
  have G_law_e_plus := ok_law_e_plus (P := P) (w := w) (base := base) T
  have G_law_e_of := ok_law_e_of (P := P) (w := w) (base := base) (B := 10 ^ 21) T
  have G_law_e_table_right := ok_law_e_table_right (P := P) (w := w) (base := base) T
  have G_law_e_shifted_due := ok_law_e_shifted_due (P := P) (w := w) (base := base) T
  have G_law_e_turned_due := ok_law_e_turned_due (P := P) (w := w) (base := base) T
  refine T.F_law_e_tables_right.ok S (fun vs H Q E h => ?_) (fun cdv A outer s H vs Q E hr h => ?_)
  · obtain ⟨td, z, a, q, ps, m, at', rfl, _⟩ := h
    rfl
  · obtain ⟨td, z, a, q, ps, m, at', rfl, ht, hq, hA, lp, m40, hat, k⟩ := h
    refine ⟨_, (@pss_cons _ _ _ _ _ (@ps_put _ _ 4 _ _ _ _ (by rfl) (by first | exact .inl rfl | exact .inr rfl | assumption) S.nd rfl (Or.inl rfl) (@pe_op _ _ _ _ _ _ _ _ op_add (@pe_op _ _ _ _ _ _ _ _ op_fdiv (pe_callB call_len_seq rfl T.n_len boot_len (@pa_mor _ _ _ _ _ (by rfl) (pv 2) pa_nil)) pe_int) pe_int))
      (@pss_cons _ _ _ _ _ (@ps_put _ _ 5 _ _ _ _ (by rfl) (by first | exact .inl rfl | exact .inr rfl | assumption) S.nd rfl (Or.inl rfl) (pe_callTy call_list_of rfl T.n_list boot_list (@pa_mor _ _ _ _ _ (by rfl) (pv 2) pa_nil)))
      (@pss_cons _ _ _ _ _ (@ps_put _ _ 6 _ _ _ _ (by rfl) (by first | exact .inl rfl | exact .inr rfl | assumption) S.nd rfl (Or.inl rfl) (@pe_slice _ _ _ _ _ _ _ _ _ _ sl_list (pv 2) po_none (po_some (pv 4))))
      (@pss_cons _ _ _ _ _ (@ps_put _ _ 7 _ _ _ _ (by rfl) (by first | exact .inl rfl | exact .inr rfl | assumption) S.nd rfl (Or.inl rfl) (pe_call G_shifted_table (hr.mono (by decide)) rfl T.mg_shifted_table T.F_shifted_table.kp T.b_shifted_table .nil passN (@pa_mor _ _ _ _ _ (by rfl) (pv 1) (@pa_mor _ _ _ _ _ (by rfl) (pv 5) pa_nil))))
      (@pss_cons _ _ _ _ _ (@ps_put _ _ 8 _ _ _ _ (by rfl) (by first | exact .inl rfl | exact .inr rfl | assumption) S.nd rfl (Or.inl rfl) (pe_call G_turned_table (hr.mono (by decide)) rfl T.mg_turned_table T.F_turned_table.kp T.b_turned_table .nil passN (@pa_mor _ _ _ _ _ (by rfl) (pv 1) (@pa_mor _ _ _ _ _ (by rfl) (pv 6) pa_nil))))
      (@pss_cons _ _ _ _ _ (@ps_asg _ _ _ _ _ _ (pe_call G_law_e_plus (hr.mono (by decide)) rfl T.mg_law_e_plus T.F_law_e_plus.kp T.b_law_e_plus .nil pass0 (@pa_mor _ _ _ _ _ (by rfl) (pv 0) (@pa_mor _ _ _ _ _ (by rfl) (@pe_ix _ _ _ _ _ _ _ ix_list (pv 2) (pv 3) (fun _ _ => rfl)) (@pa_mor _ _ _ _ _ (by rfl) (pe_call G_law_e_of (hr.mono (by decide)) rfl T.mg_law_e_of T.F_law_e_of.kp T.b_law_e_of .nil pass0 (@pa_mor _ _ _ _ _ (by rfl) (pv 0) (@pa_mor _ _ _ _ _ (by rfl) pe_int pa_nil))) pa_nil)))) (pg_sub (pv 5) (pv 3) set_list) (by rfl) (by rfl) (by rfl))
      (@pss_cons _ _ _ _ _ (@ps_asg _ _ _ _ _ _ (pe_call G_law_e_plus (hr.mono (by decide)) rfl T.mg_law_e_plus T.F_law_e_plus.kp T.b_law_e_plus .nil pass0 (@pa_mor _ _ _ _ _ (by rfl) (pv 0) (@pa_mor _ _ _ _ _ (by rfl) (@pe_ix _ _ _ _ _ _ _ ix_list (pv 2) (@pe_op _ _ _ _ _ _ _ _ op_mod (pv 3) (pv 4)) (fun _ _ => rfl)) (@pa_mor _ _ _ _ _ (by rfl) (pe_call G_law_e_of (hr.mono (by decide)) rfl T.mg_law_e_of T.F_law_e_of.kp T.b_law_e_of .nil pass0 (@pa_mor _ _ _ _ _ (by rfl) (pv 0) (@pa_mor _ _ _ _ _ (by rfl) pe_int pa_nil))) pa_nil)))) (pg_sub (pv 6) (@pe_op _ _ _ _ _ _ _ _ op_mod (pv 3) (pv 4)) set_list) (by rfl) (by rfl) (by rfl))
      (@pss_cons _ _ _ _ _ (@ps_if _ _ _ _ _ _ _ _ (@pt_not _ _ _ _ (pt_val (pe_call G_law_e_table_right (hr.mono (by decide)) rfl T.mg_law_e_table_right T.F_law_e_table_right.kp T.b_law_e_table_right .nil pass0 (@pa_mor _ _ _ _ _ (by rfl) (pv 0) (@pa_mor _ _ _ _ _ (by rfl) (pv 7) (@pa_mor _ _ _ _ _ (by rfl) (pe_call G_law_e_shifted_due (hr.mono (by decide)) rfl T.mg_law_e_shifted_due T.F_law_e_shifted_due.kp T.b_law_e_shifted_due .nil pass0 (@pa_mor _ _ _ _ _ (by rfl) (pv 2) pa_nil)) pa_nil)))))) (@pss_one _ _ _ (@ps_ret _ _ _ _ pe_bl)) pss_nil)
      (@pss_cons _ _ _ _ _ (@ps_if _ _ _ _ _ _ _ _ (@pt_not _ _ _ _ (pt_val (pe_call G_law_e_table_right (hr.mono (by decide)) rfl T.mg_law_e_table_right T.F_law_e_table_right.kp T.b_law_e_table_right .nil pass0 (@pa_mor _ _ _ _ _ (by rfl) (pv 0) (@pa_mor _ _ _ _ _ (by rfl) (pv 8) (@pa_mor _ _ _ _ _ (by rfl) (pe_call G_law_e_turned_due (hr.mono (by decide)) rfl T.mg_law_e_turned_due T.F_law_e_turned_due.kp T.b_law_e_turned_due .nil pass0 (@pa_mor _ _ _ _ _ (by rfl) (@pe_slice _ _ _ _ _ _ _ _ _ _ sl_list (pv 2) po_none (po_some (pv 4))) pa_nil)) pa_nil)))))) (@pss_one _ _ _ (@ps_ret _ _ _ _ pe_bl)) pss_nil)
      (@pss_cons _ _ _ _ _ (@ps_asg _ _ _ _ _ _ pe_non (pg_sub (@pe_ix _ _ _ _ _ _ _ ix_list (pv 7) pe_int (fun _ _ => rfl)) pe_int set_list) (by rfl) (by rfl) (by rfl))
      (@pss_cons _ _ _ _ _ (ps_expr (pe_bm PySem.F.plainAttrs_list PySem.F.slot_list_append PySem.F.type_list_append mt_append (@pe_ix _ _ _ _ _ _ _ ix_list (pv 8) (@pe_op _ _ _ _ _ _ _ _ op_sub (pv 4) pe_int) (fun _ _ => rfl)) (@pa_mor _ _ _ _ _ (by rfl) pe_non pa_nil)))
      (@pss_cons _ _ _ _ _ (@ps_if _ _ _ _ _ _ _ _ (@pt_not _ _ _ _ (pt_val (pe_call G_law_e_table_right (hr.mono (by decide)) rfl T.mg_law_e_table_right T.F_law_e_table_right.kp T.b_law_e_table_right .nil pass0 (@pa_mor _ _ _ _ _ (by rfl) (pv 0) (@pa_mor _ _ _ _ _ (by rfl) (pe_call G_shifted_table (hr.mono (by decide)) rfl T.mg_shifted_table T.F_shifted_table.kp T.b_shifted_table .nil passN (@pa_mor _ _ _ _ _ (by rfl) (pv 1) (@pa_mor _ _ _ _ _ (by rfl) (pv 5) pa_nil))) (@pa_mor _ _ _ _ _ (by rfl) (pe_call G_law_e_shifted_due (hr.mono (by decide)) rfl T.mg_law_e_shifted_due T.F_law_e_shifted_due.kp T.b_law_e_shifted_due .nil pass0 (@pa_mor _ _ _ _ _ (by rfl) (pv 5) pa_nil)) pa_nil)))))) (@pss_one _ _ _ (@ps_ret _ _ _ _ pe_bl)) pss_nil)
      (@pss_one _ _ _ (@ps_ret _ _ _ _ (pe_call G_law_e_table_right (hr.mono (by decide)) rfl T.mg_law_e_table_right T.F_law_e_table_right.kp T.b_law_e_table_right .nil pass0 (@pa_mor _ _ _ _ _ (by rfl) (pv 0) (@pa_mor _ _ _ _ _ (by rfl) (pe_call G_turned_table (hr.mono (by decide)) rfl T.mg_turned_table T.F_turned_table.kp T.b_turned_table .nil passN (@pa_mor _ _ _ _ _ (by rfl) (pv 1) (@pa_mor _ _ _ _ _ (by rfl) (pv 6) pa_nil))) (@pa_mor _ _ _ _ _ (by rfl) (pe_call G_law_e_turned_due (hr.mono (by decide)) rfl T.mg_law_e_turned_due T.F_law_e_turned_due.kp T.b_law_e_turned_due .nil pass0 (@pa_mor _ _ _ _ _ (by rfl) (pv 6) pa_nil)) pa_nil)))))))))))))))))), ?_⟩
    obtain ⟨vs, ea, lv, fv⟩ := id hA
    have hR : RelN (10 ^ 21) H q vs ps := ⟨lv, fv⟩
    have b1000 : 1000 ≤ 10 ^ 21 := by decide
    have b300 : 10 ^ 21 ≤ 10 ^ 300 := by decide +kernel
    have b300' : 2 * 10 ^ 21 * 10 ^ 21 ≤ 10 ^ 300 := by decide +kernel
    have bw : 10 ^ 21 ≤ 2 * 10 ^ 21 * 10 ^ 21 := by decide +kernel
    refine ⟨_, rfl, a, vs, rfl, .inl (.of ea), _, _, rfl, rfl, ⟨by decide, by decide⟩, _, _, rfl, rfl, ?_⟩
    dsimp only [gName]
    rw [show (vs.length : Int) / 2 + 1 = ((m + 1 : Nat) : Int) by omega]
    simp only [L2.start, List.length_cons, List.length_nil, List.map_cons, List.map_nil, List.replicate, List.cons_append, List.nil_append, List.set_cons_zero, List.set_cons_succ]
    refine ⟨_, rfl, a, vs, rfl, .inl (.of ea), fun h nh => ?_⟩
    have s1 : Same H (upd H h (.lst vs)) := same_upd nh
    have eh : upd H h (.lst vs) h = some (.lst vs) := upd_same
    dsimp only [gName]
    generalize upd H h (.lst vs) = H1 at s1 eh ⊢
    simp only [List.set_cons_zero, List.set_cons_succ]
    refine ⟨_, rfl, _, rfl, _, rfl, a, vs, rfl, .of (s1 _ _ ea), fun sh nsh => ?_⟩
    rw [cutV_take vs (m + 1) (by omega)]
    have s2 : Same H1 (upd H1 sh (.lst (vs.take (m + 1)))) := same_upd nsh
    have esh : upd H1 sh (.lst (vs.take (m + 1))) sh = some (.lst (vs.take (m + 1))) := upd_same
    have nshH : H sh = none := none_of s1 nsh
    have hsh : h ≠ sh := fun e => by rw [← e, eh] at nsh; cases nsh
    dsimp only [gName]
    generalize upd H1 sh (.lst (vs.take (m + 1))) = Ha at s2 esh ⊢
    simp only [List.set_cons_zero, List.set_cons_succ]
    have eh := s2 _ _ eh
    have sA := s1.trans s2
    have ng : ¬ ShBad vs.length := fun h => by rcases h with h | h <;> omega
    have ng2 : ∀ (xs : List V), xs.length = m + 1 → ¬ TuBad xs.length := fun xs e h => by rcases h with h | h <;> omega
    have lt1 : (vs.take (m + 1)).length = m + 1 := by simp; omega
    have ltp : (ps.take (m + 1)).length = m + 1 := by simp; omega
    refine ⟨_, rfl, _, rfl, .ref z, h, vs, rfl, eh, by omega, fun hb => absurd hb ng, fun _ => ⟨q, ps, 10 ^ 21, (hR.mono sA).row eh, fun r1 Hb sb nr1 tOne => ?_⟩⟩
    have eN : (ps.length + 1) / 2 = m + 1 := by omega
    rw [eN] at tOne
    have eh' := sb _ _ eh
    have esh' := sb _ _ esh
    have sB := sA.trans sb
    have r1h : r1 ≠ h := fun e => by rw [e, eh] at nr1; cases nr1
    have r1sh : r1 ≠ sh := fun e => by rw [e, esh] at nr1; cases nr1
    dsimp only [gName]
    simp only [List.set_cons_zero, List.set_cons_succ]
    refine ⟨_, rfl, _, rfl, .ref z, sh, _, rfl, esh', by omega, fun hb => absurd hb (ng2 _ lt1), fun _ => ⟨q, ps.take (m + 1), 10 ^ 21, ((hR.take (m + 1)).mono sB).row esh', fun r2 H4 s4 nr2 tOth => ?_⟩⟩
    rw [ltp] at tOth
    have r2h : r2 ≠ h := fun e => by rw [e, eh'] at nr2; cases nr2
    have r2sh : r2 ≠ sh := fun e => by rw [e, esh'] at nr2; cases nr2
    obtain ⟨w1, ewB, lwB, fwB⟩ := id tOne
    have tOne := tOne.mono s4
    have eh4 := s4 _ _ eh'
    have esh4 := s4 _ _ esh'
    have sD := sB.trans s4
    dsimp only [gName]
    simp only [List.set_cons_zero, List.set_cons_succ]
    have hav : at' < vs.length := by omega
    -- handed[at]
    refine ⟨_, rfl, _, rfl, _, rfl, a, vs, _, vs[at'], rfl, rfl, .of (sD _ _ ea), atI_nat (by simp [hav]), _, rfl, td, q, 1, rfl, ht.mono sD, hq, by decide, b1000, fun v0 H5 s5 hv0 => ?_⟩
    have s5D := sD.trans s5
    refine ⟨td, q, _, _, ps.getD at' o1, ofP q 1, 10 ^ 21, rfl, ht.mono s5D, hq, (hR.mono s5D).at hav, hv0, b1000, b300, fun v1 H6 s6 hv1 => ?_⟩
    have s56 := s5.trans s6
    have sE := sD.trans s56
    have eh6 := s56 _ _ eh4
    refine ⟨_, rfl, _, rfl, h, vs, _, at', rfl, rfl, eh6, (by unfold ixN; rw [if_pos (by omega), if_pos (by omega), Int.toNat_natCast]), ?_⟩
    have far1 : ∀ b o, b ≠ h → H6 b = some o → upd H6 h (.lst (vs.set at' v1)) b = some o := fun b o nb e => by rw [upd_ne nb]; exact e
    have sF : Same H (upd H6 h (.lst (vs.set at' v1))) := same_but sE nh
    have tOne := (tOne.mono s56).farD r1h (by rw [eh]; simp) eh6 far1
    have tOth := (tOth.mono s56).farD r2h (by rw [eh']; simp) eh6 far1
    have er1 := far1 _ _ r1h (s56 _ _ (s4 _ _ ewB))
    have esh6 := far1 _ _ (Ne.symm hsh) (s56 _ _ esh4)
    have rH : RelN (2 * 10 ^ 21 * 10 ^ 21) (upd H6 h (.lst (vs.set at' v1))) q (vs.set at' v1) (ps.set at' (addP q (ps.getD at' o1) (ofP q 1))) := RelN.set (B := 2 * 10 ^ 21 * 10 ^ 21) ⟨hR.1, fun i v p h1 h2 => ((hR.mono sF).2 i v p h1 h2).weak bw⟩ (hv1.far eh6 far1) at'
    have eh6 : upd H6 h (.lst (vs.set at' v1)) h = some (.lst (vs.set at' v1)) := upd_same
    dsimp only
    generalize upd H6 h (.lst (vs.set at' v1)) = H7 at sF tOne tOth esh6 rH eh6 er1 ⊢
    -- short[at % many]
    have mp : (0 : Int) < ((m + 1 : Nat) : Int) := by omega
    obtain ⟨bt, ebt⟩ : ∃ bt : Nat, (at' : Int) % ((m + 1 : Nat) : Int) = (bt : Int) := ⟨at' % (m + 1), by omega⟩
    have hbt : bt < m + 1 := by
      have := Int.emod_lt_of_pos (at' : Int) mp
      omega
    have hbv : bt < vs.length := by omega
    refine ⟨_, rfl, _, rfl, _, rfl, _, rfl, _, _, rfl, rfl, mp, a, vs, _, vs[bt], rfl, rfl, .of (sF _ _ ea), (by rw [ebt]; exact atI_nat (by simp [hbv])), _, rfl, td, q, 1, rfl, ht.mono sF, hq, by decide, b1000, fun v2 H8 s8 hv2 => ?_⟩
    have sG := sF.trans s8
    refine ⟨td, q, _, _, ps.getD bt o1, ofP q 1, 10 ^ 21, rfl, ht.mono sG, hq, (hR.mono sG).at hbv, hv2, b1000, b300, fun v3 H9 s9 hv3 => ?_⟩
    have s89 := s8.trans s9
    have sI := sF.trans s89
    have esh9 := s89 _ _ esh6
    refine ⟨_, rfl, _, rfl, _, rfl, _, _, rfl, rfl, mp, sh, vs.take (m + 1), _, bt, rfl, rfl, esh9, (by rw [ebt]; unfold ixN; rw [lt1, if_pos (by omega), if_pos (by omega), Int.toNat_natCast]), ?_⟩
    have far2 : ∀ b o, b ≠ sh → H9 b = some o → upd H9 sh (.lst ((vs.take (m + 1)).set bt v3)) b = some o := fun b o nb e => by rw [upd_ne nb]; exact e
    have sJ : Same H (upd H9 sh (.lst ((vs.take (m + 1)).set bt v3))) := same_but sI nshH
    have tOne := (tOne.mono s89).farD r1sh (by rw [esh]; simp) esh9 far2
    have tOth := (tOth.mono s89).farD r2sh (by rw [esh']; simp) esh9 far2
    have eh9 := far2 _ _ hsh (s89 _ _ eh6)
    have er1 := far2 _ _ r1sh (s89 _ _ er1)
    have rH := (rH.mono s89).far esh9 far2
    have rS : RelN (2 * 10 ^ 21 * 10 ^ 21) (upd H9 sh (.lst ((vs.take (m + 1)).set bt v3))) q ((vs.take (m + 1)).set bt v3) ((ps.take (m + 1)).set bt (addP q (ps.getD bt o1) (ofP q 1))) := RelN.set (B := 2 * 10 ^ 21 * 10 ^ 21) ⟨(hR.take (m + 1)).1, fun i v p h1 h2 => (((hR.take (m + 1)).mono sJ).2 i v p h1 h2).weak bw⟩ (hv3.far esh9 far2) bt
    have esh9 : upd H9 sh (.lst ((vs.take (m + 1)).set bt v3)) sh = some (.lst ((vs.take (m + 1)).set bt v3)) := upd_same
    dsimp only
    generalize upd H9 sh (.lst ((vs.take (m + 1)).set bt v3)) = Hk at sJ tOne tOth eh9 rH rS esh9 er1 ⊢
    -- the two tables held against their dues
    refine ⟨_, rfl, _, rfl, _, rfl, a, q, ps, 10 ^ 21, m, rfl, hA.mono sJ, lp, m40, fun d1 Hl sl nd1 tD1 => ?_⟩
    refine ⟨td, r1, d1, q, m + 1, _, 10 ^ 21, _, _, rfl, (ht.mono sJ).mono sl, hq, tOne.mono sl, tD1, by omega, fun i => by rw [shRow_len]; omega, b300, fun Hm sm => ⟨true, rfl, iteF ?_⟩⟩
    have slm := sl.trans sm
    have sM := sJ.trans slm
    refine ⟨_, rfl, _, rfl, _, rfl, _, rfl, _, rfl, a, vs, rfl, .of (sM _ _ ea), fun c1 nc1 => ?_⟩
    rw [cutV_take vs (m + 1) (by omega)]
    have sn : Same Hm (upd Hm c1 (.lst (vs.take (m + 1)))) := same_upd nc1
    have ec1 : upd Hm c1 (.lst (vs.take (m + 1))) c1 = some (.lst (vs.take (m + 1))) := upd_same
    generalize upd Hm c1 (.lst (vs.take (m + 1))) = Hn at sn ec1 ⊢
    have sN := sM.trans sn
    refine ⟨c1, q, ps.take (m + 1), 10 ^ 21, rfl, ((hR.take (m + 1)).mono sN).row ec1, by omega, by omega, fun d2 Ho so nd2 tD2 => ?_⟩
    rw [ltp] at tD2
    have slo := slm.trans (sn.trans so)
    refine ⟨td, r2, d2, q, m + 1, _, 10 ^ 21, _, _, rfl, (ht.mono sN).mono so, hq, tOth.mono slo, tD2, by omega, fun i => by rw [tuRow_len, ltp]; omega, b300, fun Hp' sp => ⟨true, rfl, iteF ?_⟩⟩
    have sQ := slo.trans sp
    have sR := sJ.trans sQ
    have tOne := tOne.mono sQ
    have tOth := tOth.mono sQ
    have eh10 := sQ _ _ eh9
    have esh10 := sQ _ _ esh9
    have rH := rH.mono sQ
    have rS := rS.mono sQ
    -- one[0][0] = None
    obtain ⟨ws, ew, lw, fw⟩ := id tOne
    have hw0 : 0 < ws.length := by omega
    obtain ⟨x0, ex0, x0r, x0n, hx0⟩ := fw 0 ws[0] (by simp [hw0])
    obtain ⟨xs0, exs, lxs, _⟩ := id hx0
    rw [shRow_len] at lxs
    have x0h : h ≠ x0 := fun e => by rw [← e, eh] at x0n; cases x0n
    have x0sh : sh ≠ x0 := fun e => by rw [← e, esh] at x0n; cases x0n
    have x0B : ∃ o, Hb x0 = some o := by
      have er1 := sQ _ _ er1
      rw [ew] at er1
      cases er1
      obtain ⟨x1, ex1, _, _, hx1⟩ := fwB 0 w1[0] (by simp [hw0])
      rw [ex0] at ex1
      cases ex1
      obtain ⟨us, eu, _⟩ := hx1
      exact ⟨_, eu⟩
    obtain ⟨oB, eoB⟩ := x0B
    have r2x : r2 ≠ x0 := fun e => by rw [e, eoB] at nr2; cases nr2
    dsimp only [tNext]
    refine ⟨_, rfl, r1, ws, _, .ref x0, rfl, rfl, .of ew, (by exact atI_nat (j := 0) (by rw [← ex0]; simp [hw0])), x0, xs0, _, 0, rfl, rfl, exs, (by unfold ixN; rw [if_pos (by decide), if_pos (by omega)]; rfl), ?_⟩
    have far3 : ∀ b o, b ≠ x0 → Hp' b = some o → upd Hp' x0 (.lst (xs0.set 0 .non)) b = some o := fun b o nb e => by rw [upd_ne nb]; exact e
    have sS : Same H (upd Hp' x0 (.lst (xs0.set 0 .non))) := same_but sR (none_of sA x0n)
    have tOth := tOth.farD r2x (by rw [eoB]; simp) exs far3
    have eh11 := far3 _ _ x0h eh10
    have esh11 := far3 _ _ x0sh esh10
    have rH := rH.far exs far3
    have rS := rS.far exs far3
    dsimp only
    generalize upd Hp' x0 (.lst (xs0.set 0 .non)) = Hr at sS tOth eh11 esh11 rH rS ⊢
    -- other[many - 1].append(None)
    obtain ⟨us, eu, lu, fu⟩ := id tOth
    have hum : m < us.length := by omega
    obtain ⟨y, ey, yr, yn, hy⟩ := fu m us[m] (by simp [hum])
    obtain ⟨yl, eyl, lyl, _⟩ := id hy
    rw [tuRow_len, ltp] at lyl
    have yh : h ≠ y := fun e => by rw [← e, eh'] at yn; cases yn
    have ysh : sh ≠ y := fun e => by rw [← e, esh'] at yn; cases yn
    refine ⟨_, rfl, _, rfl, _, _, rfl, rfl, r2, us, _, .ref y, rfl, rfl, .of eu, ?_, .inl ⟨rfl, _, .of eyl⟩, y, yl, _, rfl, rfl, eyl, small1000 (by omega), ?_⟩
    · show atI us (((m + 1 : Nat) : Int) - 1) = _
      rw [show ((m + 1 : Nat) : Int) - 1 = (m : Int) by omega]
      exact atI_nat (by rw [← ey]; simp [hum])
    have far4 : ∀ b o, b ≠ y → Hr b = some o → upd Hr y (.lst (yl ++ [.non])) b = some o := fun b o nb e => by rw [upd_ne nb]; exact e
    have sT : Same H (upd Hr y (.lst (yl ++ [.non]))) := same_but sS (none_of sB yn)
    have eh12 := far4 _ _ yh eh11
    have esh12 := far4 _ _ ysh esh11
    have rH := rH.far eyl far4
    have rS := rS.far eyl far4
    generalize upd Hr y (.lst (yl ++ [.non])) = Hs at sT eh12 esh12 rH rS ⊢
    -- asked again
    generalize ps.set at' (addP q (ps.getD at' o1) (ofP q 1)) = ps2 at rH
    generalize (ps.take (m + 1)).set bt (addP q (ps.getD bt o1) (ofP q 1)) = qs2 at rS
    have lp2 : ps2.length = 2 * m + 1 := by
      have := rH.1
      rw [List.length_set] at this
      omega
    have lq2 : qs2.length = m + 1 := by
      have := rS.1
      rw [List.length_set, lt1] at this
      omega
    have lh : (vs.set at' v1).length = 2 * m + 1 := by rw [List.length_set]; omega
    have lsh : ((vs.take (m + 1)).set bt v3).length = m + 1 := by rw [List.length_set]; exact lt1
    refine ⟨_, rfl, _, rfl, _, rfl, .ref z, h, _, rfl, eh12, by omega, fun hb => absurd hb (fun h => by rcases h with h | h <;> omega), fun _ => ⟨q, ps2, _, rH.row eh12, fun r3 Hu su nr3 t3 => ?_⟩⟩
    rw [show (ps2.length + 1) / 2 = m + 1 by omega] at t3
    refine ⟨_, rfl, h, q, ps2, _, m, rfl, (rH.row eh12).mono su, lp2, m40, fun d3 Hv sv nd3 t4 => ?_⟩
    refine ⟨td, r3, d3, q, m + 1, _, _, _, _, rfl, (ht.mono sT).mono (su.trans sv), hq, t3.mono sv, t4, by omega, fun i => by rw [shRow_len]; omega, b300', fun Hw sw => ⟨true, rfl, iteF ?_⟩⟩
    have suw := su.trans (sv.trans sw)
    dsimp only [tNext]
    refine ⟨_, rfl, _, rfl, _, rfl, .ref z, sh, _, rfl, suw _ _ esh12, by omega, fun hb => absurd hb (ng2 _ lsh), fun _ => ⟨q, qs2, _, (rS.row esh12).mono suw, fun r5 Hx sx nr5 t5 => ?_⟩⟩
    refine ⟨_, rfl, sh, q, qs2, _, rfl, (rS.row esh12).mono (suw.trans sx), by omega, by omega, fun d5 Hy sy nd5 t6 => ?_⟩
    exact ⟨td, r5, d5, q, qs2.length, _, _, _, _, rfl, (ht.mono sT).mono (suw.trans (sx.trans sy)), hq, t5.mono sy, t6, by omega, fun i => by rw [tuRow_len]; omega, b300', fun Hz sz => k Hz (sT.trans (suw.trans (sx.trans (sy.trans sz))))⟩
def spAllRef (K : PySem.W.Frag) (C : Addr) : Sp := fun vs H Q _ => ∃ (P0 s0 z a : Addr) (ns : List Int) (q : Int) (xs : List V) (m : Nat), vs = [.ref P0, .ref z, .ref a] ∧ PenC H P0 s0 ∧ SqL K (er P0 H) s0 (ns.map V.int) ∧ WorldAt C (er P0 H) z q ∧ WheelN q ∧ er P0 H a = some (.lst xs) ∧ xs.length = 2 * m + 1 ∧ m < 40 ∧ ∀ H', SameE P0 H H' → PenC H' P0 s0 → Q (.bl true) H'
theorem sc_law_e_all_refused : FnScope ["pen", "world", "row", "many", "long", "size", "door"] ["pen", "world", "row"] (defScope s_law_e_all_refused) := ⟨rfl, rfl, rfl, by decide +kernel, rfl, by decide +kernel, by decide +kernel⟩
theorem ok_law_e_all_refused (T : Txt K mg t) : FnOk P w K mg base CX0 7 t.f_law_e_all_refused t.d_law_e_all_refused ["pen", "world", "row"] (spAllRef K t.C_World) := by
  have S := sc_law_e_all_refused
  have G_law_e_next := ok_law_e_next (P := P) (w := w) (base := base) T
  have G_law_e_refused := ok_law_e_refused (P := P) (w := w) (base := base) T
  refine T.F_law_e_all_refused.ok S (fun vs H Q E h => ?_) (fun cdv A outer s H vs Q E hr h => ?_)
  · obtain ⟨P0, s0, z, a, ns, q, xs, m, rfl, _⟩ := h
    rfl
  · obtain ⟨P0, s0, z, a, ns, q, xs, m, rfl, pc, hS, hz, hq, ea, lx, m40, k⟩ := h
    refine ⟨_, (@pss_cons _ _ _ _ _ (@ps_put _ _ 3 _ _ _ _ (by rfl) (by first | exact .inl rfl | exact .inr rfl | assumption) S.nd rfl (Or.inl rfl) (@pe_op _ _ _ _ _ _ _ _ op_add (@pe_op _ _ _ _ _ _ _ _ op_fdiv (pe_callB call_len_seq rfl T.n_len boot_len (@pa_mor _ _ _ _ _ (by rfl) (pv 2) pa_nil)) pe_int) pe_int))
      (@pss_cons _ _ _ _ _ (ps_comp (i0 := 4) (N := ["k", "row"]) (ρ := (fun σ => [σ[2]?.join])) ⟨rfl, rfl, by decide +kernel, by decide +kernel, (List.forall_mem_cons.mpr ⟨rfl, (List.forall_mem_nil _)⟩), has_of (by rfl), rfl, by decide +kernel, rfl, (fun σ j v h => match j, h with | 0, h => ⟨2, _, rfl, rfl, join_some h, Or.inr (Or.inl rfl), .inl rfl, .inl rfl⟩ | j + 1, h => by cases h), (fun _ _ => rfl)⟩ rfl S.nd rfl (Or.inl rfl) (pi_range1 rfl T.n_range (@pa_mor _ _ _ _ _ (by rfl) pe_int pa_nil)) (fun s₃ H₃ fp => .nil) (fun s₃ H₃ fp => (@pe_ix _ _ _ _ _ _ _ (ix_listK (K := K)) (pv 1) (@pe_op _ _ _ _ _ _ _ _ op_mod (pv 0) (pe_callB (call_len_seqK (K := K)) rfl T.n_len boot_len (@pa_mor _ _ _ _ _ (by rfl) (pv 1) pa_nil))) (fun _ _ => rfl))))
      (@pss_cons _ _ _ _ _ (ps_for PassesOwn.never rfl (pi_list (@pe_lst _ _ _ _ (@pa_mor _ _ _ _ _ (by rfl) pe_int (@pa_mor _ _ _ _ _ (by rfl) (@pe_op _ _ _ _ _ _ _ _ op_add pe_int (@pe_op _ _ _ _ _ _ _ _ op_mul pe_int (pe_call G_law_e_next (hr.mono (by decide)) rfl T.mg_law_e_next T.F_law_e_next.kp T.b_law_e_next .nil pass0 (@pa_mor _ _ _ _ _ (by rfl) (pv 0) (@pa_mor _ _ _ _ _ (by rfl) pe_int pa_nil))))) (@pa_mor _ _ _ _ _ (by rfl) pe_int (@pa_mor _ _ _ _ _ (by rfl) (@pe_op _ _ _ _ _ _ _ _ op_add pe_int (@pe_op _ _ _ _ _ _ _ _ op_mul pe_int (pe_call G_law_e_next (hr.mono (by decide)) rfl T.mg_law_e_next T.F_law_e_next.kp T.b_law_e_next .nil pass0 (@pa_mor _ _ _ _ _ (by rfl) (pv 0) (@pa_mor _ _ _ _ _ (by rfl) pe_int pa_nil))))) (@pa_mor _ _ _ _ _ (by rfl) (@pe_op _ _ _ _ _ _ _ _ op_add pe_int (@pe_op _ _ _ _ _ _ _ _ op_mul pe_int (pe_call G_law_e_next (hr.mono (by decide)) rfl T.mg_law_e_next T.F_law_e_next.kp T.b_law_e_next .nil pass0 (@pa_mor _ _ _ _ _ (by rfl) (pv 0) (@pa_mor _ _ _ _ _ (by rfl) pe_int pa_nil))))) pa_nil))))))) (pg_name (i := 5) S.nd rfl (Or.inl rfl))
        (@pss_one _ _ _ (ps_for PassesOwn.never rfl (pi_range1 rfl T.n_range (@pa_mor _ _ _ _ _ (by rfl) pe_int pa_nil)) (pg_name (i := 6) S.nd rfl (Or.inl rfl))
        (@pss_one _ _ _ (@ps_if _ _ _ _ _ _ _ _ (@pt_not _ _ _ _ (pt_val (pe_call G_law_e_refused (hr.mono (by decide)) rfl T.mg_law_e_refused T.F_law_e_refused.kp T.b_law_e_refused .nil pass0 (@pa_mor _ _ _ _ _ (by rfl) (pv 6) (@pa_mor _ _ _ _ _ (by rfl) (pv 1) (@pa_mor _ _ _ _ _ (by rfl) (@pe_slice _ _ _ _ _ _ _ _ _ _ sl_list (pv 4) po_none (po_some (pv 5))) (@pa_mor _ _ _ _ _ (by rfl) (@pe_slice _ _ _ _ _ _ _ _ _ _ sl_list (pv 4) po_none (po_some (@pe_op _ _ _ _ _ _ _ _ op_add (@pe_op _ _ _ _ _ _ _ _ op_fdiv (pv 5) pe_int) pe_int))) pa_nil))))))) (@pss_one _ _ _ (@ps_ret _ _ _ _ pe_bl)) pss_nil)))))
      (@pss_cons _ _ _ _ _ (ps_for PassesOwn.never rfl (pi_list (@pe_lst _ _ _ _ (@pa_mor _ _ _ _ _ (by rfl) pe_int (@pa_mor _ _ _ _ _ (by rfl) pe_int (@pa_mor _ _ _ _ _ (by rfl) (@pe_op _ _ _ _ _ _ _ _ op_add pe_int (pe_call G_law_e_next (hr.mono (by decide)) rfl T.mg_law_e_next T.F_law_e_next.kp T.b_law_e_next .nil pass0 (@pa_mor _ _ _ _ _ (by rfl) (pv 0) (@pa_mor _ _ _ _ _ (by rfl) pe_int pa_nil)))) pa_nil))))) (pg_name (i := 5) S.nd rfl (Or.inl rfl))
        (@pss_one _ _ _ (ps_for PassesOwn.never rfl (pi_range2 rfl T.n_range (@pa_mor _ _ _ _ _ (by rfl) pe_int (@pa_mor _ _ _ _ _ (by rfl) pe_int pa_nil))) (pg_name (i := 6) S.nd rfl (Or.inl rfl))
        (@pss_one _ _ _ (@ps_if _ _ _ _ _ _ _ _ (@pt_not _ _ _ _ (pt_val (pe_call G_law_e_refused (hr.mono (by decide)) rfl T.mg_law_e_refused T.F_law_e_refused.kp T.b_law_e_refused .nil pass0 (@pa_mor _ _ _ _ _ (by rfl) (pv 6) (@pa_mor _ _ _ _ _ (by rfl) (pv 1) (@pa_mor _ _ _ _ _ (by rfl) (@pe_slice _ _ _ _ _ _ _ _ _ _ sl_list (pv 4) po_none (po_some (pv 5))) (@pa_mor _ _ _ _ _ (by rfl) (@pe_slice _ _ _ _ _ _ _ _ _ _ sl_list (pv 4) po_none (po_some (pv 5))) pa_nil))))))) (@pss_one _ _ _ (@ps_ret _ _ _ _ pe_bl)) pss_nil)))))
      (@pss_cons _ _ _ _ _ (ps_for PassesOwn.never rfl (pi_list (@pe_lst _ _ _ _ (@pa_mor _ _ _ _ _ (by rfl) pe_int (@pa_mor _ _ _ _ _ (by rfl) (@pe_op _ _ _ _ _ _ _ _ op_sub (pv 3) pe_int) (@pa_mor _ _ _ _ _ (by rfl) (@pe_op _ _ _ _ _ _ _ _ op_add (pv 3) pe_int) (@pa_mor _ _ _ _ _ (by rfl) (@pe_op _ _ _ _ _ _ _ _ op_add (@pe_op _ _ _ _ _ _ _ _ op_add (pv 3) pe_int) (pe_call G_law_e_next (hr.mono (by decide)) rfl T.mg_law_e_next T.F_law_e_next.kp T.b_law_e_next .nil pass0 (@pa_mor _ _ _ _ _ (by rfl) (pv 0) (@pa_mor _ _ _ _ _ (by rfl) pe_int pa_nil)))) pa_nil)))))) (pg_name (i := 5) S.nd rfl (Or.inl rfl))
        (@pss_one _ _ _ (@ps_if _ _ _ _ _ _ _ _ (PW.pt (@pw_or _ _ _ _ _ _ _ (@pt_not _ _ _ _ (pt_val (pe_call G_law_e_refused (hr.mono (by decide)) rfl T.mg_law_e_refused T.F_law_e_refused.kp T.b_law_e_refused .nil pass0 (@pa_mor _ _ _ _ _ (by rfl) pe_int (@pa_mor _ _ _ _ _ (by rfl) (pv 1) (@pa_mor _ _ _ _ _ (by rfl) (pv 2) (@pa_mor _ _ _ _ _ (by rfl) (@pe_slice _ _ _ _ _ _ _ _ _ _ sl_list (pv 4) po_none (po_some (pv 5))) pa_nil))))))) (@pw_or1 _ _ _ _ (@pt_not _ _ _ _ (pt_val (pe_call G_law_e_refused (hr.mono (by decide)) rfl T.mg_law_e_refused T.F_law_e_refused.kp T.b_law_e_refused .nil pass0 (@pa_mor _ _ _ _ _ (by rfl) pe_int (@pa_mor _ _ _ _ _ (by rfl) (pv 1) (@pa_mor _ _ _ _ _ (by rfl) (@pe_slice _ _ _ _ _ _ _ _ _ _ sl_list (pv 2) po_none (po_some (pv 3))) (@pa_mor _ _ _ _ _ (by rfl) (@pe_slice _ _ _ _ _ _ _ _ _ _ sl_list (pv 4) po_none (po_some (pv 5))) pa_nil)))))))))) (@pss_one _ _ _ (@ps_ret _ _ _ _ pe_bl)) pss_nil)))
      (@pss_one _ _ _ (@ps_ret _ _ _ _ pe_bl))))))), ?_⟩
    have ea' := er_le _ _ ea
    refine ⟨_, rfl, a, xs, rfl, .inl (.of ea'), _, _, rfl, rfl, ⟨by decide, by decide⟩, _, _, rfl, rfl, ?_⟩
    dsimp only [gName]
    rw [show (xs.length : Int) / 2 + 1 = ((m + 1 : Nat) : Int) by omega]
    simp only [L2.start, List.length_cons, List.length_nil, List.map_cons, List.map_nil, List.replicate, List.cons_append, List.nil_append, List.set_cons_zero, List.set_cons_succ]
    refine seq_of (asg_of (comp_ofN (xs := (List.range 140).map fun i : Nat => V.int (0 + (i : Int))) (fun R h => ⟨(140 : Int), rfl, by decide, by decide, h _ _ (Same.refl _) (by exact jseq_rng)⟩) (by rw [List.length_map, List.length_range]; exact small1000 (by omega)) (fun _ _ _ _ => True) (fun _ _ _ _ _ _ _ _ _ => trivial) ?_ ?_))
    · intro D j v hj Hc R sc _ kc
      obtain ⟨hj', rfl⟩ := rng_at hj
      obtain ⟨v, hv, mv⟩ := atI_some (xs := xs) (i := (j : Int) % (xs.length : Int)) (Int.emod_nonneg _ (by omega)) (Int.emod_lt_of_pos _ (by omega))
      exact ⟨_, rfl, _, rfl, _, rfl, a, xs, rfl, .inl (.of (sc _ _ ea')), _, _, rfl, rfl, (show (0 : Int) < (xs.length : Int) by omega), a, xs, _, v, rfl, rfl, .of (sc _ _ ea'), hv, kc _ Hc (Same.refl _) trivial⟩
    intro lo ls H1 nlo s1 lls _ elo
    rw [List.length_map, List.length_range] at lls
    dsimp only [gName]
    simp only [List.set_cons_zero, List.set_cons_succ]
    have p1 := pc.mono s1
    have loP : lo ≠ P0 := pc.ne nlo
    have hS1 : SqL K (er P0 H1) s0 (ns.map V.int) := Same.seq (SameE.of s1) hS
    have hz1 := hz.mono (SameE.of s1)
    have ea1 := (SameE.of (P := P0) s1) _ _ ea
    have elo1 : er P0 H1 lo = some (.lst ls) := er_some loP elo
    -- rows that tell no shifted table
    refine ⟨_, rfl, P0, s0, ns, 39, rfl, p1, hS1, by decide, Mid.of_lt (by decide) (by decide), fun w1 H2 w10 w11 s2 p2 => ⟨_, _, rfl, rfl, .inl ⟨by decide, by decide⟩, _, _, rfl, rfl, ?_⟩⟩
    refine ⟨_, rfl, P0, s0, ns, 20, rfl, p2, Same.seq s2 hS1, by decide, Mid.of_lt (by decide) (by decide), fun w2 H3 w20 w21 s3 p3 => ⟨_, _, rfl, rfl, .inl ⟨by decide, by decide⟩, _, _, rfl, rfl, ?_⟩⟩
    have s23 := s2.trans s3
    refine ⟨_, rfl, P0, s0, ns, 20, rfl, p3, Same.seq s23 hS1, by decide, Mid.of_lt (by decide) (by decide), fun w3 H4 w30 w31 s4 p4 => ⟨_, _, rfl, rfl, .inl ⟨by decide, by decide⟩, _, _, rfl, rfl, by show 5 ≤ sizeLine; decide, fun l nl => ?_⟩⟩
    have s24 := s23.trans s4
    have sl : Same H4 (upd H4 l (.lst [.int 0, .int (2 + 2 * w1), .int 80, .int (81 + 2 * w2), .int (82 + 2 * w3)])) := same_upd nl
    have el : upd H4 l (.lst [.int 0, .int (2 + 2 * w1), .int 80, .int (81 + 2 * w2), .int (82 + 2 * w3)]) l = some (.lst [.int 0, .int (2 + 2 * w1), .int 80, .int (81 + 2 * w2), .int (82 + 2 * w3)]) := upd_same
    have p5 := p4.mono sl
    have s25 := s24.trans (SameE.of sl)
    generalize upd H4 l (.lst [.int 0, .int (2 + 2 * w1), .int 80, .int (81 + 2 * w2), .int (82 + 2 * w3)]) = H5 at sl el p5 s25 ⊢
    have hz5 := (hz1.mono s25).mono er_le
    have elo5 := er_le _ _ (s25 _ _ elo1)
    refine ⟨l, rfl, ⟨_, .of el⟩, ?_⟩
    refine for_list (K := K) (a := l) (xs := [.int 0, .int (2 + 2 * w1), .int 80, .int (81 + 2 * w2), .int (82 + 2 * w3)]) (fun i σ Hc => Same H5 Hc ∧ ∃ v5 v6 : Option V, σ = [some (.ref P0), some (.ref z), some (.ref a), some (.int ((m + 1 : Nat) : Int)), some (.ref lo), v5, v6]) ⟨Same.refl _, none, none, rfl⟩ (fun i σ Hc _ ⟨z, _⟩ => .of (z _ _ el)) ?_ ?_
    · rintro i v σ Hc hi ⟨sc, v5, v6, rfl⟩
      obtain ⟨c, rfl, hc, hb⟩ : ∃ c : Nat, v = .int (c : Int) ∧ c ≤ 140 ∧ ShBad c := by
        match i, hi with
        | 0, hi => cases hi; exact ⟨0, rfl, by decide, .inl rfl⟩
        | 1, hi => cases hi; exact ⟨(2 + 2 * w1).toNat, by rw [Int.toNat_of_nonneg (by omega)], by omega, .inl (by omega)⟩
        | 2, hi => cases hi; exact ⟨80, rfl, by decide, .inr (by decide)⟩
        | 3, hi => cases hi; exact ⟨(81 + 2 * w2).toNat, by rw [Int.toNat_of_nonneg (by omega)], by omega, .inr (by omega)⟩
        | 4, hi => cases hi; exact ⟨(82 + 2 * w3).toNat, by rw [Int.toNat_of_nonneg (by omega)], by omega, .inr (by omega)⟩
        | i + 5, hi => cases hi
      refine ⟨4, rfl, by decide, by decide, ?_⟩
      refine for_range (fun i σ Hd => Same H5 Hd ∧ ∃ v6 : Option V, σ = [some (.ref P0), some (.ref z), some (.ref a), some (.int ((m + 1 : Nat) : Int)), some (.ref lo), some (.int (c : Int)), v6]) ⟨sc, _, rfl⟩ ?_ ?_
      · rintro j σ Hd hj ⟨sd, v6, rfl⟩
        refine ⟨_, rfl, _, rfl, _, rfl, _, rfl, _, rfl, lo, ls, rfl, .of (sd _ _ elo5), fun k1 nk1 => ⟨_, rfl, _, rfl, _, _, rfl, rfl, ⟨by decide, by decide⟩, _, _, rfl, rfl, _, rfl, lo, ls, rfl, .of (same_upd nk1 _ _ (sd _ _ elo5)), fun k2 nk2 => ?_⟩⟩
        have sk := (same_upd (o := .lst (cutV ls none (some (c : Int)))) nk1).trans (same_upd (o := .lst (cutV ls none (some ((c : Int) / 2 + 1)))) nk2)
        refine ⟨0 + (j : Int), z, k1, k2, q, _, _, rfl, (hz5.mono sd).mono sk, hq, same_upd nk2 _ _ upd_same, upd_same, ?_, ?_, fun Hw sw => ⟨true, rfl, iteF ⟨sd.trans (sk.trans sw), _, rfl⟩⟩⟩
        · rw [cutV_take ls c (by omega), List.length_take]; omega
        · rw [cutV_take ls c (by omega), List.length_take, Nat.min_eq_left (by omega)]
          unfold BadAt
          have hj4 : j < 4 := hj
          by_cases e : j = 2
          · exact .inr (.inl ⟨by omega, .inl hb⟩)
          · exact .inl ⟨by omega, hb⟩
      · rintro σ Hd ⟨sd, v6, rfl⟩
        exact ⟨sd, _, _, rfl⟩
    rintro σ Ha ⟨sa, v5, v6, rfl⟩
    have pa := p5.mono sa
    have sA := s25.trans (SameE.of sa)
    dsimp only
    -- rows that tell no turned table
    refine ⟨_, rfl, P0, s0, ns, 30, rfl, pa, Same.seq sA hS1, by decide, Mid.of_lt (by decide) (by decide), fun w4 H6 w40 w41 s6 p6 => ⟨_, _, rfl, rfl, by show 3 ≤ sizeLine; decide, fun l nl => ?_⟩⟩
    have sl : Same H6 (upd H6 l (.lst [.int 0, .int 41, .int (42 + w4)])) := same_upd nl
    have el : upd H6 l (.lst [.int 0, .int 41, .int (42 + w4)]) l = some (.lst [.int 0, .int 41, .int (42 + w4)]) := upd_same
    have p7 := p6.mono sl
    have sB := sA.trans (s6.trans (SameE.of sl))
    generalize upd H6 l (.lst [.int 0, .int 41, .int (42 + w4)]) = H7 at sl el p7 sB ⊢
    have hz7 := (hz1.mono sB).mono er_le
    have elo7 := er_le _ _ (sB _ _ elo1)
    refine ⟨l, rfl, ⟨_, .of el⟩, ?_⟩
    refine for_list (K := K) (a := l) (xs := [.int 0, .int 41, .int (42 + w4)]) (fun i σ Hc => Same H7 Hc ∧ ∃ v5 v6 : Option V, σ = [some (.ref P0), some (.ref z), some (.ref a), some (.int ((m + 1 : Nat) : Int)), some (.ref lo), v5, v6]) ⟨Same.refl _, _, _, rfl⟩ (fun i σ Hc _ ⟨z, _⟩ => .of (z _ _ el)) ?_ ?_
    · rintro i v σ Hc hi ⟨sc, v5, v6, rfl⟩
      obtain ⟨c, rfl, hc, hb⟩ : ∃ c : Nat, v = .int (c : Int) ∧ c ≤ 140 ∧ TuBad c := by
        match i, hi with
        | 0, hi => cases hi; exact ⟨0, rfl, by decide, .inl rfl⟩
        | 1, hi => cases hi; exact ⟨41, rfl, by decide, .inr (by decide)⟩
        | 2, hi => cases hi; exact ⟨(42 + w4).toNat, by rw [Int.toNat_of_nonneg (by omega)], by omega, .inr (by omega)⟩
        | i + 3, hi => cases hi
      refine ⟨4, 7, rfl, ⟨by decide, by decide, by decide, by decide⟩, ?_⟩
      refine for_range (lo := 4) (n := 3) (fun i σ Hd => Same H7 Hd ∧ ∃ v6 : Option V, σ = [some (.ref P0), some (.ref z), some (.ref a), some (.int ((m + 1 : Nat) : Int)), some (.ref lo), some (.int (c : Int)), v6]) ⟨sc, _, rfl⟩ ?_ ?_
      · rintro j σ Hd hj ⟨sd, v6, rfl⟩
        refine ⟨_, rfl, _, rfl, _, rfl, _, rfl, _, rfl, lo, ls, rfl, .of (sd _ _ elo7), fun k1 nk1 => ⟨_, rfl, _, rfl, _, rfl, lo, ls, rfl, .of (same_upd nk1 _ _ (sd _ _ elo7)), fun k2 nk2 => ?_⟩⟩
        have sk := (same_upd (o := .lst (cutV ls none (some (c : Int)))) nk1).trans (same_upd (o := .lst (cutV ls none (some (c : Int)))) nk2)
        refine ⟨4 + (j : Int), z, k1, k2, q, _, _, rfl, (hz7.mono sd).mono sk, hq, same_upd nk2 _ _ upd_same, upd_same, ?_, ?_, fun Hw sw => ⟨true, rfl, iteF ⟨sd.trans (sk.trans sw), _, rfl⟩⟩⟩
        · rw [cutV_take ls c (by omega), List.length_take]; omega
        · rw [cutV_take ls c (by omega), List.length_take, Nat.min_eq_left (by omega)]
          unfold BadAt
          by_cases e : j = 2
          · exact .inr (.inr (.inr ⟨by omega, .inl hb⟩))
          · exact .inr (.inr (.inl ⟨by omega, hb⟩))
      · rintro σ Hd ⟨sd, v6, rfl⟩
        exact ⟨sd, _, _, rfl⟩
    rintro σ Hb ⟨sb, v5, v6, rfl⟩
    have pb := p7.mono sb
    have sC := sB.trans (SameE.of sb)
    dsimp only
    -- aims of another length
    refine ⟨_, rfl, _, _, rfl, rfl, _, rfl, _, _, rfl, rfl, _, rfl, _, _, rfl, rfl, _, rfl, P0, s0, ns, 40, rfl, pb, Same.seq sC hS1, by decide, Mid.of_lt (by decide) (by decide), fun w5 H8 w50 w51 s8 p8 => ⟨_, _, rfl, rfl, by show 4 ≤ sizeLine; decide, fun l nl => ?_⟩⟩
    have sl : Same H8 (upd H8 l (.lst [.int 0, .int (((m + 1 : Nat) : Int) - 1), .int (((m + 1 : Nat) : Int) + 1), .int (((m + 1 : Nat) : Int) + 1 + w5)])) := same_upd nl
    have el : upd H8 l (.lst [.int 0, .int (((m + 1 : Nat) : Int) - 1), .int (((m + 1 : Nat) : Int) + 1), .int (((m + 1 : Nat) : Int) + 1 + w5)]) l = some (.lst [.int 0, .int (((m + 1 : Nat) : Int) - 1), .int (((m + 1 : Nat) : Int) + 1), .int (((m + 1 : Nat) : Int) + 1 + w5)]) := upd_same
    have p9 := p8.mono sl
    have sD := sC.trans (s8.trans (SameE.of sl))
    generalize upd H8 l (.lst [.int 0, .int (((m + 1 : Nat) : Int) - 1), .int (((m + 1 : Nat) : Int) + 1), .int (((m + 1 : Nat) : Int) + 1 + w5)]) = H9 at sl el p9 sD ⊢
    have hz9 := (hz1.mono sD).mono er_le
    have elo9 := er_le _ _ (sD _ _ elo1)
    have ea9 := er_le _ _ (sD _ _ ea1)
    refine ⟨l, rfl, ⟨_, .of el⟩, ?_⟩
    refine for_list (K := K) (a := l) (xs := [.int 0, .int (((m + 1 : Nat) : Int) - 1), .int (((m + 1 : Nat) : Int) + 1), .int (((m + 1 : Nat) : Int) + 1 + w5)]) (fun i σ Hc => Same H9 Hc ∧ ∃ v5 v6 : Option V, σ = [some (.ref P0), some (.ref z), some (.ref a), some (.int ((m + 1 : Nat) : Int)), some (.ref lo), v5, v6]) ⟨Same.refl _, _, _, rfl⟩ (fun i σ Hc _ ⟨z, _⟩ => .of (z _ _ el)) ?_ ?_
    · rintro i v σ Hc hi ⟨sc, v5, v6, rfl⟩
      obtain ⟨c, rfl, hc, hb⟩ : ∃ c : Nat, v = .int (c : Int) ∧ c ≤ 140 ∧ c ≠ m + 1 := by
        match i, hi with
        | 0, hi => cases hi; exact ⟨0, rfl, by decide, by omega⟩
        | 1, hi => cases hi; exact ⟨m, by rw [show ((m + 1 : Nat) : Int) - 1 = (m : Int) by omega], by omega, by omega⟩
        | 2, hi => cases hi; exact ⟨m + 2, by rw [show ((m + 1 : Nat) : Int) + 1 = ((m + 2 : Nat) : Int) by omega], by omega, by omega⟩
        | 3, hi => cases hi; exact ⟨(((m + 1 : Nat) : Int) + 1 + w5).toNat, by rw [Int.toNat_of_nonneg (by omega)], by omega, by omega⟩
        | i + 4, hi => cases hi
      refine ⟨_, rfl, _, rfl, _, rfl, _, rfl, _, rfl, lo, ls, rfl, .of (sc _ _ elo9), fun k1 nk1 => ?_⟩
      have sk1 := same_upd (o := .lst (cutV ls none (some (c : Int)))) nk1
      refine ⟨2, z, a, k1, q, xs, _, rfl, (hz9.mono sc).mono sk1, hq, sk1 _ _ (sc _ _ ea9), upd_same, by omega, ?_, fun Hw sw => ⟨true, rfl, iteF ?_⟩⟩
      · rw [cutV_take ls c (by omega), List.length_take, Nat.min_eq_left (by omega)]
        exact .inr (.inl ⟨rfl, .inr (by omega)⟩)
      have s1w := sc.trans (sk1.trans sw)
      refine ⟨_, rfl, _, rfl, _, rfl, _, rfl, a, xs, rfl, .of (s1w _ _ ea9), fun k2 nk2 => ⟨_, rfl, _, rfl, _, rfl, lo, ls, rfl, .of (same_upd nk2 _ _ (s1w _ _ elo9)), fun k3 nk3 => ?_⟩⟩
      have sk := (same_upd (o := .lst (cutV xs none (some ((m + 1 : Nat) : Int)))) nk2).trans (same_upd (o := .lst (cutV ls none (some (c : Int)))) nk3)
      refine ⟨6, z, k2, k3, q, _, _, rfl, (hz9.mono s1w).mono sk, hq, same_upd nk3 _ _ upd_same, upd_same, ?_, ?_, fun Hx sx => ⟨true, rfl, iteF ⟨s1w.trans (sk.trans sx), _, _, rfl⟩⟩⟩
      · rw [cutV_take xs (m + 1) (by omega), List.length_take]; omega
      · rw [cutV_take ls c (by omega), List.length_take, Nat.min_eq_left (by omega), cutV_take xs (m + 1) (by omega), List.length_take, Nat.min_eq_left (by omega)]
        exact .inr (.inr (.inr ⟨rfl, .inr hb⟩))
    rintro σ Hf ⟨sf, v5, v6, rfl⟩
    exact k Hf ((SameE.of s1).trans (sD.trans (SameE.of sf))) (p9.mono sf)
theorem tdOf_prime (q : Int) : (tdOf q).prime = if q = 0 then .non else .int q := by
  unfold tdOf
  split <;> rfl
theorem RowG.er {B : Nat} {H : Hp} {q : Int} {c P a : Addr} {ps : List (Int × Int)} (h : RowG B H q c ps) (p : PenC H P a) (n : c ≠ P) : RowG B (My.er P H) q c ps := by
  obtain ⟨vs, e, l, f⟩ := h
  exact ⟨vs, er_some n e, l, fun i v x h1 h2 => (f i v x h1 h2).er (H' := H) p⟩
theorem ifs_gen6 {c : TT} {t u : TS} {D : Ends} {σ : St} {H : Hp} (k : ∀ R : St → Hp → Prop, (∀ σ H, D.nx σ H → R σ H) → tIfS c t u { D with nx := R } σ H) : tIfS c t u D σ H := k D.nx fun _ _ h => h
theorem ifs_any6 {c : TT} {t u : TS} {D : Ends} {σ : St} {H : Hp} (hc : ∀ Q : Bool → Hp → Prop, (∀ b, Q b H) → c σ H Q) (ht : t D σ H) (hu : u D σ H) : tIfS c t u D σ H := hc _ fun b => by
  cases b with
  | true => rw [if_pos rfl]; exact ht
  | false => rw [if_neg Bool.false_ne_true]; exact hu
theorem sc_law : FnScope ["script", "pen", "k", "told", "world", "half", "far", "row"] ["script"] (defScope s_law) := ⟨rfl, rfl, rfl, by decide +kernel, rfl, by decide +kernel, by decide +kernel⟩
theorem ok_law (T : Txt K mg t) : FnOk P w K mg base CX0 9 t.f_law t.d_law ["script"] (spLaw K) := by
  have S := sc_law
  have G_law_e_world := ok_law_e_world (P := P) (w := w) (base := base) T
  have G_law_e_number := ok_law_e_number (P := P) (w := w) (base := base) T
  have G_law_e_next := ok_law_e_next (P := P) (w := w) (base := base) T
  have G_law_e_tables_right := ok_law_e_tables_right (P := P) (w := w) (base := base) T
  have G_law_e_all_refused := ok_law_e_all_refused (P := P) (w := w) (base := base) T
  have G_World___init__ := ok_init (P := P) (w := w) (base := base) T
  refine T.F_law.ok S (fun vs H Q E h => ?_) (fun cdv A outer s H vs Q E hr h => ?_)
  · obtain ⟨a, ns, rfl, _⟩ := h
    rfl
  · obtain ⟨a, ns, rfl, hS, hlen, kQ⟩ := h
    have hu8 := hr.units
    refine ⟨_, (@pss_cons _ _ _ _ _ (@ps_put _ _ 1 _ _ _ _ (by rfl) (by first | exact .inl rfl | exact .inr rfl | assumption) S.nd rfl (Or.inr rfl) (@pe_lst _ _ _ _ (@pa_mor _ _ _ _ _ (by rfl) (pv 0) (@pa_mor _ _ _ _ _ (by rfl) pe_int (@pa_mor _ _ _ _ _ (by rfl) pe_int pa_nil)))))
      (@pss_cons _ _ _ _ _ (ps_for PassesOwn.never rfl (pi_range1 rfl T.n_range (@pa_mor _ _ _ _ _ (by rfl) pe_int pa_nil)) (pg_name (i := 2) S.nd rfl (Or.inl rfl))
        (@pss_cons _ _ _ _ _ (@ps_if _ _ _ _ _ _ _ _ (PW.pt (pw_and (@pt_cmpR _ _ _ _ _ _ _ _ op_gt (pv 2) pe_int (nomark _)) (pw_and1 (@pt_cmpR _ _ _ _ _ _ _ _ op_ge (@pe_ix _ _ _ _ _ _ _ ix_list (pv 1) pe_int (fun _ _ => rfl)) (pe_callB call_len_seq rfl T.n_len boot_len (@pa_mor _ _ _ _ _ (by rfl) (pv 0) pa_nil)) (nomark _))))) (@pss_one _ _ _ ps_break) pss_nil)
      (@pss_cons _ _ _ _ _ (@ps_put _ _ 3 _ _ _ _ (by rfl) (by first | exact .inl rfl | exact .inr rfl | assumption) S.nd rfl (Or.inr rfl) (pe_call G_law_e_world (hr.mono (by decide)) rfl T.mg_law_e_world T.F_law_e_world.kp T.b_law_e_world .nil pass0 (@pa_mor _ _ _ _ _ (by rfl) (pv 1) pa_nil)))
      (@pss_cons _ _ _ _ _ (@ps_put _ _ 4 _ _ _ _ (by rfl) (by first | exact .inl rfl | exact .inr rfl | assumption) S.nd rfl (Or.inl rfl) (pe_make T.M_World G_World___init__ (hr.mono (by decide)) rfl T.mg_World T.b_World___init__ .nil passN (@pa_mor _ _ _ _ _ (by rfl) (pv 3) pa_nil)))
      (@pss_cons _ _ _ _ _ (@ps_put _ _ 5 _ _ _ _ (by rfl) (by first | exact .inl rfl | exact .inr rfl | assumption) S.nd rfl (Or.inl rfl) (pe_call G_law_e_next (hr.mono (by decide)) rfl T.mg_law_e_next T.F_law_e_next.kp T.b_law_e_next .nil pass0 (@pa_mor _ _ _ _ _ (by rfl) (pv 1) (@pa_mor _ _ _ _ _ (by rfl) pe_int pa_nil))))
      (@pss_cons _ _ _ _ _ (@ps_put _ _ 6 _ _ _ _ (by rfl) (by first | exact .inl rfl | exact .inr rfl | assumption) S.nd rfl (Or.inr rfl) (@pe_op _ _ _ _ _ _ _ _ op_pow pe_int pe_int))
      (@pss_cons _ _ _ _ _ (@ps_if _ _ _ _ _ _ _ _ (PW.pt (pw_and (@pt_cmpR _ _ _ _ _ _ _ _ op_eq (pv 2) pe_int (nomark _)) (pw_and1 (@pt_cmpR _ _ _ _ _ _ _ _ op_eq (pe_call G_law_e_next (hr.mono (by decide)) rfl T.mg_law_e_next T.F_law_e_next.kp T.b_law_e_next .nil pass0 (@pa_mor _ _ _ _ _ (by rfl) (pv 1) (@pa_mor _ _ _ _ _ (by rfl) pe_int pa_nil))) pe_int (nomark _))))) (@pss_cons _ _ _ _ _ (@ps_put _ _ 5 _ _ _ _ (by rfl) (by first | exact .inl rfl | exact .inr rfl | assumption) S.nd rfl (Or.inl rfl) (pe_call G_law_e_next (hr.mono (by decide)) rfl T.mg_law_e_next T.F_law_e_next.kp T.b_law_e_next .nil pass0 (@pa_mor _ _ _ _ _ (by rfl) (pv 1) (@pa_mor _ _ _ _ _ (by rfl) pe_int pa_nil))))
      (@pss_one _ _ _ (@ps_put _ _ 6 _ _ _ _ (by rfl) (by first | exact .inl rfl | exact .inr rfl | assumption) S.nd rfl (Or.inr rfl) pe_int))) pss_nil)
      (@pss_cons _ _ _ _ _ (ps_comp (i0 := 7) (N := ["turn", "pen", "told", "far"]) (ρ := (fun σ => [σ[1]?.join, σ[3]?.join, σ[6]?.join])) ⟨rfl, rfl, by decide +kernel, by decide +kernel, (List.forall_mem_cons.mpr ⟨rfl, (List.forall_mem_cons.mpr ⟨rfl, (List.forall_mem_cons.mpr ⟨rfl, (List.forall_mem_nil _)⟩)⟩)⟩), has_of (by rfl), rfl, by decide +kernel, rfl, (fun σ j v h => match j, h with | 0, h => ⟨1, _, rfl, rfl, join_some h, Or.inr (Or.inl rfl), .inl rfl, .inl rfl⟩ | 1, h => ⟨3, _, rfl, rfl, join_some h, Or.inr (Or.inl rfl), .inl rfl, .inl rfl⟩ | 2, h => ⟨6, _, rfl, rfl, join_some h, Or.inr (Or.inl rfl), .inl rfl, .inl rfl⟩ | j + 3, h => by cases h), (fun _ _ => rfl)⟩ rfl S.nd rfl (Or.inl rfl) (pi_range1 rfl T.n_range (@pa_mor _ _ _ _ _ (by rfl) (@pe_op _ _ _ _ _ _ _ _ op_add (@pe_op _ _ _ _ _ _ _ _ op_mul pe_int (pv 5)) pe_int) pa_nil)) (fun s₃ H₃ fp => .nil) (fun s₃ H₃ fp => (pe_call G_law_e_number (hr.mono (by decide)) rfl T.mg_law_e_number T.F_law_e_number.kp T.b_law_e_number .nil pass0 (@pa_mor _ _ _ _ _ (by rfl) (pv 1) (@pa_mor _ _ _ _ _ (by rfl) (pv 2) (@pa_mor _ _ _ _ _ (by rfl) (pv 3) pa_nil))))))
      (@pss_cons _ _ _ _ _ (@ps_if _ _ _ _ _ _ _ _ (@pt_not _ _ _ _ (pt_val (pe_call G_law_e_tables_right (hr.mono (by decide)) rfl T.mg_law_e_tables_right T.F_law_e_tables_right.kp T.b_law_e_tables_right .nil pass0 (@pa_mor _ _ _ _ _ (by rfl) (pv 3) (@pa_mor _ _ _ _ _ (by rfl) (pv 4) (@pa_mor _ _ _ _ _ (by rfl) (pv 7) (@pa_mor _ _ _ _ _ (by rfl) (pe_call G_law_e_next (hr.mono (by decide)) rfl T.mg_law_e_next T.F_law_e_next.kp T.b_law_e_next .nil pass0 (@pa_mor _ _ _ _ _ (by rfl) (pv 1) (@pa_mor _ _ _ _ _ (by rfl) (pe_callB call_len_seq rfl T.n_len boot_len (@pa_mor _ _ _ _ _ (by rfl) (pv 7) pa_nil)) pa_nil))) pa_nil))))))) (@pss_one _ _ _ (@ps_ret _ _ _ _ pe_bl)) pss_nil)
      (@pss_one _ _ _ (@ps_if _ _ _ _ _ _ _ _ (@pt_not _ _ _ _ (pt_val (pe_call G_law_e_all_refused (hr.mono (by decide)) rfl T.mg_law_e_all_refused T.F_law_e_all_refused.kp T.b_law_e_all_refused .nil pass0 (@pa_mor _ _ _ _ _ (by rfl) (pv 1) (@pa_mor _ _ _ _ _ (by rfl) (pv 4) (@pa_mor _ _ _ _ _ (by rfl) (pv 7) pa_nil)))))) (@pss_one _ _ _ (@ps_ret _ _ _ _ pe_bl)) pss_nil)))))))))))
      (@pss_one _ _ _ (@ps_ret _ _ _ _ pe_bl)))), ?_⟩
    refine ⟨_, rfl, by show 3 ≤ sizeLine; decide, fun P0 nP => ?_⟩
    have p0 : PenC (upd H P0 (.lst [.ref a, .int 0, .int 0])) P0 a := ⟨0, 0, upd_same, by decide, by decide⟩
    have hS0 : SqL K (er P0 (upd H P0 (.lst [.ref a, .int 0, .int 0]))) a (ns.map V.int) := by
      rw [er_upd]
      exact Same.seq (fun b o e => er_some (ne_of_none e nP) e) hS
    generalize upd H P0 (.lst [.ref a, .int 0, .int 0]) = H0 at p0 hS0 ⊢
    refine ⟨4, rfl, by decide, by decide, ?_⟩
    refine for_range (fun i σ Hc => ∃ (v2 v3 v4 v5 v6 v7 : Option V), σ = [some (.ref a), some (.ref P0), v2, v3, v4, v5, v6, v7] ∧ SameE P0 H0 Hc ∧ PenC Hc P0 a) ⟨_, _, _, _, _, _, rfl, SameE.refl _, p0⟩ ?_ ?_
    · rintro i σ Hc hi ⟨v2, v3, v4, v5, v6, v7, rfl, sT, pc⟩
      have hS1 : SqL K (er P0 Hc) a (ns.map V.int) := Same.seq sT hS0
      refine seq_of (ifs_any6 (fun Q hQ => ?_) ?_ ?_)
      · obtain ⟨x, y, eP, _⟩ := id pc
        exact ⟨_, rfl, _, _, rfl, rfl, _, rfl, ite2 (fun _ => ⟨_, rfl, P0, _, _, _, rfl, rfl, .of eP, rfl, _, rfl, a, ns.map V.int, rfl, .inl (er_le.seq hS1), _, _, rfl, rfl, _, rfl, hQ _⟩) (fun _ => hQ _)⟩
      · exact kQ _
      dsimp only [tNext]
      refine ⟨_, rfl, P0, a, ns, rfl, pc, hS1, fun td q H1 hq s1 p1 ht1 => ?_⟩
      refine ⟨_, rfl, fun z dz nz ndz ne => ⟨z, dz, td, tdOf q, rfl, upd_same, ?_, fun _ => ⟨rfl, ?_⟩, fun hg => absurd ((tdOf_good hq).symm.trans hg) (by decide)⟩⟩
      · have e := er_le _ _ ht1
        rw [upd_ne (ne_of_none e nz), upd_ne (ne_of_none e ndz)]
        exact e
      have sz : Same H1 (upd (upd (upd H1 dz (.own z)) z (.ins t.C_World dz [])) z (.ins t.C_World dz [("prime", (tdOf q).prime)])) := fun b o e => by
        rw [upd_ne (ne_of_none e nz), upd_ne (ne_of_none e nz), upd_ne (ne_of_none e ndz)]
        exact e
      have hz2 : WorldAt t.C_World (upd (upd (upd H1 dz (.own z)) z (.ins t.C_World dz [])) z (.ins t.C_World dz [("prime", (tdOf q).prime)])) z q := ⟨dz, by rw [upd_same, tdOf_prime]⟩
      generalize (upd (upd (upd H1 dz (.own z)) z (.ins t.C_World dz [])) z (.ins t.C_World dz [("prime", (tdOf q).prime)])) = H2 at sz hz2 ⊢
      have p2 := p1.mono sz
      have nzP : z ≠ P0 := fun e => by
        obtain ⟨x, y, eP, _⟩ := p2
        obtain ⟨d', ez⟩ := hz2
        rw [e, eP] at ez
        cases ez
      have hzE : ∀ {Hx : Hp}, SameE P0 H2 Hx → WorldAt t.C_World Hx z q := fun {Hx} s => by
        obtain ⟨d', ez⟩ := hz2
        exact ⟨d', s.at nzP ez⟩
      have ht : ToldAt (er P0 H2) td q := ht1.mono (er_same sz)
      have hS2 : SqL K (er P0 H2) a (ns.map V.int) := Same.seq (s1.trans (SameE.of sz)) hS1
      have sT : SameE P0 H0 H2 := sT.trans (s1.trans (SameE.of sz))
      refine ⟨_, rfl, P0, a, ns, 7, rfl, p2, hS2, by decide, Mid.of_lt (by decide) (by decide), fun wd H3 w0 w1 s3 p3 => ?_⟩
      have hS3 : SqL K (er P0 H3) a (ns.map V.int) := Same.seq s3 hS2
      have ht3 := ht.mono s3
      obtain ⟨hf0, rfl⟩ := Int.eq_ofNat_of_zero_le w0
      dsimp only [gName]
      simp only [List.set_cons_zero, List.set_cons_succ]
      refine ⟨_, _, rfl, rfl, ⟨by decide, by decide, by decide⟩, ?_⟩
      dsimp only [gName]
      rw [show (10 : Int) ^ Int.toNat 20 = 10 ^ 20 from rfl]
      simp only [List.set_cons_zero, List.set_cons_succ]
      refine seq_of (ifs_gen6 fun R hR => ?_)
      have rest : ∀ (hf : Nat) (far : Int) (Hx : Hp), SameE P0 H3 Hx → PenC Hx P0 a → hf < 40 → 1 ≤ far → far ≤ 10 ^ 20 → R [some (.ref a), some (.ref P0), some (.int (0 + (i : Int))), some (.ref td), some (.ref z), some (.int (hf : Int)), some (.int far), v7] Hx := by
        intro hf far Hx sx px h40 f1 f2
        apply hR
        dsimp only
        have sTx := s3.trans sx
        have hSx : SqL K (er P0 Hx) a (ns.map V.int) := Same.seq sTx hS2
        have htx := ht.mono sTx
        have en : (2 * (hf : Int) + 1) = ((2 * hf + 1 : Nat) : Int) := by omega
        refine seq_of (asg_of (comp_ofEn (P := P0) (a := a) (n := 2 * hf + 1) (Nat.lt_of_le_of_lt (show 2 * hf + 1 ≤ 100 by omega) (by decide)) (fun R h => ⟨_, rfl, _, _, rfl, rfl, .inl ⟨by decide, by decide⟩, _, _, rfl, rfl, ((2 * hf + 1 : Nat) : Int), congrArg (fun x => [V.int x]) en, by omega, by omega, by rw [Int.toNat_natCast]; exact h Hx (SameE.refl _) px⟩) (fun _ i y Hy => ∃ xm : Int × Int, NumAt (10 ^ 20) (er P0 Hy) q y xm.1 xm.2) (fun _ _ _ _ _ _ ⟨xm, h1⟩ e _ f => ⟨xm, h1.farE e f⟩) ?_ ?_))
        · intro D j hj Hd R sd pd _ nD kd
          exact ⟨_, rfl, _, rfl, _, rfl, P0, a, td, ns, q, far, 10 ^ 20, rfl, pd, Same.seq sd hSx, htx.mono sd, hq, f1, f2, by decide, by decide, fun v x m H' s' p' hv => kd v H' s' p' ⟨(x, m), hv⟩⟩
        intro D ys H4 nD s4 p4 lys hP eD
        obtain ⟨ps, hRow, lps⟩ := rowG_pick (er_some nD eD) hP
        dsimp only [gName]
        simp only [List.set_cons_zero, List.set_cons_succ]
        have sT4 := sTx.trans s4
        have eys : (ys.length : Int) = ((2 * hf + 1 : Nat) : Int) := by omega
        refine ⟨_, rfl, _, rfl, _, rfl, _, rfl, _, rfl, D, ys, rfl, .inl (.of eD), P0, a, ns, (ys.length : Int), rfl, p4, Same.seq sT4 hS2, by omega, Mid.of_lt (by omega) (by omega), fun w5 H5 w50 w51 s5 p5 => ?_⟩
        obtain ⟨at', rfl⟩ := Int.eq_ofNat_of_zero_le w50
        have sT5 := sT4.trans s5
        refine ⟨td, z, D, q, ps, hf, at', rfl, (ht.mono sT5).mono er_le, hq, ((hRow.mono s5).mono er_le).weak (by decide), by omega, h40, by omega, fun H6 s6 => ⟨true, rfl, iteF ?_⟩⟩
        have sT6 := sT5.trans (SameE.of s6)
        have p6 := p5.mono s6
        have hz6 : WorldAt t.C_World (er P0 H6) z q := by
          obtain ⟨d', ez⟩ := hzE sT6
          exact ⟨d', er_some nzP ez⟩
        refine ⟨_, rfl, _, rfl, _, rfl, P0, a, z, D, ns, q, ys, hf, rfl, p6, Same.seq sT6 hS2, hz6, hq, (s5.trans (SameE.of s6)) _ _ (er_some nD eD), by omega, h40, fun H7 s7 p7 => ⟨true, rfl, iteF ?_⟩⟩
        exact ⟨_, _, _, _, _, _, rfl, sT.trans (sT6.trans s7), p7⟩
      refine ⟨_, rfl, rfl, _, rfl, ite2 (fun _ => ?_) (fun _ => ?_)⟩
      · refine ⟨_, rfl, P0, a, ns, 3, rfl, p3, hS3, by decide, Mid.of_lt (by decide) (by decide), fun w Hy wy0 wy1 sy py => ⟨rfl, _, rfl, ite2 (fun _ => ?_) (fun _ => ?_)⟩⟩
        · refine ⟨_, rfl, P0, a, ns, 40, rfl, py, Same.seq sy hS3, by decide, Mid.of_lt (by decide) (by decide), fun w2 Hz wz0 wz1 sz pz => ?_⟩
          obtain ⟨hf1, rfl⟩ := Int.eq_ofNat_of_zero_le wz0
          exact rest hf1 9 Hz (sy.trans sz) pz (by omega) (by decide) (by decide)
        · exact rest hf0 (10 ^ 20) Hy sy py (by omega) (by decide) (by decide)
      · exact iteF (rest hf0 (10 ^ 20) H3 (SameE.refl _) p3 (by omega) (by decide) (by decide))
    · rintro σ Hc ⟨v2, v3, v4, v5, v6, v7, rfl, sT, pc⟩
      exact kQ _
theorem law_all {l : PySem.W.OpenLaw} (T : Txt K mg t) : ∃ fd : FuncData, (∀ (s : Shared) (v : Value), BindsTo s fd ⟨[v], []⟩ [("script", v)]) ∧ ∀ base : Heap, K.In base → base.Ns mainGlobals mg → FnOk l.prog w K mg base CX0 9 t.f_law fd ["script"] (spLaw K) := by
  obtain ⟨oc, od, kV, doc, pm, an, cdv, ct, osl, e, lk, hcd⟩ := T.F_law.ex
  refine ⟨t.d_law, fun s v => ?_, fun base _ _ => ok_law T⟩
  rw [e]
  exact .of_eq rfl
end
theorem walk {l : PySem.W.OpenLaw} {q : Program} {loose : List Str} {XP : (Str → Option Value) → Heap → Prop} {YP : World → Heap → Prop} {d : DefRec} {K : Params → PySem.W.Frag} (hn : l.most = some 63) (hdf : d.params.defaults = [])
    (hY : ∀ (w : World) (h : Heap), YP w h → (K w.params).In h)
    (F : ∀ (w : World) (mg : Str → Option Value) (fa : Addr) (h : Heap), (K w.params).In h → h.Ns mainGlobals mg → mg d.name = some (.ref fa) →
      ∃ fd : FuncData, (∀ (s : Shared) (u : Value), BindsTo s fd ⟨[u], []⟩ [("script", u)]) ∧ ∀ base : Heap, (K w.params).In base → base.Ns mainGlobals mg → FnOk l.prog w (K w.params) mg base CX0 9 fa fd ["script"] (spLaw (K w.params))) :
    PySem.W.WalkO q loose XP YP l.row.toRowW d [] (fun f vs => PySem.call f vs) :=
  L2.walk_of (n := 63) (k := 9) (x := "script") (CX := fun _ => CX0) (sp := fun w => spLaw (K w.params)) hn (by decide) hdf ⟨rfl, by decide, by decide⟩ hY F (fun _ _ a ns hl _ hS => ⟨a, ns, rfl, hS, hl, fun _ => rfl⟩) fun _ _ _ _ _ z => z

theorem txt_mk {K : PySem.W.Frag} {h : Heap} {mg : Str → Option Value} (X : K.In h) (G : h.Ns mainGlobals mg)
    {C_World : Addr}
    {C_NoWorld : Addr}
    {C_NoOver : Addr}
    {C_NoOrder : Addr}
    {C_WrightError : Addr}
    {C_NoFit : Addr}
    {f_is_whole : Addr} {od_is_whole an_is_whole : Option Addr} {sl_is_whole : Array (Option Value)} {oc_is_whole kV_is_whole dc_is_whole pm_is_whole cd_is_whole ct_is_whole : Value}
    {f_common_divisor : Addr} {od_common_divisor an_common_divisor : Option Addr} {sl_common_divisor : Array (Option Value)} {oc_common_divisor kV_common_divisor dc_common_divisor pm_common_divisor cd_common_divisor ct_common_divisor : Value}
    {f_is_prime : Addr} {od_is_prime an_is_prime : Option Addr} {sl_is_prime : Array (Option Value)} {oc_is_prime kV_is_prime dc_is_prime pm_is_prime cd_is_prime ct_is_prime : Value}
    {f_ratio : Addr} {od_ratio an_ratio : Option Addr} {sl_ratio : Array (Option Value)} {oc_ratio kV_ratio dc_ratio pm_ratio cd_ratio ct_ratio : Value}
    {f_remainder_back : Addr} {od_remainder_back an_remainder_back : Option Addr} {sl_remainder_back : Array (Option Value)} {oc_remainder_back kV_remainder_back dc_remainder_back pm_remainder_back cd_remainder_back ct_remainder_back : Value}
    {f_remainder_over : Addr} {od_remainder_over an_remainder_over : Option Addr} {sl_remainder_over : Array (Option Value)} {oc_remainder_over kV_remainder_over dc_remainder_over pm_remainder_over cd_remainder_over ct_remainder_over : Value}
    {f_is_fractions : Addr} {od_is_fractions an_is_fractions : Option Addr} {sl_is_fractions : Array (Option Value)} {oc_is_fractions kV_is_fractions dc_is_fractions pm_is_fractions cd_is_fractions ct_is_fractions : Value}
    {f_is_wheel : Addr} {od_is_wheel an_is_wheel : Option Addr} {sl_is_wheel : Array (Option Value)} {oc_is_wheel kV_is_wheel dc_is_wheel pm_is_wheel cd_is_wheel ct_is_wheel : Value}
    {f_padded : Addr} {od_padded an_padded : Option Addr} {sl_padded : Array (Option Value)} {oc_padded kV_padded dc_padded pm_padded cd_padded ct_padded : Value}
    {f_numbers_of : Addr} {od_numbers_of an_numbers_of : Option Addr} {sl_numbers_of : Array (Option Value)} {oc_numbers_of kV_numbers_of dc_numbers_of pm_numbers_of cd_numbers_of ct_numbers_of : Value}
    {f_poly_times : Addr} {od_poly_times an_poly_times : Option Addr} {sl_poly_times : Array (Option Value)} {oc_poly_times kV_poly_times dc_poly_times pm_poly_times cd_poly_times ct_poly_times : Value}
    {f_parted : Addr} {od_parted an_parted : Option Addr} {sl_parted : Array (Option Value)} {oc_parted kV_parted dc_parted pm_parted cd_parted ct_parted : Value}
    {f_common : Addr} {od_common an_common : Option Addr} {sl_common : Array (Option Value)} {oc_common kV_common dc_common pm_common cd_common ct_common : Value}
    {f_check_aim : Addr} {od_check_aim an_check_aim : Option Addr} {sl_check_aim : Array (Option Value)} {oc_check_aim kV_check_aim dc_check_aim pm_check_aim cd_check_aim ct_check_aim : Value}
    {f_shifted_size : Addr} {od_shifted_size an_shifted_size : Option Addr} {sl_shifted_size : Array (Option Value)} {oc_shifted_size kV_shifted_size dc_shifted_size pm_shifted_size cd_shifted_size ct_shifted_size : Value}
    {f_shifted_row : Addr} {od_shifted_row an_shifted_row : Option Addr} {sl_shifted_row : Array (Option Value)} {oc_shifted_row kV_shifted_row dc_shifted_row pm_shifted_row cd_shifted_row ct_shifted_row : Value}
    {f_shifted_table : Addr} {od_shifted_table an_shifted_table : Option Addr} {sl_shifted_table : Array (Option Value)} {oc_shifted_table kV_shifted_table dc_shifted_table pm_shifted_table cd_shifted_table ct_shifted_table : Value}
    {f_next_pair : Addr} {od_next_pair an_next_pair : Option Addr} {sl_next_pair : Array (Option Value)} {oc_next_pair kV_next_pair dc_next_pair pm_next_pair cd_next_pair ct_next_pair : Value}
    {f_whole_pairs : Addr} {od_whole_pairs an_whole_pairs : Option Addr} {sl_whole_pairs : Array (Option Value)} {oc_whole_pairs kV_whole_pairs dc_whole_pairs pm_whole_pairs cd_whole_pairs ct_whole_pairs : Value}
    {f_told_pair : Addr} {od_told_pair an_told_pair : Option Addr} {sl_told_pair : Array (Option Value)} {oc_told_pair kV_told_pair dc_told_pair pm_told_pair cd_told_pair ct_told_pair : Value}
    {f_growth : Addr} {od_growth an_growth : Option Addr} {sl_growth : Array (Option Value)} {oc_growth kV_growth dc_growth pm_growth cd_growth ct_growth : Value}
    {f_grown : Addr} {od_grown an_grown : Option Addr} {sl_grown : Array (Option Value)} {oc_grown kV_grown dc_grown pm_grown cd_grown ct_grown : Value}
    {f_whole_answer : Addr} {od_whole_answer an_whole_answer : Option Addr} {sl_whole_answer : Array (Option Value)} {oc_whole_answer kV_whole_answer dc_whole_answer pm_whole_answer cd_whole_answer ct_whole_answer : Value}
    {f_shifted_undone : Addr} {od_shifted_undone an_shifted_undone : Option Addr} {sl_shifted_undone : Array (Option Value)} {oc_shifted_undone kV_shifted_undone dc_shifted_undone pm_shifted_undone cd_shifted_undone ct_shifted_undone : Value}
    {f_turned_size : Addr} {od_turned_size an_turned_size : Option Addr} {sl_turned_size : Array (Option Value)} {oc_turned_size kV_turned_size dc_turned_size pm_turned_size cd_turned_size ct_turned_size : Value}
    {f_turned_row : Addr} {od_turned_row an_turned_row : Option Addr} {sl_turned_row : Array (Option Value)} {oc_turned_row kV_turned_row dc_turned_row pm_turned_row cd_turned_row ct_turned_row : Value}
    {f_turned_table : Addr} {od_turned_table an_turned_table : Option Addr} {sl_turned_table : Array (Option Value)} {oc_turned_table kV_turned_table dc_turned_table pm_turned_table cd_turned_table ct_turned_table : Value}
    {f_whole_turn : Addr} {od_whole_turn an_whole_turn : Option Addr} {sl_whole_turn : Array (Option Value)} {oc_whole_turn kV_whole_turn dc_whole_turn pm_whole_turn cd_whole_turn ct_whole_turn : Value}
    {f_turned_undone : Addr} {od_turned_undone an_turned_undone : Option Addr} {sl_turned_undone : Array (Option Value)} {oc_turned_undone kV_turned_undone dc_turned_undone pm_turned_undone cd_turned_undone ct_turned_undone : Value}
    {f_turned_back : Addr} {od_turned_back an_turned_back : Option Addr} {sl_turned_back : Array (Option Value)} {oc_turned_back kV_turned_back dc_turned_back pm_turned_back cd_turned_back ct_turned_back : Value}
    {f_law_e_fill : Addr} {od_law_e_fill an_law_e_fill : Option Addr} {sl_law_e_fill : Array (Option Value)} {oc_law_e_fill kV_law_e_fill dc_law_e_fill pm_law_e_fill cd_law_e_fill ct_law_e_fill : Value}
    {f_law_e_next : Addr} {od_law_e_next an_law_e_next : Option Addr} {sl_law_e_next : Array (Option Value)} {oc_law_e_next kV_law_e_next dc_law_e_next pm_law_e_next cd_law_e_next ct_law_e_next : Value}
    {f_law_e_low : Addr} {od_law_e_low an_law_e_low : Option Addr} {sl_law_e_low : Array (Option Value)} {oc_law_e_low kV_law_e_low dc_law_e_low pm_law_e_low cd_law_e_low ct_law_e_low : Value}
    {f_law_e_of : Addr} {od_law_e_of an_law_e_of : Option Addr} {sl_law_e_of : Array (Option Value)} {oc_law_e_of kV_law_e_of dc_law_e_of pm_law_e_of cd_law_e_of ct_law_e_of : Value}
    {f_law_e_plus : Addr} {od_law_e_plus an_law_e_plus : Option Addr} {sl_law_e_plus : Array (Option Value)} {oc_law_e_plus kV_law_e_plus dc_law_e_plus pm_law_e_plus cd_law_e_plus ct_law_e_plus : Value}
    {f_law_e_is_number : Addr} {od_law_e_is_number an_law_e_is_number : Option Addr} {sl_law_e_is_number : Array (Option Value)} {oc_law_e_is_number kV_law_e_is_number dc_law_e_is_number pm_law_e_is_number cd_law_e_is_number ct_law_e_is_number : Value}
    {f_law_e_is_row : Addr} {od_law_e_is_row an_law_e_is_row : Option Addr} {sl_law_e_is_row : Array (Option Value)} {oc_law_e_is_row kV_law_e_is_row dc_law_e_is_row pm_law_e_is_row cd_law_e_is_row ct_law_e_is_row : Value}
    {f_law_e_world : Addr} {od_law_e_world an_law_e_world : Option Addr} {sl_law_e_world : Array (Option Value)} {oc_law_e_world kV_law_e_world dc_law_e_world pm_law_e_world cd_law_e_world ct_law_e_world : Value}
    {f_law_e_number : Addr} {od_law_e_number an_law_e_number : Option Addr} {sl_law_e_number : Array (Option Value)} {oc_law_e_number kV_law_e_number dc_law_e_number pm_law_e_number cd_law_e_number ct_law_e_number : Value}
    {f_law_e_shifted_due : Addr} {od_law_e_shifted_due an_law_e_shifted_due : Option Addr} {sl_law_e_shifted_due : Array (Option Value)} {oc_law_e_shifted_due kV_law_e_shifted_due dc_law_e_shifted_due pm_law_e_shifted_due cd_law_e_shifted_due ct_law_e_shifted_due : Value}
    {f_law_e_turned_due : Addr} {od_law_e_turned_due an_law_e_turned_due : Option Addr} {sl_law_e_turned_due : Array (Option Value)} {oc_law_e_turned_due kV_law_e_turned_due dc_law_e_turned_due pm_law_e_turned_due cd_law_e_turned_due ct_law_e_turned_due : Value}
    {f_law_e_table_right : Addr} {od_law_e_table_right an_law_e_table_right : Option Addr} {sl_law_e_table_right : Array (Option Value)} {oc_law_e_table_right kV_law_e_table_right dc_law_e_table_right pm_law_e_table_right cd_law_e_table_right ct_law_e_table_right : Value}
    {f_law_e_tables_right : Addr} {od_law_e_tables_right an_law_e_tables_right : Option Addr} {sl_law_e_tables_right : Array (Option Value)} {oc_law_e_tables_right kV_law_e_tables_right dc_law_e_tables_right pm_law_e_tables_right cd_law_e_tables_right ct_law_e_tables_right : Value}
    {f_law_e_asked : Addr} {od_law_e_asked an_law_e_asked : Option Addr} {sl_law_e_asked : Array (Option Value)} {oc_law_e_asked kV_law_e_asked dc_law_e_asked pm_law_e_asked cd_law_e_asked ct_law_e_asked : Value}
    {f_law_e_refused : Addr} {od_law_e_refused an_law_e_refused : Option Addr} {sl_law_e_refused : Array (Option Value)} {oc_law_e_refused kV_law_e_refused dc_law_e_refused pm_law_e_refused cd_law_e_refused ct_law_e_refused : Value}
    {f_law_e_all_refused : Addr} {od_law_e_all_refused an_law_e_all_refused : Option Addr} {sl_law_e_all_refused : Array (Option Value)} {oc_law_e_all_refused kV_law_e_all_refused dc_law_e_all_refused pm_law_e_all_refused cd_law_e_all_refused ct_law_e_all_refused : Value}
    {f_law : Addr} {od_law an_law : Option Addr} {sl_law : Array (Option Value)} {oc_law kV_law dc_law pm_law cd_law ct_law : Value}
    {f_World___init__ : Addr} {od_World___init__ an_World___init__ : Option Addr} {sl_World___init__ : Array (Option Value)} {oc_World___init__ kV_World___init__ dc_World___init__ pm_World___init__ cd_World___init__ ct_World___init__ : Value}
    {f_World_of : Addr} {od_World_of an_World_of : Option Addr} {sl_World_of : Array (Option Value)} {oc_World_of kV_World_of dc_World_of pm_World_of cd_World_of ct_World_of : Value}
    {dT_World_of : Addr} {tk_World_of : Tok} {oc2_World_of : Value} {od2_World_of : Option Addr} {n2_World_of : Nat} {sl2_World_of : Array (Option Value)}
    {f_World_as_wholes : Addr} {od_World_as_wholes an_World_as_wholes : Option Addr} {sl_World_as_wholes : Array (Option Value)} {oc_World_as_wholes kV_World_as_wholes dc_World_as_wholes pm_World_as_wholes cd_World_as_wholes ct_World_as_wholes : Value}
    {tk_GREATEST_PRIME : Tok}
    {tk_LONG : Tok}
    {tk_MOST : Tok}
    (aC_World : PySem.W.nsIn K mainGlobals "World" = some (some (.ref C_World)))
    (aC_NoWorld : PySem.W.nsIn K mainGlobals "NoWorld" = some (some (.ref C_NoWorld)))
    (aC_NoOver : PySem.W.nsIn K mainGlobals "NoOver" = some (some (.ref C_NoOver)))
    (aC_NoOrder : PySem.W.nsIn K mainGlobals "NoOrder" = some (some (.ref C_NoOrder)))
    (aC_WrightError : PySem.W.nsIn K mainGlobals "WrightError" = some (some (.ref C_WrightError)))
    (aC_NoFit : PySem.W.nsIn K mainGlobals "NoFit" = some (some (.ref C_NoFit)))
    (a_is_whole : PySem.W.nsIn K mainGlobals "is_whole" = some (some (.ref f_is_whole)))
    (l_is_whole : K.lookup f_is_whole = some ⟨oc_is_whole, od_is_whole, .func (PySem.W.fnOf "is_whole" "is_whole" (defArgs s_is_whole) (defBody s_is_whole) (defScope s_is_whole) .none kV_is_whole dc_is_whole pm_is_whole an_is_whole cd_is_whole ct_is_whole), sl_is_whole⟩)
    (c_is_whole : PySem.W.codeIn K cd_is_whole "is_whole" = true)
    (k_is_whole : PySem.W.keepIn K (.ref f_is_whole) = true)
    (a_common_divisor : PySem.W.nsIn K mainGlobals "common_divisor" = some (some (.ref f_common_divisor)))
    (l_common_divisor : K.lookup f_common_divisor = some ⟨oc_common_divisor, od_common_divisor, .func (PySem.W.fnOf "common_divisor" "common_divisor" (defArgs s_common_divisor) (defBody s_common_divisor) (defScope s_common_divisor) .none kV_common_divisor dc_common_divisor pm_common_divisor an_common_divisor cd_common_divisor ct_common_divisor), sl_common_divisor⟩)
    (c_common_divisor : PySem.W.codeIn K cd_common_divisor "common_divisor" = true)
    (k_common_divisor : PySem.W.keepIn K (.ref f_common_divisor) = true)
    (a_is_prime : PySem.W.nsIn K mainGlobals "is_prime" = some (some (.ref f_is_prime)))
    (l_is_prime : K.lookup f_is_prime = some ⟨oc_is_prime, od_is_prime, .func (PySem.W.fnOf "is_prime" "is_prime" (defArgs s_is_prime) (defBody s_is_prime) (defScope s_is_prime) .none kV_is_prime dc_is_prime pm_is_prime an_is_prime cd_is_prime ct_is_prime), sl_is_prime⟩)
    (c_is_prime : PySem.W.codeIn K cd_is_prime "is_prime" = true)
    (k_is_prime : PySem.W.keepIn K (.ref f_is_prime) = true)
    (a_ratio : PySem.W.nsIn K mainGlobals "ratio" = some (some (.ref f_ratio)))
    (l_ratio : K.lookup f_ratio = some ⟨oc_ratio, od_ratio, .func (PySem.W.fnOf "ratio" "ratio" (defArgs s_ratio) (defBody s_ratio) (defScope s_ratio) .none kV_ratio dc_ratio pm_ratio an_ratio cd_ratio ct_ratio), sl_ratio⟩)
    (c_ratio : PySem.W.codeIn K cd_ratio "ratio" = true)
    (k_ratio : PySem.W.keepIn K (.ref f_ratio) = true)
    (a_remainder_back : PySem.W.nsIn K mainGlobals "remainder_back" = some (some (.ref f_remainder_back)))
    (l_remainder_back : K.lookup f_remainder_back = some ⟨oc_remainder_back, od_remainder_back, .func (PySem.W.fnOf "remainder_back" "remainder_back" (defArgs s_remainder_back) (defBody s_remainder_back) (defScope s_remainder_back) .none kV_remainder_back dc_remainder_back pm_remainder_back an_remainder_back cd_remainder_back ct_remainder_back), sl_remainder_back⟩)
    (c_remainder_back : PySem.W.codeIn K cd_remainder_back "remainder_back" = true)
    (k_remainder_back : PySem.W.keepIn K (.ref f_remainder_back) = true)
    (a_remainder_over : PySem.W.nsIn K mainGlobals "remainder_over" = some (some (.ref f_remainder_over)))
    (l_remainder_over : K.lookup f_remainder_over = some ⟨oc_remainder_over, od_remainder_over, .func (PySem.W.fnOf "remainder_over" "remainder_over" (defArgs s_remainder_over) (defBody s_remainder_over) (defScope s_remainder_over) .none kV_remainder_over dc_remainder_over pm_remainder_over an_remainder_over cd_remainder_over ct_remainder_over), sl_remainder_over⟩)
    (c_remainder_over : PySem.W.codeIn K cd_remainder_over "remainder_over" = true)
    (k_remainder_over : PySem.W.keepIn K (.ref f_remainder_over) = true)
    (a_is_fractions : PySem.W.nsIn K mainGlobals "is_fractions" = some (some (.ref f_is_fractions)))
    (l_is_fractions : K.lookup f_is_fractions = some ⟨oc_is_fractions, od_is_fractions, .func (PySem.W.fnOf "is_fractions" "is_fractions" (defArgs s_is_fractions) (defBody s_is_fractions) (defScope s_is_fractions) .none kV_is_fractions dc_is_fractions pm_is_fractions an_is_fractions cd_is_fractions ct_is_fractions), sl_is_fractions⟩)
    (c_is_fractions : PySem.W.codeIn K cd_is_fractions "is_fractions" = true)
    (k_is_fractions : PySem.W.keepIn K (.ref f_is_fractions) = true)
    (a_is_wheel : PySem.W.nsIn K mainGlobals "is_wheel" = some (some (.ref f_is_wheel)))
    (l_is_wheel : K.lookup f_is_wheel = some ⟨oc_is_wheel, od_is_wheel, .func (PySem.W.fnOf "is_wheel" "is_wheel" (defArgs s_is_wheel) (defBody s_is_wheel) (defScope s_is_wheel) .none kV_is_wheel dc_is_wheel pm_is_wheel an_is_wheel cd_is_wheel ct_is_wheel), sl_is_wheel⟩)
    (c_is_wheel : PySem.W.codeIn K cd_is_wheel "is_wheel" = true)
    (k_is_wheel : PySem.W.keepIn K (.ref f_is_wheel) = true)
    (a_padded : PySem.W.nsIn K mainGlobals "padded" = some (some (.ref f_padded)))
    (l_padded : K.lookup f_padded = some ⟨oc_padded, od_padded, .func (PySem.W.fnOf "padded" "padded" (defArgs s_padded) (defBody s_padded) (defScope s_padded) .none kV_padded dc_padded pm_padded an_padded cd_padded ct_padded), sl_padded⟩)
    (c_padded : PySem.W.codeIn K cd_padded "padded" = true)
    (k_padded : PySem.W.keepIn K (.ref f_padded) = true)
    (a_numbers_of : PySem.W.nsIn K mainGlobals "numbers_of" = some (some (.ref f_numbers_of)))
    (l_numbers_of : K.lookup f_numbers_of = some ⟨oc_numbers_of, od_numbers_of, .func (PySem.W.fnOf "numbers_of" "numbers_of" (defArgs s_numbers_of) (defBody s_numbers_of) (defScope s_numbers_of) .none kV_numbers_of dc_numbers_of pm_numbers_of an_numbers_of cd_numbers_of ct_numbers_of), sl_numbers_of⟩)
    (c_numbers_of : PySem.W.codeIn K cd_numbers_of "numbers_of" = true)
    (k_numbers_of : PySem.W.keepIn K (.ref f_numbers_of) = true)
    (a_poly_times : PySem.W.nsIn K mainGlobals "poly_times" = some (some (.ref f_poly_times)))
    (l_poly_times : K.lookup f_poly_times = some ⟨oc_poly_times, od_poly_times, .func (PySem.W.fnOf "poly_times" "poly_times" (defArgs s_poly_times) (defBody s_poly_times) (defScope s_poly_times) .none kV_poly_times dc_poly_times pm_poly_times an_poly_times cd_poly_times ct_poly_times), sl_poly_times⟩)
    (c_poly_times : PySem.W.codeIn K cd_poly_times "poly_times" = true)
    (k_poly_times : PySem.W.keepIn K (.ref f_poly_times) = true)
    (a_parted : PySem.W.nsIn K mainGlobals "parted" = some (some (.ref f_parted)))
    (l_parted : K.lookup f_parted = some ⟨oc_parted, od_parted, .func (PySem.W.fnOf "parted" "parted" (defArgs s_parted) (defBody s_parted) (defScope s_parted) .none kV_parted dc_parted pm_parted an_parted cd_parted ct_parted), sl_parted⟩)
    (c_parted : PySem.W.codeIn K cd_parted "parted" = true)
    (k_parted : PySem.W.keepIn K (.ref f_parted) = true)
    (a_common : PySem.W.nsIn K mainGlobals "common" = some (some (.ref f_common)))
    (l_common : K.lookup f_common = some ⟨oc_common, od_common, .func (PySem.W.fnOf "common" "common" (defArgs s_common) (defBody s_common) (defScope s_common) .none kV_common dc_common pm_common an_common cd_common ct_common), sl_common⟩)
    (c_common : PySem.W.codeIn K cd_common "common" = true)
    (k_common : PySem.W.keepIn K (.ref f_common) = true)
    (a_check_aim : PySem.W.nsIn K mainGlobals "check_aim" = some (some (.ref f_check_aim)))
    (l_check_aim : K.lookup f_check_aim = some ⟨oc_check_aim, od_check_aim, .func (PySem.W.fnOf "check_aim" "check_aim" (defArgs s_check_aim) (defBody s_check_aim) (defScope s_check_aim) .none kV_check_aim dc_check_aim pm_check_aim an_check_aim cd_check_aim ct_check_aim), sl_check_aim⟩)
    (c_check_aim : PySem.W.codeIn K cd_check_aim "check_aim" = true)
    (k_check_aim : PySem.W.keepIn K (.ref f_check_aim) = true)
    (a_shifted_size : PySem.W.nsIn K mainGlobals "shifted_size" = some (some (.ref f_shifted_size)))
    (l_shifted_size : K.lookup f_shifted_size = some ⟨oc_shifted_size, od_shifted_size, .func (PySem.W.fnOf "shifted_size" "shifted_size" (defArgs s_shifted_size) (defBody s_shifted_size) (defScope s_shifted_size) .none kV_shifted_size dc_shifted_size pm_shifted_size an_shifted_size cd_shifted_size ct_shifted_size), sl_shifted_size⟩)
    (c_shifted_size : PySem.W.codeIn K cd_shifted_size "shifted_size" = true)
    (k_shifted_size : PySem.W.keepIn K (.ref f_shifted_size) = true)
    (a_shifted_row : PySem.W.nsIn K mainGlobals "shifted_row" = some (some (.ref f_shifted_row)))
    (l_shifted_row : K.lookup f_shifted_row = some ⟨oc_shifted_row, od_shifted_row, .func (PySem.W.fnOf "shifted_row" "shifted_row" (defArgs s_shifted_row) (defBody s_shifted_row) (defScope s_shifted_row) .none kV_shifted_row dc_shifted_row pm_shifted_row an_shifted_row cd_shifted_row ct_shifted_row), sl_shifted_row⟩)
    (c_shifted_row : PySem.W.codeIn K cd_shifted_row "shifted_row" = true)
    (k_shifted_row : PySem.W.keepIn K (.ref f_shifted_row) = true)
    (a_shifted_table : PySem.W.nsIn K mainGlobals "shifted_table" = some (some (.ref f_shifted_table)))
    (l_shifted_table : K.lookup f_shifted_table = some ⟨oc_shifted_table, od_shifted_table, .func (PySem.W.fnOf "shifted_table" "shifted_table" (defArgs s_shifted_table) (defBody s_shifted_table) (defScope s_shifted_table) .none kV_shifted_table dc_shifted_table pm_shifted_table an_shifted_table cd_shifted_table ct_shifted_table), sl_shifted_table⟩)
    (c_shifted_table : PySem.W.codeIn K cd_shifted_table "shifted_table" = true)
    (k_shifted_table : PySem.W.keepIn K (.ref f_shifted_table) = true)
    (a_next_pair : PySem.W.nsIn K mainGlobals "next_pair" = some (some (.ref f_next_pair)))
    (l_next_pair : K.lookup f_next_pair = some ⟨oc_next_pair, od_next_pair, .func (PySem.W.fnOf "next_pair" "next_pair" (defArgs s_next_pair) (defBody s_next_pair) (defScope s_next_pair) .none kV_next_pair dc_next_pair pm_next_pair an_next_pair cd_next_pair ct_next_pair), sl_next_pair⟩)
    (c_next_pair : PySem.W.codeIn K cd_next_pair "next_pair" = true)
    (k_next_pair : PySem.W.keepIn K (.ref f_next_pair) = true)
    (a_whole_pairs : PySem.W.nsIn K mainGlobals "whole_pairs" = some (some (.ref f_whole_pairs)))
    (l_whole_pairs : K.lookup f_whole_pairs = some ⟨oc_whole_pairs, od_whole_pairs, .func (PySem.W.fnOf "whole_pairs" "whole_pairs" (defArgs s_whole_pairs) (defBody s_whole_pairs) (defScope s_whole_pairs) .none kV_whole_pairs dc_whole_pairs pm_whole_pairs an_whole_pairs cd_whole_pairs ct_whole_pairs), sl_whole_pairs⟩)
    (c_whole_pairs : PySem.W.codeIn K cd_whole_pairs "whole_pairs" = true)
    (k_whole_pairs : PySem.W.keepIn K (.ref f_whole_pairs) = true)
    (a_told_pair : PySem.W.nsIn K mainGlobals "told_pair" = some (some (.ref f_told_pair)))
    (l_told_pair : K.lookup f_told_pair = some ⟨oc_told_pair, od_told_pair, .func (PySem.W.fnOf "told_pair" "told_pair" (defArgs s_told_pair) (defBody s_told_pair) (defScope s_told_pair) .none kV_told_pair dc_told_pair pm_told_pair an_told_pair cd_told_pair ct_told_pair), sl_told_pair⟩)
    (c_told_pair : PySem.W.codeIn K cd_told_pair "told_pair" = true)
    (k_told_pair : PySem.W.keepIn K (.ref f_told_pair) = true)
    (a_growth : PySem.W.nsIn K mainGlobals "growth" = some (some (.ref f_growth)))
    (l_growth : K.lookup f_growth = some ⟨oc_growth, od_growth, .func (PySem.W.fnOf "growth" "growth" (defArgs s_growth) (defBody s_growth) (defScope s_growth) .none kV_growth dc_growth pm_growth an_growth cd_growth ct_growth), sl_growth⟩)
    (c_growth : PySem.W.codeIn K cd_growth "growth" = true)
    (k_growth : PySem.W.keepIn K (.ref f_growth) = true)
    (a_grown : PySem.W.nsIn K mainGlobals "grown" = some (some (.ref f_grown)))
    (l_grown : K.lookup f_grown = some ⟨oc_grown, od_grown, .func (PySem.W.fnOf "grown" "grown" (defArgs s_grown) (defBody s_grown) (defScope s_grown) .none kV_grown dc_grown pm_grown an_grown cd_grown ct_grown), sl_grown⟩)
    (c_grown : PySem.W.codeIn K cd_grown "grown" = true)
    (k_grown : PySem.W.keepIn K (.ref f_grown) = true)
    (a_whole_answer : PySem.W.nsIn K mainGlobals "whole_answer" = some (some (.ref f_whole_answer)))
    (l_whole_answer : K.lookup f_whole_answer = some ⟨oc_whole_answer, od_whole_answer, .func (PySem.W.fnOf "whole_answer" "whole_answer" (defArgs s_whole_answer) (defBody s_whole_answer) (defScope s_whole_answer) .none kV_whole_answer dc_whole_answer pm_whole_answer an_whole_answer cd_whole_answer ct_whole_answer), sl_whole_answer⟩)
    (c_whole_answer : PySem.W.codeIn K cd_whole_answer "whole_answer" = true)
    (k_whole_answer : PySem.W.keepIn K (.ref f_whole_answer) = true)
    (a_shifted_undone : PySem.W.nsIn K mainGlobals "shifted_undone" = some (some (.ref f_shifted_undone)))
    (l_shifted_undone : K.lookup f_shifted_undone = some ⟨oc_shifted_undone, od_shifted_undone, .func (PySem.W.fnOf "shifted_undone" "shifted_undone" (defArgs s_shifted_undone) (defBody s_shifted_undone) (defScope s_shifted_undone) .none kV_shifted_undone dc_shifted_undone pm_shifted_undone an_shifted_undone cd_shifted_undone ct_shifted_undone), sl_shifted_undone⟩)
    (c_shifted_undone : PySem.W.codeIn K cd_shifted_undone "shifted_undone" = true)
    (k_shifted_undone : PySem.W.keepIn K (.ref f_shifted_undone) = true)
    (a_turned_size : PySem.W.nsIn K mainGlobals "turned_size" = some (some (.ref f_turned_size)))
    (l_turned_size : K.lookup f_turned_size = some ⟨oc_turned_size, od_turned_size, .func (PySem.W.fnOf "turned_size" "turned_size" (defArgs s_turned_size) (defBody s_turned_size) (defScope s_turned_size) .none kV_turned_size dc_turned_size pm_turned_size an_turned_size cd_turned_size ct_turned_size), sl_turned_size⟩)
    (c_turned_size : PySem.W.codeIn K cd_turned_size "turned_size" = true)
    (k_turned_size : PySem.W.keepIn K (.ref f_turned_size) = true)
    (a_turned_row : PySem.W.nsIn K mainGlobals "turned_row" = some (some (.ref f_turned_row)))
    (l_turned_row : K.lookup f_turned_row = some ⟨oc_turned_row, od_turned_row, .func (PySem.W.fnOf "turned_row" "turned_row" (defArgs s_turned_row) (defBody s_turned_row) (defScope s_turned_row) .none kV_turned_row dc_turned_row pm_turned_row an_turned_row cd_turned_row ct_turned_row), sl_turned_row⟩)
    (c_turned_row : PySem.W.codeIn K cd_turned_row "turned_row" = true)
    (k_turned_row : PySem.W.keepIn K (.ref f_turned_row) = true)
    (a_turned_table : PySem.W.nsIn K mainGlobals "turned_table" = some (some (.ref f_turned_table)))
    (l_turned_table : K.lookup f_turned_table = some ⟨oc_turned_table, od_turned_table, .func (PySem.W.fnOf "turned_table" "turned_table" (defArgs s_turned_table) (defBody s_turned_table) (defScope s_turned_table) .none kV_turned_table dc_turned_table pm_turned_table an_turned_table cd_turned_table ct_turned_table), sl_turned_table⟩)
    (c_turned_table : PySem.W.codeIn K cd_turned_table "turned_table" = true)
    (k_turned_table : PySem.W.keepIn K (.ref f_turned_table) = true)
    (a_whole_turn : PySem.W.nsIn K mainGlobals "whole_turn" = some (some (.ref f_whole_turn)))
    (l_whole_turn : K.lookup f_whole_turn = some ⟨oc_whole_turn, od_whole_turn, .func (PySem.W.fnOf "whole_turn" "whole_turn" (defArgs s_whole_turn) (defBody s_whole_turn) (defScope s_whole_turn) .none kV_whole_turn dc_whole_turn pm_whole_turn an_whole_turn cd_whole_turn ct_whole_turn), sl_whole_turn⟩)
    (c_whole_turn : PySem.W.codeIn K cd_whole_turn "whole_turn" = true)
    (k_whole_turn : PySem.W.keepIn K (.ref f_whole_turn) = true)
    (a_turned_undone : PySem.W.nsIn K mainGlobals "turned_undone" = some (some (.ref f_turned_undone)))
    (l_turned_undone : K.lookup f_turned_undone = some ⟨oc_turned_undone, od_turned_undone, .func (PySem.W.fnOf "turned_undone" "turned_undone" (defArgs s_turned_undone) (defBody s_turned_undone) (defScope s_turned_undone) .none kV_turned_undone dc_turned_undone pm_turned_undone an_turned_undone cd_turned_undone ct_turned_undone), sl_turned_undone⟩)
    (c_turned_undone : PySem.W.codeIn K cd_turned_undone "turned_undone" = true)
    (k_turned_undone : PySem.W.keepIn K (.ref f_turned_undone) = true)
    (a_turned_back : PySem.W.nsIn K mainGlobals "turned_back" = some (some (.ref f_turned_back)))
    (l_turned_back : K.lookup f_turned_back = some ⟨oc_turned_back, od_turned_back, .func (PySem.W.fnOf "turned_back" "turned_back" (defArgs s_turned_back) (defBody s_turned_back) (defScope s_turned_back) .none kV_turned_back dc_turned_back pm_turned_back an_turned_back cd_turned_back ct_turned_back), sl_turned_back⟩)
    (c_turned_back : PySem.W.codeIn K cd_turned_back "turned_back" = true)
    (k_turned_back : PySem.W.keepIn K (.ref f_turned_back) = true)
    (a_law_e_fill : PySem.W.nsIn K mainGlobals "_law_e_fill" = some (some (.ref f_law_e_fill)))
    (l_law_e_fill : K.lookup f_law_e_fill = some ⟨oc_law_e_fill, od_law_e_fill, .func (PySem.W.fnOf "_law_e_fill" "_law_e_fill" (defArgs s_law_e_fill) (defBody s_law_e_fill) (defScope s_law_e_fill) .none kV_law_e_fill dc_law_e_fill pm_law_e_fill an_law_e_fill cd_law_e_fill ct_law_e_fill), sl_law_e_fill⟩)
    (c_law_e_fill : PySem.W.codeIn K cd_law_e_fill "_law_e_fill" = true)
    (k_law_e_fill : PySem.W.keepIn K (.ref f_law_e_fill) = true)
    (a_law_e_next : PySem.W.nsIn K mainGlobals "_law_e_next" = some (some (.ref f_law_e_next)))
    (l_law_e_next : K.lookup f_law_e_next = some ⟨oc_law_e_next, od_law_e_next, .func (PySem.W.fnOf "_law_e_next" "_law_e_next" (defArgs s_law_e_next) (defBody s_law_e_next) (defScope s_law_e_next) .none kV_law_e_next dc_law_e_next pm_law_e_next an_law_e_next cd_law_e_next ct_law_e_next), sl_law_e_next⟩)
    (c_law_e_next : PySem.W.codeIn K cd_law_e_next "_law_e_next" = true)
    (k_law_e_next : PySem.W.keepIn K (.ref f_law_e_next) = true)
    (a_law_e_low : PySem.W.nsIn K mainGlobals "_law_e_low" = some (some (.ref f_law_e_low)))
    (l_law_e_low : K.lookup f_law_e_low = some ⟨oc_law_e_low, od_law_e_low, .func (PySem.W.fnOf "_law_e_low" "_law_e_low" (defArgs s_law_e_low) (defBody s_law_e_low) (defScope s_law_e_low) .none kV_law_e_low dc_law_e_low pm_law_e_low an_law_e_low cd_law_e_low ct_law_e_low), sl_law_e_low⟩)
    (c_law_e_low : PySem.W.codeIn K cd_law_e_low "_law_e_low" = true)
    (k_law_e_low : PySem.W.keepIn K (.ref f_law_e_low) = true)
    (a_law_e_of : PySem.W.nsIn K mainGlobals "_law_e_of" = some (some (.ref f_law_e_of)))
    (l_law_e_of : K.lookup f_law_e_of = some ⟨oc_law_e_of, od_law_e_of, .func (PySem.W.fnOf "_law_e_of" "_law_e_of" (defArgs s_law_e_of) (defBody s_law_e_of) (defScope s_law_e_of) .none kV_law_e_of dc_law_e_of pm_law_e_of an_law_e_of cd_law_e_of ct_law_e_of), sl_law_e_of⟩)
    (c_law_e_of : PySem.W.codeIn K cd_law_e_of "_law_e_of" = true)
    (k_law_e_of : PySem.W.keepIn K (.ref f_law_e_of) = true)
    (a_law_e_plus : PySem.W.nsIn K mainGlobals "_law_e_plus" = some (some (.ref f_law_e_plus)))
    (l_law_e_plus : K.lookup f_law_e_plus = some ⟨oc_law_e_plus, od_law_e_plus, .func (PySem.W.fnOf "_law_e_plus" "_law_e_plus" (defArgs s_law_e_plus) (defBody s_law_e_plus) (defScope s_law_e_plus) .none kV_law_e_plus dc_law_e_plus pm_law_e_plus an_law_e_plus cd_law_e_plus ct_law_e_plus), sl_law_e_plus⟩)
    (c_law_e_plus : PySem.W.codeIn K cd_law_e_plus "_law_e_plus" = true)
    (k_law_e_plus : PySem.W.keepIn K (.ref f_law_e_plus) = true)
    (a_law_e_is_number : PySem.W.nsIn K mainGlobals "_law_e_is_number" = some (some (.ref f_law_e_is_number)))
    (l_law_e_is_number : K.lookup f_law_e_is_number = some ⟨oc_law_e_is_number, od_law_e_is_number, .func (PySem.W.fnOf "_law_e_is_number" "_law_e_is_number" (defArgs s_law_e_is_number) (defBody s_law_e_is_number) (defScope s_law_e_is_number) .none kV_law_e_is_number dc_law_e_is_number pm_law_e_is_number an_law_e_is_number cd_law_e_is_number ct_law_e_is_number), sl_law_e_is_number⟩)
    (c_law_e_is_number : PySem.W.codeIn K cd_law_e_is_number "_law_e_is_number" = true)
    (k_law_e_is_number : PySem.W.keepIn K (.ref f_law_e_is_number) = true)
    (a_law_e_is_row : PySem.W.nsIn K mainGlobals "_law_e_is_row" = some (some (.ref f_law_e_is_row)))
    (l_law_e_is_row : K.lookup f_law_e_is_row = some ⟨oc_law_e_is_row, od_law_e_is_row, .func (PySem.W.fnOf "_law_e_is_row" "_law_e_is_row" (defArgs s_law_e_is_row) (defBody s_law_e_is_row) (defScope s_law_e_is_row) .none kV_law_e_is_row dc_law_e_is_row pm_law_e_is_row an_law_e_is_row cd_law_e_is_row ct_law_e_is_row), sl_law_e_is_row⟩)
    (c_law_e_is_row : PySem.W.codeIn K cd_law_e_is_row "_law_e_is_row" = true)
    (k_law_e_is_row : PySem.W.keepIn K (.ref f_law_e_is_row) = true)
    (a_law_e_world : PySem.W.nsIn K mainGlobals "_law_e_world" = some (some (.ref f_law_e_world)))
    (l_law_e_world : K.lookup f_law_e_world = some ⟨oc_law_e_world, od_law_e_world, .func (PySem.W.fnOf "_law_e_world" "_law_e_world" (defArgs s_law_e_world) (defBody s_law_e_world) (defScope s_law_e_world) .none kV_law_e_world dc_law_e_world pm_law_e_world an_law_e_world cd_law_e_world ct_law_e_world), sl_law_e_world⟩)
    (c_law_e_world : PySem.W.codeIn K cd_law_e_world "_law_e_world" = true)
    (k_law_e_world : PySem.W.keepIn K (.ref f_law_e_world) = true)
    (a_law_e_number : PySem.W.nsIn K mainGlobals "_law_e_number" = some (some (.ref f_law_e_number)))
    (l_law_e_number : K.lookup f_law_e_number = some ⟨oc_law_e_number, od_law_e_number, .func (PySem.W.fnOf "_law_e_number" "_law_e_number" (defArgs s_law_e_number) (defBody s_law_e_number) (defScope s_law_e_number) .none kV_law_e_number dc_law_e_number pm_law_e_number an_law_e_number cd_law_e_number ct_law_e_number), sl_law_e_number⟩)
    (c_law_e_number : PySem.W.codeIn K cd_law_e_number "_law_e_number" = true)
    (k_law_e_number : PySem.W.keepIn K (.ref f_law_e_number) = true)
    (a_law_e_shifted_due : PySem.W.nsIn K mainGlobals "_law_e_shifted_due" = some (some (.ref f_law_e_shifted_due)))
    (l_law_e_shifted_due : K.lookup f_law_e_shifted_due = some ⟨oc_law_e_shifted_due, od_law_e_shifted_due, .func (PySem.W.fnOf "_law_e_shifted_due" "_law_e_shifted_due" (defArgs s_law_e_shifted_due) (defBody s_law_e_shifted_due) (defScope s_law_e_shifted_due) .none kV_law_e_shifted_due dc_law_e_shifted_due pm_law_e_shifted_due an_law_e_shifted_due cd_law_e_shifted_due ct_law_e_shifted_due), sl_law_e_shifted_due⟩)
    (c_law_e_shifted_due : PySem.W.codeIn K cd_law_e_shifted_due "_law_e_shifted_due" = true)
    (k_law_e_shifted_due : PySem.W.keepIn K (.ref f_law_e_shifted_due) = true)
    (a_law_e_turned_due : PySem.W.nsIn K mainGlobals "_law_e_turned_due" = some (some (.ref f_law_e_turned_due)))
    (l_law_e_turned_due : K.lookup f_law_e_turned_due = some ⟨oc_law_e_turned_due, od_law_e_turned_due, .func (PySem.W.fnOf "_law_e_turned_due" "_law_e_turned_due" (defArgs s_law_e_turned_due) (defBody s_law_e_turned_due) (defScope s_law_e_turned_due) .none kV_law_e_turned_due dc_law_e_turned_due pm_law_e_turned_due an_law_e_turned_due cd_law_e_turned_due ct_law_e_turned_due), sl_law_e_turned_due⟩)
    (c_law_e_turned_due : PySem.W.codeIn K cd_law_e_turned_due "_law_e_turned_due" = true)
    (k_law_e_turned_due : PySem.W.keepIn K (.ref f_law_e_turned_due) = true)
    (a_law_e_table_right : PySem.W.nsIn K mainGlobals "_law_e_table_right" = some (some (.ref f_law_e_table_right)))
    (l_law_e_table_right : K.lookup f_law_e_table_right = some ⟨oc_law_e_table_right, od_law_e_table_right, .func (PySem.W.fnOf "_law_e_table_right" "_law_e_table_right" (defArgs s_law_e_table_right) (defBody s_law_e_table_right) (defScope s_law_e_table_right) .none kV_law_e_table_right dc_law_e_table_right pm_law_e_table_right an_law_e_table_right cd_law_e_table_right ct_law_e_table_right), sl_law_e_table_right⟩)
    (c_law_e_table_right : PySem.W.codeIn K cd_law_e_table_right "_law_e_table_right" = true)
    (k_law_e_table_right : PySem.W.keepIn K (.ref f_law_e_table_right) = true)
    (a_law_e_tables_right : PySem.W.nsIn K mainGlobals "_law_e_tables_right" = some (some (.ref f_law_e_tables_right)))
    (l_law_e_tables_right : K.lookup f_law_e_tables_right = some ⟨oc_law_e_tables_right, od_law_e_tables_right, .func (PySem.W.fnOf "_law_e_tables_right" "_law_e_tables_right" (defArgs s_law_e_tables_right) (defBody s_law_e_tables_right) (defScope s_law_e_tables_right) .none kV_law_e_tables_right dc_law_e_tables_right pm_law_e_tables_right an_law_e_tables_right cd_law_e_tables_right ct_law_e_tables_right), sl_law_e_tables_right⟩)
    (c_law_e_tables_right : PySem.W.codeIn K cd_law_e_tables_right "_law_e_tables_right" = true)
    (k_law_e_tables_right : PySem.W.keepIn K (.ref f_law_e_tables_right) = true)
    (a_law_e_asked : PySem.W.nsIn K mainGlobals "_law_e_asked" = some (some (.ref f_law_e_asked)))
    (l_law_e_asked : K.lookup f_law_e_asked = some ⟨oc_law_e_asked, od_law_e_asked, .func (PySem.W.fnOf "_law_e_asked" "_law_e_asked" (defArgs s_law_e_asked) (defBody s_law_e_asked) (defScope s_law_e_asked) .none kV_law_e_asked dc_law_e_asked pm_law_e_asked an_law_e_asked cd_law_e_asked ct_law_e_asked), sl_law_e_asked⟩)
    (c_law_e_asked : PySem.W.codeIn K cd_law_e_asked "_law_e_asked" = true)
    (k_law_e_asked : PySem.W.keepIn K (.ref f_law_e_asked) = true)
    (a_law_e_refused : PySem.W.nsIn K mainGlobals "_law_e_refused" = some (some (.ref f_law_e_refused)))
    (l_law_e_refused : K.lookup f_law_e_refused = some ⟨oc_law_e_refused, od_law_e_refused, .func (PySem.W.fnOf "_law_e_refused" "_law_e_refused" (defArgs s_law_e_refused) (defBody s_law_e_refused) (defScope s_law_e_refused) .none kV_law_e_refused dc_law_e_refused pm_law_e_refused an_law_e_refused cd_law_e_refused ct_law_e_refused), sl_law_e_refused⟩)
    (c_law_e_refused : PySem.W.codeIn K cd_law_e_refused "_law_e_refused" = true)
    (k_law_e_refused : PySem.W.keepIn K (.ref f_law_e_refused) = true)
    (a_law_e_all_refused : PySem.W.nsIn K mainGlobals "_law_e_all_refused" = some (some (.ref f_law_e_all_refused)))
    (l_law_e_all_refused : K.lookup f_law_e_all_refused = some ⟨oc_law_e_all_refused, od_law_e_all_refused, .func (PySem.W.fnOf "_law_e_all_refused" "_law_e_all_refused" (defArgs s_law_e_all_refused) (defBody s_law_e_all_refused) (defScope s_law_e_all_refused) .none kV_law_e_all_refused dc_law_e_all_refused pm_law_e_all_refused an_law_e_all_refused cd_law_e_all_refused ct_law_e_all_refused), sl_law_e_all_refused⟩)
    (c_law_e_all_refused : PySem.W.codeIn K cd_law_e_all_refused "_law_e_all_refused" = true)
    (k_law_e_all_refused : PySem.W.keepIn K (.ref f_law_e_all_refused) = true)
    (a_law : PySem.W.nsIn K mainGlobals "law" = some (some (.ref f_law)))
    (l_law : K.lookup f_law = some ⟨oc_law, od_law, .func (PySem.W.fnOf "law" "law" (defArgs s_law) (defBody s_law) (defScope s_law) .none kV_law dc_law pm_law an_law cd_law ct_law), sl_law⟩)
    (c_law : PySem.W.codeIn K cd_law "law" = true)
    (k_law : PySem.W.keepIn K (.ref f_law) = true)
    (a_World___init__ : PySem.W.findIn K (.ref C_World) "__init__" = some (some (.ref f_World___init__)))
    (i_World___init__ : PySem.W.isFn K (.ref f_World___init__) = true)
    (l_World___init__ : K.lookup f_World___init__ = some ⟨oc_World___init__, od_World___init__, .func (PySem.W.fnOf "__init__" "World.__init__" (defArgs s_World___init__) (defBody s_World___init__) (defScope s_World___init__) .none kV_World___init__ dc_World___init__ pm_World___init__ an_World___init__ cd_World___init__ ct_World___init__), sl_World___init__⟩)
    (c_World___init__ : PySem.W.codeIn K cd_World___init__ "World.__init__" = true)
    (k_World___init__ : PySem.W.keepIn K (.ref f_World___init__) = true)
    (a_World_of : PySem.W.findIn K (.ref C_World) "of" = some (some (.ref f_World_of)))
    (i_World_of : PySem.W.isFn K (.ref f_World_of) = true)
    (l_World_of : K.lookup f_World_of = some ⟨oc_World_of, od_World_of, .func (PySem.W.fnOf "of" "World.of" (defArgs s_World_of) (defBody s_World_of) (defScope s_World_of) (.ref dT_World_of) kV_World_of dc_World_of pm_World_of an_World_of cd_World_of ct_World_of), sl_World_of⟩)
    (c_World_of : PySem.W.codeIn K cd_World_of "World.of" = true)
    (k_World_of : PySem.W.keepIn K (.ref f_World_of) = true)
    (ld_World_of : K.lookup dT_World_of = some ⟨oc2_World_of, od2_World_of, .seq #[.int 1 tk_World_of] n2_World_of, sl2_World_of⟩)
    (a_World_as_wholes : PySem.W.findIn K (.ref C_World) "as_wholes" = some (some (.ref f_World_as_wholes)))
    (i_World_as_wholes : PySem.W.isFn K (.ref f_World_as_wholes) = true)
    (l_World_as_wholes : K.lookup f_World_as_wholes = some ⟨oc_World_as_wholes, od_World_as_wholes, .func (PySem.W.fnOf "as_wholes" "World.as_wholes" (defArgs s_World_as_wholes) (defBody s_World_as_wholes) (defScope s_World_as_wholes) .none kV_World_as_wholes dc_World_as_wholes pm_World_as_wholes an_World_as_wholes cd_World_as_wholes ct_World_as_wholes), sl_World_as_wholes⟩)
    (c_World_as_wholes : PySem.W.codeIn K cd_World_as_wholes "World.as_wholes" = true)
    (k_World_as_wholes : PySem.W.keepIn K (.ref f_World_as_wholes) = true)
    (pg_World : PySem.W.plainGet K C_World Str.empty = true)
    (hd_World : PySem.W.hasDictIn K C_World = true)
    (po_World : PySem.W.plainOver K C_World = true)
    (sa_World : PySem.W.findIn K (.ref C_World) "__setattr__" = some (some (.builtin "object.__setattr__")))
    (mk_World : PySem.W.makesIn K C_World = true)
    (kc_World : PySem.W.keepIn K (.ref C_World) = true)
    (n_World_prime : PySem.W.findIn K (.ref C_World) "prime" = some none)
    (z_len : PySem.W.nsIn K mainGlobals "len" = some none)
    (z_isinstance : PySem.W.nsIn K mainGlobals "isinstance" = some none)
    (z_int : PySem.W.nsIn K mainGlobals "int" = some none)
    (z_bool : PySem.W.nsIn K mainGlobals "bool" = some none)
    (z_tuple : PySem.W.nsIn K mainGlobals "tuple" = some none)
    (z_list : PySem.W.nsIn K mainGlobals "list" = some none)
    (z_range : PySem.W.nsIn K mainGlobals "range" = some none)
    (z_abs : PySem.W.nsIn K mainGlobals "abs" = some none)
    (z_all : PySem.W.nsIn K mainGlobals "all" = some none)
    (z_enumerate : PySem.W.nsIn K mainGlobals "enumerate" = some none)
    (z_ValueError : PySem.W.nsIn K mainGlobals "ValueError" = some none)
    (a_GREATEST_PRIME : PySem.W.nsIn K mainGlobals "GREATEST_PRIME" = some (some (.int 997 tk_GREATEST_PRIME)))
    (a_LONG : PySem.W.nsIn K mainGlobals "LONG" = some (some (.int 2048 tk_LONG)))
    (a_MOST : PySem.W.nsIn K mainGlobals "MOST" = some (some (.int 40 tk_MOST)))
    (e_x_NoWorld : PySem.W.excIn K C_NoWorld [.type "ValueError", .type "Exception", .type "BaseException", .type "object"] "ValueError.__new__" = true)
    (e_x_NoOver : PySem.W.excIn K C_NoOver [.type "ValueError", .type "Exception", .type "BaseException", .type "object"] "ValueError.__new__" = true)
    (e_x_NoFit : PySem.W.excIn K C_NoFit [.type "ValueError", .type "Exception", .type "BaseException", .type "object"] "ValueError.__new__" = true)
    (e_x_WrightError : PySem.W.excIn K C_WrightError [.type "ValueError", .type "Exception", .type "BaseException", .type "object"] "ValueError.__new__" = true)
    (e_m_NF_NF : PySem.W.mroIn K C_NoFit (.ref C_NoFit) = some true)
    (e_m_NF_WE : PySem.W.mroIn K C_NoFit (.ref C_WrightError) = some true)
    (e_k_VE : PySem.W.kitOne K (.ref C_NoFit) (.type "ValueError") = some true)
    (e_k_NF : PySem.W.kitOne K (.ref C_NoFit) (.ref C_NoFit) = some true)
    (e_k_NoWorld : PySem.W.kitOne K (.ref C_NoFit) (.ref C_NoWorld) = some false)
    (e_k_NoOver : PySem.W.kitOne K (.ref C_NoFit) (.ref C_NoOver) = some false)
    (e_k_NoOrder : PySem.W.kitOne K (.ref C_NoFit) (.ref C_NoOrder) = some false)
    (e_cx1 : PySem.W.hasDictIn K C_NoFit = true)
    (e_cx2 : PySem.W.findIn K (.ref C_NoFit) "__getattribute__" = some (some (.builtin "BaseException.__getattribute__")))
    (e_cx3 : PySem.W.findIn K (.ref C_NoFit) "__getattr__" = some none)
    (e_cx4 : PySem.W.findIn K (.ref C_NoFit) "__class__" = some (some (.builtin "object.__class__")))
    (e_cx5 : PySem.W.mroIn K C_NoFit (.type "object") = some true)
    (e_cx6 : PySem.W.mroIn K C_NoFit (.type "BaseException") = some true)
    : ∃ t : Adr, Txt K mg t := by
  refine ⟨⟨f_is_whole, PySem.W.fnOf "is_whole" "is_whole" (defArgs s_is_whole) (defBody s_is_whole) (defScope s_is_whole) .none kV_is_whole dc_is_whole pm_is_whole an_is_whole cd_is_whole ct_is_whole, f_common_divisor, PySem.W.fnOf "common_divisor" "common_divisor" (defArgs s_common_divisor) (defBody s_common_divisor) (defScope s_common_divisor) .none kV_common_divisor dc_common_divisor pm_common_divisor an_common_divisor cd_common_divisor ct_common_divisor, f_is_prime, PySem.W.fnOf "is_prime" "is_prime" (defArgs s_is_prime) (defBody s_is_prime) (defScope s_is_prime) .none kV_is_prime dc_is_prime pm_is_prime an_is_prime cd_is_prime ct_is_prime, f_ratio, PySem.W.fnOf "ratio" "ratio" (defArgs s_ratio) (defBody s_ratio) (defScope s_ratio) .none kV_ratio dc_ratio pm_ratio an_ratio cd_ratio ct_ratio, f_remainder_back, PySem.W.fnOf "remainder_back" "remainder_back" (defArgs s_remainder_back) (defBody s_remainder_back) (defScope s_remainder_back) .none kV_remainder_back dc_remainder_back pm_remainder_back an_remainder_back cd_remainder_back ct_remainder_back, f_remainder_over, PySem.W.fnOf "remainder_over" "remainder_over" (defArgs s_remainder_over) (defBody s_remainder_over) (defScope s_remainder_over) .none kV_remainder_over dc_remainder_over pm_remainder_over an_remainder_over cd_remainder_over ct_remainder_over, f_is_fractions, PySem.W.fnOf "is_fractions" "is_fractions" (defArgs s_is_fractions) (defBody s_is_fractions) (defScope s_is_fractions) .none kV_is_fractions dc_is_fractions pm_is_fractions an_is_fractions cd_is_fractions ct_is_fractions, f_is_wheel, PySem.W.fnOf "is_wheel" "is_wheel" (defArgs s_is_wheel) (defBody s_is_wheel) (defScope s_is_wheel) .none kV_is_wheel dc_is_wheel pm_is_wheel an_is_wheel cd_is_wheel ct_is_wheel, f_padded, PySem.W.fnOf "padded" "padded" (defArgs s_padded) (defBody s_padded) (defScope s_padded) .none kV_padded dc_padded pm_padded an_padded cd_padded ct_padded, f_numbers_of, PySem.W.fnOf "numbers_of" "numbers_of" (defArgs s_numbers_of) (defBody s_numbers_of) (defScope s_numbers_of) .none kV_numbers_of dc_numbers_of pm_numbers_of an_numbers_of cd_numbers_of ct_numbers_of, f_poly_times, PySem.W.fnOf "poly_times" "poly_times" (defArgs s_poly_times) (defBody s_poly_times) (defScope s_poly_times) .none kV_poly_times dc_poly_times pm_poly_times an_poly_times cd_poly_times ct_poly_times, f_parted, PySem.W.fnOf "parted" "parted" (defArgs s_parted) (defBody s_parted) (defScope s_parted) .none kV_parted dc_parted pm_parted an_parted cd_parted ct_parted, f_common, PySem.W.fnOf "common" "common" (defArgs s_common) (defBody s_common) (defScope s_common) .none kV_common dc_common pm_common an_common cd_common ct_common, f_check_aim, PySem.W.fnOf "check_aim" "check_aim" (defArgs s_check_aim) (defBody s_check_aim) (defScope s_check_aim) .none kV_check_aim dc_check_aim pm_check_aim an_check_aim cd_check_aim ct_check_aim, f_shifted_size, PySem.W.fnOf "shifted_size" "shifted_size" (defArgs s_shifted_size) (defBody s_shifted_size) (defScope s_shifted_size) .none kV_shifted_size dc_shifted_size pm_shifted_size an_shifted_size cd_shifted_size ct_shifted_size, f_shifted_row, PySem.W.fnOf "shifted_row" "shifted_row" (defArgs s_shifted_row) (defBody s_shifted_row) (defScope s_shifted_row) .none kV_shifted_row dc_shifted_row pm_shifted_row an_shifted_row cd_shifted_row ct_shifted_row, f_shifted_table, PySem.W.fnOf "shifted_table" "shifted_table" (defArgs s_shifted_table) (defBody s_shifted_table) (defScope s_shifted_table) .none kV_shifted_table dc_shifted_table pm_shifted_table an_shifted_table cd_shifted_table ct_shifted_table, f_next_pair, PySem.W.fnOf "next_pair" "next_pair" (defArgs s_next_pair) (defBody s_next_pair) (defScope s_next_pair) .none kV_next_pair dc_next_pair pm_next_pair an_next_pair cd_next_pair ct_next_pair, f_whole_pairs, PySem.W.fnOf "whole_pairs" "whole_pairs" (defArgs s_whole_pairs) (defBody s_whole_pairs) (defScope s_whole_pairs) .none kV_whole_pairs dc_whole_pairs pm_whole_pairs an_whole_pairs cd_whole_pairs ct_whole_pairs, f_told_pair, PySem.W.fnOf "told_pair" "told_pair" (defArgs s_told_pair) (defBody s_told_pair) (defScope s_told_pair) .none kV_told_pair dc_told_pair pm_told_pair an_told_pair cd_told_pair ct_told_pair, f_growth, PySem.W.fnOf "growth" "growth" (defArgs s_growth) (defBody s_growth) (defScope s_growth) .none kV_growth dc_growth pm_growth an_growth cd_growth ct_growth, f_grown, PySem.W.fnOf "grown" "grown" (defArgs s_grown) (defBody s_grown) (defScope s_grown) .none kV_grown dc_grown pm_grown an_grown cd_grown ct_grown, f_whole_answer, PySem.W.fnOf "whole_answer" "whole_answer" (defArgs s_whole_answer) (defBody s_whole_answer) (defScope s_whole_answer) .none kV_whole_answer dc_whole_answer pm_whole_answer an_whole_answer cd_whole_answer ct_whole_answer, f_shifted_undone, PySem.W.fnOf "shifted_undone" "shifted_undone" (defArgs s_shifted_undone) (defBody s_shifted_undone) (defScope s_shifted_undone) .none kV_shifted_undone dc_shifted_undone pm_shifted_undone an_shifted_undone cd_shifted_undone ct_shifted_undone, f_turned_size, PySem.W.fnOf "turned_size" "turned_size" (defArgs s_turned_size) (defBody s_turned_size) (defScope s_turned_size) .none kV_turned_size dc_turned_size pm_turned_size an_turned_size cd_turned_size ct_turned_size, f_turned_row, PySem.W.fnOf "turned_row" "turned_row" (defArgs s_turned_row) (defBody s_turned_row) (defScope s_turned_row) .none kV_turned_row dc_turned_row pm_turned_row an_turned_row cd_turned_row ct_turned_row, f_turned_table, PySem.W.fnOf "turned_table" "turned_table" (defArgs s_turned_table) (defBody s_turned_table) (defScope s_turned_table) .none kV_turned_table dc_turned_table pm_turned_table an_turned_table cd_turned_table ct_turned_table, f_whole_turn, PySem.W.fnOf "whole_turn" "whole_turn" (defArgs s_whole_turn) (defBody s_whole_turn) (defScope s_whole_turn) .none kV_whole_turn dc_whole_turn pm_whole_turn an_whole_turn cd_whole_turn ct_whole_turn, f_turned_undone, PySem.W.fnOf "turned_undone" "turned_undone" (defArgs s_turned_undone) (defBody s_turned_undone) (defScope s_turned_undone) .none kV_turned_undone dc_turned_undone pm_turned_undone an_turned_undone cd_turned_undone ct_turned_undone, f_turned_back, PySem.W.fnOf "turned_back" "turned_back" (defArgs s_turned_back) (defBody s_turned_back) (defScope s_turned_back) .none kV_turned_back dc_turned_back pm_turned_back an_turned_back cd_turned_back ct_turned_back, f_law_e_fill, PySem.W.fnOf "_law_e_fill" "_law_e_fill" (defArgs s_law_e_fill) (defBody s_law_e_fill) (defScope s_law_e_fill) .none kV_law_e_fill dc_law_e_fill pm_law_e_fill an_law_e_fill cd_law_e_fill ct_law_e_fill, f_law_e_next, PySem.W.fnOf "_law_e_next" "_law_e_next" (defArgs s_law_e_next) (defBody s_law_e_next) (defScope s_law_e_next) .none kV_law_e_next dc_law_e_next pm_law_e_next an_law_e_next cd_law_e_next ct_law_e_next, f_law_e_low, PySem.W.fnOf "_law_e_low" "_law_e_low" (defArgs s_law_e_low) (defBody s_law_e_low) (defScope s_law_e_low) .none kV_law_e_low dc_law_e_low pm_law_e_low an_law_e_low cd_law_e_low ct_law_e_low, f_law_e_of, PySem.W.fnOf "_law_e_of" "_law_e_of" (defArgs s_law_e_of) (defBody s_law_e_of) (defScope s_law_e_of) .none kV_law_e_of dc_law_e_of pm_law_e_of an_law_e_of cd_law_e_of ct_law_e_of, f_law_e_plus, PySem.W.fnOf "_law_e_plus" "_law_e_plus" (defArgs s_law_e_plus) (defBody s_law_e_plus) (defScope s_law_e_plus) .none kV_law_e_plus dc_law_e_plus pm_law_e_plus an_law_e_plus cd_law_e_plus ct_law_e_plus, f_law_e_is_number, PySem.W.fnOf "_law_e_is_number" "_law_e_is_number" (defArgs s_law_e_is_number) (defBody s_law_e_is_number) (defScope s_law_e_is_number) .none kV_law_e_is_number dc_law_e_is_number pm_law_e_is_number an_law_e_is_number cd_law_e_is_number ct_law_e_is_number, f_law_e_is_row, PySem.W.fnOf "_law_e_is_row" "_law_e_is_row" (defArgs s_law_e_is_row) (defBody s_law_e_is_row) (defScope s_law_e_is_row) .none kV_law_e_is_row dc_law_e_is_row pm_law_e_is_row an_law_e_is_row cd_law_e_is_row ct_law_e_is_row, f_law_e_world, PySem.W.fnOf "_law_e_world" "_law_e_world" (defArgs s_law_e_world) (defBody s_law_e_world) (defScope s_law_e_world) .none kV_law_e_world dc_law_e_world pm_law_e_world an_law_e_world cd_law_e_world ct_law_e_world, f_law_e_number, PySem.W.fnOf "_law_e_number" "_law_e_number" (defArgs s_law_e_number) (defBody s_law_e_number) (defScope s_law_e_number) .none kV_law_e_number dc_law_e_number pm_law_e_number an_law_e_number cd_law_e_number ct_law_e_number, f_law_e_shifted_due, PySem.W.fnOf "_law_e_shifted_due" "_law_e_shifted_due" (defArgs s_law_e_shifted_due) (defBody s_law_e_shifted_due) (defScope s_law_e_shifted_due) .none kV_law_e_shifted_due dc_law_e_shifted_due pm_law_e_shifted_due an_law_e_shifted_due cd_law_e_shifted_due ct_law_e_shifted_due, f_law_e_turned_due, PySem.W.fnOf "_law_e_turned_due" "_law_e_turned_due" (defArgs s_law_e_turned_due) (defBody s_law_e_turned_due) (defScope s_law_e_turned_due) .none kV_law_e_turned_due dc_law_e_turned_due pm_law_e_turned_due an_law_e_turned_due cd_law_e_turned_due ct_law_e_turned_due, f_law_e_table_right, PySem.W.fnOf "_law_e_table_right" "_law_e_table_right" (defArgs s_law_e_table_right) (defBody s_law_e_table_right) (defScope s_law_e_table_right) .none kV_law_e_table_right dc_law_e_table_right pm_law_e_table_right an_law_e_table_right cd_law_e_table_right ct_law_e_table_right, f_law_e_tables_right, PySem.W.fnOf "_law_e_tables_right" "_law_e_tables_right" (defArgs s_law_e_tables_right) (defBody s_law_e_tables_right) (defScope s_law_e_tables_right) .none kV_law_e_tables_right dc_law_e_tables_right pm_law_e_tables_right an_law_e_tables_right cd_law_e_tables_right ct_law_e_tables_right, f_law_e_asked, PySem.W.fnOf "_law_e_asked" "_law_e_asked" (defArgs s_law_e_asked) (defBody s_law_e_asked) (defScope s_law_e_asked) .none kV_law_e_asked dc_law_e_asked pm_law_e_asked an_law_e_asked cd_law_e_asked ct_law_e_asked, f_law_e_refused, PySem.W.fnOf "_law_e_refused" "_law_e_refused" (defArgs s_law_e_refused) (defBody s_law_e_refused) (defScope s_law_e_refused) .none kV_law_e_refused dc_law_e_refused pm_law_e_refused an_law_e_refused cd_law_e_refused ct_law_e_refused, f_law_e_all_refused, PySem.W.fnOf "_law_e_all_refused" "_law_e_all_refused" (defArgs s_law_e_all_refused) (defBody s_law_e_all_refused) (defScope s_law_e_all_refused) .none kV_law_e_all_refused dc_law_e_all_refused pm_law_e_all_refused an_law_e_all_refused cd_law_e_all_refused ct_law_e_all_refused, f_law, PySem.W.fnOf "law" "law" (defArgs s_law) (defBody s_law) (defScope s_law) .none kV_law dc_law pm_law an_law cd_law ct_law, f_World___init__, PySem.W.fnOf "__init__" "World.__init__" (defArgs s_World___init__) (defBody s_World___init__) (defScope s_World___init__) .none kV_World___init__ dc_World___init__ pm_World___init__ an_World___init__ cd_World___init__ ct_World___init__, f_World_of, PySem.W.fnOf "of" "World.of" (defArgs s_World_of) (defBody s_World_of) (defScope s_World_of) (.ref dT_World_of) kV_World_of dc_World_of pm_World_of an_World_of cd_World_of ct_World_of, f_World_as_wholes, PySem.W.fnOf "as_wholes" "World.as_wholes" (defArgs s_World_as_wholes) (defBody s_World_as_wholes) (defScope s_World_as_wholes) .none kV_World_as_wholes dc_World_as_wholes pm_World_as_wholes an_World_as_wholes cd_World_as_wholes ct_World_as_wholes, C_World, C_NoWorld, C_NoOver, C_NoOrder, C_WrightError, C_NoFit⟩, ?_⟩
  exact {
    F_is_whole := fun_mk (st := s_is_whole) l_is_whole c_is_whole k_is_whole
    b_is_whole := (fun_mk (st := s_is_whole) l_is_whole c_is_whole k_is_whole).binds (ps := ["thing"]) fun _ _ _ _ _ _ us hl => match us, hl with | [_], _ => rfl
    mg_is_whole := PySem.W.mg_of X G a_is_whole
    F_common_divisor := fun_mk (st := s_common_divisor) l_common_divisor c_common_divisor k_common_divisor
    b_common_divisor := (fun_mk (st := s_common_divisor) l_common_divisor c_common_divisor k_common_divisor).binds (ps := ["one", "other"]) fun _ _ _ _ _ _ us hl => match us, hl with | [_, _], _ => rfl
    mg_common_divisor := PySem.W.mg_of X G a_common_divisor
    F_is_prime := fun_mk (st := s_is_prime) l_is_prime c_is_prime k_is_prime
    b_is_prime := (fun_mk (st := s_is_prime) l_is_prime c_is_prime k_is_prime).binds (ps := ["number"]) fun _ _ _ _ _ _ us hl => match us, hl with | [_], _ => rfl
    mg_is_prime := PySem.W.mg_of X G a_is_prime
    F_ratio := fun_mk (st := s_ratio) l_ratio c_ratio k_ratio
    b_ratio := (fun_mk (st := s_ratio) l_ratio c_ratio k_ratio).binds (ps := ["top", "bottom"]) fun _ _ _ _ _ _ us hl => match us, hl with | [_, _], _ => rfl
    mg_ratio := PySem.W.mg_of X G a_ratio
    F_remainder_back := fun_mk (st := s_remainder_back) l_remainder_back c_remainder_back k_remainder_back
    b_remainder_back := (fun_mk (st := s_remainder_back) l_remainder_back c_remainder_back k_remainder_back).binds (ps := ["prime", "number"]) fun _ _ _ _ _ _ us hl => match us, hl with | [_, _], _ => rfl
    mg_remainder_back := PySem.W.mg_of X G a_remainder_back
    F_remainder_over := fun_mk (st := s_remainder_over) l_remainder_over c_remainder_over k_remainder_over
    b_remainder_over := (fun_mk (st := s_remainder_over) l_remainder_over c_remainder_over k_remainder_over).binds (ps := ["prime", "a", "b"]) fun _ _ _ _ _ _ us hl => match us, hl with | [_, _, _], _ => rfl
    mg_remainder_over := PySem.W.mg_of X G a_remainder_over
    F_is_fractions := fun_mk (st := s_is_fractions) l_is_fractions c_is_fractions k_is_fractions
    b_is_fractions := (fun_mk (st := s_is_fractions) l_is_fractions c_is_fractions k_is_fractions).binds (ps := ["told"]) fun _ _ _ _ _ _ us hl => match us, hl with | [_], _ => rfl
    mg_is_fractions := PySem.W.mg_of X G a_is_fractions
    F_is_wheel := fun_mk (st := s_is_wheel) l_is_wheel c_is_wheel k_is_wheel
    b_is_wheel := (fun_mk (st := s_is_wheel) l_is_wheel c_is_wheel k_is_wheel).binds (ps := ["told"]) fun _ _ _ _ _ _ us hl => match us, hl with | [_], _ => rfl
    mg_is_wheel := PySem.W.mg_of X G a_is_wheel
    F_padded := fun_mk (st := s_padded) l_padded c_padded k_padded
    b_padded := (fun_mk (st := s_padded) l_padded c_padded k_padded).binds (ps := ["world", "row", "many"]) fun _ _ _ _ _ _ us hl => match us, hl with | [_, _, _], _ => rfl
    mg_padded := PySem.W.mg_of X G a_padded
    F_numbers_of := fun_mk (st := s_numbers_of) l_numbers_of c_numbers_of k_numbers_of
    b_numbers_of := (fun_mk (st := s_numbers_of) l_numbers_of c_numbers_of k_numbers_of).binds (ps := ["world", "wholes", "times", "bottom"]) fun _ _ _ _ _ _ us hl => match us, hl with | [_, _, _, _], _ => rfl
    mg_numbers_of := PySem.W.mg_of X G a_numbers_of
    F_poly_times := fun_mk (st := s_poly_times) l_poly_times c_poly_times k_poly_times
    b_poly_times := (fun_mk (st := s_poly_times) l_poly_times c_poly_times k_poly_times).binds (ps := ["world", "one", "other"]) fun _ _ _ _ _ _ us hl => match us, hl with | [_, _, _], _ => rfl
    mg_poly_times := PySem.W.mg_of X G a_poly_times
    F_parted := fun_mk (st := s_parted) l_parted c_parted k_parted
    b_parted := (fun_mk (st := s_parted) l_parted c_parted k_parted).binds (ps := ["world", "one", "other"]) fun _ _ _ _ _ _ us hl => match us, hl with | [_, _, _], _ => rfl
    mg_parted := PySem.W.mg_of X G a_parted
    F_common := fun_mk (st := s_common) l_common c_common k_common
    b_common := (fun_mk (st := s_common) l_common c_common k_common).binds (ps := ["world", "one", "other"]) fun _ _ _ _ _ _ us hl => match us, hl with | [_, _, _], _ => rfl
    mg_common := PySem.W.mg_of X G a_common
    F_check_aim := fun_mk (st := s_check_aim) l_check_aim c_check_aim k_check_aim
    b_check_aim := (fun_mk (st := s_check_aim) l_check_aim c_check_aim k_check_aim).binds (ps := ["n", "aim"]) fun _ _ _ _ _ _ us hl => match us, hl with | [_, _], _ => rfl
    mg_check_aim := PySem.W.mg_of X G a_check_aim
    F_shifted_size := fun_mk (st := s_shifted_size) l_shifted_size c_shifted_size k_shifted_size
    b_shifted_size := (fun_mk (st := s_shifted_size) l_shifted_size c_shifted_size k_shifted_size).binds (ps := ["row"]) fun _ _ _ _ _ _ us hl => match us, hl with | [_], _ => rfl
    mg_shifted_size := PySem.W.mg_of X G a_shifted_size
    F_shifted_row := fun_mk (st := s_shifted_row) l_shifted_row c_shifted_row k_shifted_row
    b_shifted_row := (fun_mk (st := s_shifted_row) l_shifted_row c_shifted_row k_shifted_row).binds (ps := ["row", "i", "many"]) fun _ _ _ _ _ _ us hl => match us, hl with | [_, _, _], _ => rfl
    mg_shifted_row := PySem.W.mg_of X G a_shifted_row
    F_shifted_table := fun_mk (st := s_shifted_table) l_shifted_table c_shifted_table k_shifted_table
    b_shifted_table := (fun_mk (st := s_shifted_table) l_shifted_table c_shifted_table k_shifted_table).binds (ps := ["world", "row"]) fun _ _ _ _ _ _ us hl => match us, hl with | [_, _], _ => rfl
    mg_shifted_table := PySem.W.mg_of X G a_shifted_table
    F_next_pair := fun_mk (st := s_next_pair) l_next_pair c_next_pair k_next_pair
    b_next_pair := (fun_mk (st := s_next_pair) l_next_pair c_next_pair k_next_pair).binds (ps := ["world", "row", "pair", "last"]) fun _ _ _ _ _ _ us hl => match us, hl with | [_, _, _, _], _ => rfl
    mg_next_pair := PySem.W.mg_of X G a_next_pair
    F_whole_pairs := fun_mk (st := s_whole_pairs) l_whole_pairs c_whole_pairs k_whole_pairs
    b_whole_pairs := (fun_mk (st := s_whole_pairs) l_whole_pairs c_whole_pairs k_whole_pairs).binds (ps := ["world", "row"]) fun _ _ _ _ _ _ us hl => match us, hl with | [_, _], _ => rfl
    mg_whole_pairs := PySem.W.mg_of X G a_whole_pairs
    F_told_pair := fun_mk (st := s_told_pair) l_told_pair c_told_pair k_told_pair
    b_told_pair := (fun_mk (st := s_told_pair) l_told_pair c_told_pair k_told_pair).binds (ps := ["world", "pair", "bottom"]) fun _ _ _ _ _ _ us hl => match us, hl with | [_, _, _], _ => rfl
    mg_told_pair := PySem.W.mg_of X G a_told_pair
    F_growth := fun_mk (st := s_growth) l_growth c_growth k_growth
    b_growth := (fun_mk (st := s_growth) l_growth c_growth k_growth).binds (ps := ["world", "row"]) fun _ _ _ _ _ _ us hl => match us, hl with | [_, _], _ => rfl
    mg_growth := PySem.W.mg_of X G a_growth
    F_grown := fun_mk (st := s_grown) l_grown c_grown k_grown
    b_grown := (fun_mk (st := s_grown) l_grown c_grown k_grown).binds (ps := ["world", "row", "front", "back"]) fun _ _ _ _ _ _ us hl => match us, hl with | [_, _, _, _], _ => rfl
    mg_grown := PySem.W.mg_of X G a_grown
    F_whole_answer := fun_mk (st := s_whole_answer) l_whole_answer c_whole_answer k_whole_answer
    b_whole_answer := (fun_mk (st := s_whole_answer) l_whole_answer c_whole_answer k_whole_answer).binds (ps := ["world", "row", "pairs", "aim"]) fun _ _ _ _ _ _ us hl => match us, hl with | [_, _, _, _], _ => rfl
    mg_whole_answer := PySem.W.mg_of X G a_whole_answer
    F_shifted_undone := fun_mk (st := s_shifted_undone) l_shifted_undone c_shifted_undone k_shifted_undone
    b_shifted_undone := (fun_mk (st := s_shifted_undone) l_shifted_undone c_shifted_undone k_shifted_undone).binds (ps := ["world", "row", "aim"]) fun _ _ _ _ _ _ us hl => match us, hl with | [_, _, _], _ => rfl
    mg_shifted_undone := PySem.W.mg_of X G a_shifted_undone
    F_turned_size := fun_mk (st := s_turned_size) l_turned_size c_turned_size k_turned_size
    b_turned_size := (fun_mk (st := s_turned_size) l_turned_size c_turned_size k_turned_size).binds (ps := ["row"]) fun _ _ _ _ _ _ us hl => match us, hl with | [_], _ => rfl
    mg_turned_size := PySem.W.mg_of X G a_turned_size
    F_turned_row := fun_mk (st := s_turned_row) l_turned_row c_turned_row k_turned_row
    b_turned_row := (fun_mk (st := s_turned_row) l_turned_row c_turned_row k_turned_row).binds (ps := ["row", "i"]) fun _ _ _ _ _ _ us hl => match us, hl with | [_, _], _ => rfl
    mg_turned_row := PySem.W.mg_of X G a_turned_row
    F_turned_table := fun_mk (st := s_turned_table) l_turned_table c_turned_table k_turned_table
    b_turned_table := (fun_mk (st := s_turned_table) l_turned_table c_turned_table k_turned_table).binds (ps := ["world", "row"]) fun _ _ _ _ _ _ us hl => match us, hl with | [_, _], _ => rfl
    mg_turned_table := PySem.W.mg_of X G a_turned_table
    F_whole_turn := fun_mk (st := s_whole_turn) l_whole_turn c_whole_turn k_whole_turn
    b_whole_turn := (fun_mk (st := s_whole_turn) l_whole_turn c_whole_turn k_whole_turn).binds (ps := ["world", "n"]) fun _ _ _ _ _ _ us hl => match us, hl with | [_, _], _ => rfl
    mg_whole_turn := PySem.W.mg_of X G a_whole_turn
    F_turned_undone := fun_mk (st := s_turned_undone) l_turned_undone c_turned_undone k_turned_undone
    b_turned_undone := (fun_mk (st := s_turned_undone) l_turned_undone c_turned_undone k_turned_undone).binds (ps := ["world", "row", "aim"]) fun _ _ _ _ _ _ us hl => match us, hl with | [_, _, _], _ => rfl
    mg_turned_undone := PySem.W.mg_of X G a_turned_undone
    F_turned_back := fun_mk (st := s_turned_back) l_turned_back c_turned_back k_turned_back
    b_turned_back := (fun_mk (st := s_turned_back) l_turned_back c_turned_back k_turned_back).binds (ps := ["world", "row"]) fun _ _ _ _ _ _ us hl => match us, hl with | [_, _], _ => rfl
    mg_turned_back := PySem.W.mg_of X G a_turned_back
    F_law_e_fill := fun_mk (st := s_law_e_fill) l_law_e_fill c_law_e_fill k_law_e_fill
    b_law_e_fill := (fun_mk (st := s_law_e_fill) l_law_e_fill c_law_e_fill k_law_e_fill).binds (ps := ["cell", "at"]) fun _ _ _ _ _ _ us hl => match us, hl with | [_, _], _ => rfl
    mg_law_e_fill := PySem.W.mg_of X G a_law_e_fill
    F_law_e_next := fun_mk (st := s_law_e_next) l_law_e_next c_law_e_next k_law_e_next
    b_law_e_next := (fun_mk (st := s_law_e_next) l_law_e_next c_law_e_next k_law_e_next).binds (ps := ["pen", "many"]) fun _ _ _ _ _ _ us hl => match us, hl with | [_, _], _ => rfl
    mg_law_e_next := PySem.W.mg_of X G a_law_e_next
    F_law_e_low := fun_mk (st := s_law_e_low) l_law_e_low c_law_e_low k_law_e_low
    b_law_e_low := (fun_mk (st := s_law_e_low) l_law_e_low c_law_e_low k_law_e_low).binds (ps := ["top", "bottom"]) fun _ _ _ _ _ _ us hl => match us, hl with | [_, _], _ => rfl
    mg_law_e_low := PySem.W.mg_of X G a_law_e_low
    F_law_e_of := fun_mk (st := s_law_e_of) l_law_e_of c_law_e_of k_law_e_of
    b_law_e_of := (fun_mk (st := s_law_e_of) l_law_e_of c_law_e_of k_law_e_of).binds (ps := ["told", "number"]) fun _ _ _ _ _ _ us hl => match us, hl with | [_, _], _ => rfl
    mg_law_e_of := PySem.W.mg_of X G a_law_e_of
    F_law_e_plus := fun_mk (st := s_law_e_plus) l_law_e_plus c_law_e_plus k_law_e_plus
    b_law_e_plus := (fun_mk (st := s_law_e_plus) l_law_e_plus c_law_e_plus k_law_e_plus).binds (ps := ["told", "a", "b"]) fun _ _ _ _ _ _ us hl => match us, hl with | [_, _, _], _ => rfl
    mg_law_e_plus := PySem.W.mg_of X G a_law_e_plus
    F_law_e_is_number := fun_mk (st := s_law_e_is_number) l_law_e_is_number c_law_e_is_number k_law_e_is_number
    b_law_e_is_number := (fun_mk (st := s_law_e_is_number) l_law_e_is_number c_law_e_is_number k_law_e_is_number).binds (ps := ["told", "a"]) fun _ _ _ _ _ _ us hl => match us, hl with | [_, _], _ => rfl
    mg_law_e_is_number := PySem.W.mg_of X G a_law_e_is_number
    F_law_e_is_row := fun_mk (st := s_law_e_is_row) l_law_e_is_row c_law_e_is_row k_law_e_is_row
    b_law_e_is_row := (fun_mk (st := s_law_e_is_row) l_law_e_is_row c_law_e_is_row k_law_e_is_row).binds (ps := ["told", "found"]) fun _ _ _ _ _ _ us hl => match us, hl with | [_, _], _ => rfl
    mg_law_e_is_row := PySem.W.mg_of X G a_law_e_is_row
    F_law_e_world := fun_mk (st := s_law_e_world) l_law_e_world c_law_e_world k_law_e_world
    b_law_e_world := (fun_mk (st := s_law_e_world) l_law_e_world c_law_e_world k_law_e_world).binds (ps := ["pen"]) fun _ _ _ _ _ _ us hl => match us, hl with | [_], _ => rfl
    mg_law_e_world := PySem.W.mg_of X G a_law_e_world
    F_law_e_number := fun_mk (st := s_law_e_number) l_law_e_number c_law_e_number k_law_e_number
    b_law_e_number := (fun_mk (st := s_law_e_number) l_law_e_number c_law_e_number k_law_e_number).binds (ps := ["pen", "told", "far"]) fun _ _ _ _ _ _ us hl => match us, hl with | [_, _, _], _ => rfl
    mg_law_e_number := PySem.W.mg_of X G a_law_e_number
    F_law_e_shifted_due := fun_mk (st := s_law_e_shifted_due) l_law_e_shifted_due c_law_e_shifted_due k_law_e_shifted_due
    b_law_e_shifted_due := (fun_mk (st := s_law_e_shifted_due) l_law_e_shifted_due c_law_e_shifted_due k_law_e_shifted_due).binds (ps := ["row"]) fun _ _ _ _ _ _ us hl => match us, hl with | [_], _ => rfl
    mg_law_e_shifted_due := PySem.W.mg_of X G a_law_e_shifted_due
    F_law_e_turned_due := fun_mk (st := s_law_e_turned_due) l_law_e_turned_due c_law_e_turned_due k_law_e_turned_due
    b_law_e_turned_due := (fun_mk (st := s_law_e_turned_due) l_law_e_turned_due c_law_e_turned_due k_law_e_turned_due).binds (ps := ["row"]) fun _ _ _ _ _ _ us hl => match us, hl with | [_], _ => rfl
    mg_law_e_turned_due := PySem.W.mg_of X G a_law_e_turned_due
    F_law_e_table_right := fun_mk (st := s_law_e_table_right) l_law_e_table_right c_law_e_table_right k_law_e_table_right
    b_law_e_table_right := (fun_mk (st := s_law_e_table_right) l_law_e_table_right c_law_e_table_right k_law_e_table_right).binds (ps := ["told", "found", "due"]) fun _ _ _ _ _ _ us hl => match us, hl with | [_, _, _], _ => rfl
    mg_law_e_table_right := PySem.W.mg_of X G a_law_e_table_right
    F_law_e_tables_right := fun_mk (st := s_law_e_tables_right) l_law_e_tables_right c_law_e_tables_right k_law_e_tables_right
    b_law_e_tables_right := (fun_mk (st := s_law_e_tables_right) l_law_e_tables_right c_law_e_tables_right k_law_e_tables_right).binds (ps := ["told", "world", "row", "at"]) fun _ _ _ _ _ _ us hl => match us, hl with | [_, _, _, _], _ => rfl
    mg_law_e_tables_right := PySem.W.mg_of X G a_law_e_tables_right
    F_law_e_asked := fun_mk (st := s_law_e_asked) l_law_e_asked c_law_e_asked k_law_e_asked
    b_law_e_asked := (fun_mk (st := s_law_e_asked) l_law_e_asked c_law_e_asked k_law_e_asked).binds (ps := ["door", "world", "row", "aim"]) fun _ _ _ _ _ _ us hl => match us, hl with | [_, _, _, _], _ => rfl
    mg_law_e_asked := PySem.W.mg_of X G a_law_e_asked
    F_law_e_refused := fun_mk (st := s_law_e_refused) l_law_e_refused c_law_e_refused k_law_e_refused
    b_law_e_refused := (fun_mk (st := s_law_e_refused) l_law_e_refused c_law_e_refused k_law_e_refused).binds (ps := ["door", "world", "row", "aim"]) fun _ _ _ _ _ _ us hl => match us, hl with | [_, _, _, _], _ => rfl
    mg_law_e_refused := PySem.W.mg_of X G a_law_e_refused
    F_law_e_all_refused := fun_mk (st := s_law_e_all_refused) l_law_e_all_refused c_law_e_all_refused k_law_e_all_refused
    b_law_e_all_refused := (fun_mk (st := s_law_e_all_refused) l_law_e_all_refused c_law_e_all_refused k_law_e_all_refused).binds (ps := ["pen", "world", "row"]) fun _ _ _ _ _ _ us hl => match us, hl with | [_, _, _], _ => rfl
    mg_law_e_all_refused := PySem.W.mg_of X G a_law_e_all_refused
    F_law := fun_mk (st := s_law) l_law c_law k_law
    b_law := (fun_mk (st := s_law) l_law c_law k_law).binds (ps := ["script"]) fun _ _ _ _ _ _ us hl => match us, hl with | [_], _ => rfl
    mg_law := PySem.W.mg_of X G a_law
    F_World___init__ := fun_mk (st := s_World___init__) l_World___init__ c_World___init__ k_World___init__
    b_World___init__ := (fun_mk (st := s_World___init__) l_World___init__ c_World___init__ k_World___init__).binds (ps := ["self", "told"]) fun _ _ _ _ _ _ us hl => match us, hl with | [_, _], _ => rfl
    M_World := ⟨mk_World, a_World___init__, i_World___init__, kc_World⟩
    F_World_of := (fund_mk (st := s_World_of) (i := 1) l_World_of c_World_of k_World_of ld_World_of)
    b_World_of := FunD.binds (ps := ["self", "top", "bottom"]) (fund_mk (st := s_World_of) (i := 1) l_World_of c_World_of k_World_of ld_World_of) fun s dT kV doc pm an cdv ct tk o n us ho hd hl => match us, hl with | [_, _, _], _ => .of_defaults rfl ho hd rfl rfl
    b1_World_of := FunD.binds1 (ps := ["self", "top", "bottom"]) (fund_mk (st := s_World_of) (i := 1) l_World_of c_World_of k_World_of ld_World_of) fun s dT kV doc pm an cdv ct tk o n us ho hd hl => match us, hl with | [_, _], _ => .of_defaults rfl ho hd rfl rfl
    bk_World_of := FunD.bindsK (ps := ["self", "top", "bottom"]) (y := "bottom") (fund_mk (st := s_World_of) (i := 1) l_World_of c_World_of k_World_of ld_World_of) fun s dT kV doc pm an cdv ct tk o n us ws ho hd hw hl => match ws, us, hw, hl with | [_], [_, _], _, _ => .of_defaults rfl ho hd rfl rfl
    m_World_of := ⟨a_World_of, i_World_of, k_World_of⟩
    F_World_as_wholes := fun_mk (st := s_World_as_wholes) l_World_as_wholes c_World_as_wholes k_World_as_wholes
    b_World_as_wholes := (fun_mk (st := s_World_as_wholes) l_World_as_wholes c_World_as_wholes k_World_as_wholes).binds (ps := ["self", "row"]) fun _ _ _ _ _ _ us hl => match us, hl with | [_, _], _ => rfl
    m_World_as_wholes := ⟨a_World_as_wholes, i_World_as_wholes, k_World_as_wholes⟩
    cl_World := ⟨pg_World, hd_World, po_World, sa_World⟩
    mg_World := PySem.W.mg_of X G aC_World
    na_World_prime := n_World_prime
    mg_NoWorld := PySem.W.mg_of X G aC_NoWorld
    mg_NoOver := PySem.W.mg_of X G aC_NoOver
    mg_NoOrder := PySem.W.mg_of X G aC_NoOrder
    mg_WrightError := PySem.W.mg_of X G aC_WrightError
    mg_NoFit := PySem.W.mg_of X G aC_NoFit
    n_len := PySem.W.mg_none_of X G z_len
    n_isinstance := PySem.W.mg_none_of X G z_isinstance
    n_int := PySem.W.mg_none_of X G z_int
    n_bool := PySem.W.mg_none_of X G z_bool
    n_tuple := PySem.W.mg_none_of X G z_tuple
    n_list := PySem.W.mg_none_of X G z_list
    n_range := PySem.W.mg_none_of X G z_range
    n_abs := PySem.W.mg_none_of X G z_abs
    n_all := PySem.W.mg_none_of X G z_all
    n_enumerate := PySem.W.mg_none_of X G z_enumerate
    n_ValueError := PySem.W.mg_none_of X G z_ValueError
    mg_GREATEST_PRIME := ⟨_, PySem.W.mg_of X G a_GREATEST_PRIME, _, rfl⟩
    mg_LONG := ⟨_, PySem.W.mg_of X G a_LONG, _, rfl⟩
    mg_MOST := ⟨_, PySem.W.mg_of X G a_MOST, _, rfl⟩
    x_NoWorld := e_x_NoWorld
    x_NoOver := e_x_NoOver
    x_NoFit := e_x_NoFit
    x_WrightError := e_x_WrightError
    m_NF_NF := e_m_NF_NF
    m_NF_WE := e_m_NF_WE
    k_VE := e_k_VE
    k_NF := e_k_NF
    k_NoWorld := e_k_NoWorld
    k_NoOver := e_k_NoOver
    k_NoOrder := e_k_NoOrder
    cx1 := e_cx1
    cx2 := e_cx2
    cx3 := e_cx3
    cx4 := e_cx4
    cx5 := e_cx5
    cx6 := e_cx6
  }
end My
def PySem.W.Fast.tw17283817392047313276 : Unit := ()
def PySem.W.Fast.tw17182704071251893379 : Unit := ()
def PySem.W.Fast.tw2260069258298152300 : Unit := ()
def PySem.W.Fast.tw3262081788931075316 : Unit := ()
def PySem.W.Fast.tw14339488429027363042 : Unit := ()
def PySem.W.Fast.tw4218728354587575024 : Unit := ()
def PySem.W.Fast.tw11675290047417048532 : Unit := ()
def PySem.W.Fast.tw14350010435263877900 : Unit := ()
def PySem.W.Fast.tw9931504803780967409 : Unit := ()
def PySem.W.Fast.tw2205280346897417555 : Unit := ()
def PySem.W.Fast.tw6117730328438009712 : Unit := ()
def PySem.W.Fast.tw17864993211062417699 : Unit := ()
def PySem.W.Fast.tw9967595918364420586 : Unit := ()
def PySem.W.Fast.tw16633134434109074690 : Unit := ()
def PySem.W.Fast.tw2878187615727535697 : Unit := ()
def PySem.W.Fast.tw810626286013380586 : Unit := ()
def PySem.W.Fast.tw10137002093400383959 : Unit := ()
def PySem.W.Fast.tw16770600655840768938 : Unit := ()
def PySem.W.Fast.tw15744699522351739841 : Unit := ()
def PySem.W.Fast.tw17680790176190071522 : Unit := ()
def PySem.W.Fast.tw6243322275167074531 : Unit := ()
def PySem.W.Fast.tw14334459132242530169 : Unit := ()
def PySem.W.Fast.tw16056097994423532126 : Unit := ()
def PySem.W.Fast.tw705003369868728555 : Unit := ()
def PySem.W.Fast.tw3287010632265871384 : Unit := ()
def PySem.W.Fast.tw3662905931482544904 : Unit := ()
def PySem.W.Fast.tw10353332994532467967 : Unit := ()
def PySem.W.Fast.tw4087337861602878584 : Unit := ()
def PySem.W.Fast.tw4935479070644645068 : Unit := ()
def PySem.W.Fast.tw7174499842852167638 : Unit := ()
def PySem.W.Fast.tw12104176054379155090 : Unit := ()
def PySem.W.Fast.tw9807328556319246779 : Unit := ()
def PySem.W.Fast.tw17203519212894627053 : Unit := ()
def PySem.W.Fast.tw11738278402459321691 : Unit := ()
def PySem.W.Fast.tw9736266372570788546 : Unit := ()
def PySem.W.Fast.tw17101750368130588202 : Unit := ()
def PySem.W.Fast.tw2336619601922217331 : Unit := ()
def PySem.W.Fast.tw14963811284758816918 : Unit := ()
def PySem.W.Fast.tw4572963437787370901 : Unit := ()
def PySem.W.Fast.tw9497951757393534027 : Unit := ()
def PySem.W.Fast.tw15713164545683300579 : Unit := ()
def PySem.W.Fast.tw6337565296773811547 : Unit := ()
def PySem.W.Fast.tw11696038623872908623 : Unit := ()
def PySem.W.Fast.tw16731292302296574893 : Unit := ()
def PySem.W.Fast.tw5407650175634551257 : Unit := ()
def PySem.W.Fast.tw2646081316818583428 : Unit := ()
def PySem.W.Fast.tw16745081598702095786 : Unit := ()
open PySem PySem.W PyProof.Rows
set_option maxRecDepth 100000 in
set_option maxHeartbeats 0 in
theorem PySem.Challenge.cw_bandwright_k56_rows_as_tables_and_refuse_holds : PySem.Challenge.rw_bandwright_k56_rows_as_tables_and_refuse.Holds := by
  w_on; o_law; k_head; (case hw => w_witness2)
  k_fill
  refine My.walk (l := PySem.Challenge.rw_bandwright_k56_rows_as_tables_and_refuse) rfl rfl (fun w h Y => PySem.W.kIn_of Y) ?F
  case F =>
    intro w mg fa h KX G hmg
    have T : ∃ t, My.Txt (L2.KOf KX) mg t := by
      dsimp only [L2.KOf]
      refine' My.txt_mk KX G ?aC_World ?aC_NoWorld ?aC_NoOver ?aC_NoOrder ?aC_WrightError ?aC_NoFit ?a_is_whole ?l_is_whole ?c_is_whole ?k_is_whole ?a_common_divisor ?l_common_divisor ?c_common_divisor ?k_common_divisor ?a_is_prime ?l_is_prime ?c_is_prime ?k_is_prime ?a_ratio ?l_ratio ?c_ratio ?k_ratio ?a_remainder_back ?l_remainder_back ?c_remainder_back ?k_remainder_back ?a_remainder_over ?l_remainder_over ?c_remainder_over ?k_remainder_over ?a_is_fractions ?l_is_fractions ?c_is_fractions ?k_is_fractions ?a_is_wheel ?l_is_wheel ?c_is_wheel ?k_is_wheel ?a_padded ?l_padded ?c_padded ?k_padded ?a_numbers_of ?l_numbers_of ?c_numbers_of ?k_numbers_of ?a_poly_times ?l_poly_times ?c_poly_times ?k_poly_times ?a_parted ?l_parted ?c_parted ?k_parted ?a_common ?l_common ?c_common ?k_common ?a_check_aim ?l_check_aim ?c_check_aim ?k_check_aim ?a_shifted_size ?l_shifted_size ?c_shifted_size ?k_shifted_size ?a_shifted_row ?l_shifted_row ?c_shifted_row ?k_shifted_row ?a_shifted_table ?l_shifted_table ?c_shifted_table ?k_shifted_table ?a_next_pair ?l_next_pair ?c_next_pair ?k_next_pair ?a_whole_pairs ?l_whole_pairs ?c_whole_pairs ?k_whole_pairs ?a_told_pair ?l_told_pair ?c_told_pair ?k_told_pair ?a_growth ?l_growth ?c_growth ?k_growth ?a_grown ?l_grown ?c_grown ?k_grown ?a_whole_answer ?l_whole_answer ?c_whole_answer ?k_whole_answer ?a_shifted_undone ?l_shifted_undone ?c_shifted_undone ?k_shifted_undone ?a_turned_size ?l_turned_size ?c_turned_size ?k_turned_size ?a_turned_row ?l_turned_row ?c_turned_row ?k_turned_row ?a_turned_table ?l_turned_table ?c_turned_table ?k_turned_table ?a_whole_turn ?l_whole_turn ?c_whole_turn ?k_whole_turn ?a_turned_undone ?l_turned_undone ?c_turned_undone ?k_turned_undone ?a_turned_back ?l_turned_back ?c_turned_back ?k_turned_back ?a_law_e_fill ?l_law_e_fill ?c_law_e_fill ?k_law_e_fill ?a_law_e_next ?l_law_e_next ?c_law_e_next ?k_law_e_next ?a_law_e_low ?l_law_e_low ?c_law_e_low ?k_law_e_low ?a_law_e_of ?l_law_e_of ?c_law_e_of ?k_law_e_of ?a_law_e_plus ?l_law_e_plus ?c_law_e_plus ?k_law_e_plus ?a_law_e_is_number ?l_law_e_is_number ?c_law_e_is_number ?k_law_e_is_number ?a_law_e_is_row ?l_law_e_is_row ?c_law_e_is_row ?k_law_e_is_row ?a_law_e_world ?l_law_e_world ?c_law_e_world ?k_law_e_world ?a_law_e_number ?l_law_e_number ?c_law_e_number ?k_law_e_number ?a_law_e_shifted_due ?l_law_e_shifted_due ?c_law_e_shifted_due ?k_law_e_shifted_due ?a_law_e_turned_due ?l_law_e_turned_due ?c_law_e_turned_due ?k_law_e_turned_due ?a_law_e_table_right ?l_law_e_table_right ?c_law_e_table_right ?k_law_e_table_right ?a_law_e_tables_right ?l_law_e_tables_right ?c_law_e_tables_right ?k_law_e_tables_right ?a_law_e_asked ?l_law_e_asked ?c_law_e_asked ?k_law_e_asked ?a_law_e_refused ?l_law_e_refused ?c_law_e_refused ?k_law_e_refused ?a_law_e_all_refused ?l_law_e_all_refused ?c_law_e_all_refused ?k_law_e_all_refused ?a_law ?l_law ?c_law ?k_law ?a_World___init__ ?i_World___init__ ?l_World___init__ ?c_World___init__ ?k_World___init__ ?a_World_of ?i_World_of ?l_World_of ?c_World_of ?k_World_of ?ld_World_of ?a_World_as_wholes ?i_World_as_wholes ?l_World_as_wholes ?c_World_as_wholes ?k_World_as_wholes ?pg_World ?hd_World ?po_World ?sa_World ?mk_World ?kc_World ?n_World_prime ?z_len ?z_isinstance ?z_int ?z_bool ?z_tuple ?z_list ?z_range ?z_abs ?z_all ?z_enumerate ?z_ValueError ?a_GREATEST_PRIME ?a_LONG ?a_MOST ?e_x_NoWorld ?e_x_NoOver ?e_x_NoFit ?e_x_WrightError ?e_m_NF_NF ?e_m_NF_WE ?e_k_VE ?e_k_NF ?e_k_NoWorld ?e_k_NoOver ?e_k_NoOrder ?e_cx1 ?e_cx2 ?e_cx3 ?e_cx4 ?e_cx5 ?e_cx6
      (case aC_World => k_is)
      (case aC_NoWorld => k_is)
      (case aC_NoOver => k_is)
      (case aC_NoOrder => k_is)
      (case aC_WrightError => k_is)
      (case aC_NoFit => k_is)
      (case a_is_whole => k_is)
      (case l_is_whole => k_is)
      (case c_is_whole => k_is)
      (case k_is_whole => k_is)
      (case a_common_divisor => k_is)
      (case l_common_divisor => k_is)
      (case c_common_divisor => k_is)
      (case k_common_divisor => k_is)
      (case a_is_prime => k_is)
      (case l_is_prime => k_is)
      (case c_is_prime => k_is)
      (case k_is_prime => k_is)
      (case a_ratio => k_is)
      (case l_ratio => k_is)
      (case c_ratio => k_is)
      (case k_ratio => k_is)
      (case a_remainder_back => k_is)
      (case l_remainder_back => k_is)
      (case c_remainder_back => k_is)
      (case k_remainder_back => k_is)
      (case a_remainder_over => k_is)
      (case l_remainder_over => k_is)
      (case c_remainder_over => k_is)
      (case k_remainder_over => k_is)
      (case a_is_fractions => k_is)
      (case l_is_fractions => k_is)
      (case c_is_fractions => k_is)
      (case k_is_fractions => k_is)
      (case a_is_wheel => k_is)
      (case l_is_wheel => k_is)
      (case c_is_wheel => k_is)
      (case k_is_wheel => k_is)
      (case a_padded => k_is)
      (case l_padded => k_is)
      (case c_padded => k_is)
      (case k_padded => k_is)
      (case a_numbers_of => k_is)
      (case l_numbers_of => k_is)
      (case c_numbers_of => k_is)
      (case k_numbers_of => k_is)
      (case a_poly_times => k_is)
      (case l_poly_times => k_is)
      (case c_poly_times => k_is)
      (case k_poly_times => k_is)
      (case a_parted => k_is)
      (case l_parted => k_is)
      (case c_parted => k_is)
      (case k_parted => k_is)
      (case a_common => k_is)
      (case l_common => k_is)
      (case c_common => k_is)
      (case k_common => k_is)
      (case a_check_aim => k_is)
      (case l_check_aim => k_is)
      (case c_check_aim => k_is)
      (case k_check_aim => k_is)
      (case a_shifted_size => k_is)
      (case l_shifted_size => k_is)
      (case c_shifted_size => k_is)
      (case k_shifted_size => k_is)
      (case a_shifted_row => k_is)
      (case l_shifted_row => k_is)
      (case c_shifted_row => k_is)
      (case k_shifted_row => k_is)
      (case a_shifted_table => k_is)
      (case l_shifted_table => k_is)
      (case c_shifted_table => k_is)
      (case k_shifted_table => k_is)
      (case a_next_pair => k_is)
      (case l_next_pair => k_is)
      (case c_next_pair => k_is)
      (case k_next_pair => k_is)
      (case a_whole_pairs => k_is)
      (case l_whole_pairs => k_is)
      (case c_whole_pairs => k_is)
      (case k_whole_pairs => k_is)
      (case a_told_pair => k_is)
      (case l_told_pair => k_is)
      (case c_told_pair => k_is)
      (case k_told_pair => k_is)
      (case a_growth => k_is)
      (case l_growth => k_is)
      (case c_growth => k_is)
      (case k_growth => k_is)
      (case a_grown => k_is)
      (case l_grown => k_is)
      (case c_grown => k_is)
      (case k_grown => k_is)
      (case a_whole_answer => k_is)
      (case l_whole_answer => k_is)
      (case c_whole_answer => k_is)
      (case k_whole_answer => k_is)
      (case a_shifted_undone => k_is)
      (case l_shifted_undone => k_is)
      (case c_shifted_undone => k_is)
      (case k_shifted_undone => k_is)
      (case a_turned_size => k_is)
      (case l_turned_size => k_is)
      (case c_turned_size => k_is)
      (case k_turned_size => k_is)
      (case a_turned_row => k_is)
      (case l_turned_row => k_is)
      (case c_turned_row => k_is)
      (case k_turned_row => k_is)
      (case a_turned_table => k_is)
      (case l_turned_table => k_is)
      (case c_turned_table => k_is)
      (case k_turned_table => k_is)
      (case a_whole_turn => k_is)
      (case l_whole_turn => k_is)
      (case c_whole_turn => k_is)
      (case k_whole_turn => k_is)
      (case a_turned_undone => k_is)
      (case l_turned_undone => k_is)
      (case c_turned_undone => k_is)
      (case k_turned_undone => k_is)
      (case a_turned_back => k_is)
      (case l_turned_back => k_is)
      (case c_turned_back => k_is)
      (case k_turned_back => k_is)
      (case a_law_e_fill => k_is)
      (case l_law_e_fill => k_is)
      (case c_law_e_fill => k_is)
      (case k_law_e_fill => k_is)
      (case a_law_e_next => k_is)
      (case l_law_e_next => k_is)
      (case c_law_e_next => k_is)
      (case k_law_e_next => k_is)
      (case a_law_e_low => k_is)
      (case l_law_e_low => k_is)
      (case c_law_e_low => k_is)
      (case k_law_e_low => k_is)
      (case a_law_e_of => k_is)
      (case l_law_e_of => k_is)
      (case c_law_e_of => k_is)
      (case k_law_e_of => k_is)
      (case a_law_e_plus => k_is)
      (case l_law_e_plus => k_is)
      (case c_law_e_plus => k_is)
      (case k_law_e_plus => k_is)
      (case a_law_e_is_number => k_is)
      (case l_law_e_is_number => k_is)
      (case c_law_e_is_number => k_is)
      (case k_law_e_is_number => k_is)
      (case a_law_e_is_row => k_is)
      (case l_law_e_is_row => k_is)
      (case c_law_e_is_row => k_is)
      (case k_law_e_is_row => k_is)
      (case a_law_e_world => k_is)
      (case l_law_e_world => k_is)
      (case c_law_e_world => k_is)
      (case k_law_e_world => k_is)
      (case a_law_e_number => k_is)
      (case l_law_e_number => k_is)
      (case c_law_e_number => k_is)
      (case k_law_e_number => k_is)
      (case a_law_e_shifted_due => k_is)
      (case l_law_e_shifted_due => k_is)
      (case c_law_e_shifted_due => k_is)
      (case k_law_e_shifted_due => k_is)
      (case a_law_e_turned_due => k_is)
      (case l_law_e_turned_due => k_is)
      (case c_law_e_turned_due => k_is)
      (case k_law_e_turned_due => k_is)
      (case a_law_e_table_right => k_is)
      (case l_law_e_table_right => k_is)
      (case c_law_e_table_right => k_is)
      (case k_law_e_table_right => k_is)
      (case a_law_e_tables_right => k_is)
      (case l_law_e_tables_right => k_is)
      (case c_law_e_tables_right => k_is)
      (case k_law_e_tables_right => k_is)
      (case a_law_e_asked => k_is)
      (case l_law_e_asked => k_is)
      (case c_law_e_asked => k_is)
      (case k_law_e_asked => k_is)
      (case a_law_e_refused => k_is)
      (case l_law_e_refused => k_is)
      (case c_law_e_refused => k_is)
      (case k_law_e_refused => k_is)
      (case a_law_e_all_refused => k_is)
      (case l_law_e_all_refused => k_is)
      (case c_law_e_all_refused => k_is)
      (case k_law_e_all_refused => k_is)
      (case a_law => k_is)
      (case l_law => k_is)
      (case c_law => k_is)
      (case k_law => k_is)
      (case a_World___init__ => k_is)
      (case i_World___init__ => k_is)
      (case l_World___init__ => k_is)
      (case c_World___init__ => k_is)
      (case k_World___init__ => k_is)
      (case a_World_of => k_is)
      (case i_World_of => k_is)
      (case l_World_of => k_is)
      (case c_World_of => k_is)
      (case k_World_of => k_is)
      (case ld_World_of => k_is)
      (case a_World_as_wholes => k_is)
      (case i_World_as_wholes => k_is)
      (case l_World_as_wholes => k_is)
      (case c_World_as_wholes => k_is)
      (case k_World_as_wholes => k_is)
      (case pg_World => k_is)
      (case hd_World => k_is)
      (case po_World => k_is)
      (case sa_World => k_is)
      (case mk_World => k_is)
      (case kc_World => k_is)
      (case n_World_prime => k_is)
      (case z_len => k_is)
      (case z_isinstance => k_is)
      (case z_int => k_is)
      (case z_bool => k_is)
      (case z_tuple => k_is)
      (case z_list => k_is)
      (case z_range => k_is)
      (case z_abs => k_is)
      (case z_all => k_is)
      (case z_enumerate => k_is)
      (case z_ValueError => k_is)
      (case a_GREATEST_PRIME => k_is)
      (case a_LONG => k_is)
      (case a_MOST => k_is)
      (case e_x_NoWorld => k_exc)
      (case e_x_NoOver => k_exc)
      (case e_x_NoFit => k_exc)
      (case e_x_WrightError => k_exc)
      (case e_m_NF_NF => k_is)
      (case e_m_NF_WE => k_is)
      (case e_k_VE => kit_is)
      (case e_k_NF => kit_is)
      (case e_k_NoWorld => kit_is)
      (case e_k_NoOver => kit_is)
      (case e_k_NoOrder => kit_is)
      (case e_cx1 => k_is)
      (case e_cx2 => k_is)
      (case e_cx3 => k_is)
      (case e_cx4 => k_is)
      (case e_cx5 => k_is)
      (case e_cx6 => k_is)
    obtain ⟨t, T⟩ := T
    have e0 := hmg.symm.trans T.mg_law
    cases e0
    exact My.law_all T
#print axioms PySem.Challenge.cw_bandwright_k56_rows_as_tables_and_refuse_holds
