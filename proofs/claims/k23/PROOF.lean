import PyProof.Rows.All
import Wide.All
import OpenK.AllK
import Wide.FinOn
import Lean
import PyProof.EqAt
import PyProof.EqKinds
import PyProof.TupleCall
import PySem.Challenge.RW_halvecut_k23_whole_quarters
set_option Elab.async false
set_option linter.all false
set_option maxRecDepth 100000
/-! THE HAND LAYER, for ints, bools, texts, own classes, LISTS and tuples (index, slices, in, append, pop ..), calls, loops. Paste it whole ahead of your own text; what your proof does not reach may be deleted. -/
namespace L2
open PySem PySem.Spec PyProof.Rows

/-- a key: an int or a str -/
abbrev Key := Sum Int Str
def keyIs : Key → Value → Bool
  | .inl k, v => Value.isInt k v
  | .inr x, v => Value.isStrOf x v
def keyH (w : World) : Key → Int
  | .inl k => hashInt k
  | .inr x => hashStr w x
theorem keyIs_shape : ∀ {k : Key} {v : Value}, keyIs k v = true → (∃ i t, k = Sum.inl i ∧ v = Value.int i t) ∨ (∃ x t, k = Sum.inr x ∧ v = Value.str x t)
  | .inl i, v, h => by
    obtain ⟨t, e⟩ := Value.isInt_shape (k := i) (v := v) h
    exact .inl ⟨i, t, rfl, e⟩
  | .inr x, v, h => by
    obtain ⟨t, e⟩ := Value.isStrOf_shape (x := x) (v := v) h
    exact .inr ⟨x, t, rfl, e⟩
theorem keyIs_int (i : Int) (t : Tok) : keyIs (.inl i) (.int i t) = true := by simp [keyIs, Value.isInt]
theorem keyIs_str (x : Str) (t : Tok) : keyIs (.inr x) (.str x t) = true := by simp [keyIs, Value.isStrOf]
theorem key_ll (a b : Int) : decide ((Sum.inl a : Key) = Sum.inl b) = (a == b) := by
  by_cases e : a = b
  · subst e; simp
  · have h : ¬ (Sum.inl a : Key) = Sum.inl b := fun q => e (Sum.inl.inj q)
    rw [decide_eq_false h]
    exact (beq_eq_false_iff_ne.mpr e).symm
theorem key_rr (a b : Str) : decide ((Sum.inr a : Key) = Sum.inr b) = decide (a = b) := by
  by_cases e : a = b
  · subst e; simp
  · have h : ¬ (Sum.inr a : Key) = Sum.inr b := fun q => e (Sum.inr.inj q)
    rw [decide_eq_false h, decide_eq_false e]
theorem key_lr (a : Int) (b : Str) : decide ((Sum.inl a : Key) = Sum.inr b) = false := decide_eq_false (fun q => nomatch q)
theorem key_rl (a : Str) (b : Int) : decide ((Sum.inr a : Key) = Sum.inl b) = false := decide_eq_false (fun q => nomatch q)

def mixKind (prog : Program) (w : World) : PySem.KeyKind prog w Key where
  is := keyIs
  hash := keyH w
  inj := fun v a b ha hb => by
    rcases keyIs_shape ha with ⟨i, t, rfl, rfl⟩ | ⟨x, t, rfl, rfl⟩
    · rcases keyIs_shape hb with ⟨j, u, rfl, e⟩ | ⟨y, u, rfl, e⟩
      · injection e with e1 _; rw [e1]
      · exact nomatch e
    · rcases keyIs_shape hb with ⟨j, u, rfl, e⟩ | ⟨y, u, rfl, e⟩
      · exact nomatch e
      · injection e with e1 _; rw [e1]
  byValue := fun k v h => by
    rcases keyIs_shape h with ⟨i, t, rfl, rfl⟩ | ⟨x, t, rfl, rfl⟩ <;> rfl
  pyHash := fun hv h => by
    rcases keyIs_shape hv with ⟨i, t, rfl, rfl⟩ | ⟨x, t, rfl, rfl⟩
    · exact wpAny_pyHash_int h
    · exact wpAny_pyHash_str h
  eqBool := fun hu hv h => by
    rcases keyIs_shape hu with ⟨i, t, rfl, rfl⟩ | ⟨x, t, rfl, rfl⟩
    · rcases keyIs_shape hv with ⟨j, u, rfl, rfl⟩ | ⟨y, u, rfl, rfl⟩
      · rw [key_ll] at h; exact wpAny_eqBool_int h
      · rw [key_lr] at h; exact SeqAt.EqAt.int_str i t y u _ _ _ _ h
    · rcases keyIs_shape hv with ⟨j, u, rfl, rfl⟩ | ⟨y, u, rfl, rfl⟩
      · rw [key_rl] at h; exact SeqAt.EqAt.str_int x t j u _ _ _ _ h
      · rw [key_rr] at h; exact wpAny_eqBool_str h
  «strs» := fun k x t v h => by
    rcases keyIs_shape h with ⟨i, u, rfl, e⟩ | ⟨y, u, rfl, e⟩
    · exact nomatch e
    · injection e with e1 _
      subst e1
      cases v <;> rfl

theorem mixKind_int (prog : Program) (w : World) (i : Int) (t : Tok) : (mixKind prog w).is (.inl i) (.int i t) = true := keyIs_int i t
theorem mixKind_str (prog : Program) (w : World) (x : Str) (t : Tok) : (mixKind prog w).is (.inr x) (.str x t) = true := keyIs_str x t
end L2

namespace L2
open PySem PySem.Spec PyProof.Rows

/-- a value, without the heap -/
inductive V where
  | non | bl (b : Bool) | int (i : Int) | str (x : Str) | byt (b : Array UInt8) | flt (b : UInt64) | ref (a : Addr) | ty (n : String)
  deriving DecidableEq

def RelV : V → Value → Prop
  | .non, u => u = Value.none
  | .bl b, u => u = Value.bool b
  | .int i, u => ∃ t, u = Value.int i t
  | .str x, u => ∃ t, u = Value.str x t
  | .byt b, u => ∃ t, u = Value.bytes b t
  | .flt b, u => ∃ t, u = Value.float b t
  | .ref a, u => u = Value.ref a
  | .ty n, u => u = Value.type n

abbrev Vals : List V → List Value → Prop := Paired RelV
theorem Vals.length {xs : List V} {us : List Value} (r : Vals xs us) : xs.length = us.length := Paired.length r
theorem Vals.get : ∀ {xs : List V} {us : List Value} {i : Nat} {x : V}, Vals xs us → xs[i]? = some x → ∃ u, us[i]? = some u ∧ RelV x u
  | _, _, _, _, .nil, e => by simp at e
  | _, _, 0, _, .cons r _, e => by simp at e; subst e; exact ⟨_, rfl, r⟩
  | _, _, i + 1, x, .cons _ t, e => by
    obtain ⟨u, h1, h2⟩ := Vals.get (i := i) (x := x) t (by simpa using e)
    exact ⟨u, by simpa using h1, h2⟩
theorem Vals.set {x : V} {u : Value} (r : RelV x u) : ∀ {xs : List V} {us : List Value} (i : Nat), Vals xs us → Vals (xs.set i x) (us.set i u)
  | _, _, _, .nil => .nil
  | _, _, 0, .cons _ t => .cons r t
  | _, _, i + 1, .cons q t => .cons q (Vals.set r i t)
theorem Vals.append : ∀ {xs ys : List V} {us ws : List Value}, Vals xs us → Vals ys ws → Vals (xs ++ ys) (us ++ ws)
  | _, _, _, _, .nil, s => s
  | _, _, _, _, .cons r t, s => .cons r (Vals.append t s)
theorem Vals.take : ∀ {xs : List V} {us : List Value} (n : Nat), Vals xs us → Vals (xs.take n) (us.take n)
  | _, _, 0, _ => .nil
  | _, _, _ + 1, .nil => .nil
  | _, _, n + 1, .cons r t => .cons r (Vals.take n t)
theorem Vals.drop : ∀ {xs : List V} {us : List Value} (n : Nat), Vals xs us → Vals (xs.drop n) (us.drop n)
  | _, _, 0, r => r
  | _, _, _ + 1, .nil => .nil
  | _, _, n + 1, .cons _ t => Vals.drop n t
theorem Vals.none_of : ∀ {xs : List V} {us : List Value} {i : Nat}, Vals xs us → xs[i]? = none → us[i]? = none := fun {xs us i} r e => by
  have h1 := r.length
  have h2 : xs.length ≤ i := List.getElem?_eq_none_iff.mp e
  exact List.getElem?_eq_none_iff.mpr (by omega)

def RelO : Option V → Option Value → Prop
  | some v, some u => RelV v u
  | none, none => True
  | _, _ => False
def KV {κ : Type} : List (κ × V) → List (κ × Value) → Prop := Paired fun (p : κ × V) (q : κ × Value) => p.1 = q.1 ∧ RelV p.2 q.2

/-- a key of a dict (00_mix): an int or a text -/
def kV : Key → V
  | .inl i => .int i
  | .inr x => .str x

/-- what stands at a tracked address -/
inductive HO where
  /-- a list -/
  | lst (xs : List V)
  /-- a tuple (never changes) -/
  | tup (xs : List V)
  /-- a dict whose keys are ints and texts; one whose keys are tuples of ints and texts (the empty one is both) -/
  | dK (kvs : List (Key × V)) | dT (kvs : List (List Key × V))
  /-- a set of ints: its members, its size -/
  | set (S : Int → Bool) (n : Nat)
  /-- an instance of the class at C, its dict at dx, its attributes -/
  | ins (C dx : Addr) (fs : List (Str × V))
  /-- the dict of the instance at x -/
  | own (x : Addr)
  /-- the dict of an exception -/
  | xd (fs : List (Str × V))
  /-- a bound method, f of x -/
  | met (f x : Addr)
  /-- a range object lo, lo + 1, .. below hi -/
  | rng (lo hi : Int)
  /-- a thing that is known to the object (the script; a dict while a loop walks it): read, never written while it is so -/
  | frz (o : Obj) (u : HO)
  /-- a code object's table -/
  | tbl (ps : Array Value)
  /-- any other thing, by what is true of its one object (a def of one's own: SetO a S n := HO.ext fun h => ..) -/
  | ext (φ : Heap → Prop)

abbrev Hp := Addr → Option HO
def upd (H : Hp) (a : Addr) (o : HO) : Hp := fun b => if b = a then some o else H b
theorem upd_same {H : Hp} {a : Addr} {o : HO} : upd H a o a = some o := by unfold upd; rw [if_pos rfl]
theorem upd_ne {H : Hp} {a b : Addr} {o : HO} (h : b ≠ a) : upd H a o b = H b := by unfold upd; rw [if_neg h]
theorem upd_upd {H : Hp} {a : Addr} {o u : HO} : upd (upd H a o) a u = upd H a u := by
  funext b; unfold upd; split <;> rfl
/-- two objects of different content stand apart -/
theorem ne_of {H : Hp} {a b : Addr} {o u : HO} (h : H a = some o) (h' : H b = some u) (d : o ≠ u) : a ≠ b := by
  intro e; subst e; rw [h] at h'; exact d (Option.some.inj h')
theorem ne_of_none {H : Hp} {a b : Addr} {o : HO} (h : H a = some o) (h' : H b = none) : a ≠ b := by
  intro e; subst e; rw [h] at h'; cases h'

section
variable (P : Program) (w : World)
def ObjOk (H : Hp) (h : Heap) (a : Addr) : HO → Prop
  | .lst xs => xs.length ≤ sizeLine ∧ ∃ (its : List Value) (n : Nat), Vals xs its ∧ h.get? a = some { cls := .type "list", data := .seq its.toArray n }
  | .tup xs => xs.length ≤ sizeLine ∧ ∃ its : List Value, Vals xs its ∧ IsTup h a its.toArray
  | .dK kvs => kvs.length ≤ sizeLine ∧ (a == sysModules) = false ∧ ∃ vs, KV kvs vs ∧ h.DictOf (mixKind P w) a vs
  | .dT kvs => kvs.length ≤ sizeLine ∧ (a == sysModules) = false ∧ ∃ xs : List (List Key × Addr × Value),
      Paired (fun (p : List Key × V) (q : List Key × Addr × Value) => p.1 = q.1 ∧ H q.2.1 = some (.tup (p.1.map kV)) ∧ RelV p.2 q.2.2) kvs xs ∧
      ∃ o es ep, h.get? a = some o ∧ o.ExactDict ∧ o.data = .dict es ep ∧ es.toList = xs.map (entryOfKey (tupleKind (mixKind P w))) ∧ (xs.map (·.1)).Nodup
  | .set S n => h.SetOf (intKind P w) a S n
  | .ins C dx fs => H dx = some (.own a) ∧ fs.length ≤ 1000 ∧ dx ≠ a ∧ h.get? a = some (PySem.W.instObj C dx) ∧
      ∃ mA, h.Ns1 dx mA ∧ (∀ f, RelO (fs.lookup f) (mA f)) ∧ PySem.Within mA (fs.map (·.1))
  | .own _ => ∃ o, h.get? a = some o
  | .xd fs => ∃ mA, h.Ns1 a mA ∧ ∀ f, RelO (fs.lookup f) (mA f)
  | .rng lo hi => ∃ t u v, h.get? a = some { cls := .type "range", data := .fields #[.int lo t, .int hi u, .int 1 v] }
  | .frz o u => h.get? a = some o ∧ ObjOk H h a u
  | .tbl ps => h.get? a = some { cls := .none, data := .fields ps }
  | .met f x => h.get? a = some (PySem.W.methodObj (.ref f) (.ref x))
  | .ext φ => φ h ∧ (∃ o, h.get? a = some o) ∧ ∀ h1 h2 : Heap, φ h1 → (∀ o, h1.get? a = some o → h2.get? a = some o) → φ h2
/-- the abstract heap is held -/
def HOk (H : Hp) (h : Heap) : Prop := ∀ a o, H a = some o → ObjOk P w H h a o
end

section
variable {P : Program} {w : World} {H H' : Hp} {h h' : Heap} {a : Addr} {o : HO}
theorem ObjOk.lt (x : ObjOk P w H h a o) : a < h.objs.size := by
  cases o with
  | lst xs => obtain ⟨_, _, _, _, e⟩ := x; exact Heap.lt_size e
  | tup xs => obtain ⟨_, _, _, p⟩ := x; exact p.lt
  | dK kvs => obtain ⟨_, _, _, _, o, _, _, e, _⟩ := x; exact Heap.lt_size e
  | dT kvs => obtain ⟨_, _, _, _, o, _, _, e, _⟩ := x; exact Heap.lt_size e
  | set S n => obtain ⟨o, _, _, _, e, _⟩ := x; exact Heap.lt_size e
  | ins C dx fs => obtain ⟨_, _, _, e, _⟩ := x; exact Heap.lt_size e
  | own y => obtain ⟨_, e⟩ := x; exact Heap.lt_size e
  | xd fs => obtain ⟨_, ⟨_, _, _, e, _⟩, _⟩ := x; exact Heap.lt_size e
  | rng lo hi => obtain ⟨_, _, _, e⟩ := x; exact Heap.lt_size e
  | frz ob u => obtain ⟨e, _⟩ := x; exact Heap.lt_size e
  | tbl ps => exact Heap.lt_size (show h.get? a = some _ from x)
  | met f y => exact Heap.lt_size (show h.get? a = some _ from x)
  | ext φ => obtain ⟨_, ⟨_, e⟩, _⟩ := x; exact Heap.lt_size e
theorem Paired.mapP {α β : Type} {F G : α → β → Prop} : ∀ {l₁ : List α} {l₂ : List β}, Paired F l₁ l₂ → (∀ a b, F a b → G a b) → Paired G l₁ l₂
  | _, _, .nil, _ => .nil
  | _, _, .cons r t, f => .cons (f _ _ r) (Paired.mapP t f)
/-- what an object's description leans on: its own object, its own dict, the tuples -/
theorem ObjOk.stay (x : ObjOk P w H h a o) (k : ∀ b u, (b = a ∨ H b = some (.own a)) → h.get? b = some u → h'.get? b = some u)
    (ho : ∀ b, H b = some (.own a) → H' b = some (.own a)) (ht : ∀ b xs, H b = some (.tup xs) → H' b = some (.tup xs)) : ObjOk P w H' h' a o := by
  induction o with
  | lst xs => obtain ⟨z, its, n, r, e⟩ := x; exact ⟨z, its, n, r, k _ _ (.inl rfl) e⟩
  | tup xs => obtain ⟨z, its, r, ob, e, c⟩ := x; exact ⟨z, its, r, ob, k _ _ (.inl rfl) e, c⟩
  | dK kvs => obtain ⟨z, y, vs, r, ob, es, ep, e, c⟩ := x; exact ⟨z, y, vs, r, ob, es, ep, k _ _ (.inl rfl) e, c⟩
  | dT kvs =>
    obtain ⟨z, y, xs, r, ob, es, ep, e, c⟩ := x
    exact ⟨z, y, xs, Paired.mapP r fun p q z => ⟨z.1, ht _ _ z.2.1, z.2.2⟩, ob, es, ep, k _ _ (.inl rfl) e, c⟩
  | set S n => obtain ⟨ob, es, ep, t, e, c⟩ := x; exact ⟨ob, es, ep, t, k _ _ (.inl rfl) e, c⟩
  | ins C dx fs =>
    obtain ⟨d, z, ne, e, mA, ⟨od, es, ep, e2, c⟩, r⟩ := x
    exact ⟨ho _ d, z, ne, k _ _ (.inl rfl) e, mA, ⟨od, es, ep, k _ _ (.inr d) e2, c⟩, r⟩
  | own y => obtain ⟨ob, e⟩ := x; exact ⟨ob, k _ _ (.inl rfl) e⟩
  | xd fs => obtain ⟨mA, ⟨od, es, ep, e, c⟩, r⟩ := x; exact ⟨mA, ⟨od, es, ep, k _ _ (.inl rfl) e, c⟩, r⟩
  | rng lo hi => obtain ⟨t, u, v, e⟩ := x; exact ⟨t, u, v, k _ _ (.inl rfl) e⟩
  | frz ob u ih => obtain ⟨e, q⟩ := x; exact ⟨k _ _ (.inl rfl) e, ih q⟩
  | tbl ps =>
    have e : h.get? a = some { cls := .none, data := .fields ps } := x
    show h'.get? a = some { cls := .none, data := .fields ps }
    exact k a _ (.inl rfl) e
  | met f y =>
    have e : h.get? a = some (PySem.W.methodObj (.ref f) (.ref y)) := x
    show h'.get? a = some (PySem.W.methodObj (.ref f) (.ref y))
    exact k a _ (.inl rfl) e
  | ext φ => obtain ⟨p, ⟨o, e⟩, st⟩ := x; exact ⟨st _ _ p fun o q => k _ _ (.inl rfl) q, ⟨o, k _ _ (.inl rfl) e⟩, st⟩
theorem HOk.lt (x : HOk P w H h) (e : H a = some o) : a < h.objs.size := (x a o e).lt
theorem HOk.fresh (x : HOk P w H h) (e : h.objs.size ≤ a) : H a = none := by
  cases q : H a with
  | none => rfl
  | some u => exact absurd (Nat.lt_of_lt_of_le (x.lt q) e) (Nat.lt_irrefl _)
/-- every object of the heap is kept -/
theorem HOk.kept (x : HOk P w H h) (k : ∀ b u, h.get? b = some u → h'.get? b = some u) : HOk P w H h' := fun a o e =>
  (x a o e).stay (fun b u _ q => k b u q) (fun _ q => q) fun _ _ q => q
/-- a new object is laid and tracked -/
theorem HOk.laid (x : HOk P w H h) (k : ∀ b u, h.get? b = some u → h'.get? b = some u) (hp : h.objs.size ≤ a) (new : ObjOk P w (upd H a o) h' a o) : HOk P w (upd H a o) h' := fun b u e => by
  have hn := x.fresh hp
  by_cases hb : b = a
  · subst hb; rw [upd_same] at e; cases e; exact new
  · rw [upd_ne hb] at e
    exact (x b u e).stay (fun c v _ q => k c v q) (fun c q => by rw [upd_ne (ne_of_none q hn)]; exact q) fun c xs q => by rw [upd_ne (ne_of_none q hn)]; exact q
end

/-- what may be read as u: it is u, or a known u -/
def Rd (H : Hp) (a : Addr) (u : HO) : Prop := H a = some u ∨ ∃ o, H a = some (.frz o u)
theorem Rd.of {H : Hp} {a : Addr} {u : HO} (h : H a = some u) : Rd H a u := .inl h
theorem Rd.ok {P : Program} {w : World} {H : Hp} {h : Heap} {a : Addr} {u : HO} (r : Rd H a u) (x : HOk P w H h) : ObjOk P w H h a u := by
  rcases r with r | ⟨o, r⟩
  · exact x a u r
  · obtain ⟨_, q⟩ := x a _ r
    exact q
/-- what may be written -/
def Mut : Option HO → Prop
  | some (.lst _) => True
  | some (.dK _) => True
  | some (.dT _) => True
  | some (.set _ _) => True
  | some (.ins _ _ _) => True
  | some (.ext _) => True
  | _ => False
section
variable {P : Program} {w : World} {H : Hp} {h h' : Heap} {x e : Addr} {o' : HO}
/-- the object at e is changed: x itself, or the dict of the instance x -/
theorem HOk.write (ok : HOk P w H h) (mu : Mut (H x)) (he : e = x ∨ H e = some (.own x)) (k : ∀ b u, b ≠ e → h.get? b = some u → h'.get? b = some u) (heo : ∃ u, h'.get? e = some u)
    (new : ObjOk P w (upd H x o') h' x o') : HOk P w (upd H x o') h' := fun b u q => by
  have nown : ∀ c y, H c = some (.own y) → c ≠ x := fun c y r z => by subst z; rw [r] at mu; exact mu
  have ntup : ∀ c xs, H c = some (.tup xs) → c ≠ x := fun c xs r z => by subst z; rw [r] at mu; exact mu
  by_cases hb : b = x
  · subst hb; rw [upd_same] at q; cases q; exact new
  · rw [upd_ne hb] at q
    by_cases hbe : b = e
    · have q' : H b = some (.own x) := by
        rcases he with z | z
        · exact absurd (hbe.trans z) hb
        · rw [hbe]; exact z
      rw [q] at q'; cases q'
      obtain ⟨v, hv⟩ := heo
      exact ⟨v, by rw [hbe]; exact hv⟩
    · refine (ok b u q).stay (fun c v hc r => k c v ?_ r) (fun c r => by rw [upd_ne (nown c b r)]; exact r) fun c xs r => by rw [upd_ne (ntup c xs r)]; exact r
      rcases hc with rfl | hc
      · exact hbe
      · rintro rfl
        rcases he with z | z
        · exact nown c b hc z
        · rw [hc] at z; cases z; exact hb rfl
end

/-! ### kept unless tracked; of the frames at fs (the callers') the slots may change (an exception that passes writes there); of the records at ex (iterators) nothing is said -/
structure Un (fs ex : List Addr) (H H' : Hp) (h h' : Heap) : Prop where
  keep : ∀ b o, h.get? b = some o → H b = none → b ∉ fs → b ∉ ex → h'.get? b = some o
  slot : ∀ b o, h.get? b = some o → H b = none → b ∈ fs → b ∉ ex → ∃ sl, h'.get? b = some { o with slots := sl }
  free : ∀ b o, h.get? b = some o → H b = none → b ∉ ex → H' b = none
  there : ∀ b o, h.get? b = some o → b ∉ ex → ∃ o', h'.get? b = some o'
  tups : ∀ b xs, H b = some (.tup xs) → H' b = some (.tup xs)
  frzs : ∀ b o u, H b = some (.frz o u) → H' b = some (.frz o u)
  tbls : ∀ b ps, H b = some (.tbl ps) → ∃ more, H' b = some (.tbl (ps ++ more))
section
variable {fs fs' ex ex' : List Addr} {H H1 H2 : Hp} {h h1 h2 h' : Heap} {a x e : Addr} {o : HO}
theorem Un.any (u : Un fs ex H H1 h h1) {b : Addr} {ob : Obj} (q : h.get? b = some ob) (n : H b = none) (hx : b ∉ ex) : ∃ sl, h1.get? b = some { ob with slots := sl } := by
  by_cases hb : b ∈ fs
  · exact u.slot b ob q n hb hx
  · exact ⟨ob.slots, u.keep b ob q n hb hx⟩
theorem Un.trans (a : Un fs ex H H1 h h1) (b : Un fs ex H1 H2 h1 h2) : Un fs ex H H2 h h2 where
  keep := fun c ob q n hc hx => b.keep c ob (a.keep c ob q n hc hx) (a.free c ob q n hx) hc hx
  slot := fun c ob q n hc hx => by
    obtain ⟨sl, e1⟩ := a.slot c ob q n hc hx
    obtain ⟨sl', e2⟩ := b.slot c _ e1 (a.free c ob q n hx) hc hx
    exact ⟨sl', e2⟩
  free := fun c ob q n hx => by
    obtain ⟨o', e1⟩ := a.there c ob q hx
    exact b.free c o' e1 (a.free c ob q n hx) hx
  there := fun c ob q hx => by
    obtain ⟨o', e1⟩ := a.there c ob q hx
    exact b.there c o' e1 hx
  tups := fun c xs q => b.tups c xs (a.tups c xs q)
  frzs := fun c ob xs q => b.frzs c ob xs (a.frzs c ob xs q)
  tbls := fun c ps q => by
    obtain ⟨m1, e1⟩ := a.tbls c ps q
    obtain ⟨m2, e2⟩ := b.tbls c _ e1
    exact ⟨m1 ++ m2, by rw [e2, Array.append_assoc]⟩
theorem Un.kept (k : ∀ b u, h.get? b = some u → h'.get? b = some u) : Un fs ex H H h h' :=
  ⟨fun b ob q _ _ _ => k b ob q, fun b ob q _ _ _ => ⟨ob.slots, k b ob q⟩, fun _ _ _ n _ => n, fun b ob q _ => ⟨ob, k b ob q⟩, fun _ _ q => q, fun _ _ _ q => q, fun _ ps q => ⟨#[], by rw [q]; simp⟩⟩
theorem Un.refl : Un fs ex H H h h := Un.kept fun _ _ q => q
theorem Un.laid (k : ∀ b u, h.get? b = some u → h'.get? b = some u) (hp : h.objs.size ≤ a) (hn : H a = none) : Un fs ex H (upd H a o) h h' where
  keep := fun b u q _ _ _ => k b u q
  slot := fun b u q _ _ _ => ⟨u.slots, k b u q⟩
  free := fun b u q n _ => by rw [upd_ne (Nat.ne_of_lt (Nat.lt_of_lt_of_le (Heap.lt_size q) hp))]; exact n
  there := fun b u q _ => ⟨u, k b u q⟩
  tups := fun b xs q => by rw [upd_ne (ne_of_none q hn)]; exact q
  frzs := fun b u xs q => by rw [upd_ne (ne_of_none q hn)]; exact q
  tbls := fun b ps q => ⟨#[], by rw [upd_ne (ne_of_none q hn), q]; simp⟩
theorem Un.write (mu : Mut (H x)) (he : e = x ∨ H e = some (.own x)) (k : ∀ b u, b ≠ e → h.get? b = some u → h'.get? b = some u) (heo : ∃ u, h'.get? e = some u) : Un fs ex H (upd H x o) h h' := by
  have hx : ∀ b, H b = none → b ≠ x := fun b n z => by subst z; rw [n] at mu; exact mu
  have hb : ∀ b, H b = none → b ≠ e := fun b n z => by
    subst z
    rcases he with r | r
    · exact hx b n r
    · rw [n] at r; cases r
  have hm : ∀ b u, H b = some u → ¬ Mut (some u) → b ≠ x := fun b u q nm z => by subst z; rw [q] at mu; exact nm mu
  refine ⟨fun b u q n _ _ => k b u (hb b n) q, fun b u q n _ _ => ⟨u.slots, k b u (hb b n) q⟩, fun b u q n _ => by rw [upd_ne (hx b n)]; exact n, fun b u q _ => ?_,
    fun b xs q => by rw [upd_ne (hm b _ q fun z => z)]; exact q, fun b u xs q => by rw [upd_ne (hm b _ q fun z => z)]; exact q, fun b ps q => ⟨#[], by rw [upd_ne (hm b _ q fun z => z), q]; simp⟩⟩
  by_cases hbe : b = e
  · subst hbe; exact heo
  · exact ⟨u, k b u hbe q⟩
theorem Un.mono (u : Un fs ex H H1 h h1) (hs : ∀ b ∈ fs, b ∈ fs') (hx : ∀ b ∈ ex, b ∈ ex') : Un fs' ex' H H1 h h1 :=
  ⟨fun b ob q n hb he => u.keep b ob q n (fun z => hb (hs b z)) fun z => he (hx b z), fun _ _ q n _ he => u.any q n fun z => he (hx _ z), fun b ob q n he => u.free b ob q n fun z => he (hx b z), fun b ob q he => u.there b ob q fun z => he (hx b z), u.tups, u.frzs, u.tbls⟩
end

/-! ### the heap without what is tracked -/
def trk (h : Heap) (H : Hp) : List Addr := (List.range h.objs.size).filter fun a => (H a).isSome
def hidT (h : Heap) (H : Hp) : Heap := PySem.W.hideAll h (trk h H)
theorem hidT_size (h : Heap) (H : Hp) : (hidT h H).objs.size = h.objs.size := PySem.W.hideAll_size _ _
theorem hidT_get {h : Heap} {H : Hp} {b : Addr} {o : Obj} (e : h.get? b = some o) (n : H b = none) : (hidT h H).get? b = some o :=
  PySem.W.hideAll_get _ e fun hm => by
    have q : (H b).isSome = true := (List.mem_filter.mp hm).2
    rw [n] at q; simp at q
theorem of_hidT {h : Heap} {H : Hp} {b : Addr} {o : Obj} (e : (hidT h H).get? b = some o) : h.get? b = some o ∧ H b = none := by
  have e' : h.get? b = some o := PySem.W.of_hideAll (trk h H) e
  refine ⟨e', ?_⟩
  cases q : H b with
  | none => rfl
  | some x =>
    have hm : b ∈ trk h H := List.mem_filter.mpr ⟨List.mem_range.mpr (Heap.lt_size e'), by simp [q]⟩
    have z : (hidT h H).get? b = none := PySem.W.hideAll_none (trk h H) hm
    rw [z] at e; cases e

/-! ### OpenK's ledger, filled with every new object but one -/
def allNews (g h : Heap) (L : Addr) : List (Addr × Obj) := (List.range h.objs.size).filterMap fun a => if a = L ∨ (g.get? a).isSome = true then none else (h.get? a).map fun o => (a, o)
def rest (g h : Heap) (L d : Addr) : List (Addr × Obj) := (allNews g h L).filter fun p => decide (p.1 ≠ d)
end L2

namespace L2
open PySem PySem.Spec PyProof.Rows

/-- the module's facts, over the base: the heap at the law's entry without what is tracked there -/
structure Mod (K : PySem.W.Frag) (mg : Str → Option Value) (base : Heap) : Prop where
  kin : K.In base
  glob : base.Ns mainGlobals mg
  blt : ∃ mb, base.Ns builtinsNs mb ∧ ∀ x : Str, x ≠ "__name__" → mb x = bootBuiltins x
  nolimit : base.NoLimit

/-- the context: a def's body (or a comprehension's block) running. base: fixed through the whole law; s₀, H₀: the entry; outer: the frames whose slots others may change (a def's callers); stack: all frames that run;
   ex: iterators that were made ahead of the entry and are walked here (a comprehension's); fn: the names whose cells were made at the entry (a def: all; a comprehension's block: its own); calm: not within an except suite; pn: pins that every state bears; xe: what is wanted of an exception that leaves the code -/
structure Cx where
  prog : Program
  w : World
  K : PySem.W.Frag
  mg : Str → Option Value
  base : Heap
  A : Around
  N : List Str
  s₀ : Shared
  H₀ : Hp
  env : Env
  outer : List Env
  stack : List Env
  ex : List Addr
  fn : Str → Bool
  calm : Bool
  pn : List (Addr × Obj)
  xe : Value → Shared → Prop
/-- the callers' frames -/
def frs (l : List Env) : List Addr := l.filterMap (·.frame)
abbrev Cx.fs (X : Cx) : List Addr := frs X.outer

def Vis (sc : Scope) (x : Str) : Prop := sc.names.lookup x = some .local ∨ sc.names.lookup x = some .cell ∨ sc.names.lookup x = some .free
def Loc (sc : Scope) (x : Str) : Prop := sc.names.lookup x = some .local ∨ sc.names.lookup x = some .cell
def Look (env : Env) (h : Heap) (m : Str → Option Value) (x : Str) (u : Value) : Prop :=
  (env.kindOf x = some .local ∧ m x = some u) ∨ ((env.kindOf x = some .cell ∨ env.kindOf x = some .free) ∧ ∃ c, env.cells.lookup x = some c ∧ h.IsCell c (some u))

structure Cx.Ok (X : Cx) : Prop where
  mod : Mod X.K X.mg X.base
  kind : X.env.scope.kind = .function
  glob : X.env.globals = mainGlobals
  blt : X.env.builtins = builtinsNs
  above : X.s₀.heap.objs.size ≤ X.env.locals
  inj : ∀ x y c, X.env.cells.lookup x = some c → X.env.cells.lookup y = some c → x = y
  has : ∀ x, (X.env.kindOf x = some .cell ∨ X.env.kindOf x = some .free) → ∃ c, X.env.cells.lookup x = some c
  cab : ∀ x c, X.fn x = true → X.env.cells.lookup x = some c → X.s₀.heap.objs.size ≤ c
  hd : X.calm = true → X.A.handled = none
  frames : X.A.frames = some X.stack
  stk : X.stack = X.outer ∨ (X.stack = X.env :: X.outer ∧ X.env.frame = some X.env.locals)
  exf : ∀ b ∈ X.ex, b ≠ X.env.locals ∧ ∀ x c, X.env.cells.lookup x = some c → c ≠ b
  bs : ∀ b o, X.base.get? b = some o → X.s₀.heap.get? b = some o ∧ X.H₀ b = none
  bsz : X.base.objs.size ≤ X.s₀.heap.objs.size
  noex : ∀ b o, X.base.get? b = some o → b ∉ X.ex
  exfs : ∀ b ∈ X.ex, b ∉ X.fs
  funs : X.s₀.heap.FunFrames X.base X.outer
  frf : ∀ b ∈ X.fs, X.H₀ b = none

structure Inv (X : Cx) (pins : List (Addr × Obj)) (σ : List (Option V)) (H : Hp) (s : Shared) : Prop where
  ok : X.Ok
  os : s.os = X.s₀.os
  bare : AllBare s.gens
  base : Un X.fs X.ex X.H₀ H X.s₀.heap s.heap
  loc : ∃ m, s.heap.Ns X.env.locals m ∧ ∀ (i : Nat) (x : Str) (v : V), X.N[i]? = some x → σ[i]? = some (some v) → Vis X.env.scope x → ∃ u, RelV v u ∧ Look X.env s.heap m x u
  cell : ∀ x c, X.env.cells.lookup x = some c → ∃ v, s.heap.IsCell c v
  free : H X.env.locals = none
  freeC : ∀ x c, X.env.cells.lookup x = some c → H c = none
  pin : ∀ p ∈ X.pn ++ pins, s.heap.get? p.1 = some p.2 ∧ H p.1 = none ∧ p.1 ≠ X.env.locals ∧ p.1 ∉ X.fs ∧ ∀ v, p.2.data ≠ .cell v
  hok : HOk X.prog X.w H s.heap
  len : σ.length = X.N.length

section
variable {X : Cx} {pins : List (Addr × Obj)} {σ : List (Option V)} {H H' : Hp} {s : Shared} {h' : Heap}

theorem Cx.Ok.nofr (ok : X.Ok) {b : Addr} {o : Obj} (e : X.base.get? b = some o) : b ∉ X.fs := fun hb => by
  have := (ok.funs.mem hb).1
  rw [e] at this; cases this
theorem Inv.bs (I : Inv X pins σ H s) : ∀ b o, X.base.get? b = some o → s.heap.get? b = some o ∧ H b = none := fun b o e =>
  ⟨I.base.keep b o (I.ok.bs b o e).1 (I.ok.bs b o e).2 (I.ok.nofr e) (I.ok.noex b o e), I.base.free b o (I.ok.bs b o e).1 (I.ok.bs b o e).2 (I.ok.noex b o e)⟩
theorem Inv.bk (I : Inv X pins σ H s) : ∀ b o, X.base.get? b = some o → s.heap.get? b = some o := fun b o e => (I.bs b o e).1
theorem Inv.mod (I : Inv X pins σ H s) : Mod X.K X.mg X.base := I.ok.mod
theorem Inv.kIn (I : Inv X pins σ H s) : X.K.In s.heap := I.ok.mod.kin.keeps I.bk
theorem Inv.nolimit (I : Inv X pins σ H s) : s.heap.NoLimit := I.ok.mod.nolimit.keeps I.bk
/-- the frame over the base: for OpenK's rules (K.In X.base is I.mod.kin) -/
theorem Inv.fr (I : Inv X pins σ H s) : ∃ m, Fr X.base X.env.locals s.heap m :=
  let ⟨m, hn, _⟩ := I.loc
  ⟨m, hn, I.bk, Nat.le_trans I.ok.bsz I.ok.above⟩
theorem Inv.lt (I : Inv X pins σ H s) : X.env.locals < s.heap.objs.size := let ⟨_, hn, _⟩ := I.loc; hn.lt
theorem Inv.sz (I : Inv X pins σ H s) : X.s₀.heap.objs.size ≤ s.heap.objs.size := Nat.le_trans I.ok.above (Nat.le_of_lt I.lt)
theorem Inv.nofs (I : Inv X pins σ H s) {a : Addr} (h : s.heap.objs.size ≤ a) : a ∉ X.fs := fun hb => by
  obtain ⟨_, o, ho, _⟩ := I.ok.funs.mem hb
  exact absurd (Nat.lt_of_lt_of_le (Heap.lt_size ho) (Nat.le_trans I.sz h)) (Nat.lt_irrefl _)
theorem Inv.cne (I : Inv X pins σ H s) : ∀ x c, X.env.cells.lookup x = some c → c ≠ X.env.locals := fun x c e z => by
  obtain ⟨v, o, ho, hd⟩ := I.cell x c e
  obtain ⟨m, ⟨o', es, ep, ho', hd', _⟩, _⟩ := I.loc
  rw [z, ho'] at ho; cases ho; rw [hd'] at hd; cases hd
theorem Inv.funs (I : Inv X pins σ H s) : s.heap.FunFrames X.base X.outer := by
  have all : ∀ (l : List Env), (∀ b ∈ frs l, b ∈ X.fs) → X.s₀.heap.FunFrames X.base l → s.heap.FunFrames X.base l := by
    intro l
    induction l with
    | nil => intro _ _; trivial
    | cons env r ih =>
      intro hs hl
      obtain ⟨hk, ⟨L, o, hf, hn, ho, hd⟩, hr⟩ := hl
      have hL : L ∈ X.fs := hs L (by unfold frs; rw [List.filterMap_cons, hf]; exact List.mem_cons_self)
      obtain ⟨sl, e⟩ := I.base.slot L o ho (I.ok.frf L hL) hL fun z => I.ok.exfs L z hL
      exact ⟨hk, ⟨L, _, hf, hn, e, hd⟩, ih (fun b hb => hs b (by unfold frs; rw [List.filterMap_cons, hf]; exact List.mem_cons_of_mem _ hb)) hr⟩
  exact all X.outer (fun _ hb => hb) I.ok.funs

/-- the frames that run, for a call -/
theorem Inv.stack (I : Inv X pins σ H s) : s.heap.FunFrames X.base X.stack := by
  rcases I.ok.stk with e | ⟨e, hf⟩
  · rw [e]; exact I.funs
  · rw [e]
    obtain ⟨m, hn, _⟩ := I.loc
    refine .cons (by rw [I.ok.kind]; decide) hf hn ?_ I.funs
    exact Heap.get?_none_of_le (Nat.le_trans I.ok.bsz I.ok.above)
theorem Inv.stkSub (I : Inv X pins σ H s) : ∀ b ∈ frs X.stack, b ∈ X.env.locals :: X.fs := fun b hb => by
  rcases I.ok.stk with e | ⟨e, hf⟩
  · rw [e] at hb; exact List.mem_cons_of_mem _ hb
  · rw [e] at hb
    unfold frs at hb
    rw [List.filterMap_cons, hf] at hb
    exact hb
theorem Inv.stkFree (I : Inv X pins σ H s) : ∀ b ∈ frs X.stack, H b = none := fun b hb => by
  rcases List.mem_cons.mp (I.stkSub b hb) with e | hb
  · rw [e]; exact I.free
  · obtain ⟨_, o, ho, _⟩ := I.ok.funs.mem hb
    exact I.base.free b o ho (I.ok.frf b hb) fun z => I.ok.exfs b z hb

/-- THE STEP: the untracked objects but the frame and the records at ch are kept (the callers' frames up to slots), the frame's map is kept, the new abstract heap is held -/
theorem Inv.step {g' : Array GenState} {t' : Nat} {d' : Drawn} {ch : List Addr} (I : Inv X pins σ H s)
    (hch : ∀ b ∈ ch, (b ∈ X.ex ∨ X.s₀.heap.objs.size ≤ b) ∧ b ≠ X.env.locals ∧ (∀ x c, X.env.cells.lookup x = some c → c ≠ b) ∧ ∀ p ∈ X.pn ++ pins, p.1 ≠ b)
    (keep : ∀ b o, b ≠ X.env.locals → b ∉ X.fs → b ∉ ch → s.heap.get? b = some o → H b = none → h'.get? b = some o)
    (slot : ∀ b o, b ≠ X.env.locals → b ∈ X.fs → b ∉ ch → s.heap.get? b = some o → H b = none → ∃ sl, h'.get? b = some { o with slots := sl }) (free : ∀ b o, b ∉ ch → s.heap.get? b = some o → H b = none → H' b = none)
    (there : ∀ b o, b ∉ ch → s.heap.get? b = some o → ∃ o', h'.get? b = some o')
    (tups : ∀ b xs, H b = some (.tup xs) → H' b = some (.tup xs)) (frzs : ∀ b o u, H b = some (.frz o u) → H' b = some (.frz o u)) (tbls : ∀ b ps, H b = some (.tbl ps) → ∃ more, H' b = some (.tbl (ps ++ more)))
    (ns : ∀ m, s.heap.Ns X.env.locals m → h'.Ns X.env.locals m) (hok : HOk X.prog X.w H' h') (hg : AllBare g') :
    Inv X pins σ H' { s with heap := h', gens := g', drawn := d', toks := t' } := by
  have neL : ∀ b o, X.s₀.heap.get? b = some o → b ≠ X.env.locals := fun b o e => Nat.ne_of_lt (Nat.lt_of_lt_of_le (Heap.lt_size e) I.ok.above)
  have neC : ∀ b o, X.s₀.heap.get? b = some o → b ∉ X.ex → b ∉ ch := fun b o e hx hb => by
    rcases (hch b hb).1 with z | z
    · exact hx z
    · exact absurd (Nat.lt_of_lt_of_le (Heap.lt_size e) z) (Nat.lt_irrefl _)
  have cellK : ∀ x c, X.env.cells.lookup x = some c → ∀ v, s.heap.IsCell c v → h'.IsCell c v := fun x c e v ⟨o, ho, hd⟩ => by
    have nch : c ∉ ch := fun z => (hch c z).2.2.1 x c e rfl
    by_cases hc : c ∈ X.fs
    · obtain ⟨sl, q⟩ := slot c o (I.cne x c e) hc nch ho (I.freeC x c e)
      exact ⟨_, q, hd⟩
    · exact ⟨o, keep c o (I.cne x c e) hc nch ho (I.freeC x c e), hd⟩
  refine ⟨I.ok, I.os, hg, ⟨fun b o e n hb hx => ?_, fun b o e n hb hx => ?_, fun b o e n hx => ?_, fun b o e hx => ?_, fun b xs e => tups b xs (I.base.tups b xs e), fun b o xs e => frzs b o xs (I.base.frzs b o xs e), fun b ps e => ?_⟩, ?_, fun x c e => ?_, ?_, fun x c e => ?_, fun p hp => ?_, hok, I.len⟩
  · exact keep b o (neL b o e) hb (neC b o e hx) (I.base.keep b o e n hb hx) (I.base.free b o e n hx)
  · obtain ⟨sl, e1⟩ := I.base.slot b o e n hb hx
    obtain ⟨sl', e2⟩ := slot b _ (neL b o e) hb (neC b o e hx) e1 (I.base.free b o e n hx)
    exact ⟨sl', e2⟩
  · obtain ⟨o', e1⟩ := I.base.there b o e hx
    exact free b o' (neC b o e hx) e1 (I.base.free b o e n hx)
  · obtain ⟨o', e1⟩ := I.base.there b o e hx
    exact there b o' (neC b o e hx) e1
  · obtain ⟨m1, e1⟩ := I.base.tbls b ps e
    obtain ⟨m2, e2⟩ := tbls b _ e1
    exact ⟨m1 ++ m2, by rw [e2, Array.append_assoc]⟩
  · obtain ⟨m, hn, hl⟩ := I.loc
    refine ⟨m, ns m hn, fun i x v e1 e2 e3 => ?_⟩
    obtain ⟨u, r, l⟩ := hl i x v e1 e2 e3
    refine ⟨u, r, ?_⟩
    rcases l with l | ⟨k, c, e, z⟩
    · exact .inl l
    · exact .inr ⟨k, c, e, cellK x c e _ z⟩
  · obtain ⟨v, z⟩ := I.cell x c e
    exact ⟨v, cellK x c e v z⟩
  · obtain ⟨m, ⟨o, _, _, ho, _⟩, _⟩ := I.loc
    exact free _ o (fun z => (hch _ z).2.1 rfl) ho I.free
  · obtain ⟨v, o, ho, hd⟩ := I.cell x c e
    exact free c o (fun z => (hch c z).2.2.1 x c e rfl) ho (I.freeC x c e)
  · obtain ⟨e, n, ne, nf, d⟩ := I.pin p hp
    have nch : p.1 ∉ ch := fun z => (hch p.1 z).2.2.2 p hp rfl
    exact ⟨keep p.1 p.2 ne nf nch e n, free p.1 p.2 nch e n, ne, nf, d⟩
/-- .. where the frame's own object is kept too -/
theorem Inv.un {t' : Nat} (I : Inv X pins σ H s) (u : Un X.fs [] H H' s.heap h') (hok : HOk X.prog X.w H' h') : Inv X pins σ H' { s with heap := h', toks := t' } := by
  obtain ⟨m, ⟨o, es, ep, ho, r⟩, _⟩ := id I.loc
  obtain ⟨sl, hL⟩ := u.any ho I.free (by simp)
  exact I.step (g' := s.gens) (d' := s.drawn) (ch := []) (fun _ z => nomatch z) (fun b o _ hb _ e n => u.keep b o e n hb (by simp)) (fun b o _ hb _ e n => u.slot b o e n hb (by simp)) (fun b o _ e n => u.free b o e n (by simp)) (fun b o _ e => u.there b o e (by simp)) u.tups u.frzs u.tbls (fun m' hm => by
    obtain ⟨o', es', ep', ho', r'⟩ := hm
    rw [ho] at ho'; cases ho'
    exact ⟨_, es', ep', hL, r'⟩) hok I.bare
/-- behind a call (or a comprehension's block): the slots of this frame may have changed too, the records at ch may have turned -/
theorem Inv.call {g' : Array GenState} {t' : Nat} {d' : Drawn} {ch : List Addr} (I : Inv X pins σ H s) (u : Un (frs X.stack) ch H H' s.heap h') (hok : HOk X.prog X.w H' h') (hg : AllBare g')
    (hch : ∀ b ∈ ch, (b ∈ X.ex ∨ X.s₀.heap.objs.size ≤ b) ∧ b ≠ X.env.locals ∧ (∀ x c, X.env.cells.lookup x = some c → c ≠ b) ∧ ∀ p ∈ X.pn ++ pins, p.1 ≠ b) :
    Inv X pins σ H' { s with heap := h', gens := g', drawn := d', toks := t' } := by
  obtain ⟨m, ⟨o, es, ep, ho, r⟩, _⟩ := id I.loc
  obtain ⟨sl, hL⟩ := u.any ho I.free fun z => (hch _ z).2.1 rfl
  exact I.step (ch := ch) hch (fun b o hL hb hc e n => u.keep b o e n (fun z => (List.mem_cons.mp (I.stkSub b z)).elim hL hb) hc) (fun b o _ _ hc e n => u.any e n hc) (fun b o hc e n => u.free b o e n hc) (fun b o hc e => u.there b o e hc) u.tups u.frzs u.tbls (fun m' hm => by
    obtain ⟨o', es', ep', ho', r'⟩ := hm
    rw [ho] at ho'; cases ho'
    exact ⟨_, es', ep', hL, r'⟩) hok hg
/-- an untracked record of ours (an iterator) has turned -/
theorem Inv.turned {t' : Nat} {it : Addr} (I : Inv X pins σ H s) (k : ∀ b o, b ≠ it → s.heap.get? b = some o → h'.get? b = some o) (hn : H it = none) (hL : it ≠ X.env.locals)
    (h1 : it ∈ X.ex ∨ X.s₀.heap.objs.size ≤ it) (h2 : ∀ x c, X.env.cells.lookup x = some c → c ≠ it) (h3 : ∀ p ∈ X.pn ++ pins, p.1 ≠ it) : Inv X pins σ H { s with heap := h', toks := t' } := by
  have nit : ∀ b u, H b = some u → b ≠ it := fun b u e z => by rw [z, hn] at e; cases e
  refine I.step (g' := s.gens) (d' := s.drawn) (ch := [it]) (fun b hb => ?_) (fun b o _ _ hc e _ => k b o (fun z => hc (by simp [z])) e) (fun b o _ _ hc e _ => ⟨o.slots, k b o (fun z => hc (by simp [z])) e⟩) (fun _ _ _ _ n => n)
    (fun b o hc e => ⟨o, k b o (fun z => hc (by simp [z])) e⟩) (fun _ _ e => e) (fun _ _ _ e => e) (fun b ps e => ⟨#[], by rw [e]; simp⟩) (fun m hm => ?_) (fun b u e => ?_) I.bare
  · have e : b = it := by simpa using hb
    subst e
    exact ⟨h1, hL, h2, h3⟩
  · obtain ⟨o, es, ep, ho, r⟩ := hm
    exact ⟨o, es, ep, k _ o (Ne.symm hL) ho, r⟩
  · refine (I.hok b u e).stay (fun c v hc q => k c v ?_ q) (fun _ q => q) fun _ _ q => q
    rcases hc with z | z
    · rw [z]; exact nit b u e
    · exact nit c _ z
theorem Inv.tok (I : Inv X pins σ H s) (t : Nat) : Inv X pins σ H { s with toks := t } := I.un (h' := s.heap) (t' := t) Un.refl I.hok
/-- all objects kept -/
theorem Inv.kept {t' : Nat} (I : Inv X pins σ H s) (k : ∀ b u, s.heap.get? b = some u → h'.get? b = some u) : Inv X pins σ H { s with heap := h', toks := t' } := I.un (Un.kept k) (I.hok.kept k)
/-- a new object laid and tracked -/
theorem Inv.laid {a : Addr} {o : HO} {t' : Nat} (I : Inv X pins σ H s) (k : ∀ b u, s.heap.get? b = some u → h'.get? b = some u) (hp : s.heap.objs.size ≤ a) (new : ObjOk X.prog X.w (upd H a o) h' a o) :
    Inv X pins σ (upd H a o) { s with heap := h', toks := t' } := I.un (Un.laid k hp (I.hok.fresh hp)) (I.hok.laid k hp new)
/-- an object written -/
theorem Inv.write {x e : Addr} {o : HO} {t' : Nat} (I : Inv X pins σ H s) (mu : Mut (H x)) (he : e = x ∨ H e = some (.own x)) (k : ∀ b u, b ≠ e → s.heap.get? b = some u → h'.get? b = some u) (heo : ∃ u, h'.get? e = some u)
    (new : ObjOk X.prog X.w (upd H x o) h' x o) : Inv X pins σ (upd H x o) { s with heap := h', toks := t' } := I.un (Un.write mu he k heo) (I.hok.write mu he k heo new)
theorem Inv.pins_of {pins' : List (Addr × Obj)} (I : Inv X pins σ H s) (h : ∀ p ∈ pins', s.heap.get? p.1 = some p.2 ∧ H p.1 = none ∧ p.1 ≠ X.env.locals ∧ p.1 ∉ X.fs ∧ ∀ v, p.2.data ≠ .cell v) : Inv X pins' σ H s :=
  ⟨I.ok, I.os, I.bare, I.base, I.loc, I.cell, I.free, I.freeC, fun p hp => (List.mem_append.mp hp).elim (fun z => I.pin p (List.mem_append_left _ z)) (h p), I.hok, I.len⟩

theorem nodup_ix {N : List Str} (hN : N.Nodup) {i j : Nat} {x : Str} (a : N[i]? = some x) (b : N[j]? = some x) : i = j := by
  obtain ⟨h1, e1⟩ := List.getElem?_eq_some_iff.mp a
  obtain ⟨h2, e2⟩ := List.getElem?_eq_some_iff.mp b
  exact (List.getElem_inj hN).mp (e1.trans e2.symm)

/-- a name is stored; what changed -/
theorem store_ok2 {M : Model} {A : Around} {E : Value → Shared → Prop} {i : Nat} {x : Str} {v : V} {u : Value} {Q : Unit → Shared → Prop} (I : Inv X pins σ H s) (hN : X.N.Nodup) (hi : X.N[i]? = some x) (hx : Loc X.env.scope x) (r : RelV v u)
    (h : ∀ s', Inv X pins (σ.set i (some v)) H s' → (∃ a, Heap.SameBut a s.heap s'.heap ∧ (a = X.env.locals ∨ X.env.cells.lookup x = some a)) → Q () s') (hf : X.fn x = true ∨ X.env.scope.names.lookup x = some .local := by first | exact .inl rfl | exact .inr rfl | assumption) : wpAny M A (storeName X.env x u) Q E s := by
  obtain ⟨m, hn, hl⟩ := id I.loc
  have hcls : (X.env.scope.kind == .class || (X.env.scope.kind == .module && X.env.locals != X.env.globals)) = false := by rw [I.ok.kind]; rfl
  have hiσ : i < σ.length := by rw [I.len]; exact (List.getElem?_eq_some_iff.mp hi).1
  have cne := I.cne
  have tracked : ∀ {a : Addr} {h' : Heap}, (∃ o, s.heap.get? a = some o ∧ H a = none) → Heap.SameBut a s.heap h' → HOk X.prog X.w H h' := fun {a h'} ha hs b ob e => by
    obtain ⟨_, _, hfree⟩ := ha
    refine (I.hok b ob e).stay (fun c w' hc q => (hs.2 c ?_).trans q) (fun _ q => q) fun _ _ q => q
    rintro rfl
    rcases hc with rfl | hc
    · rw [hfree] at e; cases e
    · rw [hfree] at hc; cases hc
  rcases hx with hk | hk
  · refine wpAny_storeName_local hk hn (fun h' hn' hs => ?_) hcls
    obtain ⟨oL, _, _, hoL, _⟩ := id hn
    refine h _ ⟨I.ok, I.os, I.bare, ⟨fun b o e n hb hx => ?_, fun b o e n hb hx => ?_, I.base.free, fun b o e hx => ?_, I.base.tups, I.base.frzs, I.base.tbls⟩, ⟨_, hn', fun j y v' e1 e2 e3 => ?_⟩, fun y c e => ?_, I.free, I.freeC, fun p hp => ?_, tracked ⟨oL, hoL, I.free⟩ hs, by simpa using I.len⟩ ⟨_, hs, .inl rfl⟩
    · exact (hs.2 b (Nat.ne_of_lt (Nat.lt_of_lt_of_le (Heap.lt_size e) I.ok.above))).trans (I.base.keep b o e n hb hx)
    · obtain ⟨sl, e1⟩ := I.base.slot b o e n hb hx
      exact ⟨sl, (hs.2 b (Nat.ne_of_lt (Nat.lt_of_lt_of_le (Heap.lt_size e) I.ok.above))).trans e1⟩
    · obtain ⟨o', e1⟩ := I.base.there b o e hx
      exact ⟨o', (hs.2 b (Nat.ne_of_lt (Nat.lt_of_lt_of_le (Heap.lt_size e) I.ok.above))).trans e1⟩
    · by_cases hj : j = i
      · subst hj
        rw [hi] at e1; cases e1
        rw [List.getElem?_set_self hiσ] at e2
        cases e2
        exact ⟨u, r, .inl ⟨hk, by simp⟩⟩
      · rw [List.getElem?_set_ne (Ne.symm hj)] at e2
        obtain ⟨u', r', q⟩ := hl j y v' e1 e2 e3
        refine ⟨u', r', ?_⟩
        rcases q with ⟨k, e⟩ | ⟨k, c, e, z⟩
        · refine .inl ⟨k, ?_⟩
          have : y ≠ x := fun e => hj (nodup_ix hN e1 (e ▸ hi))
          simp [this, e]
        · exact .inr ⟨k, c, e, z.sameBut hs (cne y c e)⟩
    · obtain ⟨w', z⟩ := I.cell y c e
      exact ⟨w', z.sameBut hs (cne y c e)⟩
    · obtain ⟨e, n, ne, nf, d⟩ := I.pin p hp
      exact ⟨(hs.2 p.1 ne).trans e, n, ne, nf, d⟩
  · have hfn : X.fn x = true := by
      rcases hf with z | z
      · exact z
      · rw [z] at hk; cases hk
    obtain ⟨c, hc⟩ := I.ok.has x (.inl hk)
    obtain ⟨w', z⟩ := I.cell x c hc
    refine wpAny_storeName_cell I.ok.kind hk hc z (fun h' hc' hs => ?_)
    obtain ⟨oc, hoc, hocd⟩ := id z
    refine h { s with heap := h' } ⟨I.ok, I.os, I.bare, ⟨fun b o e n hb hx => ?_, fun b o e n hb hx => ?_, I.base.free, fun b o e hx => ?_, I.base.tups, I.base.frzs, I.base.tbls⟩, ⟨m, hn.sameBut hs (Ne.symm (cne x c hc)), fun j y v' e1 e2 e3 => ?_⟩, fun y c' e => ?_, I.free, I.freeC, fun p hp => ?_, tracked ⟨oc, hoc, I.freeC x c hc⟩ hs, by simpa using I.len⟩ ⟨c, hs, .inr hc⟩
    · exact (hs.2 b (Nat.ne_of_lt (Nat.lt_of_lt_of_le (Heap.lt_size e) (I.ok.cab x c hfn hc)))).trans (I.base.keep b o e n hb hx)
    · obtain ⟨sl, e1⟩ := I.base.slot b o e n hb hx
      exact ⟨sl, (hs.2 b (Nat.ne_of_lt (Nat.lt_of_lt_of_le (Heap.lt_size e) (I.ok.cab x c hfn hc)))).trans e1⟩
    · obtain ⟨o', e1⟩ := I.base.there b o e hx
      exact ⟨o', (hs.2 b (Nat.ne_of_lt (Nat.lt_of_lt_of_le (Heap.lt_size e) (I.ok.cab x c hfn hc)))).trans e1⟩
    · by_cases hj : j = i
      · subst hj
        rw [hi] at e1; cases e1
        rw [List.getElem?_set_self hiσ] at e2
        cases e2
        exact ⟨u, r, .inr ⟨.inl hk, c, hc, hc'⟩⟩
      · rw [List.getElem?_set_ne (Ne.symm hj)] at e2
        obtain ⟨u', r', q⟩ := hl j y v' e1 e2 e3
        refine ⟨u', r', ?_⟩
        rcases q with q | ⟨k, c', e, z'⟩
        · exact .inl q
        · refine .inr ⟨k, c', e, z'.sameBut hs ?_⟩
          rintro rfl
          exact hj (nodup_ix hN e1 (I.ok.inj _ _ _ e hc ▸ hi))
    · by_cases hcc : c' = c
      · subst hcc; exact ⟨_, hc'⟩
      · obtain ⟨w2, z2⟩ := I.cell y c' e
        exact ⟨w2, z2.sameBut hs hcc⟩
    · obtain ⟨e, n, ne, nf, d⟩ := I.pin p hp
      refine ⟨(hs.2 p.1 ?_).trans e, n, ne, nf, d⟩
      intro q
      rw [q, hoc] at e
      have q' : oc = p.2 := Option.some.inj e
      exact d w' (by rw [← q']; exact hocd)
theorem store_ok {M : Model} {A : Around} {E : Value → Shared → Prop} {i : Nat} {x : Str} {v : V} {u : Value} {Q : Unit → Shared → Prop} (I : Inv X pins σ H s) (hN : X.N.Nodup) (hi : X.N[i]? = some x) (hx : Loc X.env.scope x) (r : RelV v u)
    (h : ∀ s', Inv X pins (σ.set i (some v)) H s' → Q () s') (hf : X.fn x = true ∨ X.env.scope.names.lookup x = some .local := by first | exact .inl rfl | exact .inr rfl | assumption) : wpAny M A (storeName X.env x u) Q E s :=
  store_ok2 I hN hi hx r (fun s' I' _ => h s' I') hf
/-- behind a call or a block, the state as it is -/
theorem Inv.call' {s' : Shared} {ch : List Addr} (I : Inv X pins σ H s) (ho : s'.os = s.os) (u : Un (frs X.stack) ch H H' s.heap s'.heap) (hok : HOk X.prog X.w H' s'.heap) (hg : AllBare s'.gens)
    (hch : ∀ b ∈ ch, (b ∈ X.ex ∨ X.s₀.heap.objs.size ≤ b) ∧ b ≠ X.env.locals ∧ (∀ x c, X.env.cells.lookup x = some c → c ≠ b) ∧ ∀ p ∈ X.pn ++ pins, p.1 ≠ b) : Inv X pins σ H' s' := by
  obtain ⟨h', g', d', t', o'⟩ := s'
  have e : o' = s.os := ho
  subst e
  exact I.call (g' := g') (t' := t') (d' := d') u hok hg hch
end

/-! ### the judgements -/
/-- an exception: its class, its own dict's address (where it has one), the abstract heap behind it -/
abbrev XK := Value → Option Addr → Hp → Prop
abbrev St := List (Option V)
abbrev VK := V → Hp → Prop
/-- an expression's reading; a test's; an argument list's -/
abbrev TE := St → Hp → VK → Prop
abbrev TT := St → Hp → (Bool → Hp → Prop) → Prop
abbrev TA := St → Hp → (List V → Hp → Prop) → Prop
/-- what is wanted behind a statement -/
structure Ends where
  nx : St → Hp → Prop
  rt : VK
  bk : St → Hp → Prop := fun _ _ => False
  ct : St → Hp → Prop := fun _ _ => False
abbrev TS := Ends → St → Hp → Prop

def EP (X : Cx) (pins : List (Addr × Obj)) (σ : St) (Q : VK) (u : Value) (s' : Shared) : Prop := ∃ v H', Inv X pins σ H' s' ∧ RelV v u ∧ Q v H'
def TP (X : Cx) (pins : List (Addr × Obj)) (σ : St) (Q : Bool → Hp → Prop) (b : Bool) (s' : Shared) : Prop := ∃ H', Inv X pins σ H' s' ∧ Q b H'
def AP (X : Cx) (pins : List (Addr × Obj)) (σ : St) (Q : List V → Hp → Prop) (us : List Value) (s' : Shared) : Prop := ∃ vs H', Inv X pins σ H' s' ∧ Vals vs us ∧ Q vs H'
def SP (X : Cx) (pins : List (Addr × Obj)) (D : Ends) (f : Flow) (s' : Shared) : Prop :=
  match f with
  | .next => ∃ σ' H', Inv X pins σ' H' s' ∧ D.nx σ' H'
  | .brk => ∃ σ' H', Inv X pins σ' H' s' ∧ D.bk σ' H'
  | .cont => ∃ σ' H', Inv X pins σ' H' s' ∧ D.ct σ' H'
  | .ret u => ∃ v σ' H', Inv X pins σ' H' s' ∧ RelV v u ∧ D.rt v H'

def PE (X : Cx) (e : Expr) (t : TE) : Prop :=
  ∀ (pins : List (Addr × Obj)) (s : Shared) (σ : St) (H : Hp) (Q : VK), Inv X pins σ H s → t σ H Q → wpAny (model X.prog X.w) X.A (eval e X.env) (EP X pins σ Q) X.xe s
def PT (X : Cx) (e : Expr) (t : TT) : Prop :=
  ∀ (pins : List (Addr × Obj)) (s : Shared) (σ : St) (H : Hp) (Q : Bool → Hp → Prop), Inv X pins σ H s → t σ H Q → wpAny (model X.prog X.w) X.A (isTrue e X.env (eval e X.env)) (TP X pins σ Q) X.xe s
/-- a test whatever its 'whole' is (and, or) -/
def PW (X : Cx) (e : Expr) (t : TT) : Prop :=
  ∀ (whole : Sem Value) (pins : List (Addr × Obj)) (s : Shared) (σ : St) (H : Hp) (Q : Bool → Hp → Prop), Inv X pins σ H s → t σ H Q → wpAny (model X.prog X.w) X.A (isTrue e X.env whole) (TP X pins σ Q) X.xe s
theorem PW.pt {X : Cx} {e : Expr} {t : TT} (h : PW X e t) : PT X e t := h _
/-- an argument list (no star), from the left -/
def PA (X : Cx) (es : List Expr) (t : TA) : Prop :=
  ∀ (pos : Pos) (pins : List (Addr × Obj)) (s : Shared) (σ : St) (H : Hp) (Q : List V → Hp → Prop), Inv X pins σ H s → t σ H Q → wpAny (model X.prog X.w) X.A (spliced (backTo pos (starEach es X.env))) (AP X pins σ Q) X.xe s
def PS (X : Cx) (st : Stmt) (t : TS) : Prop :=
  ∀ (pins : List (Addr × Obj)) (s : Shared) (σ : St) (H : Hp) (D : Ends), Inv X pins σ H s → t D σ H → wpAny (model X.prog X.w) X.A (exec st X.env) (SP X pins D) X.xe s
def PSs (X : Cx) (st : List Stmt) (t : TS) : Prop :=
  ∀ (pins : List (Addr × Obj)) (s : Shared) (σ : St) (H : Hp) (D : Ends), Inv X pins σ H s → t D σ H → wpAny (model X.prog X.w) X.A (execs st X.env) (SP X pins D) X.xe s
/-- weaken the end -/
theorem thn {α : Type} {t : Sem α} {Q Q' : α → Shared → Prop} {M : Model} {A : Around} {E : Value → Shared → Prop} {s : Shared} (h : wpAny M A t Q E s) (hQ : ∀ a s, Q a s → Q' a s) : wpAny M A t Q' E s := wpAny_mono h hQ fun _ _ x => x
end L2

namespace L2
open PySem PySem.Spec PyProof.Rows
section
variable {X : Cx}

/-! ### names and constants -/
def tVar (i : Nat) : TE := fun σ H Q => ∃ v, σ[i]? = some (some v) ∧ Q v H
def tC (v : V) : TE := fun _ H Q => Q v H
theorem pe_var {i : Nat} {x : Str} {pos : Pos} (hN : X.N[i]? = some x) (hv : Vis X.env.scope x) (hd : (x == ("__debug__" : Str)) = false := by decide) (hcd : (x == ("__classdict__" : Str)) = false := by decide) : PE X (.Name x pos) (tVar i) := by
  intro pins s σ H Q I h
  obtain ⟨v, e, h⟩ := h
  obtain ⟨m, hn, hl⟩ := I.loc
  obtain ⟨u, r, l⟩ := hl i x v hN e hv
  have fin : EP X pins σ Q u s := ⟨v, H, I, r, h⟩
  rcases l with ⟨hk, hm⟩ | ⟨hk, c, hc, hcell⟩
  · exact wpAny_Name (wpAny_loadName_local I.ok.kind hk hn hm fin) hd
  · rcases hk with hk | hk
    · exact wpAny_Name (wpAny_loadName_cell I.ok.kind hk hc hcell fin) hd
    · exact wpAny_Name (wpAny_loadName_free I.ok.kind hk hc hcell fin hcd) hd
theorem pe_int {i j pos} : PE X (.Constant (.int i) j pos) (tC (.int i)) := fun _ _ _ H _ I h => wpAny_Constant_int ⟨.int i, H, I.tok _, ⟨_, rfl⟩, h⟩
theorem pe_bl {b j pos} : PE X (.Constant (.bool b) j pos) (tC (.bl b)) := fun _ _ _ H _ I h => Constant_bool ⟨.bl b, H, I, rfl, h⟩
theorem pe_non {j pos} : PE X (.Constant .none j pos) (tC .non) := fun _ _ _ H _ I h => Constant_none ⟨.non, H, I, rfl, h⟩
/-- a global name of the def -/
def Gl (X : Cx) (x : Str) : Prop := X.env.kindOf x = some .globalImplicit
theorem ld_glob {E : Value → Shared → Prop} {pins : List (Addr × Obj)} {s : Shared} {σ : St} {H : Hp} {x : Str} {u : Value} {pos : Pos} {Q : Value → Shared → Prop} (I : Inv X pins σ H s) (hg : Gl X x) (hm : X.mg x = some u) (h : Q u s)
    (hd : (x == ("__debug__" : Str)) = false := by decide) : wpAny (model X.prog X.w) X.A (eval (.Name x pos) X.env) Q E s :=
  Calls.Name_function_global I.ok.kind hg (Calls.loadGlobal_global (by rw [I.ok.glob]; exact I.mod.glob.keeps I.bk) hm h) hd
theorem ld_blt {E : Value → Shared → Prop} {pins : List (Addr × Obj)} {s : Shared} {σ : St} {H : Hp} {x : Str} {u : Value} {pos : Pos} {Q : Value → Shared → Prop} (I : Inv X pins σ H s) (hg : Gl X x) (hm : X.mg x = none) (hv : bootBuiltins x = some u) (h : Q u s)
    (hn : x ≠ "__name__" := by decide) (hd : (x == ("__debug__" : Str)) = false := by decide) : wpAny (model X.prog X.w) X.A (eval (.Name x pos) X.env) Q E s := by
  obtain ⟨mb, h1, h2⟩ := I.mod.blt
  exact Calls.Name_function_global I.ok.kind hg (Calls.loadGlobal_builtin (by rw [I.ok.glob]; exact I.mod.glob.keeps I.bk) hm (by rw [I.ok.blt]; exact h1.keeps I.bk) ((h2 x hn).trans hv) h) hd
theorem pe_bltn {x : Str} {v : V} {u : Value} {pos : Pos} (hg : Gl X x) (hm : X.mg x = none) (hv : bootBuiltins x = some u) (r : RelV v u) (hn : x ≠ "__name__" := by decide) (hd : (x == ("__debug__" : Str)) = false := by decide) : PE X (.Name x pos) (tC v) :=
  fun _ _ _ H _ I h => ld_blt I hg hm hv ⟨v, H, I, r, h⟩ hn hd

/-! ### arithmetic -/
variable {a b : Expr} {ta tb : TE} {pos : Pos}
/-! ### comparisons -/
theorem nobehind (b : Expr) {op : CmpOp} (h : op ≠ .In) (h2 : op ≠ .NotIn) : behindInMarks op b = false := by
  have e1 : (op == CmpOp.In) = false := by cases op <;> first | rfl | exact absurd rfl h
  have e2 : (op == CmpOp.NotIn) = false := by cases op <;> first | rfl | exact absurd rfl h2
  cases b <;> simp [behindInMarks, e1, e2]
/-! ### and, or, not -/
variable {tA tB' : TT} {rest : List Expr}
end
end L2

namespace L2
open PySem PySem.Spec PyProof.Rows

/-! ### a list, a tuple that is read: tracked, frozen, or an object of the module -/
def SqL (K : PySem.W.Frag) (H : Hp) (a : Addr) (xs : List V) : Prop :=
  Rd H a (.lst xs) ∨
    ∃ (o : Obj) (its : Array Value) (n : Nat), K.lookup a = some o ∧ o.cls = .type "list" ∧ o.dict = none ∧ o.data = .seq its n ∧ its.size ≤ sizeLine ∧ Vals xs its.toList
def SqT (K : PySem.W.Frag) (H : Hp) (a : Addr) (xs : List V) : Prop :=
  Rd H a (.tup xs) ∨
    ∃ (o : Obj) (its : Array Value) (n : Nat), K.lookup a = some o ∧ o.cls = .type "tuple" ∧ o.data = .seq its n ∧ its.size ≤ sizeLine ∧ Vals xs its.toList
def absV : Value → Option V
  | .none => some .non
  | .bool b => some (.bl b)
  | .int i _ => some (.int i)
  | .str x _ => some (.str x)
  | .bytes b _ => some (.byt b)
  | .float b _ => some (.flt b)
  | .ref a => some (.ref a)
  | .type n => some (.ty n)
  | _ => none
theorem RelV.abs {x : V} {u : Value} (r : RelV x u) : absV u = some x := by
  cases x with
  | non => cases r; rfl
  | bl _ => cases r; rfl
  | int _ => obtain ⟨t, rfl⟩ := r; rfl
  | str _ => obtain ⟨t, rfl⟩ := r; rfl
  | byt _ => obtain ⟨t, rfl⟩ := r; rfl
  | flt _ => obtain ⟨t, rfl⟩ := r; rfl
  | ref _ => cases r; rfl
  | ty _ => cases r; rfl
theorem RelV.inj {x y : V} {u : Value} (r : RelV x u) (q : RelV y u) : x = y := Option.some.inj (r.abs.symm.trans q.abs)
theorem Vals.inj : ∀ {xs ys : List V} {us : List Value}, Vals xs us → Vals ys us → xs = ys
  | _, _, _, .nil, .nil => rfl
  | _, _, _, .cons r t, .cons r' t' => by rw [r.inj r', Vals.inj t t']
section
variable {X : Cx} {pins : List (Addr × Obj)} {σ : St} {H : Hp} {s : Shared} {a : Addr} {xs ys : List V}
theorem SqL.of {K : PySem.W.Frag} (h : H a = some (.lst xs)) : SqL K H a xs := .inl (.inl h)
theorem SqT.of {K : PySem.W.Frag} (h : H a = some (.tup xs)) : SqT K H a xs := .inl (.inl h)
theorem Inv.list (I : Inv X pins σ H s) (h : SqL X.K H a xs) : ∃ its : List Value, Vals xs its ∧ PlainL s.heap a its.toArray ∧ xs.length ≤ sizeLine := by
  rcases h with h | ⟨o, its, n, hk, hc, hd, hs, hz, r⟩
  · obtain ⟨z, its, n, r, e⟩ := h.ok I.hok
    exact ⟨its, r, ⟨_, n, e, rfl, rfl, rfl⟩, z⟩
  · refine ⟨its.toList, r, ⟨o, n, I.kIn a o hk, hc, hd, by simpa using hs⟩, ?_⟩
    have e := r.length
    simp only [Array.length_toList] at e
    omega
theorem Inv.tuple (I : Inv X pins σ H s) (h : SqT X.K H a xs) : ∃ its : List Value, Vals xs its ∧ IsTup s.heap a its.toArray ∧ xs.length ≤ sizeLine := by
  rcases h with h | ⟨o, its, n, hk, hc, hs, hz, r⟩
  · obtain ⟨z, its, r, p⟩ := h.ok I.hok
    exact ⟨its, r, p, z⟩
  · refine ⟨its.toList, r, ⟨o, I.kIn a o hk, hc, n, by simpa using hs⟩, ?_⟩
    have e := r.length
    simp only [Array.length_toList] at e
    omega
theorem Inv.list_inj (I : Inv X pins σ H s) (h : SqL X.K H a xs) (h' : SqL X.K H a ys) : xs = ys := by
  obtain ⟨its, r, ⟨o, n, e, _, _, d⟩, _⟩ := I.list h
  obtain ⟨its', r', ⟨o', n', e', _, _, d'⟩, _⟩ := I.list h'
  rw [e] at e'; cases e'
  rw [d] at d'
  injection d' with d1 _
  have : its = its' := by simpa using congrArg Array.toList d1
  subst this
  exact r.inj r'
theorem Inv.tuple_inj (I : Inv X pins σ H s) (h : SqT X.K H a xs) (h' : SqT X.K H a ys) : xs = ys := by
  obtain ⟨its, r, ⟨o, e, _, n, d⟩, _⟩ := I.tuple h
  obtain ⟨its', r', ⟨o', e', _, n', d'⟩, _⟩ := I.tuple h'
  rw [e] at e'; cases e'
  rw [d] at d'
  injection d' with d1 _
  have : its = its' := by simpa using congrArg Array.toList d1
  subst this
  exact r.inj r'
end

/-! ### another wish about exceptions -/
abbrev Cx.wish (X : Cx) (E : Value → Shared → Prop) : Cx := { X with xe := E }
/-- no exception leaves -/
abbrev Cx.nox (X : Cx) : Cx := X.wish fun _ _ => False
theorem Cx.Ok.wish {X : Cx} (ok : X.Ok) (E : Value → Shared → Prop) : (X.wish E).Ok :=
  ⟨ok.mod, ok.kind, ok.glob, ok.blt, ok.above, ok.inj, ok.has, ok.cab, ok.hd, ok.frames, ok.stk, ok.exf, ok.bs, ok.bsz, ok.noex, ok.exfs, ok.funs, ok.frf⟩
theorem Cx.Ok.unwish {X : Cx} {E : Value → Shared → Prop} (ok : (X.wish E).Ok) : X.Ok :=
  ⟨ok.mod, ok.kind, ok.glob, ok.blt, ok.above, ok.inj, ok.has, ok.cab, ok.hd, ok.frames, ok.stk, ok.exf, ok.bs, ok.bsz, ok.noex, ok.exfs, ok.funs, ok.frf⟩
section
variable {X : Cx} {pins : List (Addr × Obj)} {σ : St} {H : Hp} {s : Shared} {E : Value → Shared → Prop}
theorem Inv.wish (I : Inv X pins σ H s) (E : Value → Shared → Prop) : Inv (X.wish E) pins σ H s := ⟨I.ok.wish E, I.os, I.bare, I.base, I.loc, I.cell, I.free, I.freeC, I.pin, I.hok, I.len⟩
theorem Inv.unwish (I : Inv (X.wish E) pins σ H s) : Inv X pins σ H s := ⟨I.ok.unwish, I.os, I.bare, I.base, I.loc, I.cell, I.free, I.freeC, I.pin, I.hok, I.len⟩
theorem SP.unwish {D : Ends} {f : Flow} {s' : Shared} (h : SP (X.wish E) pins D f s') : SP X pins D f s' := by
  cases f with
  | next => obtain ⟨σ', H', I, q⟩ := h; exact ⟨σ', H', I.unwish, q⟩
  | brk => obtain ⟨σ', H', I, q⟩ := h; exact ⟨σ', H', I.unwish, q⟩
  | cont => obtain ⟨σ', H', I, q⟩ := h; exact ⟨σ', H', I.unwish, q⟩
  | ret u => obtain ⟨v, σ', H', I, r, q⟩ := h; exact ⟨v, σ', H', I.unwish, r, q⟩
theorem PE.nox {e : Expr} {t : TE} (h : PE X.nox e t) : PE X e t := fun pins s σ H Q I hw =>
  wpAny_mono (h pins s σ H Q (I.wish _) hw) (fun _ _ ⟨v, H', I', r, q⟩ => ⟨v, H', I'.unwish, r, q⟩) fun _ _ z => False.elim z
theorem PT.nox {e : Expr} {t : TT} (h : PT X.nox e t) : PT X e t := fun pins s σ H Q I hw =>
  wpAny_mono (h pins s σ H Q (I.wish _) hw) (fun _ _ ⟨H', I', q⟩ => ⟨H', I'.unwish, q⟩) fun _ _ z => False.elim z
theorem PSs.nox {st : List Stmt} {t : TS} (h : PSs X.nox st t) : PSs X st t := fun pins s σ H D I hw =>
  wpAny_mono (h pins s σ H D (I.wish _) hw) (fun _ _ q => q.unwish) fun _ _ z => False.elim z
end

/-! ### blocks and small statements -/
section
variable {X : Cx} {st : Stmt} {rest : List Stmt} {t u : TS} {e : Expr} {te : TE} {pos : Pos}
def tNext : TS := fun D σ H => D.nx σ H
theorem pss_nil : PSs X [] tNext := fun _ _ σ H _ I h => wpAny_execs_nil ⟨σ, H, I, h⟩
theorem pss_one (h1 : PS X st t) : PSs X [st] t := by
  intro pins s σ H D I h
  refine wpAny_execs_cons (thn (h1 pins s σ H D I h) fun f s1 q => ?_)
  cases f with
  | next => exact wpAny_execs_nil q
  | ret v => exact q
  | brk => exact q
  | cont => exact q
/-- in a def's body nothing is shown -/
theorem Inv.quiet {pins : List (Addr × Obj)} {σ : St} {H : Hp} {s : Shared} (I : Inv X pins σ H s) : interactive X.env = false := by simp [interactive, I.ok.kind]
/-- an expression whose value is dropped -/
def tDrop (te : TE) : TS := fun D σ H => te σ H fun _ H1 => D.nx σ H1
theorem ps_expr (he : PE X e te) (hs : swapsWith e none pos.line X.env = pure false := by rfl) : PS X (.Expr e pos) (tDrop te) := by
  intro pins s σ H D I h
  exact wpAny_Expr_any (thn (he pins s σ H _ I h) fun v s1 ⟨x, H1, I1, r1, q1⟩ => ⟨σ, H1, I1, q1⟩) I.quiet hs
def tIfS (c : TT) (t u : TS) : TS := fun D σ H => c σ H fun b H1 => if b = true then t D σ H1 else u D σ H1
theorem ps_if {c : Expr} {a b : List Stmt} {tc : TT} (hc : PT X c tc) (ha : PSs X a t) (hb : PSs X b u) : PS X (.If c a b pos) (tIfS tc t u) := by
  intro pins s σ H D I h
  refine wpAny_If (thn (hc pins s σ H _ I h) fun d s1 ⟨H1, I1, q1⟩ => ?_)
  cases d with
  | true => exact ha pins s1 σ H1 D I1 q1
  | false => exact hb pins s1 σ H1 D I1 q1
/-- code that the proof never comes to -/
def tNever : TS := fun _ _ _ => False
theorem pss_never {sts : List Stmt} : PSs X sts tNever := fun _ _ _ _ _ _ h => h.elim
end

/-! ### targets -/
abbrev TG := V → St → Hp → (St → Hp → Prop) → Prop
def PG (X : Cx) (target : Expr) (t : TG) : Prop :=
  ∀ (pins : List (Addr × Obj)) (s : Shared) (σ : St) (H : Hp) (v : V) (u : Value) (Q : St → Hp → Prop), Inv X pins σ H s → RelV v u → t v σ H Q →
    wpAny (model X.prog X.w) X.A (assign target X.env u) (fun _ s' => ∃ σ' H', Inv X pins σ' H' s' ∧ Q σ' H') X.xe s
section
variable {X : Cx} {pos : Pos}
def gName (i : Nat) : TG := fun v σ H Q => Q (σ.set i (some v)) H
theorem pg_name {i : Nat} {x : Str} (hN : X.N.Nodup) (hi : X.N[i]? = some x) (hx : Loc X.env.scope x) (hf : X.fn x = true ∨ X.env.scope.names.lookup x = some .local := by first | exact .inl rfl | exact .inr rfl | assumption) : PG X (.Name x pos) (gName i) := by
  intro pins s σ H v u Q I r h
  exact wpAny_assign_Name (store_ok I hN hi hx r (fun s' I' => ⟨_, H, I', h⟩) hf)
end

/-! ### while -/
section
variable {X : Cx} {pos : Pos}
end

/-! ### what a loop or a comprehension walks -/
/-- at turn i: it yields x (the heap may grow), or it stops -/
structure It where
  go : Nat → Hp → Prop
  yld : Nat → Hp → V → Hp → Prop
  stop : Nat → Hp → Prop
/-- the iterator's own objects may turn: they are not the frame's, not pinned, younger than the entry (or a comprehension's own) -/
def FpOk (X : Cx) (pins : List (Addr × Obj)) (H : Hp) (b : Addr) : Prop :=
  H b = none ∧ b ≠ X.env.locals ∧ b ∉ X.fs ∧ (b ∈ X.ex ∨ X.s₀.heap.objs.size ≤ b) ∧ (∀ x c, X.env.cells.lookup x = some c → c ≠ b) ∧ ∀ p ∈ X.pn ++ pins, p.1 ≠ b
theorem Inv.fpOk {X : Cx} {pins : List (Addr × Obj)} {σ : St} {H H' : Hp} {s : Shared} {b : Addr} (I : Inv X pins σ H s) (hb : s.heap.objs.size ≤ b) (hn : H' b = none) : FpOk X pins H' b := by
  refine ⟨hn, Nat.ne_of_gt (Nat.lt_of_lt_of_le I.lt hb), I.nofs hb, .inr (Nat.le_trans I.sz hb), fun x c e z => ?_, fun p hp z => ?_⟩
  · obtain ⟨v, q⟩ := I.cell x c e
    exact absurd (Nat.lt_of_lt_of_le q.lt (by rw [z]; exact hb)) (Nat.lt_irrefl _)
  · exact absurd (Nat.lt_of_lt_of_le (Heap.lt_size (I.pin p hp).1) (by rw [z]; exact hb)) (Nat.lt_irrefl _)
structure Turn (P : Program) (w : World) (K : PySem.W.Frag) (tg : Expr) (J : It) (fp : List Addr) (it : Addr) (tn : Nat → Heap → Prop) : Prop where
  mem : it ∈ fp
  obj : ∀ i h, tn i h → ∀ b ∈ fp, ∃ o, h.get? b = some o ∧ ∀ v, o.data ≠ .cell v
  keep : ∀ i h h', tn i h → (∀ b ∈ fp, ∀ o, h.get? b = some o → h'.get? b = some o) → tn i h'
  item : ∀ (X : Cx), X.prog = P → X.w = w → X.K = K → X.calm = true → ∀ (i : Nat) (pins : List (Addr × Obj)) (s : Shared) (σ : St) (H : Hp) (E : Value → Shared → Prop), Inv X pins σ H s → (∀ b ∈ fp, FpOk X pins H b) → tn i s.heap → J.go i H →
    wpAny (model P w) X.A (pyNext (.ref it)) (fun r s1 => ∃ u, r = some u ∧
      wpAny (model P w) X.A (letOwnedTupleGo tg (.ref it) u) (fun _ s2 => ∃ x H', Inv X pins σ H' s2 ∧ RelV x u ∧ J.yld i H x H' ∧ tn (i + 1) s2.heap ∧ ∀ b ∈ fp, H' b = none) E s1) E s
  done : ∀ (X : Cx), X.prog = P → X.w = w → X.K = K → X.calm = true → ∀ (i : Nat) (pins : List (Addr × Obj)) (s : Shared) (σ : St) (H : Hp) (E : Value → Shared → Prop), Inv X pins σ H s → (∀ b ∈ fp, FpOk X pins H b) → tn i s.heap → J.stop i H →
    wpAny (model P w) X.A (pyNext (.ref it)) (fun r s1 => r = none ∧ Inv X pins σ H s1) E s
  self : ∀ (A : Around) (i : Nat) (s : Shared) (Q : Value → Shared → Prop) (E : Value → Shared → Prop), tn i s.heap → Q (.ref it) s → wpAny (model P w) A (pyIter (.ref it)) Q E s
abbrev TI := St → Hp → (It → Hp → Prop) → Prop
/-- an iterator has come -/
def PIE (X : Cx) (pins : List (Addr × Obj)) (σ : St) (tg : Expr) (R : It → Hp → Prop) (itv : Value) (s2 : Shared) : Prop :=
  ∃ (it : Addr) (fp : List Addr) (tn : Nat → Heap → Prop) (J : It) (H' : Hp), itv = .ref it ∧ Inv X pins σ H' s2 ∧ Turn X.prog X.w X.K tg J fp it tn ∧ tn 0 s2.heap ∧ (∀ b ∈ fp, FpOk X pins H' b) ∧ R J H'
def PI (X : Cx) (tg iter : Expr) (wi : TI) : Prop :=
  ∀ (pins : List (Addr × Obj)) (s : Shared) (σ : St) (H : Hp) (R : It → Hp → Prop), Inv X pins σ H s → wi σ H R →
    wpAny (model X.prog X.w) X.A (eval iter X.env) (fun v s1 => wpAny (model X.prog X.w) X.A (pyIter v) (PIE X pins σ tg R) X.xe s1) X.xe s

/-- the step ahead of the store is nothing for an iterator that keeps no tuple -/
theorem go_of {M : Model} {A : Around} {E : Value → Shared → Prop} {s : Shared} {tg : Expr} {it : Addr} {u : Value} {o : Obj} {n : String} {vs : Array Value} {Q : Unit → Shared → Prop} (ho : s.heap.get? it = some o) (hc : o.cls = .type n) (hd : o.data = .fields vs)
    (hn : ["enumerate", "zip", "dict_itemiterator", "dict_reverseitemiterator", "odict_iterator", "itertools.zip_longest", "itertools.pairwise"].contains n = false) (hQ : Q () s) : wpAny M A (letOwnedTupleGo tg (.ref it) u) Q E s := by
  unfold letOwnedTupleGo
  cases tg <;> first
    | exact wpAny_pure hQ
    | (cases u <;> first
        | exact wpAny_pure hQ
        | (refine wpAny_bind (wpAny_load ho ?_)
           rw [hc, hd]
           show wpAny M A (if (["enumerate", "zip", "dict_itemiterator", "dict_reverseitemiterator", "odict_iterator", "itertools.zip_longest", "itertools.pairwise"].contains n && vs[0]? == some (rawInt _)) = true then _ else _) Q E s
           rw [if_neg (by intro h; rw [hn, Bool.false_and] at h; cases h)]
           exact wpAny_pure hQ))

/-- the list at a, as it stands at each turn (a loop may append to it) -/
def Itl (K : PySem.W.Frag) (a : Addr) : It :=
  ⟨fun i H => ∃ xs x, SqL K H a xs ∧ xs[i]? = some x, fun i H x H' => H' = H ∧ ∀ xs, SqL K H a xs → xs[i]? = some x, fun i H => ∃ xs, SqL K H a xs ∧ xs.length ≤ i⟩
def Itt (K : PySem.W.Frag) (a : Addr) : It :=
  ⟨fun i H => ∃ xs x, SqT K H a xs ∧ xs[i]? = some x, fun i H x H' => H' = H ∧ ∀ xs, SqT K H a xs → xs[i]? = some x, fun i H => ∃ xs, SqT K H a xs ∧ xs.length ≤ i⟩
theorem turn_list {P : Program} {w : World} {K : PySem.W.Frag} {tg : Expr} (a it : Addr) : Turn P w K tg (Itl K a) [it] it (fun i h => h.IsListIter it a i) where
  mem := by simp
  obj := fun i h st b hb => by
    have e : b = it := by simpa using hb
    subst e
    obtain ⟨o, e, c, d⟩ := st
    exact ⟨o, e, fun v z => by rw [d] at z; cases z⟩
  keep := fun i h h' st k => st.at fun o e => k it (by simp) o e
  item := by
    intro X hP hw hK hc i pins s σ H E I hf st hg
    subst hP hw hK
    obtain ⟨xs, x, hq, hx⟩ := hg
    obtain ⟨its, rv, p, hz⟩ := I.list hq
    obtain ⟨u, hu, ru⟩ := rv.get hx
    obtain ⟨f0, f1, f2, f3, f4, f5⟩ := hf it (by simp)
    refine wpAny_pyNext_list_item st p.isList (x := u) (by simpa using hu) fun h' st' sb => ?_
    have I1 : Inv X pins σ H { s with heap := h' } := I.turned (t' := s.toks) (fun b o hb e => (sb.2 b hb).trans e) f0 f1 f3 f4 f5
    obtain ⟨o, e, c, d⟩ := id st'
    exact ⟨u, rfl, go_of (s := { s with heap := h' }) e c d (by decide) ⟨x, H, I1, ru, ⟨rfl, fun ys hy => by rw [I.list_inj hy hq]; exact hx⟩, st', fun b hb => (hf b hb).1⟩⟩
  done := by
    intro X hP hw hK hc i pins s σ H E I hf st hg
    subst hP hw hK
    obtain ⟨xs, hq, hx⟩ := hg
    obtain ⟨its, rv, p, hz⟩ := I.list hq
    obtain ⟨f0, f1, f2, f3, f4, f5⟩ := hf it (by simp)
    have hl := rv.length
    exact wpAny_pyNext_list_end (I.ok.hd hc) st p.isList (by simp; omega) fun h' eb => ⟨rfl, I.turned (t' := s.toks) (fun b o hb e => eb b o hb e) f0 f1 f3 f4 f5⟩
  self := fun _ _ _ _ _ st h => wpAny_pyIter_listiter st h
theorem turn_tuple {P : Program} {w : World} {K : PySem.W.Frag} {tg : Expr} (a it : Addr) : Turn P w K tg (Itt K a) [it] it (fun i h => h.IsTupleIter it a i) where
  mem := by simp
  obj := fun i h st b hb => by
    have e : b = it := by simpa using hb
    subst e
    obtain ⟨o, e, c, d⟩ := st
    exact ⟨o, e, fun v z => by rw [d] at z; cases z⟩
  keep := fun i h h' st k => st.at fun o e => k it (by simp) o e
  item := by
    intro X hP hw hK hc i pins s σ H E I hf st hg
    subst hP hw hK
    obtain ⟨xs, x, hq, hx⟩ := hg
    obtain ⟨its, rv, p, hz⟩ := I.tuple hq
    obtain ⟨u, hu, ru⟩ := rv.get hx
    obtain ⟨f0, f1, f2, f3, f4, f5⟩ := hf it (by simp)
    refine wpAny_pyNext_tuple_item st (show s.heap.IsTuple a its.toArray from p) (x := u) (by simpa using hu) fun h' st' sb => ?_
    have I1 : Inv X pins σ H { s with heap := h' } := I.turned (t' := s.toks) (fun b o hb e => (sb.2 b hb).trans e) f0 f1 f3 f4 f5
    obtain ⟨o, e, c, d⟩ := id st'
    exact ⟨u, rfl, go_of (s := { s with heap := h' }) e c d (by decide) ⟨x, H, I1, ru, ⟨rfl, fun ys hy => by rw [I.tuple_inj hy hq]; exact hx⟩, st', fun b hb => (hf b hb).1⟩⟩
  done := by
    intro X hP hw hK hc i pins s σ H E I hf st hg
    subst hP hw hK
    obtain ⟨xs, hq, hx⟩ := hg
    obtain ⟨its, rv, p, hz⟩ := I.tuple hq
    obtain ⟨f0, f1, f2, f3, f4, f5⟩ := hf it (by simp)
    have hl := rv.length
    exact wpAny_pyNext_tuple_end (I.ok.hd hc) st (show s.heap.IsTuple a its.toArray from p) (by simp; omega) fun h' eb => ⟨rfl, I.turned (t' := s.toks) (fun b o hb e => eb b o hb e) f0 f1 f3 f4 f5⟩
  self := fun _ _ _ _ _ st h => wpAny_pyIter_tupleiter st h
end L2

namespace L2
open PySem PySem.Spec PyProof.Rows
section
variable {X : Cx} {tg : Expr}
def iList (K : PySem.W.Frag) (tl : TE) : TI := fun σ H R => tl σ H fun x H1 => ∃ a, x = .ref a ∧ (∃ xs, SqL K H1 a xs) ∧ R (Itl K a) H1
def iTup (K : PySem.W.Frag) (tl : TE) : TI := fun σ H R => tl σ H fun x H1 => ∃ a, x = .ref a ∧ (∃ xs, SqT K H1 a xs) ∧ R (Itt K a) H1
theorem pi_list {l : Expr} {tl : TE} (hl : PE X l tl) : PI X tg l (iList X.K tl) := by
  intro pins s σ H R I h
  refine thn (hl pins s σ H _ I h) fun v s1 ⟨x, H1, I1, r1, q1⟩ => ?_
  obtain ⟨a, e, ⟨xs, hq⟩, q⟩ := q1
  subst e
  cases r1
  obtain ⟨its, rv, p, hz⟩ := I1.list hq
  refine wpAny_pyIter_list p.isList ?_
  refine ⟨s1.heap.objs.size, [s1.heap.objs.size], _, _, H1, rfl, I1.kept (t' := s1.toks) fun b o e => Heap.get?_push_of_some _ e, turn_list a _, ⟨_, Heap.get?_push_size _ rfl, rfl, rfl⟩, fun b hb => ?_, q⟩
  have e : b = s1.heap.objs.size := by simpa using hb
  subst e
  exact I1.fpOk (Nat.le_refl _) (I1.hok.fresh (Nat.le_refl _))
theorem pi_tup {l : Expr} {tl : TE} (hl : PE X l tl) : PI X tg l (iTup X.K tl) := by
  intro pins s σ H R I h
  refine thn (hl pins s σ H _ I h) fun v s1 ⟨x, H1, I1, r1, q1⟩ => ?_
  obtain ⟨a, e, ⟨xs, hq⟩, q⟩ := q1
  subst e
  cases r1
  obtain ⟨its, rv, p, hz⟩ := I1.tuple hq
  refine wpAny_pyIter_tuple (show s1.heap.IsTuple a its.toArray from p) ?_
  refine ⟨s1.heap.objs.size, [s1.heap.objs.size], _, _, H1, rfl, I1.kept (t' := s1.toks) fun b o e => Heap.get?_push_of_some _ e, turn_tuple a _, ⟨_, Heap.get?_push_size _ rfl, rfl, rfl⟩, fun b hb => ?_, q⟩
  have e : b = s1.heap.objs.size := by simpa using hb
  subst e
  exact I1.fpOk (Nat.le_refl _) (I1.hok.fresh (Nat.le_refl _))
/-! ### for -/
/-- W: the invariant by the turn and a measure; N: what the body is to reach -/
def tFor (wi : TI) (g : TG) (tb : TS) : TS := fun D σ H => wi σ H fun J H1 => ∃ W : Nat → Nat → St → Hp → Prop, (∃ m, W 0 m σ H1) ∧ ∀ i m σ H, W i m σ H →
  (J.stop i H ∧ D.nx σ H) ∨ (J.go i H ∧ ∃ N : St → Hp → Prop, (∀ σ' H', N σ' H' → ∃ m', m' < m ∧ W (i + 1) m' σ' H') ∧ ∀ x H', J.yld i H x H' → g x σ H' fun σ2 H2 => tb { D with nx := N, ct := N, bk := D.nx } σ2 H2)
/-- the records at fp as they stand -/
def pinsAt (fp : List Addr) (h : Heap) : List (Addr × Obj) := fp.filterMap fun b => (h.get? b).map fun o => (b, o)
theorem mem_pinsAt {fp : List Addr} {h : Heap} {b : Addr} {o : Obj} (hb : b ∈ fp) (e : h.get? b = some o) : (b, o) ∈ pinsAt fp h := List.mem_filterMap.mpr ⟨b, hb, by rw [e]; rfl⟩
theorem of_pinsAt {fp : List Addr} {h : Heap} {p : Addr × Obj} (hp : p ∈ pinsAt fp h) : p.1 ∈ fp ∧ h.get? p.1 = some p.2 := by
  obtain ⟨b, hb, e⟩ := List.mem_filterMap.mp hp
  cases q : h.get? b with
  | none => rw [q] at e; cases e
  | some o =>
    rw [q] at e
    have e' : (b, o) = p := Option.some.inj e
    subst e'
    exact ⟨hb, q⟩
theorem Inv.pinned {pins : List (Addr × Obj)} {σ : St} {H : Hp} {s : Shared} {fp : List Addr} (I : Inv X pins σ H s) (hf : ∀ b ∈ fp, FpOk X pins H b) (ho : ∀ b ∈ fp, ∃ o, s.heap.get? b = some o ∧ ∀ v, o.data ≠ .cell v) : Inv X (pins ++ pinsAt fp s.heap) σ H s :=
  I.pins_of fun p hp => (List.mem_append.mp hp).elim (fun z => I.pin p (List.mem_append_right _ z)) fun z => by
    obtain ⟨hb, e⟩ := of_pinsAt z
    obtain ⟨f0, f1, f2, _⟩ := hf p.1 hb
    obtain ⟨o, e', d⟩ := ho p.1 hb
    rw [e] at e'; cases e'
    exact ⟨e, f0, f1, f2, d⟩
theorem Inv.unpinned {pins pl : List (Addr × Obj)} {σ : St} {H : Hp} {s : Shared} (I : Inv X (pins ++ pl) σ H s) : Inv X pins σ H s := I.pins_of fun p hp => I.pin p (List.mem_append_right _ (List.mem_append_left _ hp))
theorem ps_for {iter : Expr} {body : List Stmt} {wi : TI} {g : TG} {tb : TS} {pos : Pos} (hp : PassesOwn (model X.prog X.w) X.A X.env X.xe) (hc : X.calm = true) (hi : PI X tg iter wi) (hg : PG X tg g) (hb : PSs X body tb)
    (hs : ∀ x, foldedSetIterable iter X.env x = pure x := by intro _; rfl) : PS X (.For tg iter body [] pos) (tFor wi g tb) := by
  intro pins s σ H D I h
  refine wpAny_For (thn (hi pins s σ H _ I h) fun v s1 h1 => thn h1 fun itv s2 h2 => ?_) hs
  obtain ⟨it, fp, tn, J, H2, e, I2, T, st2, f2, W, ⟨m0, w0⟩, turn⟩ := h2
  subst e
  -- what stays true of the iterator's objects through the loop
  have stat : ∀ {H' : Hp}, (∀ b ∈ fp, H' b = none) → ∀ b ∈ fp, FpOk X pins H' b := fun hn b hb => ⟨hn b hb, (f2 b hb).2⟩
  refine codeAny_forLoop_any (fun n s' => ∃ i σ' H', Inv X pins σ' H' s' ∧ tn i s'.heap ∧ (∀ b ∈ fp, H' b = none) ∧ W i n σ' H') ?_ m0 ⟨0, σ, H2, I2, st2, fun b hb => (f2 b hb).1, w0⟩
  rintro n s3 ⟨i, σ3, H3, I3, st3, fr3, w3⟩
  rcases turn i n σ3 H3 w3 with ⟨stop, qn⟩ | ⟨go, N, hN, step⟩
  · refine wpAny_passesOwn hp (thn (T.done X rfl rfl rfl hc i pins s3 σ3 H3 X.xe I3 (stat fr3) st3 stop) fun r s4 ⟨hr, I4⟩ => ?_)
    subst hr
    exact wpAny_execs_nil ⟨σ3, H3, I4, qn⟩
  · refine wpAny_passesOwn hp (thn (T.item X rfl rfl rfl hc i pins s3 σ3 H3 X.xe I3 (stat fr3) st3 go) fun r s4 ⟨u, hr, h4⟩ => ?_)
    subst hr
    refine wpAny_passesOwn hp (thn h4 fun _ s5 ⟨x, H5, I5, r5, y5, st5, fr5⟩ => ?_)
    have I5' := I5.pinned (stat fr5) (T.obj _ _ st5)
    refine wpAny_passesOwn hp (thn (hg _ s5 σ3 H5 x u _ I5' r5 (step x H5 y5)) fun _ s6 ⟨σ6, H6, I6, q6⟩ => ?_)
    refine wpAny_passesOwn hp (thn (hb _ s6 σ6 H6 _ I6 q6) fun f s7 q7 => ?_)
    have again : ∀ {σ7 : St} {H7 : Hp}, Inv X (pins ++ pinsAt fp s5.heap) σ7 H7 s7 → N σ7 H7 → ∃ m, m < n ∧ ∃ i σ' H', Inv X pins σ' H' s7 ∧ tn i s7.heap ∧ (∀ b ∈ fp, H' b = none) ∧ W i m σ' H' := fun {σ7 H7} I7 n7 => by
      obtain ⟨m', hm, w7⟩ := hN σ7 H7 n7
      refine ⟨m', hm, i + 1, σ7, H7, I7.unpinned, T.keep _ _ _ st5 fun b hb o e => (I7.pin (b, o) (List.mem_append_right _ (List.mem_append_right _ (mem_pinsAt hb e)))).1, fun b hb => ?_, w7⟩
      obtain ⟨o, e, d⟩ := T.obj _ _ st5 b hb
      exact (I7.pin (b, o) (List.mem_append_right _ (List.mem_append_right _ (mem_pinsAt hb e)))).2.1
    cases f with
    | next => obtain ⟨σ7, H7, I7, n7⟩ := q7; exact again I7 n7
    | cont => obtain ⟨σ7, H7, I7, n7⟩ := q7; exact again I7 n7
    | brk => obtain ⟨σ7, H7, I7, q7⟩ := q7; exact ⟨σ7, H7, I7.unpinned, q7⟩
    | ret v => obtain ⟨x7, σ7, H7, I7, r7, q7⟩ := q7; exact ⟨x7, σ7, H7, I7.unpinned, r7, q7⟩
end

/-! ### the forms one uses -/
end L2

namespace L2
open PySem PySem.Spec PyProof.Rows

abbrev R2 := V → V → Hp → VK → Prop
/-- a two-place operation on values: f is binaryOp op, inplaceOp op or compareOp op -/
def OpR (X : Cx) (f : Value → Value → Sem Value) (r : R2) : Prop :=
  ∀ (pins : List (Addr × Obj)) (s : Shared) (σ : St) (H : Hp) (x y : V) (v u : Value) (Q : VK), Inv X pins σ H s → RelV x v → RelV y u → r x y H Q →
    wpAny (model X.prog X.w) X.A (f v u) (EP X pins σ Q) X.xe s
/-- a one-place operation -/
def UnR (X : Cx) (f : Value → Sem Value) (r : V → Hp → VK → Prop) : Prop :=
  ∀ (pins : List (Addr × Obj)) (s : Shared) (σ : St) (H : Hp) (x : V) (v : Value) (Q : VK), Inv X pins σ H s → RelV x v → r x H Q →
    wpAny (model X.prog X.w) X.A (f v) (EP X pins σ Q) X.xe s
/-- a call of a value that is known (a builtin, a type) with values -/
def CallR (X : Cx) (f : Value) (r : List V → Hp → VK → Prop) : Prop :=
  ∀ (pins : List (Addr × Obj)) (s : Shared) (σ : St) (H : Hp) (xs : List V) (us : List Value) (Q : VK), Inv X pins σ H s → Vals xs us → r xs H Q →
    wpAny (model X.prog X.w) X.A (call f us) (EP X pins σ Q) X.xe s
/-- ints in, under C, and a value out -/
def rI (C : Int → Int → Prop) (g : Int → Int → V) : R2 := fun x y H Q => ∃ i j, x = .int i ∧ y = .int j ∧ C i j ∧ Q (g i j) H
def rI0 (g : Int → Int → V) : R2 := fun x y H Q => ∃ i j, x = .int i ∧ y = .int j ∧ Q (g i j) H
def rU (g : Int → V) : V → Hp → VK → Prop := fun x H Q => ∃ i, x = .int i ∧ Q (g i) H

section
variable {X : Cx} {a b c : Expr} {ta tb tc : TE} {pos : Pos}

/-! ### ints -/
theorem opI {f : Value → Value → Sem Value} {C : Int → Int → Prop} {g : Int → Int → Int}
    (rule : ∀ (i j : Int) (t u : Tok) (s : Shared) (Q : Value → Shared → Prop) (E : Value → Shared → Prop), C i j → Q (.int (g i j) s.toks) { s with toks := s.toks + 1 } → wpAny (model X.prog X.w) X.A (f (.int i t) (.int j u)) Q E s) :
    OpR X f (rI C fun i j => .int (g i j)) := by
  intro pins s σ H x y v u Q I rx ry h
  obtain ⟨i, j, rfl, rfl, hc, q⟩ := h
  obtain ⟨t, rfl⟩ := rx
  obtain ⟨t', rfl⟩ := ry
  exact rule i j t t' s _ _ hc ⟨.int (g i j), H, I.tok _, ⟨_, rfl⟩, q⟩
theorem opI0 {f : Value → Value → Sem Value} {g : Int → Int → Int}
    (rule : ∀ (i j : Int) (t u : Tok) (s : Shared) (Q : Value → Shared → Prop) (E : Value → Shared → Prop), Q (.int (g i j) s.toks) { s with toks := s.toks + 1 } → wpAny (model X.prog X.w) X.A (f (.int i t) (.int j u)) Q E s) :
    OpR X f (rI0 fun i j => .int (g i j)) := by
  intro pins s σ H x y v u Q I rx ry h
  obtain ⟨i, j, rfl, rfl, q⟩ := h
  obtain ⟨t, rfl⟩ := rx
  obtain ⟨t', rfl⟩ := ry
  exact rule i j t t' s _ _ ⟨.int (g i j), H, I.tok _, ⟨_, rfl⟩, q⟩
theorem opB0 {f : Value → Value → Sem Value} {g : Int → Int → Bool}
    (rule : ∀ (i j : Int) (t u : Tok) (s : Shared) (Q : Value → Shared → Prop) (E : Value → Shared → Prop), Q (.bool (g i j)) s → wpAny (model X.prog X.w) X.A (f (.int i t) (.int j u)) Q E s) :
    OpR X f (rI0 fun i j => .bl (g i j)) := by
  intro pins s σ H x y v u Q I rx ry h
  obtain ⟨i, j, rfl, rfl, q⟩ := h
  obtain ⟨t, rfl⟩ := rx
  obtain ⟨t', rfl⟩ := ry
  exact rule i j t t' s _ _ ⟨.bl (g i j), H, I, rfl, q⟩

def CPow (i j : Int) : Prop := 0 ≤ j ∧ j ≤ 1000000 ∧ i.natAbs < 2 ^ 64
def CMul (i j : Int) : Prop := (-(2 ^ 64) < i ∧ i < 2 ^ 64) ∨ (-(2 ^ 64) < j ∧ j < 2 ^ 64)
theorem CMul.ok {i j : Int} (h : CMul i j) : IntMulOk i j := by
  rcases h with ⟨h1, h2⟩ | ⟨h1, h2⟩
  · exact .of_left (intBits_le_64 h1 h2)
  · exact .of_right (intBits_le_64 h1 h2)
theorem op_add : OpR X (binaryOp .Add) (rI0 fun i j => .int (i + j)) := opI0 fun _ _ _ _ _ _ _ q => add_int q
theorem op_sub : OpR X (binaryOp .Sub) (rI0 fun i j => .int (i - j)) := opI0 fun _ _ _ _ _ _ _ q => sub_int q
theorem op_modN : OpR X (binaryOp .Mod) (rI (fun _ j => j ≠ 0) fun i j => .int (i.fmod j)) := opI fun _ _ _ _ _ _ _ hc q => mod_int' hc q
theorem op_pow : OpR X (binaryOp .Pow) (rI CPow fun i j => .int (i ^ j.toNat)) := opI fun _ _ _ _ _ _ _ hc q => pow_int_small hc.1 hc.2.1 hc.2.2 q
theorem unI {f : Value → Sem Value} {g : Int → Int}
    (rule : ∀ (i : Int) (t : Tok) (s : Shared) (Q : Value → Shared → Prop) (E : Value → Shared → Prop), Q (.int (g i) s.toks) { s with toks := s.toks + 1 } → wpAny (model X.prog X.w) X.A (f (.int i t)) Q E s) :
    UnR X f (rU fun i => .int (g i)) := by
  intro pins s σ H x v Q I rx h
  obtain ⟨i, rfl, q⟩ := h
  obtain ⟨t, rfl⟩ := rx
  exact rule i t s _ _ ⟨.int (g i), H, I.tok _, ⟨_, rfl⟩, q⟩
theorem un_neg : UnR X (unaryOp .USub) (rU fun i => .int (-i)) := unI fun _ _ _ _ _ q => neg_int q
/-! ### bools among ints: n += (a < b) -/
end

/-! ### comparisons -/
/-- the scalars that == tells apart as data does -/
def scal : V → V → Bool
  | .non, .non => true | .non, .int _ => true | .int _, .non => true | .non, .bl _ => true | .bl _, .non => true | .non, .str _ => true | .str _, .non => true
  | .int _, .int _ => true | .bl _, .bl _ => true | .str _, .str _ => true | .byt _, .byt _ => true
  | .int _, .str _ => true | .str _, .int _ => true | .bl _, .str _ => true | .str _, .bl _ => true
  | _, _ => false
def rEq : R2 := fun x y H Q => scal x y = true ∧ Q (.bl (decide (x = y))) H
def rNe : R2 := fun x y H Q => scal x y = true ∧ Q (.bl (!decide (x = y))) H

theorem dec_int {i j : Int} : decide (V.int i = V.int j) = (i == j) := by
  rw [Bool.eq_iff_iff]
  simp
theorem dec_bl {i j : Bool} : decide (V.bl i = V.bl j) = (i == j) := by
  rw [Bool.eq_iff_iff]
  simp
theorem dec_str {i j : Str} : decide (V.str i = V.str j) = (i == j) := by
  rw [Bool.eq_iff_iff]
  simp
theorem dec_byt {i j : Array UInt8} : decide (V.byt i = V.byt j) = (i.toList == j.toList) := by
  rw [Bool.eq_iff_iff]
  cases i
  cases j
  simp

section
variable {X : Cx} {a b c : Expr} {ta tb tc : TE} {pos : Pos}
theorem fin_bl {pins : List (Addr × Obj)} {σ : St} {H : Hp} {s : Shared} {Q : VK} {k k' : Bool} (I : Inv X pins σ H s) (q : Q (.bl k) H) (e : k = k') : EP X pins σ Q (.bool k') s := by
  subst e
  exact ⟨.bl k, H, I, rfl, q⟩
theorem op_eq : OpR X (compareOp .Eq) rEq := by
  intro pins s σ H x y v u Q I rx ry h
  obtain ⟨hs, q⟩ := h
  cases x with
  | non =>
    cases rx
    cases y with
    | non => cases ry; exact PySem.EqNone.eq_none_none (fin_bl I q (by simp))
    | bl j => cases ry; exact PySem.EqNone.eq_none_bool (fin_bl I q (by simp))
    | int j => obtain ⟨t', rfl⟩ := ry; exact PySem.EqNone.eq_none_int (fin_bl I q (by simp))
    | str j => obtain ⟨t', rfl⟩ := ry; exact PySem.EqNone.eq_none_str (fin_bl I q (by simp))
    | _ => exact absurd (show false = true from hs) Bool.false_ne_true
  | bl i =>
    cases rx
    cases y with
    | non => cases ry; exact PySem.EqNone.eq_bool_none (fin_bl I q (by simp))
    | bl j => cases ry; exact eq_bool (fin_bl I q dec_bl)
    | str j => obtain ⟨t', rfl⟩ := ry; exact PySem.EqMixed.eq_bool_str (fin_bl I q (by simp))
    | _ => exact absurd (show false = true from hs) Bool.false_ne_true
  | int i =>
    obtain ⟨t, rfl⟩ := rx
    cases y with
    | non => cases ry; exact PySem.EqNone.eq_int_none (fin_bl I q (by simp))
    | int j => obtain ⟨t', rfl⟩ := ry; exact eq_int (fin_bl I q dec_int)
    | str j => obtain ⟨t', rfl⟩ := ry; exact PySem.EqMixed.eq_int_str (fin_bl I q (by simp))
    | _ => exact absurd (show false = true from hs) Bool.false_ne_true
  | str i =>
    obtain ⟨t, rfl⟩ := rx
    cases y with
    | non => cases ry; exact PySem.EqNone.eq_str_none (fin_bl I q (by simp))
    | bl j => cases ry; exact PySem.EqMixed.eq_str_bool (fin_bl I q (by simp))
    | int j => obtain ⟨t', rfl⟩ := ry; exact PySem.EqMixed.eq_str_int (fin_bl I q (by simp))
    | str j => obtain ⟨t', rfl⟩ := ry; exact eq_str (fin_bl I q dec_str)
    | _ => exact absurd (show false = true from hs) Bool.false_ne_true
  | byt i =>
    obtain ⟨t, rfl⟩ := rx
    cases y with
    | byt j => obtain ⟨t', rfl⟩ := ry; exact PySem.W.eq_bytes (fin_bl I q dec_byt)
    | _ => exact absurd (show false = true from hs) Bool.false_ne_true
  | _ => cases y <;> exact absurd (show false = true from hs) Bool.false_ne_true
theorem op_ne : OpR X (compareOp .NotEq) rNe := by
  intro pins s σ H x y v u Q I rx ry h
  obtain ⟨hs, q⟩ := h
  cases x with
  | non =>
    cases rx
    cases y with
    | non => cases ry; exact PySem.EqNone.ne_none_none (fin_bl I q (by simp))
    | bl j => cases ry; exact PySem.EqNone.ne_none_bool (fin_bl I q (by simp))
    | int j => obtain ⟨t', rfl⟩ := ry; exact PySem.EqNone.ne_none_int (fin_bl I q (by simp))
    | str j => obtain ⟨t', rfl⟩ := ry; exact PySem.EqNone.ne_none_str (fin_bl I q (by simp))
    | _ => exact absurd (show false = true from hs) Bool.false_ne_true
  | bl i =>
    cases rx
    cases y with
    | non => cases ry; exact PySem.EqNone.ne_bool_none (fin_bl I q (by simp))
    | bl j => cases ry; exact ne_bool (fin_bl I q (congrArg not dec_bl))
    | str j => obtain ⟨t', rfl⟩ := ry; exact PySem.EqMixed.ne_bool_str (fin_bl I q (by simp))
    | _ => exact absurd (show false = true from hs) Bool.false_ne_true
  | int i =>
    obtain ⟨t, rfl⟩ := rx
    cases y with
    | non => cases ry; exact PySem.EqNone.ne_int_none (fin_bl I q (by simp))
    | int j => obtain ⟨t', rfl⟩ := ry; exact ne_int (fin_bl I q (congrArg not dec_int))
    | str j => obtain ⟨t', rfl⟩ := ry; exact PySem.EqMixed.ne_int_str (fin_bl I q (by simp))
    | _ => exact absurd (show false = true from hs) Bool.false_ne_true
  | str i =>
    obtain ⟨t, rfl⟩ := rx
    cases y with
    | non => cases ry; exact PySem.EqNone.ne_str_none (fin_bl I q (by simp))
    | bl j => cases ry; exact PySem.EqMixed.ne_str_bool (fin_bl I q (by simp))
    | int j => obtain ⟨t', rfl⟩ := ry; exact PySem.EqMixed.ne_str_int (fin_bl I q (by simp))
    | str j => obtain ⟨t', rfl⟩ := ry; exact ne_str (fin_bl I q (congrArg not dec_str))
    | _ => exact absurd (show false = true from hs) Bool.false_ne_true
  | byt i =>
    obtain ⟨t, rfl⟩ := rx
    cases y with
    | byt j => obtain ⟨t', rfl⟩ := ry; exact PySem.W.ne_bytes (fin_bl I q (congrArg not dec_byt))
    | _ => exact absurd (show false = true from hs) Bool.false_ne_true
  | _ => cases y <;> exact absurd (show false = true from hs) Bool.false_ne_true

theorem op_lt : OpR X (compareOp .Lt) (rI0 fun i j => .bl (decide (i < j))) := opB0 fun _ _ _ _ _ _ _ q => lt_int q
theorem op_le : OpR X (compareOp .LtE) (rI0 fun i j => .bl (decide (i ≤ j))) := opB0 fun _ _ _ _ _ _ _ q => le_int q
theorem op_gt : OpR X (compareOp .Gt) (rI0 fun i j => .bl (decide (j < i))) := opB0 fun _ _ _ _ _ _ _ q => gt_int q
/-- is None, is not None: the right side a value none -/
theorem op_isN : OpR X (compareOp .Is) (fun x y H Q => y = .non ∧ Q (.bl (decide (x = .non))) H) := by
  intro pins s σ H x y v u Q I rx ry h
  obtain ⟨rfl, q⟩ := h
  cases ry
  refine is_none_gen (fin_bl I q ?_)
  cases x <;> first
    | (cases rx; rfl)
    | (obtain ⟨t, rfl⟩ := rx; rfl)
theorem op_notN : OpR X (compareOp .IsNot) (fun x y H Q => y = .non ∧ Q (.bl (!decide (x = .non))) H) := by
  intro pins s σ H x y v u Q I rx ry h
  obtain ⟨rfl, q⟩ := h
  cases ry
  refine isnot_none_gen (fin_bl I q ?_)
  cases x <;> first
    | (cases rx; rfl)
    | (obtain ⟨t, rfl⟩ := rx; rfl)

/-- two rules for one operation: by cases -/
theorem OpR.or {f : Value → Value → Sem Value} {r r' : R2} (h : OpR X f r) (h' : OpR X f r') : OpR X f (fun x y H Q => r x y H Q ∨ r' x y H Q) := by
  intro pins s σ H x y v u Q I rx ry q
  rcases q with q | q
  · exact h pins s σ H x y v u Q I rx ry q
  · exact h' pins s σ H x y v u Q I rx ry q

/-! ### truth -/
theorem line63 : (sizeLine : Nat) < 2 ^ 63 := by rw [sizeLine_eq]; decide
/-! ### strs and bytes -/
/-! ### scalar builtins, by CallR -/
theorem vals1 {x : V} {us : List Value} (r : Vals [x] us) : ∃ u, us = [u] ∧ RelV x u := by
  cases r with
  | cons r1 r2 => cases r2; exact ⟨_, rfl, r1⟩
theorem vals2 {x y : V} {us : List Value} (r : Vals [x, y] us) : ∃ u w', us = [u, w'] ∧ RelV x u ∧ RelV y w' := by
  cases r with
  | cons r1 r2 =>
    cases r2 with
    | cons r3 r4 => cases r4; exact ⟨_, _, rfl, r1, r3⟩
theorem call_abs : CallR X (.builtin "abs") (fun xs H Q => ∃ i, xs = [.int i] ∧ Q (.int (if i < 0 then -i else i)) H) := by
  intro pins s σ H xs us Q I r h
  obtain ⟨i, rfl, q⟩ := h
  obtain ⟨u, rfl, t, rfl⟩ := vals1 r
  exact call_abs_int fun u tk => ⟨.int (if i < 0 then -i else i), H, I.tok _, ⟨_, rfl⟩, q⟩
theorem call_max2 (hc : X.calm = true) : CallR X (.builtin "max") (fun xs H Q => ∃ i j, xs = [.int i, .int j] ∧ Q (.int (if j > i then j else i)) H) := by
  intro pins s σ H xs us Q I r h
  obtain ⟨i, j, rfl, q⟩ := h
  obtain ⟨u, w', rfl, ⟨t, rfl⟩, ⟨t', rfl⟩⟩ := vals2 r
  refine max_two_ints (I.ok.hd hc) fun h' tk k => ⟨_, H, I.kept k, ?_, q⟩
  by_cases hj : j > i
  · rw [if_pos hj, if_pos hj]; exact ⟨_, rfl⟩
  · rw [if_neg hj, if_neg hj]; exact ⟨_, rfl⟩
theorem call_int1 : CallR X (.type "int") (fun xs H Q => (∃ i, xs = [.int i] ∧ Q (.int i) H) ∨ ∃ k, xs = [.bl k] ∧ Q (.int (if k then 1 else 0)) H) := by
  intro pins s σ H xs us Q I r h
  rcases h with ⟨i, rfl, q⟩ | ⟨k, rfl, q⟩
  · obtain ⟨u, rfl, t, rfl⟩ := vals1 r
    exact call_int_int ⟨.int i, H, I, ⟨_, rfl⟩, q⟩
  · obtain ⟨u, rfl, r1⟩ := vals1 r
    cases r1
    exact call_int_bool ⟨.int (if k then 1 else 0), H, I.tok _, ⟨_, rfl⟩, q⟩
end
end L2

namespace L2
open PySem PySem.Spec PyProof.Rows

/-! ### an instance, its attributes a map -/
structure ObjM (h : Heap) (x dx C : Addr) (mA : Str → Option Value) : Prop where
  obj : h.get? x = some (PySem.W.instObj C dx)
  ns : h.Ns1 dx mA
  ne : dx ≠ x

section
variable {prog : Program} {w : World} {A : Around} {E : Value → Shared → Prop} {s : Shared} {K : PySem.W.Frag} {x dx C f : Addr} {mA : Str → Option Value} {name : Str} {v : Value}

end

/-! ### the attributes as a list of pairs -/
theorem RelO.some_of {v : V} {o : Option Value} (r : RelO (some v) o) : ∃ u, o = some u ∧ RelV v u := by
  cases o with
  | none => exact (show False from r).elim
  | some u => exact ⟨u, rfl, r⟩
theorem RelO.none_of {o : Option Value} (r : RelO none o) : o = none := by
  cases o with
  | none => rfl
  | some u => exact (show False from r).elim
section
variable {P : Program} {w : World} {H H' : Hp} {h h' : Heap} {a C dx : Addr} {fs fs' : List (Str × V)}
end

/-! ### what of the text a class must have -/
structure Cls (K : PySem.W.Frag) (C : Addr) : Prop where
  pg : PySem.W.plainGet K C Str.empty = true
  hd : PySem.W.hasDictIn K C = true
  po : PySem.W.plainOver K C = true
  sa : PySem.W.findIn K (.ref C) "__setattr__" = some (some (.builtin "object.__setattr__"))
theorem Cls.get {K : PySem.W.Frag} {C : Addr} (c : Cls K C) (f : Str) : PySem.W.plainGet K C f = true := c.pg
/-- a constant of the class -/
structure Con (K : PySem.W.Frag) (C : Addr) (f : Str) (v : V) (u : Value) : Prop where
  at_ : PySem.W.findIn K (.ref C) f = some (some u)
  rel : RelV v u
  get : PySem.W.specialIn K u "__get__" = some none
  cp : PySem.W.copiedNames.contains f = false
/-- a method: a plain def of the class or of one above it -/
structure Meth (K : PySem.W.Frag) (C : Addr) (m : Str) (f : Addr) : Prop where
  at_ : PySem.W.findIn K (.ref C) m = some (some (.ref f))
  fn : PySem.W.isFn K (.ref f) = true
  kp : PySem.W.keepIn K (.ref f) = true

section
variable {X : Cx} {pins : List (Addr × Obj)} {σ : St} {H : Hp} {s : Shared} {a C dx : Addr} {fs : List (Str × V)} {f : Str} {v : V} {A : Around} {E : Value → Shared → Prop}

/-- a new instance, tracked, without attributes -/
theorem Inv.made (I : Inv X pins σ H s) : Inv X pins σ (upd (upd H s.heap.objs.size (.own (s.heap.objs.size + 1))) (s.heap.objs.size + 1) (.ins C s.heap.objs.size []))
    { s with heap := (s.heap.push PySem.W.emptyDict).push (PySem.W.instObj C s.heap.objs.size) } := by
  have e1 : (s.heap.push PySem.W.emptyDict).get? s.heap.objs.size = some PySem.W.emptyDict := Heap.get?_push_size s.heap rfl
  have e2 : ((s.heap.push PySem.W.emptyDict).push (PySem.W.instObj C s.heap.objs.size)).get? (s.heap.objs.size + 1) = some (PySem.W.instObj C s.heap.objs.size) := by
    have := Heap.get?_push_size (s.heap.push PySem.W.emptyDict) (o := PySem.W.instObj C s.heap.objs.size) rfl
    rwa [Heap.size_push] at this
  have e3 : (s.heap.push PySem.W.emptyDict).Ns s.heap.objs.size (fun _ => none) := ⟨PySem.W.emptyDict, #[], _, e1, rfl, (fun e he => absurd he (by simp)), fun _ => rfl⟩
  have I1 := I.laid (a := s.heap.objs.size) (o := .own (s.heap.objs.size + 1)) (h' := s.heap.push PySem.W.emptyDict) (t' := s.toks) (fun b u q => Heap.get?_push_of_some _ q) (Nat.le_refl _) ⟨_, e1⟩
  refine I1.laid (a := s.heap.objs.size + 1) (o := .ins C s.heap.objs.size []) (t' := s.toks) (fun b u q => Heap.get?_push_of_some _ q) (Nat.le_of_eq (Heap.size_push _ _)) ?_
  have ne : s.heap.objs.size ≠ s.heap.objs.size + 1 := Nat.ne_of_lt (Nat.lt_succ_self _)
  refine ⟨by rw [upd_ne ne, upd_same], Nat.zero_le _, ne, e2, fun _ => none, (Heap.Ns1.of_empty e3).at fun o q => Heap.get?_push_of_some _ q, fun _ => True.intro, fun y hy => absurd rfl hy⟩

end

/-! ### readings and rules -/
/-- an augmented operator on two values -/
def InOp (X : Cx) (op : Operator) (rd : V → V → Hp → VK → Prop) : Prop :=
  ∀ (pins : List (Addr × Obj)) (s : Shared) (σ : St) (H : Hp) (x y : V) (u v : Value) (Q : VK), Inv X pins σ H s → RelV x u → RelV y v → rd x y H Q → wpAny (model X.prog X.w) X.A (inplaceOp op u v) (EP X pins σ Q) X.xe s
section
variable {X : Cx} {o e value : Expr} {f : Str} {pos pos' tpos : Pos} {ta tv : TE}
def rAdd : V → V → Hp → VK → Prop := fun x y H Q => ∃ i j, x = .int i ∧ y = .int j ∧ Q (.int (i + j)) H
theorem in_add : InOp X .Add rAdd := by
  rintro pins s σ H x y u v Q I rx ry ⟨i, j, rfl, rfl, q⟩
  obtain ⟨t, rfl⟩ := (show ∃ t, u = Value.int i t from rx)
  obtain ⟨t', rfl⟩ := (show ∃ t', v = Value.int j t' from ry)
  exact PyProof.Rows.iadd_int ⟨.int (i + j), H, I.tok _, ⟨_, rfl⟩, q⟩
end

/-! ### isinstance -/
section
variable {X : Cx} {pins : List (Addr × Obj)} {σ : St} {H : Hp} {s : Shared} {A : Around} {E : Value → Shared → Prop} {Q : Value → Shared → Prop} {c : Value} {b : Bool}
/-- the type of a value, as the fragment's deciders take it; for an instance its class -/
inductive TyOf (K : PySem.W.Frag) (H : Hp) : V → Value → Prop where
  | non : TyOf K H .non (.type "NoneType")
  | bl (x : Bool) : TyOf K H (.bl x) (.type "bool")
  | int (i : Int) : TyOf K H (.int i) (.type "int")
  | str (x : Str) : TyOf K H (.str x) (.type "str")
  | flt (x : UInt64) : TyOf K H (.flt x) (.type "float")
  | lst {a : Addr} {xs : List V} (e : H a = some (.lst xs)) : TyOf K H (.ref a) (.type "list")
  | frz {a : Addr} {o : Obj} {xs : List V} (e : H a = some (.frz o (.lst xs))) : TyOf K H (.ref a) (.type "list")
  | tup {a : Addr} {xs : List V} (e : H a = some (.tup xs)) : TyOf K H (.ref a) (.type "tuple")
  | dK {a : Addr} {kvs : List (Key × V)} (e : H a = some (.dK kvs)) : TyOf K H (.ref a) (.type "dict")
  | dT {a : Addr} {kvs : List (List Key × V)} (e : H a = some (.dT kvs)) : TyOf K H (.ref a) (.type "dict")
  | ins {a C dx : Addr} {fs : List (Str × V)} (e : H a = some (.ins C dx fs)) (cl : Cls K C) (ha : PySem.W.findIn K (.ref C) "__class__" = some (some (.builtin "object.__class__")))
      (hn : PySem.W.specialIn K (.builtin "object.__class__") "__get__" = some (some (.builtin "getset_descriptor.__get__"))) (htk : PySem.W.takesIn K (.builtin "object.__class__") = some true)
      (hm : PySem.W.mroIn K C (.type "object") = some true) : TyOf K H (.ref a) (.ref C)
end
end L2

namespace L2
open PySem PySem.Spec PyProof.Rows

/-! ### room -/
structure Room (k : Nat) (A : Around) : Prop where
  hd : A.handled = none
  dp : A.depth + 3 * k + 5 < recursionLimit
  un : A.units + 16 * k + 200 < cLine
theorem Room.mono {j k : Nat} {A : Around} (r : Room k A) (h : j ≤ k) : Room j A := ⟨r.hd, by have := r.dp; omega, by have := r.un; omega⟩
theorem Room.deeper {k : Nat} {A : Around} (r : Room (k + 1) A) (env : Env) : Room k (A.deeper env) :=
  ⟨r.hd, by have := r.dp; show A.depth + 1 + 3 * k + 5 < _; omega, by have := r.un; show A.units + 3 + 16 * k + 200 < _; omega⟩
theorem Room.in1 {k : Nat} {A : Around} (r : Room (k + 1) A) : Room k A.in1 :=
  ⟨r.hd, by have := r.dp; show A.depth + 3 * k + 5 < _; omega, by have := r.un; show A.units + 1 + 16 * k + 200 < _; omega⟩
theorem make_depth {A : Around} {C : Addr} {us : List Value} {kw : List (Str × Value)} : (A.under (.builtin "type.__call__" ⟨.ref C :: us, kw⟩)).depth = A.depth + 1 := by
  first | rfl | simp [Around.under, Code.weight, Code.isCreation, Code.isGuard, Code.isCaller, Code.frames, Code.isFrame, guardIds]
theorem make_units {A : Around} {C : Addr} {us : List Value} {kw : List (Str × Value)} : (A.under (.builtin "type.__call__" ⟨.ref C :: us, kw⟩)).units = A.units + 1 := by
  first | rfl | simp [Around.under, Code.cUnits, Code.frames, Code.isFrame]
theorem Room.make {k : Nat} {A : Around} (r : Room (k + 1) A) (C : Addr) (us : List Value) (kw : List (Str × Value)) : Room k (A.under (.builtin "type.__call__" ⟨.ref C :: us, kw⟩)) :=
  ⟨r.hd, by have := r.dp; rw [make_depth]; omega, by have := r.un; rw [make_units]; omega⟩
theorem Room.depth {k : Nat} {A : Around} (r : Room k A) : A.depth < recursionLimit := by have := r.dp; omega
theorem Room.units {k : Nat} {A : Around} (r : Room k A) : A.units + 64 < cLine := by have := r.un; omega
/-! ### argument lists and displays -/
def tNil : TA := fun _ H Q => Q [] H
def tCons (ta : TE) (tr : TA) : TA := fun σ H Q => ta σ H fun x H1 => tr σ H1 fun xs H2 => Q (x :: xs) H2
section
variable {X : Cx} {e : Expr} {es : List Expr} {te : TE} {t : TA} {pos : Pos}
theorem pa_nil : PA X [] tNil := fun _ _ _ _ H Q I h => Calls.spliced_nil ⟨[], H, I, .nil, h⟩
theorem pa_cons (ha : PE X e te) (hr : PA X es t) (hs : starEach (e :: es) X.env = (false, eval e X.env) :: starEach es X.env := by rfl) : PA X (e :: es) (tCons te t) := by
  intro pos pins s σ H Q I h
  rw [hs]
  show wpAny _ _ (spliced ((false, eval e X.env) :: backTo pos (starEach es X.env))) _ _ s
  refine Calls.spliced_cons (thn (ha pins s σ H _ I h) fun u s1 ⟨x, H1, I1, r1, q1⟩ => ?_)
  exact thn (hr pos pins s1 σ H1 _ I1 q1) fun us s2 ⟨xs, H2, I2, r2, q2⟩ => ⟨x :: xs, H2, I2, .cons r1 r2, q2⟩

end

/-! ### what a def promises -/
/-- a def's promise: the bound arguments in the parameters' order, the heap, the wanted end, the wanted exception -/
abbrev Sp := List V → Hp → VK → XK → Prop
/-- how an exception lies behind a call (file 08 gives it): the callers' frames, abstract heap and state ahead of the call, the wish, the exception, the state -/
abbrev CXT := List Env → Hp → Shared → XK → Value → Shared → Prop

/-- the state at a call -/
structure Env0 (P : Program) (w : World) (K : PySem.W.Frag) (mg : Str → Option Value) (base : Heap) (A : Around) (outer : List Env) (s : Shared) (H : Hp) : Prop where
  frames : A.frames = some outer
  mod : Mod K mg base
  bs : ∀ b o, base.get? b = some o → s.heap.get? b = some o ∧ H b = none
  bsz : base.objs.size ≤ s.heap.objs.size
  funs : s.heap.FunFrames base outer
  frf : ∀ b ∈ frs outer, H b = none
  hok : HOk P w H s.heap
  bare : AllBare s.gens
/-- a call's end -/
def CE (outer : List Env) (P : Program) (w : World) (H : Hp) (s : Shared) (Q : VK) (u : Value) (s' : Shared) : Prop :=
  ∃ v H', s'.os = s.os ∧ AllBare s'.gens ∧ Un (frs outer) [] H H' s.heap s'.heap ∧ HOk P w H' s'.heap ∧ RelV v u ∧ Q v H'
def CR (CX : CXT) (outer : List Env) (P : Program) (w : World) (H : Hp) (s : Shared) (Q : VK) (E : XK) (r : Result) (s' : Shared) : Prop :=
  match r with
  | .ok (.ret u) => CE outer P w H s Q u s'
  | .ok _ => False
  | .error e => CX outer H s E e s'
structure FnOk (P : Program) (w : World) (K : PySem.W.Frag) (mg : Str → Option Value) (base : Heap) (CX : CXT) (k : Nat) (f : Addr) (fd : FuncData) (ps : List Str) (sp : Sp) : Prop where
  len : ∀ vs H Q E, sp vs H Q E → vs.length = ps.length
  run : ∀ (A : Around) (outer : List Env) (s : Shared) (H : Hp) (args : Args) (us : List Value) (vs : List V) (Q : VK) (E : XK), Room k A → Env0 P w K mg base A outer s H → BindsTo s fd args (ps.zip us) → Vals vs us → sp vs H Q E →
    codeAny (model P w) A (.call (.ref f) args) (CR CX outer P w H s Q E) s
theorem FnOk.mono {P : Program} {w : World} {K : PySem.W.Frag} {mg : Str → Option Value} {base : Heap} {CX : CXT} {j k : Nat} {f : Addr} {fd : FuncData} {ps : List Str} {sp : Sp} (F : FnOk P w K mg base CX j f fd ps sp) (h : j ≤ k) :
    FnOk P w K mg base CX k f fd ps sp := ⟨F.len, fun A outer s H args us vs Q E hr => F.run A outer s H args us vs Q E (hr.mono h)⟩
theorem Env0.make {P : Program} {w : World} {K : PySem.W.Frag} {mg : Str → Option Value} {base : Heap} {A : Around} {outer : List Env} {s : Shared} {H : Hp} (e : Env0 P w K mg base A outer s H) (C : Addr) (us : List Value) (kw : List (Str × Value)) :
    Env0 P w K mg base (A.under (.builtin "type.__call__" ⟨.ref C :: us, kw⟩)) outer s H := ⟨by first | exact e.frames | (simpa [Around.under, Code.envs, Code.isFrame, pushEnvs] using e.frames), e.mod, e.bs, e.bsz, e.funs, e.frf, e.hok, e.bare⟩
theorem Env0.in1 {P : Program} {w : World} {K : PySem.W.Frag} {mg : Str → Option Value} {base : Heap} {A : Around} {outer : List Env} {s : Shared} {H : Hp} (e : Env0 P w K mg base A outer s H) :
    Env0 P w K mg base A.in1 outer s H := ⟨e.frames, e.mod, e.bs, e.bsz, e.funs, e.frf, e.hok, e.bare⟩

section
variable {X : Cx} {pins : List (Addr × Obj)} {σ : St} {H : Hp} {s s' : Shared}
/-- from a body: what a callee wants -/
theorem Inv.env0 (I : Inv X pins σ H s) : Env0 X.prog X.w X.K X.mg X.base X.A X.stack s H :=
  ⟨I.ok.frames, I.ok.mod, I.bs, Nat.le_trans I.ok.bsz I.sz, I.stack, I.stkFree, I.hok, I.bare⟩
/-- behind a call -/
theorem Inv.after {Q : VK} {u : Value} (I : Inv X pins σ H s) (h : CE X.stack X.prog X.w H s Q u s') : EP X pins σ Q u s' := by
  obtain ⟨v, H', os, bare, un, hok, r, q⟩ := h
  obtain ⟨hh, g, d, t, os'⟩ := s'
  obtain rfl : os' = s.os := os
  exact ⟨v, H', I.call (h' := hh) (g' := g) (d' := d) (t' := t) (ch := []) un hok bare (fun b z => absurd z (by simp)), r, q⟩
end

/-! ### calls -/
/-- how the parameters are bound: us the positional arguments, kw the keywords' values by name, ds the defaults that fill up -/
def Binds (K : PySem.W.Frag) (fd : FuncData) (ps : List Str) (ds : List Value) : Prop :=
  ∀ (s : Shared) (us : List Value), K.In s.heap → (us ++ ds).length = ps.length → BindsTo s fd ⟨us, []⟩ (ps.zip (us ++ ds))
/-- every parameter is given -/
theorem Binds.all {K : PySem.W.Frag} {fd : FuncData} {ps : List Str} (h : ∀ us : List Value, us.length = ps.length → bindArgs fd ⟨us, []⟩ = pure (ps.zip us)) : Binds K fd ps [] := fun s us _ hl => by
  rw [List.append_nil] at hl ⊢
  exact .of_eq (h us hl)

/-- an exception of a callee reaches what this body wants of exceptions -/
def Passes (CX : CXT) (X : Cx) (E : XK) : Prop := ∀ (pins : List (Addr × Obj)) (σ : St) (H : Hp) (s : Shared) (e : Value) (s' : Shared), Inv X pins σ H s → CX X.stack H s E e s' → X.xe e s'

section
variable {X : Cx} {CX : CXT} {k : Nat} {f C : Addr} {fd : FuncData} {ps : List Str} {sp : Sp} {dvs : List V} {ds : List Value} {E : XK} {x m : Str} {p pos apos : Pos} {e o : Expr} {es : List Expr} {ta : TE} {t : TA}

/-- the callee runs -/
theorem run_fn {pins : List (Addr × Obj)} {σ : St} {H : Hp} {s : Shared} {Q : VK} {us : List Value} {vs : List V} (F : FnOk X.prog X.w X.K X.mg X.base CX k f fd ps sp) (hr : Room k X.A) (hb : Binds X.K fd ps ds) (hd : Vals dvs ds) (hx : Passes CX X E)
    (I : Inv X pins σ H s) (r : Vals vs us) (h : sp (vs ++ dvs) H Q E) : wpAny (model X.prog X.w) X.A (call (.ref f) us) (EP X pins σ Q) X.xe s := by
  have r2 : Vals (vs ++ dvs) (us ++ ds) := r.append hd
  have hl : (us ++ ds).length = ps.length := by rw [← r2.length]; exact F.len _ _ _ _ h
  refine wpAny_call (codeAny_mono (F.run X.A X.stack s H ⟨us, []⟩ (us ++ ds) (vs ++ dvs) Q E hr I.env0 (hb s us I.kIn hl) r2 h) fun r s' hq => ?_)
  cases r with
  | error e => exact hx pins σ H s e s' I hq
  | ok fl =>
    cases fl with
    | ret u => exact I.after hq
    | next => exact False.elim hq
    | brk => exact False.elim hq
    | cont => exact False.elim hq

/-- what a class must have to be made -/
structure Mk (K : PySem.W.Frag) (C f : Addr) : Prop where
  makes : PySem.W.makesIn K C = true
  init : PySem.W.findIn K (.ref C) "__init__" = some (some (.ref f))
  fn : PySem.W.isFn K (.ref f) = true
  kp : PySem.W.keepIn K (.ref C) = true

end

/-! ### keywords -/
section
variable {X : Cx} {CX : CXT} {k : Nat} {f C : Addr} {fd : FuncData} {ps ks : List Str} {sp : Sp} {E : XK} {x m : Str} {p pos apos kpos : Pos} {e o : Expr} {es : List Expr} {kws : List Keyword} {te ta : TE} {t tk : TA} {nm : Option Str}
/-- how a call with keywords binds: g puts the positional values us and the keywords' values ws (names ks) in the parameters' order, defaults among them -/
structure KBinds (K : PySem.W.Frag) (fd : FuncData) (ps ks : List Str) (g : List Value → List Value → List Value) (gV : List V → List V → List V) : Prop where
  to : ∀ (s : Shared) (us ws : List Value), K.In s.heap → (g us ws).length = ps.length → BindsTo s fd ⟨us, ks.zip ws⟩ (ps.zip (g us ws))
  rel : ∀ {vs : List V} {us : List Value} {zs : List V} {ws : List Value}, Vals vs us → Vals zs ws → Vals (gV vs zs) (g us ws)
variable {g : List Value → List Value → List Value} {gV : List V → List V → List V}
end

/-! ### a def's body keeps its promise -/
/-- names: the parameters first -/
structure FnScope (N P : List Str) (sc : Scope) : Prop where
  kind : sc.kind = .function
  co : sc.isCoroutine = false
  gen : sc.isGenerator = false
  nd : N.Nodup
  pre : N.take P.length = P
  par : ∀ x ∈ P, sc.names.lookup x = some .local ∨ sc.names.lookup x = some .cell
  nofree : ∀ y ∈ sc.names, y.2 ≠ .free

theorem bindL_out {kindOf : Str → Option NameKind} {x : Str} : ∀ {binds : List (Str × Value)} {m : Str → Option Value}, (∀ v, (x, v) ∉ binds) → bindL kindOf binds m x = m x
  | [], _, _ => rfl
  | (n, v) :: r, m, h => by
    unfold bindL
    rw [bindL_out fun w hw => h w (List.mem_cons_of_mem _ hw)]
    split
    · have : x ≠ n := by rintro rfl; exact h v List.mem_cons_self
      simp [this]
    · rfl
theorem bindC_out {kindOf : Str → Option NameKind} {x : Str} : ∀ {binds : List (Str × Value)} {m : Str → Option Value}, (∀ v, (x, v) ∉ binds) → bindC kindOf binds m x = m x
  | [], _, _ => rfl
  | (n, v) :: r, m, h => by
    unfold bindC
    rw [bindC_out fun w hw => h w (List.mem_cons_of_mem _ hw)]
    split
    · rfl
    · have : x ≠ n := by rintro rfl; exact h v List.mem_cons_self
      simp [this]
theorem bindL_get {kindOf : Str → Option NameKind} {x : Str} {v : Value} : ∀ {P : List Str} {vs : List Value} {i : Nat} {m : Str → Option Value}, P.Nodup → P[i]? = some x → vs[i]? = some v → kindOf x = some .local →
    bindL kindOf (P.zip vs) m x = some v
  | [], _, _, _, _, h, _, _ => by simp at h
  | _ :: _, [], _, _, _, _, h, _ => by simp at h
  | p :: P, w :: vs, 0, m, nd, h1, h2, hk => by
    simp at h1 h2; subst h1; subst h2
    show bindL kindOf ((p, w) :: P.zip vs) m p = _
    unfold bindL
    rw [bindL_out fun v hv => (List.nodup_cons.mp nd).1 (List.of_mem_zip hv).1, if_pos hk]
    simp
  | p :: P, w :: vs, i + 1, m, nd, h1, h2, hk => by
    show bindL kindOf ((p, w) :: P.zip vs) m x = _
    unfold bindL
    exact bindL_get (i := i) (List.nodup_cons.mp nd).2 (by simpa using h1) (by simpa using h2) hk
theorem bindC_get {kindOf : Str → Option NameKind} {x : Str} {v : Value} : ∀ {P : List Str} {vs : List Value} {i : Nat} {m : Str → Option Value}, P.Nodup → P[i]? = some x → vs[i]? = some v → kindOf x ≠ some .local →
    bindC kindOf (P.zip vs) m x = some v
  | [], _, _, _, _, h, _, _ => by simp at h
  | _ :: _, [], _, _, _, _, h, _ => by simp at h
  | p :: P, w :: vs, 0, m, nd, h1, h2, hk => by
    simp at h1 h2; subst h1; subst h2
    show bindC kindOf ((p, w) :: P.zip vs) m p = _
    unfold bindC
    rw [bindC_out fun v hv => (List.nodup_cons.mp nd).1 (List.of_mem_zip hv).1, if_neg hk]
    simp
  | p :: P, w :: vs, i + 1, m, nd, h1, h2, hk => by
    show bindC kindOf ((p, w) :: P.zip vs) m x = _
    unfold bindC
    exact bindC_get (i := i) (List.nodup_cons.mp nd).2 (by simpa using h1) (by simpa using h2) hk

/-- the names' values at the entry -/
def start (N : List Str) (vs : List V) : St := vs.map some ++ List.replicate (N.length - vs.length) none

/-- the context of a def's body, at its entry; an exception leaves the frame, then lies as CX says -/
def cxOf (CX : CXT) (P : Program) (w : World) (K : PySem.W.Frag) (mg : Str → Option Value) (base : Heap) (N : List Str) (qual : Str) (scope : Scope) (f : Addr) (cd : Value) (A : Around) (outer : List Env) (s : Shared) (H : Hp) (E : XK) : Cx where
  prog := P
  w := w
  K := K
  mg := mg
  base := base
  A := A.deeper (envOfC qual scope s.heap.objs.size f cd)
  N := N
  s₀ := s
  H₀ := H
  env := envOfC qual scope s.heap.objs.size f cd
  outer := outer
  stack := envOfC qual scope s.heap.objs.size f cd :: outer
  ex := []
  calm := true
  fn := fun _ => true
  pn := []
  xe := fun e s' => wpAny (model P w) (A.deeper (envOfC qual scope s.heap.objs.size f cd)) (leaving (envOfC qual scope s.heap.objs.size f cd) e) (fun _ s'' => CX outer H s E e s'') (fun e' s'' => CX outer H s E e' s'') s'

theorem cell_has {sc : Scope} {n : Nat} {x : Str} (h : sc.names.lookup x = some .cell) : ∃ c, (cellsFrom n sc.names []).lookup x = some c := by
  have q := PySem.W.cellsFrom_some sc.names n [] (.inl h)
  exact Option.isSome_iff_exists.mp q

theorem inv_start {CX : CXT} {P : Program} {w : World} {K : PySem.W.Frag} {mg : Str → Option Value} {base : Heap} {N ps : List Str} {qual : Str} {scope : Scope} {f : Addr} {cd : Value} {A : Around} {outer : List Env} {s s1 : Shared} {H : Hp} {E : XK} {us : List Value} {vs : List V}
    (S : FnScope N ps scope) (hd : A.handled = none) (e0 : Env0 P w K mg base A outer s H) (hl : vs.length = ps.length) (r : Vals vs us)
    (x : InCallC s s.heap.objs.size (bindL (envOfC qual scope s.heap.objs.size f cd).kindOf (ps.zip us) fun _ => none) (cellsFrom (s.heap.objs.size + 1) scope.names []) (bindC (envOfC qual scope s.heap.objs.size f cd).kindOf (ps.zip us) fun _ => none) s1) :
    Inv (cxOf CX P w K mg base N qual scope f cd A outer s H E) [] (start N vs) H s1 := by
  have hpl : ps.length ≤ N.length := by have := congrArg List.length S.pre; rw [List.length_take] at this; omega
  obtain ⟨h1, tk, rfl, hk⟩ := x.done
  have noA : ∀ b : Addr, b ∉ (cxOf CX P w K mg base N qual scope f cd A outer s H E).ex := fun b z => absurd (show b ∈ ([] : List Addr) from z) (by simp)
  refine ⟨⟨e0.mod, S.kind, rfl, rfl, Nat.le_refl _, fun y z c h1 h2 => ?_, fun y hy => ?_, fun y c _ h => ?_, fun _ => hd, Around.frames_deeper e0.frames, .inr ⟨rfl, rfl⟩, fun b z => absurd z (noA b), e0.bs, e0.bsz, fun b _ _ => noA b, fun b z => absurd z (noA b), e0.funs, e0.frf⟩,
    rfl, e0.bare, Un.kept hk, ⟨_, x.toInCall.ns, fun i y v h1 h2 h3 => ?_⟩, fun y c h => ⟨_, x.cell y c h⟩, e0.hok.fresh (Nat.le_refl _), fun y c h => ?_, fun p hp => absurd (show p ∈ ([] : List (Addr × Obj)) from hp) (by simp), e0.hok.kept hk, ?_⟩
  · exact name_of_addr x.apart (PySem.mem_of_lookup h1) (PySem.mem_of_lookup h2)
  · have hy : scope.names.lookup y = some .cell ∨ scope.names.lookup y = some .free := hy
    rcases hy with hy | hy
    · exact cell_has hy
    · exact absurd rfl (S.nofree _ (PySem.mem_of_lookup hy))
  · exact Nat.le_of_lt (x.above y c (PySem.mem_of_lookup h))
  · have hi : i < vs.length := by
      unfold start at h2
      by_cases hi : i < vs.length
      · exact hi
      · rw [List.getElem?_append_right (by simpa using hi)] at h2
        rw [List.getElem?_replicate] at h2
        split at h2 <;> cases h2
    have ha : vs[i]? = some v := by
      unfold start at h2
      rw [List.getElem?_append_left (by simpa using hi), List.getElem?_map] at h2
      cases e : vs[i]? with
      | none => rw [e] at h2; cases h2
      | some a => rw [e] at h2; cases h2; rfl
    obtain ⟨u, hu, rv⟩ := r.get ha
    have hp : ps[i]? = some y := by
      rw [← S.pre, List.getElem?_take_of_lt (by omega)]; exact h1
    have ndP : ps.Nodup := by rw [← S.pre]; exact S.nd.sublist (List.take_sublist _ _)
    refine ⟨u, rv, ?_⟩
    rcases S.par y (List.mem_of_getElem? hp) with k | k
    · exact .inl ⟨k, bindL_get ndP hp hu k⟩
    · obtain ⟨c, e⟩ := cell_has (n := s.heap.objs.size + 1) k
      refine .inr ⟨.inl k, c, e, ?_⟩
      have q := x.cell y c e
      rw [bindC_get ndP hp hu (by show scope.names.lookup y ≠ _; rw [k]; decide)] at q
      exact q
  · exact e0.hok.fresh (Nat.le_of_lt (x.above y c (PySem.mem_of_lookup h)))
  · unfold start
    show _ = N.length
    rw [List.length_append, List.length_map, List.length_replicate]
    omega

/-- THE RULE: a def (or a method) of the text, by its body. The body's reading t is chosen for each entry; it is run at the parameters' values -/
theorem fn_of {CX : CXT} {P : Program} {w : World} {K : PySem.W.Frag} {mg : Str → Option Value} {base : Heap} {k : Nat} {f : Addr} {name qual : Str} {params : Arguments} {body : List Stmt} {scope : Scope} {dV kV doc pm cdv ct oc : Value} {an od : Option Addr}
    {osl : Array (Option Value)} {N ps : List Str} {sp : Sp} (lk : K.lookup f = some ⟨oc, od, .func (PySem.W.fnOf name qual params body scope dV kV doc pm an cdv ct), osl⟩) (hcd : PySem.W.codeIn K cdv qual = true) (S : FnScope N ps scope)
    (len : ∀ vs H Q E, sp vs H Q E → vs.length = ps.length)
    (hbody : ∀ (A : Around) (outer : List Env) (s : Shared) (H : Hp) (vs : List V) (Q : VK) (E : XK), Room k (A.deeper (envOfC qual scope s.heap.objs.size f cdv)) → sp vs H Q E →
      ∃ t, PSs (cxOf CX P w K mg base N qual scope f cdv A outer s H E) body t ∧ t { nx := fun _ H' => Q .non H', rt := Q } (start N vs) H) :
    FnOk P w K mg base CX (k + 1) f (PySem.W.fnOf name qual params body scope dV kV doc pm an cdv ct) ps sp := by
  refine ⟨len, fun A outer s H args us vs Q E hr e0 hb r hsp => ?_⟩
  have hl := len _ _ _ _ hsp
  have KX : K.In s.heap := e0.mod.kin.keeps fun b o e => (e0.bs b o e).1
  have lim : s.heap.NoLimit := e0.mod.nolimit.keeps fun b o e => (e0.bs b o e).1
  have hkind : ∀ y ∈ ps.zip us, scope.names.lookup y.1 = some .local ∨ (scope.names.lookup y.1 = some .cell ∧ ((cellsFrom (s.heap.objs.size + 1) scope.names []).lookup y.1).isSome = true) := fun ⟨n, v⟩ hy => by
    rcases S.par n (List.of_mem_zip hy).1 with q | q
    · exact .inl q
    · exact .inr ⟨q, PySem.W.cellsFrom_some _ _ _ (.inl q)⟩
  refine codeAny_call_function hr.depth (KX _ _ lk) rfl S.co S.gen rfl (PySem.W.codeRec_of KX hcd) (hb _ _ _ _ ?_)
  refine wpAny_newFunctionEnv_cells S.kind hkind fun env he s1 x => ?_
  subst he
  refine ⟨lim.keeps x.toInCall.keep, codeAny_func ?_⟩
  obtain ⟨t, ht, hq⟩ := hbody A outer s H vs Q E (hr.deeper _) hsp
  have I : Inv (cxOf CX P w K mg base N qual scope f cdv A outer s H E) [] (start N vs) H s1 := inv_start S hr.hd e0 hl r x
  refine wpAny_mono (ht [] s1 (start N vs) H _ I hq) (fun fl s' hs => ?_) fun e s' hs => hs
  have fin : ∀ {σ' : St} {H' : Hp} {v : V} {u : Value}, Inv (cxOf CX P w K mg base N qual scope f cdv A outer s H E) [] σ' H' s' → RelV v u → Q v H' → CE outer P w H s Q u s' :=
    fun {σ' H' v u} J rv q => ⟨v, H', J.os, J.bare, J.base, J.hok, rv, q⟩
  cases fl with
  | ret u =>
    obtain ⟨v, σ', H', J, rv, q⟩ := hs
    exact fin J rv q
  | next =>
    obtain ⟨σ', H', J, q⟩ := hs
    exact fin (v := V.non) (u := Value.none) J rfl q
  | brk =>
    obtain ⟨_, _, _, q⟩ := hs
    exact False.elim q
  | cont =>
    obtain ⟨_, _, _, q⟩ := hs
    exact False.elim q
end L2

namespace L2
open PySem PySem.Spec PyProof.Rows
section
variable {X : Cx} {x : Str} {p pos : Pos} {e : Expr} {es : List Expr} {t : TA} {id T : String} {r : List V → Hp → VK → Prop}

def tCB (r : List V → Hp → VK → Prop) (t : TA) : TE := fun σ H Q => t σ H fun vs H1 => r vs H1 Q
/-- T(e, ..), T a built-in type -/
theorem pe_callTy (hc : CallR X (.type T) r) (hg : Gl X x) (hm : X.mg x = none) (hv : bootBuiltins x = some (.type T)) (ha : PA X (e :: es) t) (hn : x ≠ "__name__" := by decide) (hdb : (x == ("__debug__" : Str)) = false := by decide)
    (he : starEach (e :: es) X.env = (false, eval e X.env) :: starEach es X.env := by rfl) (hpl : (backTo pos (starEach es X.env)).any (·.1) = false := by rfl) : PE X (.Call (.Name x p) (e :: es) [] pos) (tCB r t) := by
  intro pins s σ H Q I h
  refine wpAny_Call_Name_kw (ld_blt I hg hm hv ?_ hn hdb)
  exact PyProof.Rows.callWith_type1 (thn (ha pos pins s σ H _ I h) fun us s1 ⟨vs, H1, I1, r1, q1⟩ => hc pins s1 σ H1 vs us Q I1 r1 q1) he hpl
end
end L2

namespace HT
open PySem PyProof.Rows

section
open PySem.SeqAt
open PySem.AutoSeq1 (wpAny_loadPart')
open PySem.MeetsSeq PySem.MeetsSeq2 PySem.MeetsSeq3

end

section
variable {prog : Program} {w : World} {A : Around} {E : Value → Shared → Prop} {s : Shared}

/-! ### t[a:b], not the whole -/
/-- a slice's bound as a place among n (d where it is left out) -/
def sIx (n d : Nat) : Option Int → Nat
  | none => d
  | some v => if v < 0 then (v + (n : Int)).toNat else min v.toNat n
theorem sIx_le (n d : Nat) (hd : d ≤ n) (o : Option Int) : sIx n d o ≤ n := by
  cases o with
  | none => exact hd
  | some v =>
    show (if v < 0 then (v + (n : Int)).toNat else min v.toNat n) ≤ n
    by_cases hv : v < 0
    · rw [if_pos hv]; omega
    · rw [if_neg hv]; exact Nat.min_le_right _ _
theorem clip_eq (v : Int) (n d : Nat) : (if v < 0 then max (v + (n : Int)) 0 else min v (n : Int)) = ((sIx n d (some v) : Nat) : Int) := by
  show (if v < 0 then max (v + (n : Int)) 0 else min v (n : Int)) = (((if v < 0 then (v + (n : Int)).toNat else min v.toNat n) : Nat) : Int)
  by_cases hv : v < 0
  · simp only [if_pos hv]; omega
  · simp only [if_neg hv]; omega
theorem adjust_gen (lo hi : Option Int) (n : Nat) : Builtin.Slice.sliceAdjust lo hi 1 (n : Int) = (((sIx n 0 lo : Nat) : Int), ((sIx n n hi : Nat) : Int)) := by
  have h1 : ¬ ((1 : Int) < 0) := by omega
  unfold Builtin.Slice.sliceAdjust
  simp only [h1, if_false]
  refine Prod.ext ?_ ?_
  · cases lo with
    | none => rfl
    | some v => exact clip_eq v n 0
  · cases hi with
    | none => rfl
    | some v => exact clip_eq v n n
theorem places_gen (i j : Nat) : Builtin.Slice.slicePlaces (i : Int) (j : Int) 1 = j - i := by
  unfold Builtin.Slice.slicePlaces
  have h1 : (1 : Int) > 0 := by omega
  simp only [h1, if_true, Int.ediv_one]
  split <;> omega
theorem slicePart_ {v : Value} {o : Option Int} {Q : Option Int → Shared → Prop} (p : IsPart v o) (h : Q o s) : wpAny (model prog w) A (Builtin.Slice.slicePartIndex v) Q E s := by
  cases p with
  | none => exact slicePart_none h
  | int i t => exact slicePart_int h
theorem sliceApplied_gen {sl : Addr} {vl vu : Value} {lo hi : Option Int} {n : Nat} {Q : Int × Int × Nat → Shared → Prop} (hs : s.heap.IsSliceOf sl vl vu .none) (pl : IsPart vl lo) (pu : IsPart vu hi)
    (h : Q (((sIx n 0 lo : Nat) : Int), 1, sIx n n hi - sIx n 0 lo) s) : wpAny (model prog w) A (Builtin.Slice.sliceApplied (.ref sl) (pure (n : Int))) Q E s := by
  obtain ⟨os, hos, hcs, hds⟩ := id hs
  unfold Builtin.Slice.sliceApplied Builtin.Slice.sliceFields
  refine wpAny_bind (wpAny_bind (wpAny_field hos hds (x := vl) rfl (wpAny_bind (wpAny_field hos hds (x := vu) rfl (wpAny_bind (wpAny_field hos hds (x := .none) rfl (wpAny_pure ?_)))))))
  refine wpAny_bind (slicePart_none ?_)
  show wpAny _ _ (if ((1 : Int) == 0) = true then _ else _) _ _ s
  rw [if_neg (by decide)]
  refine wpAny_bind (slicePart_ pl (wpAny_bind (slicePart_ pu (wpAny_bind (wpAny_pure ?_)))))
  show wpAny _ _ (match Builtin.Slice.sliceAdjust lo hi 1 (n : Int) with | (lo, hi) => pure (lo, (1 : Int), Builtin.Slice.slicePlaces lo hi 1)) _ _ s
  rw [adjust_gen lo hi n]
  show wpAny _ _ (pure (((sIx n 0 lo : Nat) : Int), (1 : Int), Builtin.Slice.slicePlaces ((sIx n 0 lo : Nat) : Int) ((sIx n n hi : Nat) : Int) 1)) _ _ s
  rw [places_gen]
  exact wpAny_pure h
theorem pick_gen (xs : Array Value) (i k : Nat) : ((List.range k).filterMap fun (m : Nat) => xs[((i : Int) + (m : Int) * 1).toNat]?).toArray = ((xs.toList.drop i).take k).toArray := by
  have e : (fun (m : Nat) => xs[((i : Int) + (m : Int) * 1).toNat]?) = fun m => xs[i + m]? := by
    funext m
    have : ((i : Int) + (m : Int) * 1).toNat = i + m := by omega
    rw [this]
  rw [e]
  have := pick_run xs i k
  rw [List.filterMap_map] at this
  have e2 : ((fun x => xs[x]?) ∘ fun x => i + x) = fun m => xs[i + m]? := rfl
  rw [e2] at this
  rw [this]

theorem getItem_tuple_cut {t sl : Addr} {items : Array Value} {vl vu : Value} {lo hi : Option Int} {Q : Value → Shared → Prop} (ht : IsTup s.heap t items) (hs : s.heap.IsSliceOf sl vl vu .none) (pl : IsPart vl lo) (pu : IsPart vu hi)
    (hw : ¬ (sIx items.size 0 lo = 0 ∧ sIx items.size items.size hi = items.size))
    (h : Q (.ref s.heap.objs.size) { s with heap := s.heap.push { cls := .type "tuple", data := .seq ((items.toList.drop (sIx items.size 0 lo)).take (sIx items.size items.size hi - sIx items.size 0 lo)).toArray } })
    (hsz : items.size ≤ sizeLine) : wpAny (model prog w) A (getItem (.ref t) (.ref sl)) Q E s := by
  have htake : sizeOk (.seq ((items.toList.drop (sIx items.size 0 lo)).take (sIx items.size items.size hi - sIx items.size 0 lo)).toArray) := by
    show ((items.toList.drop (sIx items.size 0 lo)).take (sIx items.size items.size hi - sIx items.size 0 lo)).toArray.size ≤ sizeLine
    rw [List.size_toArray, List.length_take, List.length_drop, Array.length_toList]
    omega
  have hj : sIx items.size items.size hi ≤ items.size := sIx_le _ _ (Nat.le_refl _) hi
  obtain ⟨os, hos, hcs, hds⟩ := id hs
  have hTs : s.TypeIs (.ref sl) "slice" := ⟨os, hos, hcs⟩
  unfold getItem
  try with_reducible refine wpAny_holding ?_
  first | refine wpAny_bind (wpAny_pure ?_) | skip
  refine wpAny_bind (wpAny_sequenceKey ht.typeIs (by decide) ?_)
  refine wpAny_bind (wpAny_callSpecial?_slot (name := Str.ofString "__getitem__") ht.typeIs PyProof.Rows.slot_tuple_getitem
    (wpAny_call_entry PyProof.Rows.slot_tuple_getitem ht.typeIs entry_tuple_getitem ?_ (args_tuple_getitem _ _)))
  show wpAny _ _ (Builtin.Tuple.tupleItemsOf (.ref t) >>= _) _ _ s
  refine wpAny_bind (tupleItemsOf_ ht ?_)
  refine wpAny_bind (wpAny_typeOf hTs ?_)
  rw [if_pos (by decide)]
  refine wpAny_bind (sliceApplied_gen hs pl pu ?_)
  have hno : ¬ ((((sIx items.size 0 lo : Nat) : Int) == 0 && (1 : Int) == 1 && (sIx items.size items.size hi - sIx items.size 0 lo) == items.size) = true) := by
    intro q
    rw [Bool.and_eq_true, Bool.and_eq_true] at q
    have q1 : ((sIx items.size 0 lo : Nat) : Int) = 0 := eq_of_beq q.1.1
    have q2 : sIx items.size items.size hi - sIx items.size 0 lo = items.size := eq_of_beq q.2
    exact hw ⟨by omega, by omega⟩
  show wpAny _ _ (if (((sIx items.size 0 lo : Nat) : Int) == 0 && (1 : Int) == 1 && (sIx items.size items.size hi - sIx items.size 0 lo) == items.size) = true then _ else _) _ _ s
  rw [if_neg hno, pick_gen]
  first
    | exact wpAny_bind (m := Builtin.Tuple.tupleExact _) (wpAny_newObj_type (wpAny_pure ⟨_, rfl, wpAny_pure h⟩) htake)
    | exact wpAny_bind (m := Builtin.Tuple.tupleExact _) (wpAny_newObj_type (wpAny_bind (wpAny_pure (wpAny_pure ⟨_, rfl, wpAny_pure h⟩))) htake)
    | exact wpAny_bind (wpAny_bind (m := Builtin.Tuple.tupleExact _) (wpAny_newObj_type (wpAny_pure (wpAny_pure ⟨_, rfl, wpAny_pure h⟩)) htake))
    | exact wpAny_bind (wpAny_bind (m := Builtin.Tuple.tupleExact _) (wpAny_newObj_type (wpAny_pure ⟨_, rfl, wpAny_pure h⟩) htake))
end
end HT

namespace L2
open PySem PySem.Spec PyProof.Rows

/-! ### the parts of a slice -/
abbrev TO := St → Hp → (Option Int → Hp → Prop) → Prop
theorem intsAre_of {ns : List Int} : ∀ {us : List Value}, Vals (ns.map V.int) us → IntsAre us ns := by
  induction ns with
  | nil => intro us r; rw [List.map_nil] at r; cases r; exact .nil
  | cons n ns ih =>
    intro us r
    rw [List.map_cons] at r
    cases r with
    | cons r1 r2 =>
      obtain ⟨t, e⟩ := r1
      subst e
      exact .cons n t (ih r2)

section
variable {X : Cx} {e : Expr} {te : TE} {lo hi : Option Expr} {tl th : TO} {pos p2 : Pos}

/-- what a slice of a value is, by values: the slice object stands at sl -/
def SlR (X : Cx) (r : V → Option Int → Option Int → Hp → VK → Prop) : Prop :=
  ∀ (pins : List (Addr × Obj)) (s : Shared) (σ : St) (H : Hp) (x : V) (v vl vu : Value) (lo hi : Option Int) (sl : Addr) (Q : VK), Inv X pins σ H s → RelV x v → s.heap.IsSliceOf sl vl vu .none → IsPart vl lo → IsPart vu hi → r x lo hi H Q →
    ∃ T id, typeLookup (.type T) "__getitem__" = pure (some (.builtin id)) ∧ s.TypeIs v T ∧ wpAny (model X.prog X.w) X.A (getItem v (.ref sl)) (EP X pins σ Q) X.xe s
theorem SlR.or {r r' : V → Option Int → Option Int → Hp → VK → Prop} (h : SlR X r) (h' : SlR X r') : SlR X (fun x lo hi H Q => r x lo hi H Q ∨ r' x lo hi H Q) := by
  intro pins s σ H x v vl vu lo hi sl Q I rx hs pl pu q
  rcases q with q | q
  · exact h pins s σ H x v vl vu lo hi sl Q I rx hs pl pu q
  · exact h' pins s σ H x v vl vu lo hi sl Q I rx hs pl pu q
/-- the items of xs[lo:hi] -/
def cutV (xs : List V) (lo hi : Option Int) : List V := (xs.drop (HT.sIx xs.length 0 lo)).take (HT.sIx xs.length xs.length hi - HT.sIx xs.length 0 lo)
theorem cutV_length (xs : List V) (lo hi : Option Int) : (cutV xs lo hi).length ≤ xs.length := by
  unfold cutV
  rw [List.length_take, List.length_drop]
  omega
/-- t[lo:hi], not the whole of it (the whole would be t itself) -/
def rSlT (K : PySem.W.Frag) : V → Option Int → Option Int → Hp → VK → Prop := fun x lo hi H Q => ∃ a xs, x = .ref a ∧ SqT K H a xs ∧
  ¬ (HT.sIx xs.length 0 lo = 0 ∧ HT.sIx xs.length xs.length hi = xs.length) ∧ ∀ p, H p = none → Q (.ref p) (upd H p (.tup (cutV xs lo hi)))
theorem sl_tup : SlR X (rSlT X.K) := by
  intro pins s σ H x v vl vu lo hi sl Q I rx hs pl pu h
  obtain ⟨a, xs, rfl, hx, hw, q⟩ := h
  cases rx
  obtain ⟨its, r, ht, hz⟩ := I.tuple hx
  have hlen : its.toArray.size = xs.length := by rw [List.size_toArray]; exact r.length.symm
  refine ⟨"tuple", _, PyProof.Rows.slot_tuple_getitem.lookup, ht.typeIs, ?_⟩
  refine HT.getItem_tuple_cut ht hs pl pu (by rw [hlen]; exact hw) ?_ (by rw [hlen]; exact hz)
  rw [hlen]
  refine ⟨.ref s.heap.objs.size, _, I.laid (t' := s.toks) (o := .tup (cutV xs lo hi)) (fun b ob q => Heap.get?_push_of_some _ q) (Nat.le_refl _) ?_, rfl, q _ (I.hok.fresh (Nat.le_refl _))⟩
  exact ⟨Nat.le_trans (cutV_length xs lo hi) hz, _, (r.drop (HT.sIx xs.length 0 lo)).take (HT.sIx xs.length xs.length hi - HT.sIx xs.length 0 lo), IsTup.new _ _⟩

/-! ### t < u, t + u -/
end
end L2

namespace L2
open PySem PySem.Spec PyProof.Rows

/-! ### places -/
/-- the place that an index of any sign means -/
def ixN (n : Nat) (i : Int) : Option Nat := if 0 ≤ i then (if i < n then some i.toNat else none) else if -(n : Int) ≤ i then some (i + n).toNat else none
def atI {α : Type} (xs : List α) (i : Int) : Option α := (ixN xs.length i).bind fun j => xs[j]?
theorem ixN_seq {n : Nat} {i : Int} {j : Nat} (h : ixN n i = some j) : seqIndex? i n = some j ∧ j < n ∧ -(n : Int) ≤ i ∧ i < n := by
  unfold ixN at h
  by_cases h0 : 0 ≤ i
  · rw [if_pos h0] at h
    by_cases h1 : i < n
    · rw [if_pos h1] at h
      have e : i.toNat = j := Option.some.inj h
      exact ⟨by rw [seqIndex_of h0 h1, e], by omega, by omega, h1⟩
    · rw [if_neg h1] at h; cases h
  · rw [if_neg h0] at h
    by_cases h1 : -(n : Int) ≤ i
    · rw [if_pos h1] at h
      have e : (i + n).toNat = j := Option.some.inj h
      exact ⟨by rw [seqIndex_neg (by omega) h1, e], by omega, h1, by omega⟩
    · rw [if_neg h1] at h; cases h
theorem atI_get {α : Type} {xs : List α} {i : Int} {v : α} (h : atI xs i = some v) : ∃ j, seqIndex? i xs.length = some j ∧ xs[j]? = some v ∧ j < xs.length ∧ -(xs.length : Int) ≤ i ∧ i < xs.length := by
  unfold atI at h
  cases e : ixN xs.length i with
  | none => rw [e] at h; cases h
  | some j =>
    rw [e] at h
    obtain ⟨h1, h2, h3, h4⟩ := ixN_seq e
    exact ⟨j, h1, h, h2, h3, h4⟩
theorem atI_nat {α : Type} {xs : List α} {j : Nat} {v : α} (h : xs[j]? = some v) : atI xs (j : Int) = some v := by
  have hj : j < xs.length := (List.getElem?_eq_some_iff.mp h).1
  have e : ixN xs.length (j : Int) = some j := by
    unfold ixN
    rw [if_pos (by omega), if_pos (by omega)]; simp
  unfold atI; rw [e]; exact h
/-! ### what may be subscripted -/
/-- what stands as an index of a plain subscript -/
def PlainIx (b : Expr) : Prop := ∀ o i, subscripted b false o i = operate [o, i] (getItem o i)
/-- a subscript by values -/
def IxR (X : Cx) (r : R2) : Prop :=
  ∀ (value slice : Expr) (pins : List (Addr × Obj)) (s : Shared) (σ : St) (H : Hp) (x y : V) (v u : Value) (Q : VK), Inv X pins σ H s → RelV x v → RelV y u → r x y H Q →
    subscripted slice false v u = operate [v, u] (getItem v u) → wpAny (model X.prog X.w) X.A (subscriptTail value slice v u) (EP X pins σ Q) X.xe s
/-- a call of a builtin's method by values: the receiver, the arguments -/
def MtR (X : Cx) (id : String) (r : V → List V → Hp → VK → Prop) : Prop :=
  ∀ (pins : List (Addr × Obj)) (s : Shared) (σ : St) (H : Hp) (x : V) (xs : List V) (v : Value) (us : List Value) (Q : VK), Inv X pins σ H s → RelV x v → Vals xs us → r x xs H Q →
    wpAny (model X.prog X.w) X.A (call (.builtin id) (v :: us)) (EP X pins σ Q) X.xe s
section
variable {X : Cx} {a b : Expr} {ta tb : TE} {pos : Pos}
theorem IxR.or {r r' : R2} (h : IxR X r) (h' : IxR X r') : IxR X (fun x y H Q => r x y H Q ∨ r' x y H Q) := by
  intro value slice pins s σ H x y v u Q I rx ry q hs
  rcases q with q | q
  · exact h value slice pins s σ H x y v u Q I rx ry q hs
  · exact h' value slice pins s σ H x y v u Q I rx ry q hs
theorem MtR.or {id : String} {r r' : V → List V → Hp → VK → Prop} (h : MtR X id r) (h' : MtR X id r') : MtR X id (fun x xs H Q => r x xs H Q ∨ r' x xs H Q) := by
  intro pins s σ H x xs v us Q I rx rs q
  rcases q with q | q
  · exact h pins s σ H x xs v us Q I rx rs q
  · exact h' pins s σ H x xs v us Q I rx rs q
def rIxL (K : PySem.W.Frag) : R2 := fun x y H Q => ∃ p xs i v, x = .ref p ∧ y = .int i ∧ SqL K H p xs ∧ atI xs i = some v ∧ Q v H
def rIxT (K : PySem.W.Frag) : R2 := fun x y H Q => ∃ p xs i v, x = .ref p ∧ y = .int i ∧ SqT K H p xs ∧ atI xs i = some v ∧ Q v H
theorem ix_list : IxR X (rIxL X.K) := by
  intro value slice pins s σ H x y v u Q I rx ry h hs
  obtain ⟨p, xs, i, z, rfl, rfl, hq, he, q⟩ := h
  cases rx
  obtain ⟨t, rfl⟩ := ry
  obtain ⟨its, r, pl, hz⟩ := I.list hq
  obtain ⟨j, h1, h2, h3, h4, h5⟩ := atI_get he
  obtain ⟨w, ew, rw'⟩ := r.get h2
  have hl := r.length
  have hn := line63
  have fin : EP X pins σ Q w s := ⟨z, H, I, rw', q⟩
  by_cases h0 : 0 ≤ i
  · have hj : i.toNat = j := by
      rw [seqIndex_of h0 h5] at h1
      exact Option.some.inj h1
    exact item_listR pl.isList h0 (by omega) (by rw [hj]; simpa using ew) fin hs
  · have hj : (i + (its.toArray.size : Int)).toNat = j := by
      rw [seqIndex_neg (by omega) h4] at h1
      rw [List.size_toArray, ← hl]
      exact Option.some.inj h1
    exact subscriptTail_builtinR (x := w) pl.isList.typeIs slot_list_getitem.lookup
      (wpAny_getItem_list_neg (Q := fun r s' => r = w ∧ EP X pins σ Q r s') pl.isList (by omega) (by rw [List.size_toArray] <;> omega) (by omega) (by rw [hj]; simpa using ew) ⟨rfl, fin⟩) hs
theorem ix_tup : IxR X (rIxT X.K) := by
  intro value slice pins s σ H x y v u Q I rx ry h hs
  obtain ⟨p, xs, i, z, rfl, rfl, hq, he, q⟩ := h
  cases rx
  obtain ⟨t, rfl⟩ := ry
  obtain ⟨its, r, pl, hz⟩ := I.tuple hq
  obtain ⟨j, h1, h2, h3, h4, h5⟩ := atI_get he
  obtain ⟨w, ew, rw'⟩ := r.get h2
  have hl := r.length
  have hn := line63
  have fin : EP X pins σ Q w s := ⟨z, H, I, rw', q⟩
  exact subscriptTail_builtinR (x := w) pl.typeIs slot_tuple_getitem.lookup
    (getItem_tuple (j := j) (Q := fun r s' => r = w ∧ EP X pins σ Q r s') pl (by omega) (by omega) (by rw [List.size_toArray, ← hl]; exact h1) (by simpa using ew) ⟨rfl, fin⟩) hs
/-! ### xs[i] = v, any sign -/
theorem Inv.lst {pins : List (Addr × Obj)} {σ : St} {H : Hp} {s : Shared} {p : Addr} {xs : List V} (I : Inv X pins σ H s) (h : H p = some (.lst xs)) :
    ∃ (its : List Value) (n : Nat), Vals xs its ∧ s.heap.get? p = some { cls := .type "list", data := .seq its.toArray n } ∧ xs.length ≤ sizeLine := by
  obtain ⟨z, its, n, r, e⟩ := I.hok p _ h
  exact ⟨its, n, r, e, z⟩
/-! ### slices -/
theorem slice_bounds (lo hi : Option Int) (n : Nat) : (sliceBounds lo hi none n).1 = ((HT.sIx n 0 lo : Nat) : Int) ∧ (sliceBounds lo hi none n).2.1 = ((HT.sIx n n hi : Nat) : Int) ∧ (sliceBounds lo hi none n).2.2 = 1 := by
  refine ⟨?_, ?_, rfl⟩
  · cases lo with
    | none => simp [sliceBounds, HT.sIx]
    | some i =>
      simp only [sliceBounds, HT.sIx, Option.getD_none, show (1 : Int) > 0 by decide, if_true]
      by_cases h : i < 0
      · simp only [h, if_true] <;> omega
      · simp only [h, if_false] <;> omega
  · cases hi with
    | none => simp [sliceBounds, HT.sIx]
    | some i =>
      simp only [sliceBounds, HT.sIx, Option.getD_none, show (1 : Int) > 0 by decide, if_true]
      by_cases h : i < 0
      · simp only [h, if_true] <;> omega
      · simp only [h, if_false] <;> omega
theorem slicePick_cut (its : List Value) (lo hi : Option Int) : slicePick its.toArray lo hi none = ((its.drop (HT.sIx its.length 0 lo)).take (HT.sIx its.length its.length hi - HT.sIx its.length 0 lo)).toArray := by
  obtain ⟨h1, h2, h3⟩ := slice_bounds lo hi its.toArray.size
  unfold slicePick
  rw [h1, h2, h3]
  simp only [sliceRange_one, pick_run, List.size_toArray] <;> rfl
/-! ### in, not in: flat items -/
/-! ### len, list(x), tuple(x) of any list or tuple that is read -/
theorem call_len_seq : CallR X (.builtin "len") (fun xs H Q => ∃ p ys, xs = [.ref p] ∧ (SqL X.K H p ys ∨ SqT X.K H p ys) ∧ Q (.int ys.length) H) := by
  intro pins s σ H xs us Q I r h
  obtain ⟨p, ys, rfl, hq, q⟩ := h
  obtain ⟨u, rfl, rx⟩ := vals1 r
  cases rx
  have hn := line63
  rcases hq with hq | hq
  · obtain ⟨its, r', pl, hz⟩ := I.list hq
    have hlen := r'.length
    exact Calls.call_len_list pl.isList (by simp only [List.size_toArray] <;> omega) ⟨.int ys.length, H, I.tok _, ⟨s.toks + 1, by rw [List.size_toArray, hlen]⟩, q⟩
  · obtain ⟨its, r', pl, hz⟩ := I.tuple hq
    have hlen := r'.length
    exact len_tuple pl (by simp only [List.size_toArray] <;> omega) ⟨.int ys.length, H, I.tok _, ⟨s.toks + 1, by rw [List.size_toArray, hlen]⟩, q⟩
theorem CallR.or {f : Value} {r r' : List V → Hp → VK → Prop} (h : CallR X f r) (h' : CallR X f r') : CallR X f (fun xs H Q => r xs H Q ∨ r' xs H Q) := by
  intro pins s σ H xs us Q I rs q
  rcases q with q | q
  · exact h pins s σ H xs us Q I rs q
  · exact h' pins s σ H xs us Q I rs q
theorem call_list_of : CallR X (.type "list") (fun xs H Q => ∃ p ys, xs = [.ref p] ∧ (SqL X.K H p ys ∨ SqT X.K H p ys) ∧ ∀ l, H l = none → Q (.ref l) (upd H l (.lst ys))) := by
  intro pins s σ H xs us Q I r h
  obtain ⟨p, ys, rfl, hq, q⟩ := h
  obtain ⟨u, rfl, rx⟩ := vals1 r
  cases rx
  have fin : ∀ (its : List Value), Vals ys its → ys.length ≤ sizeLine → ∀ (h' : Heap) (c' : Nat), (∀ b o', s.heap.get? b = some o' → h'.get? b = some o') →
      h'.get? s.heap.objs.size = some { cls := .type "list", dict := none, data := .seq its.toArray c', slots := #[] } → EP X pins σ Q (.ref s.heap.objs.size) { s with heap := h' } := fun its r' hz h' c' kp e =>
    ⟨.ref s.heap.objs.size, _, I.laid (t' := s.toks) kp (Nat.le_refl _) (show ObjOk X.prog X.w _ h' _ (.lst ys) from ⟨hz, its, c', r', e⟩), rfl, q _ (I.hok.fresh (Nat.le_refl _))⟩
  rcases hq with hq | hq
  · obtain ⟨its, r', pl, hz⟩ := I.list hq
    have hlen := r'.length
    obtain ⟨o, ho, hc, n, hd⟩ := pl.isList
    exact call_list_seq p (.inl rfl) ho hc hd (fun h' c' kp e => fin its r' hz h' c' kp e) (by simp only [List.size_toArray] <;> omega)
  · obtain ⟨its, r', pl, hz⟩ := I.tuple hq
    have hlen := r'.length
    obtain ⟨o, ho, hc, n, hd⟩ := pl
    exact call_list_seq p (.inr rfl) ho hc hd (fun h' c' kp e => fin its r' hz h' c' kp e) (by simp only [List.size_toArray] <;> omega)
/-! ### the call of a builtin's method: o.m(..) -/
/-- the value is of that builtin type -/
def tyV (K : PySem.W.Frag) (T : String) (x : V) (H : Hp) : Prop := match x with
  | .str _ => T = "str"
  | .int _ => T = "int"
  | .ref p => (T = "list" ∧ ∃ xs, SqL K H p xs) ∨ (T = "tuple" ∧ ∃ o, K.lookup p = some o ∧ o.cls = .type "tuple" ∧ o.dict = none) ∨
      (T = "dict" ∧ ((∃ kvs, H p = some (.dK kvs)) ∨ ∃ kvs, H p = some (.dT kvs))) ∨ (T = "set" ∧ ∃ S n, H p = some (.set S n))
  | _ => False
theorem tyV_is {pins : List (Addr × Obj)} {σ : St} {H : Hp} {s : Shared} {T : String} {x : V} {v : Value} (I : Inv X pins σ H s) (r : RelV x v) (ty : tyV X.K T x H) :
    s.TypeIs v T ∧ ∀ a, v = .ref a → ∃ ob, s.heap.get? a = some ob ∧ ob.dict = none := by
  cases x with
  | str z =>
    obtain ⟨t, rfl⟩ := r
    cases (show T = "str" from ty)
    exact ⟨typeIs_str s z t, fun _ e => nomatch e⟩
  | int i =>
    obtain ⟨t, rfl⟩ := r
    cases (show T = "int" from ty)
    exact ⟨typeIs_int s i t, fun _ e => nomatch e⟩
  | ref p =>
    cases r
    rcases ty with ⟨rfl, xs, hq⟩ | ⟨rfl, o, hk, hc, hd⟩ | ⟨rfl, hk⟩ | ⟨rfl, S, n, hk⟩
    · obtain ⟨its, _, pl, _⟩ := I.list hq
      refine ⟨pl.isList.typeIs, fun a e => ?_⟩
      cases e
      obtain ⟨o, n, e, c, hd, _⟩ := pl
      exact ⟨o, e, hd⟩
    · refine ⟨⟨o, I.kIn p o hk, hc⟩, fun a e => ?_⟩
      cases e
      exact ⟨o, I.kIn _ o hk, hd⟩
    · have z : ∃ o, s.heap.get? p = some o ∧ o.ExactDict := by
        rcases hk with ⟨kvs, hk⟩ | ⟨kvs, hk⟩
        · obtain ⟨_, _, _, _, o, _, _, e, ex, _⟩ := I.hok p _ hk
          exact ⟨o, e, ex⟩
        · obtain ⟨_, _, _, _, o, _, _, e, ex, _⟩ := I.hok p _ hk
          exact ⟨o, e, ex⟩
      obtain ⟨o, e, ex⟩ := z
      refine ⟨⟨o, e, ex.1⟩, fun a e2 => ?_⟩
      cases e2
      exact ⟨o, e, ex.2.1⟩
    · obtain ⟨o, _, _, _, e, ex, _⟩ := I.hok p _ hk
      refine ⟨⟨o, e, ex.1⟩, fun a e2 => ?_⟩
      cases e2
      exact ⟨o, e, ex.2.1⟩
  | _ => exact False.elim ty
def tBM0 (K : PySem.W.Frag) (T : String) (r : V → List V → Hp → VK → Prop) (to : TE) : TE := fun σ H Q => to σ H fun x H1 => tyV K T x H1 ∧ r x [] H1 Q
def tBM (K : PySem.W.Frag) (T : String) (r : V → List V → Hp → VK → Prop) (to : TE) (t : TA) : TE := fun σ H Q => to σ H fun x H1 => tyV K T x H1 ∧ t σ H1 fun xs H2 => r x xs H2 Q
variable {o e : Expr} {es : List Expr} {to : TE} {t : TA} {name : Str} {apos cpos : Pos} {T id : String} {r : V → List V → Hp → VK → Prop}
theorem pe_bm0 (pa : PlainAttrs T) (slot : Slot T name id) (hty : typeOf (.builtin id) = pure (.type "method_descriptor")) (hm : MtR X id r) (ho : PE X o to)
    (hbase : attributeBase o name X.env (eval o X.env) = eval o X.env := by rfl) (hline : (apos.endLine == cpos.line) = true := by rfl) : PE X (.Call (.Attribute o name apos) [] [] cpos) (tBM0 X.K T r to) := by
  intro pins s σ H Q I h
  refine wpAny_Call_method0_late hbase hline (thn (ho pins s σ H _ I h) fun v s1 ⟨x, H1, I1, r1, ty, q1⟩ => ?_)
  obtain ⟨h1, h2⟩ := tyV_is I1 r1 ty
  exact ⟨T, id, pa, slot, hty, h1, h2, Calls.callWith_builtin rfl (PySem.evalArgs_none (hm pins s1 σ H1 x [] v [] Q I1 r1 .nil q1))⟩
theorem pe_bm (pa : PlainAttrs T) (slot : Slot T name id) (hty : typeOf (.builtin id) = pure (.type "method_descriptor")) (hm : MtR X id r) (ho : PE X o to) (ha : PA X (e :: es) t)
    (hbase : attributeBase o name X.env (eval o X.env) = eval o X.env := by rfl)
    (hfew : ((backTo cpos (starEach (e :: es) X.env)).all (fun x => !x.1) && (backToKw cpos (keywordEach [] X.env)).all (fun x => x.1.isSome)
      && decide ((e :: es).length + ([] : List Keyword).length + (if ([] : List Keyword).isEmpty then 0 else 1) < 30)) = true := by rfl)
    (hline : (apos.endLine == cpos.line) = true := by rfl) (hs : starEach (e :: es) X.env = (false, eval e X.env) :: starEach es X.env := by rfl) (hplain : (backTo cpos (starEach es X.env)).any (·.1) = false := by rfl) :
    PE X (.Call (.Attribute o name apos) (e :: es) [] cpos) (tBM X.K T r to t) := by
  intro pins s σ H Q I h
  refine wpAny_Call_method_late hbase hfew hline rfl (thn (ho pins s σ H _ I h) fun v s1 ⟨x, H1, I1, r1, ty, q1⟩ => ?_)
  obtain ⟨h1, h2⟩ := tyV_is I1 r1 ty
  refine ⟨T, id, pa, slot, hty, h1, h2, ?_⟩
  have hA := ha cpos pins s1 σ H1 _ I1 q1
  rw [hs] at hA ⊢
  refine Calls.callWith_builtin (by show (false || (backTo cpos (starEach es X.env)).any (·.1)) = false; rw [hplain] <;> rfl) (Calls.evalArgs_plain ?_)
  exact thn hA fun us s2 ⟨vs, H2, I2, r2, q2⟩ => hm pins s2 σ H2 x vs v us Q I2 r1 r2 q2
/- xs.append(e), list.index on a module's tuple .. are MtR facts of 06m -/
end
end L2

namespace L2
open PySem PySem.Spec PyProof.Rows

def MtM (X : Cx) (id : String) (r : V → List V → Hp → VK → Prop) : Prop :=
  ∀ (pins : List (Addr × Obj)) (s : Shared) (σ : St) (H : Hp) (x : V) (xs : List V) (v : Value) (us : List Value) (Q : VK), Inv X pins σ H s → RelV x v → Vals xs us → r x xs H Q →
    wpAny (model X.prog X.w) X.A (call (.builtin id) (v :: us)) (EP X pins σ Q) X.xe s

/-! ### lists of values -/
theorem Vals.one : ∀ {x : V} {us : List Value}, Vals [x] us → ∃ u, us = [u] ∧ RelV x u
  | _, _, .cons r .nil => ⟨_, rfl, r⟩
theorem Vals.zero : ∀ {us : List Value}, Vals [] us → us = []
  | _, .nil => rfl
theorem Vals.dropLast {xs : List V} {us : List Value} (h : Vals xs us) : Vals xs.dropLast us.dropLast := by
  induction h with
  | nil => exact .nil
  | cons r t ih =>
    cases t with
    | nil => exact .nil
    | cons q t' => exact .cons r ih
theorem Vals.reverse {xs : List V} {us : List Value} (h : Vals xs us) : Vals xs.reverse us.reverse := by
  induction h with
  | nil => exact .nil
  | cons r t ih => rw [List.reverse_cons, List.reverse_cons]; exact Vals.append ih (.cons r .nil)
section
variable {X : Cx} {pins : List (Addr × Obj)} {σ : St} {H : Hp} {s : Shared} {l b : Addr} {xs ys zs : List V}

/-! ### the two steps: a tracked list is rewritten, a new list is laid -/
theorem Inv.lset {its its' : List Value} {n : Nat} {f : Array Value → Array Value} {t' : Nat} (I : Inv X pins σ H s) (hH : H l = some (.lst xs))
    (e : s.heap.get? l = some { cls := .type "list", data := .seq its.toArray n }) (hf : f its.toArray = its'.toArray) (hv : Vals ys its') (hz : ys.length ≤ sizeLine) :
    Inv X pins σ (upd H l (.lst ys)) { s with heap := s.heap.update l (Obj.mapSeq f), toks := t' } := by
  have q := PySem.IsL.update e f
  rw [hf] at q
  refine I.write (x := l) (e := l) (by rw [hH]; exact trivial) (.inl rfl) (fun b' u hb hu => (Heap.get?_update_other s.heap (Obj.mapSeq f) (Ne.symm hb)).trans hu) ⟨_, q⟩ ?_
  exact ⟨hz, its', _, hv, q⟩
theorem Inv.fresh (I : Inv X pins σ H s) : H s.heap.objs.size = none := I.hok.fresh (Nat.le_refl _)
theorem Inv.lstM (I : Inv X pins σ H s) (hH : H l = some (.lst xs)) : xs.length ≤ sizeLine ∧ ∃ (its : List Value) (n : Nat), Vals xs its ∧ xs.length = its.length ∧ s.heap.get? l = some { cls := .type "list", data := .seq its.toArray n } := by
  obtain ⟨z, its, n, r, e⟩ := I.hok l _ hH
  exact ⟨z, its, n, r, r.length, e⟩

theorem notLongL {n : Nat} (h : n ≤ sizeLine) : Builtin.List.listTooLong n = false := by
  unfold Builtin.List.listTooLong
  exact decide_eq_false (by omega)
end

section
variable {X : Cx}

/-! ### methods -/
def rAppend : V → List V → Hp → VK → Prop := fun x vs H Q => ∃ l xs y, x = .ref l ∧ vs = [y] ∧ H l = some (.lst xs) ∧ xs.length < sizeLine ∧ Q .non (upd H l (.lst (xs ++ [y])))
theorem mt_append : MtM X "list.append" rAppend := by
  intro pins s σ H x vs v us Q I rx rv h
  obtain ⟨l, xs, y, rfl, rfl, hH, hz, q⟩ := h
  cases rx
  obtain ⟨u, rfl, ru⟩ := rv.one
  obtain ⟨z, its, n, r, hl, e⟩ := I.lstM hH
  refine call_meets F.slot_list_append ⟨_, e, rfl⟩ F.entry_list_append (F.args_list_append_2 _ _) (PySem.list_append l its.toArray n u (by rw [List.size_toArray]; omega)) ⟨e, ?_⟩
  refine ⟨.non, _, I.lset (its' := its ++ [u]) hH e (by simp) (r.append (.cons ru .nil)) ?_, rfl, q⟩
  rw [List.length_append, List.length_singleton]
  omega

def rExtend : V → List V → Hp → VK → Prop := fun x vs H Q => ∃ l b xs zs, x = .ref l ∧ vs = [.ref b] ∧ H l = some (.lst xs) ∧ H b = some (.lst zs) ∧ xs.length + zs.length ≤ sizeLine ∧ Q .non (upd H l (.lst (xs ++ zs)))
theorem mt_extend : MtM X "list.extend" rExtend := by
  intro pins s σ H x vs v us Q I rx rv h
  obtain ⟨l, b, xs, zs, rfl, rfl, hH, hB, hz, q⟩ := h
  cases rx
  obtain ⟨u, rfl, ru⟩ := rv.one
  cases ru
  obtain ⟨z, its, n, r, hl, e⟩ := I.lstM hH
  obtain ⟨z2, its2, n2, r2, hl2, e2⟩ := I.lstM hB
  have hsz : its.toArray.size + its2.toArray.size ≤ sizeLine := by rw [List.size_toArray, List.size_toArray]; omega
  have hlong : ¬ (!its.toArray.isEmpty && Builtin.List.listTooLong (its.toArray.size + its2.toArray.size)) = true := by
    rw [notLongL hsz, Bool.and_false]
    exact Bool.false_ne_true
  refine call_meets F.slot_list_extend ⟨_, e, rfl⟩ F.entry_list_extend (F.args_list_extend_2 _ _)
    (AutoSeq1.list_extend_list_list_0 l its.toArray n b its2.toArray n2 hlong (by rw [List.size_toArray]; omega) (by omega)) ⟨e, e2, ?_⟩
  refine ⟨.non, _, I.lset (its' := its ++ its2) hH e (by simp) (r.append r2) ?_, rfl, q⟩
  rw [List.length_append]
  omega

def rClear : V → List V → Hp → VK → Prop := fun x vs H Q => ∃ l xs, x = .ref l ∧ vs = [] ∧ H l = some (.lst xs) ∧ Q .non (upd H l (.lst []))
theorem mt_clear : MtM X "list.clear" rClear := by
  intro pins s σ H x vs v us Q I rx rv h
  obtain ⟨l, xs, rfl, rfl, hH, q⟩ := h
  cases rx
  have hus := rv.zero
  subst hus
  obtain ⟨z, its, n, r, hl, e⟩ := I.lstM hH
  refine call_meets F.slot_list_clear ⟨_, e, rfl⟩ F.entry_list_clear (F.args_list_clear_1 _) (AutoSeq1.list_clear_list_0 l its.toArray n (by rw [List.size_toArray]; omega)) ⟨e, ?_⟩
  exact ⟨.non, _, I.lset (its' := []) (ys := []) hH e rfl .nil (Nat.zero_le _), rfl, q⟩

/-! ### list + list, list += list, list * int -/
/-! ### del xs[i] -/
end

/-! ### xs[a:b] = ys -/
section
variable {prog : Program} {w : World} {A : Around} {E : Value → Shared → Prop} {s : Shared}
set_option maxRecDepth 100000 in
end

section
variable {X : Cx}
end
end L2

namespace Att
open PySem PySem.W PySem.Calls PyProof.Rows

/-! ### the script -/
theorem ints_of_wellAll {P : Params} {h : Heap} : ∀ (ns : List Int) (vs : List Value), WellAll P h vs (ns.map WData.int) → IntsAre vs ns := by
  intro ns
  induction ns with
  | nil =>
    intro vs w
    rw [List.map_nil] at w
    cases w
    exact .nil
  | cons n ns ih =>
    intro vs w
    rw [List.map_cons] at w
    cases w with
    | cons a b =>
      cases a
      exact .cons _ _ (ih _ b)

theorem script_of {l : OpenLaw} {n : Nat} (hn : l.most = some n) {P : Params} {h : Heap} {args : List WData} {vals : List Value}
    (hpre : l.row.toRowW.claim.pre args = true) (hwl : WellAll P h vals args) :
    ∃ a vs ns, vals = [Value.ref a] ∧ args = [WData.list (ns.map WData.int)] ∧ h.get? a = some { cls := .type "list", data := .seq vs.toArray } ∧ IntsAre vs ns ∧ ns.length ≤ n := by
  have hsh : WShape.hasAll [] args [.list .int] = true := (pre_splitW hpre).1
  have hc : l.pre.holds [] { args := args } = true := (pre_splitW hpre).2
  obtain ⟨d, r, rfl, h1, h2⟩ := hasAllW_cons hsh
  obtain rfl := hasAllW_nil h2
  obtain ⟨xs, rfl, h3⟩ := hasW_list h1
  obtain ⟨ns, rfl⟩ := items_int h3
  have hlen : ns.length ≤ n := by
    unfold OpenLaw.pre at hc
    have h4 : (WTm.not (.lt (.lit (.int (n : Int))) (.len (.arg 0)))).holds [] { args := [.list (ns.map .int)] } = true := by
      have h4 := (holds_andW hc).1
      rw [hn] at h4
      exact h4
    have h5 := condW_of h4 (w_not (w_lt w_lit (w_len_list (w_arg rfl))))
    rw [List.length_map] at h5
    refine Nat.le_of_not_lt fun q => ?_
    have q' : (n : Int) < ((ns.length : Nat) : Int) := by omega
    first
      | (rw [decide_eq_true q'] at h5; exact absurd h5 (by decide))
      | (simp at h5; omega)
  cases hwl with
  | cons w1 w2 =>
    cases w2
    cases w1 with
    | list ho hall => exact ⟨_, _, ns, rfl, rfl, ho, ints_of_wellAll ns _ hall, hlen⟩

theorem post_true (l : OpenLaw) (args : List WData) : l.row.toRowW.claim.post args (.bool true) args = true :=
  postW_of (r := l.row.toRowW) (X := (true == true))
    (show WShape.has [] (.bool true) .bool = true by first | rfl | decide | simp [WShape.has, WShape.arms, WShape.armsAll])
    (show (WTm.eq .res (.lit (.bool true))).value [] { args := args, res := some (.bool true), after := args } = some (.bool (true == true)) from w_eq_bool (w_res rfl) w_lit) rfl

/-! ### the attachment: holds_open's last premise (the goal 'hc' behind k_head) from a wpAny of the law's body -/
/-- the same from a codeAny of the CALL (for a layer whose function contracts speak of calls) -/
theorem attach_call {l : OpenLaw} {n : Nat} {q : Program} {loose : List Str} {XP : (Str → Option Value) → Heap → Prop} {YP : World → Heap → Prop} {d : DefRec}
    (hn : l.most = some n) (hdf : d.params.defaults = [])
    (call : ∀ (w : World) (s₀ s₁ : Shared) (mg mb : Str → Option Value) (fa : Addr) (o : Obj) (pm cd doc : Value) (a : Addr) (vs : List Value) (ns : List Int),
      Ground q loose [] XP w s₀ mg mb s₁.heap → YP w s₁.heap →
      s₁.heap.get? fa = some o → o.data = .func (docDef d.name d.params d.body d.scope pm cd doc) → s₁.heap.CodeRec cd d.name → mg d.name = some (.ref fa) →
      s₁.heap.get? a = some { cls := .type "list", data := .seq vs.toArray } → IntsAre vs ns → ns.length ≤ n → s₁.gens = #[] →
      codeAny (model l.prog w) callerA (.call (.ref fa) ⟨[.ref a], []⟩) (fun r s' => r = .ok (.ret (.bool true)) ∧ OldK s₁.heap s'.heap ∧ s'.os = s₁.os ∧ AllBare s'.gens) s₁) :
    WalkO q loose XP YP l.row.toRowW d [] (fun f vs => PySem.call f vs) := by
  intro w s₀ s₁ mg mb G Y fa o pm cd doc dV kV ho hd hcd hD hmg hg args vals as hpre hlay hrd hwl hlo
  obtain rfl : dV = .none := Dflts.none hD hdf
  obtain rfl : kV = .none := Dflts.noKw hD
  obtain ⟨a, vs, ns, rfl, rfl, hobj, hints, hlen⟩ := script_of hn hpre hwl
  refine enter_call (codeAny_mono (call w s₀ s₁ mg mb fa o pm cd doc a vs ns G Y ho (fd_plain hd) hcd hmg hobj hints hlen hg) fun r s' hq => ?_)
  obtain ⟨rfl, h2, h3, h4⟩ := hq
  exact ⟨.inl ⟨.bool true, .bool true, [], rfl, fun _ => rfl, .bool true, post_true l _, fun _ => ⟨List.Pairwise.nil, fun _ hm => (nomatch hm)⟩⟩, h2, h3, h4⟩

/-! ### rules over ANY heap (no ledger) from facts about the written part K: the library's own take a ledger (News) for what they write -/
section
variable {prog : Program} {w : World} {A : Around} {E : Value → Shared → Prop} {s : Shared} {K : Frag}

/-! the whole heap as the ledger: makes every rule that writes through a ledger a rule over any heap -/
def ledger (h : Heap) (L d : Addr) : List (Addr × Obj) := (List.range h.objs.size).filterMap fun a => if a = L ∨ a = d then none else (h.get? a).map fun o => (a, o)
end
end Att

namespace L2
open PySem PySem.Spec PyProof.Rows

theorem vals_ints : ∀ {vs : List Value} {ns : List Int}, IntsAre vs ns → Vals (ns.map V.int) vs
  | _, _, .nil => .nil
  | _, _, .cons n t h => .cons ⟨t, rfl⟩ (vals_ints h)

/-- nothing is tracked but the script, known to the object (or it is an object of the module) -/
def Only (H : Hp) : Prop := ∀ b, H b = none ∨ ∃ o xs, H b = some (.frz o (.lst xs))

/-- THE HEAD: the law's promise, at the heap behind the top. F, the promise of the law's def, may use that base is part of the heap (so K.In base, base.Ns mainGlobals mg stand in Mod) -/
theorem law_call {P : Program} {w : World} {K : PySem.W.Frag} {mg mb : Str → Option Value} {CX : CXT} {k : Nat} {fa a : Addr} {fd : FuncData} {x : Str} {sp : Sp} {s₁ : Shared} {vs : List Value} {ns : List Int}
    (KX : K.In s₁.heap) (hns : s₁.heap.Ns mainGlobals mg) (hb : s₁.heap.Ns builtinsNs mb) (hbb : ∀ x : Str, x ≠ "__name__" → mb x = bootBuiltins x) (hlim : s₁.heap.NoLimit) (hg : s₁.gens = #[])
    (ha : s₁.heap.get? a = some { cls := .type "list", data := .seq vs.toArray }) (hi : IntsAre vs ns) (hl : ns.length ≤ sizeLine) (hr : Room k callerA)
    (F : ∀ base : Heap, K.In base → base.Ns mainGlobals mg → FnOk P w K mg base CX k fa fd [x] sp) (hbind : ∀ (s : Shared) (u : Value), BindsTo s fd ⟨[u], []⟩ [(x, u)])
    (hsp : ∀ H : Hp, Only H → SqL K H a (ns.map V.int) → sp [.ref a] H (fun v _ => v = .bl true) fun _ _ _ => False)
    (hCX : ∀ H e s', CX [] H s₁ (fun _ _ _ => False) e s' → False) :
    codeAny (model P w) callerA (.call (.ref fa) ⟨[.ref a], []⟩) (fun r s' => r = .ok (.ret (.bool true)) ∧ OldK s₁.heap s'.heap ∧ s'.os = s₁.os ∧ AllBare s'.gens) s₁ := by
  have rv := vals_ints hi
  have lenV := hi.length
  -- from an abstract heap in which nothing but the script may be tracked
  have core : ∀ H : Hp, Only H → SqL K H a (ns.map V.int) → HOk P w H s₁.heap → (∀ b, H b ≠ none → b = a) → (H a ≠ none → K.lookup a = none) →
      codeAny (model P w) callerA (.call (.ref fa) ⟨[.ref a], []⟩) (fun r s' => r = .ok (.ret (.bool true)) ∧ OldK s₁.heap s'.heap ∧ s'.os = s₁.os ∧ AllBare s'.gens) s₁ := by
    intro H hO hS hok hA hK
    have base_of : ∀ {b : Addr} {o : Obj}, s₁.heap.get? b = some o → H b = none → (hidT s₁.heap H).get? b = some o := fun e n => hidT_get e n
    have noA : ∀ {b : Addr} {o : Obj} {es : Array DictEntry} {ep : Nat}, s₁.heap.get? b = some o → o.data = .dict es ep → H b = none := fun {b o es ep} e d => by
      cases q : H b with
      | none => rfl
      | some u =>
        have e' : b = a := hA b (by rw [q]; simp)
        subst e'
        rw [ha] at e; cases e
        have d' : Data.seq vs.toArray _ = Data.dict es ep := d
        cases d'
    have nsK : ∀ {b : Addr} {m : Str → Option Value}, s₁.heap.Ns b m → (hidT s₁.heap H).Ns b m := fun {b m} ⟨o, es, ep, e, d, r⟩ => ⟨o, es, ep, base_of e (noA e d), d, r⟩
    have hKb : K.In (hidT s₁.heap H) := fun b o e => base_of (KX b o e) (by
      cases q : H b with
      | none => rfl
      | some u =>
        have e' : b = a := hA b (by rw [q]; simp)
        subst e'
        rw [hK (by rw [q]; simp)] at e; cases e)
    have hM : Mod K mg (hidT s₁.heap H) := ⟨hKb, nsK hns, ⟨mb, nsK hb, hbb⟩, let ⟨mc, h1, h2⟩ := hlim; ⟨mc, nsK h1, h2⟩⟩
    have e0 : Env0 P w K mg (hidT s₁.heap H) callerA [] s₁ H := ⟨rfl, hM, fun b o e => of_hidT e, Nat.le_of_eq (hidT_size _ _), trivial, fun b hb => absurd (show b ∈ ([] : List Addr) from hb) (by simp), hok, .of_eq hg⟩
    refine codeAny_mono ((F _ hKb (nsK hns)).run callerA [] s₁ H ⟨[.ref a], []⟩ [.ref a] [.ref a] _ _ hr e0 (hbind s₁ (.ref a)) (.cons rfl .nil) (hsp H hO hS)) fun r s' h => ?_
    cases r with
    | error e => exact (hCX H e s' h).elim
    | ok fl =>
      cases fl with
      | next => exact False.elim h
      | brk => exact False.elim h
      | cont => exact False.elim h
      | ret u =>
        obtain ⟨v, H', os, bare, un, hok', r', q⟩ := h
        have q' : v = .bl true := q
        subst q'
        obtain rfl : u = Value.bool true := r'
        refine ⟨rfl, OldK.of_keep fun b o e => ?_, os, bare⟩
        cases q : H b with
        | none => exact un.keep b o e q (by intro z; exact absurd (show b ∈ ([] : List Addr) from z) (by simp)) (by simp)
        | some u =>
          rcases hO b with z | ⟨ob, xs, z⟩
          · rw [q] at z; cases z
          · have z2 := un.frzs b ob _ z
            obtain ⟨e1, _⟩ := hok b _ z
            obtain ⟨e2, _⟩ := hok' b _ z2
            rw [e] at e1; cases e1
            exact e2
  cases hk : K.lookup a with
  | some o =>
    -- the script is one of the module's own objects
    have e := KX a o hk
    rw [ha] at e
    cases e
    refine core (fun _ => none) (fun _ => .inl rfl) (.inr ⟨_, vs.toArray, _, hk, rfl, rfl, rfl, by rw [List.size_toArray, lenV]; exact hl, by simpa using rv⟩) (fun b u z => by have z' : (none : Option HO) = some u := z; cases z') (fun b z => absurd rfl z) fun z => absurd rfl z
  | none =>
    refine core (fun b => if b = a then some (.frz { cls := .type "list", data := .seq vs.toArray } (.lst (ns.map V.int))) else none) (fun b => ?_) (.inl (.inr ⟨{ cls := .type "list", data := .seq vs.toArray }, if_pos rfl⟩)) (fun b u z => ?_) (fun b z => ?_) fun _ => hk
    · by_cases hb : b = a
      · exact .inr ⟨_, _, if_pos hb⟩
      · exact .inl (if_neg hb)
    · by_cases hb : b = a
      · have z' := (if_pos hb).symm.trans z
        cases z'
        subst hb
        exact ⟨ha, by rw [List.length_map]; exact hl, vs, _, rv, ha⟩
      · have z' := (if_neg hb).symm.trans z
        cases z'
    · by_cases hb : b = a
      · exact hb
      · exact absurd (if_neg hb) z
end L2

namespace L2
open PySem PySem.Spec PyProof.Rows

/-- the goal that k_head leaves (case hc), from the law's promise. F gives the function object fd (K's own) once, then the promise over every base -/
theorem walk_of {l : PySem.W.OpenLaw} {n k : Nat} {q : Program} {loose : List Str} {XP : (Str → Option Value) → Heap → Prop} {YP : World → Heap → Prop} {d : DefRec} {K : Params → PySem.W.Frag} {CX : World → CXT} {sp : World → Sp} {x : Str}
    (hn : l.most = some n) (hn2 : n ≤ sizeLine) (hdf : d.params.defaults = []) (hr : Room k callerA)
    (hY : ∀ (w : World) (h : Heap), YP w h → (K w.params).In h)
    (F : ∀ (w : World) (mg : Str → Option Value) (fa : Addr) (h : Heap), (K w.params).In h → h.Ns mainGlobals mg → mg d.name = some (.ref fa) →
      ∃ fd : FuncData, (∀ (s : Shared) (u : Value), BindsTo s fd ⟨[u], []⟩ [(x, u)]) ∧
        ∀ base : Heap, (K w.params).In base → base.Ns mainGlobals mg → FnOk l.prog w (K w.params) mg base (CX w) k fa fd [x] (sp w))
    (hsp : ∀ (w : World) (H : Hp) (a : Addr) (ns : List Int), ns.length ≤ n → Only H → SqL (K w.params) H a (ns.map V.int) → sp w [.ref a] H (fun v _ => v = .bl true) fun _ _ _ => False)
    (hCX : ∀ (w : World) (H : Hp) (s : Shared) (e : Value) (s' : Shared), CX w [] H s (fun _ _ _ => False) e s' → False) :
    PySem.W.WalkO q loose XP YP l.row.toRowW d [] (fun f vs => PySem.call f vs) := by
  refine Att.attach_call hn hdf fun w s₀ s₁ mg mb fa o pm cd doc a vs ns G Y ho hd hcd hmg hobj hints hlen hg => ?_
  have KX := hY w _ Y
  obtain ⟨fd, hb, hF⟩ := F w mg fa _ KX G.T.g hmg
  exact law_call KX G.T.g G.T.b G.T.builtins G.T.nolimit hg hobj hints (Nat.le_trans hlen hn2) hr hF hb (fun H hO hS => hsp w H a ns hlen hO hS) fun H e s' => hCX w H s₁ e s'
end L2

/-! SHORT WORDS over the layer: a def of the text, its body, what a loop and a test want. -/
namespace L2
open PySem PySem.Spec PyProof.Rows

/-! ### the text by places -/
def defArgs (s : Stmt) : Arguments := match s with
  | .FunctionDef _ a _ _ _ _ _ _ _ _ => a
  | _ => { posonlyargs := [], args := [], vararg := none, kwonlyargs := [], kw_defaults := [], kwarg := none, defaults := [] }
def defBody (s : Stmt) : List Stmt := match s with
  | .FunctionDef _ _ b _ _ _ _ _ _ _ => b
  | _ => []
def defScope (s : Stmt) : Scope := match s with
  | .FunctionDef _ _ _ _ _ _ sc _ _ _ => sc
  | _ => { kind := .function, names := [], isGenerator := false, isCoroutine := false }

/-! ### no exception leaves a def -/
abbrev CX0 : CXT := fun _ _ _ _ _ _ => False
abbrev E0 : XK := fun _ _ _ => False
/-! ### a def (or method) of the text as it stands behind the top -/
structure Fun (K : PySem.W.Frag) (x qual : Str) (st : Stmt) (f : Addr) (fd : FuncData) : Prop where
  ex : ∃ (oc : Value) (od : Option Addr) (kV doc pm : Value) (an : Option Addr) (cdv ct : Value) (osl : Array (Option Value)),
    fd = PySem.W.fnOf x qual (defArgs st) (defBody st) (defScope st) .none kV doc pm an cdv ct ∧ K.lookup f = some ⟨oc, od, .func fd, osl⟩ ∧ PySem.W.codeIn K cdv qual = true
  kp : PySem.W.keepIn K (.ref f) = true
section
variable {P : Program} {w : World} {K : PySem.W.Frag} {mg : Str → Option Value} {base : Heap}
/-- how its arguments bind (no defaults): h is «fun _ _ _ _ _ _ us hl => match us, hl with | [_, _], _ => rfl», one _ a parameter -/
theorem Fun.binds {x qual : Str} {st : Stmt} {f : Addr} {fd : FuncData} {ps : List Str} (F : Fun K x qual st f fd)
    (h : ∀ (kV doc pm : Value) (an : Option Addr) (cdv ct : Value) (us : List Value), us.length = ps.length → bindArgs (PySem.W.fnOf x qual (defArgs st) (defBody st) (defScope st) .none kV doc pm an cdv ct) ⟨us, []⟩ = pure (ps.zip us)) : Binds K fd ps [] := by
  obtain ⟨oc, od, kV, doc, pm, an, cdv, ct, osl, rfl, lk, hcd⟩ := F.ex
  exact .all (h kV doc pm an cdv ct)
end
theorem hu_of {A : Around} {k : Nat} (hr : Room k A) : A.units + 1 < cLine := Nat.lt_of_le_of_lt (Nat.add_le_add_left (by decide : 1 ≤ 64) _) hr.units
/-! ### expressions in short: the name that stands in the i-th slot -/
section
variable {X : Cx}
theorem pv (i : Nat) {x : Str} {pos : Pos} (hN : X.N[i]? = some x := by rfl) (hv : Vis X.env.scope x := by first | exact Or.inl rfl | exact Or.inr (Or.inl rfl) | exact Or.inr (Or.inr rfl)) (hd : (x == ("__debug__" : Str)) = false := by decide)
    (hcd : (x == ("__classdict__" : Str)) = false := by decide) : PE X (.Name x pos) (tVar i) := pe_var hN hv hd hcd
end

/-! ### tests -/
/-! ### heaps -/
/-- all that was tracked is as it was -/
def Same (H H' : Hp) : Prop := ∀ b o, H b = some o → H' b = some o
theorem Same.refl (H : Hp) : Same H H := fun _ _ h => h
theorem Same.trans {H H1 H2 : Hp} (a : Same H H1) (b : Same H1 H2) : Same H H2 := fun c o h => b c o (a c o h)
theorem Same.free {H H' : Hp} (e : Same H H') {l : Addr} (h : H' l = Option.none) : H l = Option.none := by
  cases q : H l with
  | none => rfl
  | some o =>
    rw [e l o q] at h
    cases h
theorem Same.seq {K : PySem.W.Frag} {H H' : Hp} {a : Addr} {xs : List V} (e : Same H H') (h : SqL K H a xs) : SqL K H' a xs := by
  rcases h with (h | ⟨o, h⟩) | h
  · exact .inl (.inl (e _ _ h))
  · exact .inl (.inr ⟨o, e _ _ h⟩)
  · exact .inr h

end L2

set_option maxHeartbeats 4000000

namespace L2
open PySem PySem.Spec PyProof.Rows

/-! ### lists of pairs as tables -/
section
variable {κ : Type} [DecidableEq κ]
def valV (kvs : List (κ × V)) (k : κ) : Option V := (kvs.find? fun kv => decide (kv.1 = k)).map (·.2)
/-- in its place, or at the end -/
def putK (kvs : List (κ × V)) (k : κ) (v : V) : List (κ × V) :=
  if (kvs.any fun kv => decide (kv.1 = k)) = true then kvs.map (fun kv => if kv.1 = k then (kv.1, v) else kv) else kvs ++ [(k, v)]
def dropK (kvs : List (κ × V)) (k : κ) : List (κ × V) := kvs.filter fun kv => decide (kv.1 ≠ k)

theorem valV_nil {k : κ} : valV ([] : List (κ × V)) k = none := rfl
theorem valV_pos {p : κ × V} {r : List (κ × V)} {k : κ} (e : p.1 = k) : valV (p :: r) k = some p.2 := by simp [valV, List.find?_cons, e]
theorem valV_neg {p : κ × V} {r : List (κ × V)} {k : κ} (e : ¬ p.1 = k) : valV (p :: r) k = valV r k := by simp [valV, List.find?_cons, e]
theorem valV_any (k : κ) : ∀ kvs : List (κ × V), (kvs.any fun kv => decide (kv.1 = k)) = (valV kvs k).isSome
  | [] => rfl
  | p :: r => by
    rw [List.any_cons]
    by_cases e : p.1 = k
    · simp only [valV_pos e, decide_eq_true e, Bool.true_or, Option.isSome_some]
    · rw [valV_neg e, decide_eq_false e, Bool.false_or]; exact valV_any k r
theorem length_putK (kvs : List (κ × V)) (k : κ) (v : V) : (putK kvs k v).length ≤ kvs.length + 1 := by
  unfold putK
  split
  · rw [List.length_map]; omega
  · rw [List.length_append, List.length_cons, List.length_nil]; omega
theorem putK_new {kvs : List (κ × V)} {k : κ} (v : V) (h : valV kvs k = none) : putK kvs k v = kvs ++ [(k, v)] := by
  unfold putK
  rw [valV_any, h]
  exact if_neg (by decide)

theorem RelO.isSome_eq {o : Option V} {u : Option Value} (r : RelO o u) : o.isSome = u.isSome := by
  cases o with
  | none => cases u with
    | none => rfl
    | some _ => exact (show False from r).elim
  | some _ => cases u with
    | none => exact (show False from r).elim
    | some _ => rfl
theorem RelO.getD {o : Option V} {u : Option Value} {d : V} {d' : Value} (r : RelO o u) (rd : RelV d d') : RelV (o.getD d) (u.getD d') := by
  cases o with
  | none => cases u with
    | none => exact rd
    | some _ => exact (show False from r).elim
  | some _ => cases u with
    | none => exact (show False from r).elim
    | some _ => exact r

/-- raw tables of the same keys -/
theorem KV.val {kvs : List (κ × V)} {vs : List (κ × Value)} (r : KV kvs vs) (k : κ) : RelO (valV kvs k) (valueAt vs k) := by
  unfold KV at r
  induction r with
  | nil => exact True.intro
  | @cons p q ps qs h t ih =>
    obtain ⟨h1, h2⟩ := h
    by_cases e : p.1 = k
    · have e' : q.1 = k := h1.symm.trans e
      have b : valueAt (q :: qs) k = some q.2 := by simp [valueAt, List.find?_cons, e']
      rw [valV_pos e, b]; exact h2
    · have e' : ¬ q.1 = k := fun z => e (h1.trans z)
      have b : valueAt (q :: qs) k = valueAt qs k := by simp [valueAt, List.find?_cons, e']
      rw [valV_neg e, b]; exact ih
theorem KV.any {kvs : List (κ × V)} {vs : List (κ × Value)} (r : KV kvs vs) (k : κ) : (kvs.any fun kv => decide (kv.1 = k)) = vs.any fun kv => decide (kv.1 = k) := by
  unfold KV at r
  induction r with
  | nil => rfl
  | cons h t ih => rw [List.any_cons, List.any_cons, ih, h.1]
theorem KV.repl {kvs : List (κ × V)} {vs : List (κ × Value)} (r : KV kvs vs) (k : κ) {y : V} {u : Value} (ry : RelV y u) :
    KV (kvs.map fun kv => if kv.1 = k then (kv.1, y) else kv) (vs.map fun kv => if kv.1 = k then (kv.1, u) else kv) := by
  unfold KV at r ⊢
  induction r with
  | nil => exact .nil
  | @cons p q ps qs h t ih =>
    rw [List.map_cons, List.map_cons]
    refine .cons ?_ ih
    obtain ⟨h1, h2⟩ := h
    by_cases e : p.1 = k
    · rw [if_pos e, if_pos (h1.symm.trans e)]; exact ⟨h1, ry⟩
    · rw [if_neg e, if_neg (fun z => e (h1.trans z))]; exact ⟨h1, h2⟩
theorem KV.put {kvs : List (κ × V)} {vs : List (κ × Value)} (r : KV kvs vs) (k : κ) {y : V} {u : Value} (ry : RelV y u) : KV (putK kvs k y) (stored vs k u) := by
  unfold putK stored
  rw [r.any k]
  by_cases e : (vs.any fun kv => decide (kv.1 = k)) = true
  · rw [if_pos e, if_pos e]; exact r.repl k ry
  · rw [if_neg e, if_neg e]; exact Paired.snoc r ⟨rfl, ry⟩
theorem KV.keys {kvs : List (κ × V)} {vs : List (κ × Value)} (r : KV kvs vs) : kvs.map (·.1) = vs.map (·.1) := by
  unfold KV at r
  induction r with
  | nil => rfl
  | cons h t ih => rw [List.map_cons, List.map_cons, ih, h.1]
theorem KV.length {kvs : List (κ × V)} {vs : List (κ × Value)} (r : KV kvs vs) : kvs.length = vs.length := Paired.length r
end


/-! ### a tracked dict, its keys ints and texts or tuples of these -/
theorem kV_is {P : Program} {w : World} {k : Key} {u : Value} (r : RelV (kV k) u) : (mixKind P w).is k u = true := by
  cases k with
  | inl i => obtain ⟨t, e⟩ := (show ∃ t, u = Value.int i t from r); subst e; exact mixKind_int P w i t
  | inr x => obtain ⟨t, e⟩ := (show ∃ t, u = Value.str x t from r); subst e; exact mixKind_str P w x t
theorem items_are {P : Program} {w : World} : ∀ {ks : List Key} {us : List Value}, Vals (ks.map kV) us → ItemsAre (mixKind P w) ks us
  | [], _, r => by rw [List.map_nil] at r; cases r; exact .nil
  | k :: ks, _, r => by
    rw [List.map_cons] at r
    cases r with
    | cons h t => exact .cons (kV_is h) (items_are t)

/-- raw entries of a dict with tuple keys -/
abbrev KT (H : Hp) : List (List Key × V) → List (List Key × Addr × Value) → Prop := Paired fun p q => p.1 = q.1 ∧ H q.2.1 = some (.tup (p.1.map kV)) ∧ RelV p.2 q.2.2
theorem KT.val {H : Hp} {kvs : List (List Key × V)} {xs : List (List Key × Addr × Value)} (r : KT H kvs xs) (k : List Key) : RelO (valV kvs k) ((atKey xs k).map (·.2)) := by
  induction r with
  | nil => exact True.intro
  | @cons p q ps qs h t ih =>
    obtain ⟨h1, _, h2⟩ := h
    by_cases e : p.1 = k
    · have e' : q.1 = k := h1.symm.trans e
      have b : atKey (q :: qs) k = some q.2 := by simp [atKey, List.find?_cons, e']
      rw [valV_pos e, b]; exact h2
    · have e' : ¬ q.1 = k := fun z => e (h1.trans z)
      have b : atKey (q :: qs) k = atKey qs k := by simp [atKey, List.find?_cons, e']
      rw [valV_neg e, b]; exact ih
theorem KT.repl {H : Hp} {kvs : List (List Key × V)} {xs : List (List Key × Addr × Value)} (r : KT H kvs xs) (k : List Key) {y : V} {u : Value} (ry : RelV y u) :
    KT H (kvs.map fun kv => if kv.1 = k then (kv.1, y) else kv) (xs.map (putAt k u)) := by
  induction r with
  | nil => exact .nil
  | @cons p q ps qs h t ih =>
    rw [List.map_cons, List.map_cons]
    refine .cons ?_ ih
    obtain ⟨h1, h2, h3⟩ := h
    unfold putAt
    by_cases e : p.1 = k
    · rw [if_pos e, if_pos (h1.symm.trans e)]; exact ⟨h1, h2, ry⟩
    · rw [if_neg e, if_neg (fun z => e (h1.trans z))]; exact ⟨h1, h2, h3⟩
theorem KT.put {H : Hp} {kvs : List (List Key × V)} {xs : List (List Key × Addr × Value)} (r : KT H kvs xs) (k : List Key) {b : Addr} {y : V} {u : Value} (hb : H b = some (.tup (k.map kV))) (ry : RelV y u) :
    KT H (putK kvs k y) (storedH xs k b u) := by
  have e : (kvs.any fun kv => decide (kv.1 = k)) = (atKey xs k).isSome := by
    rw [valV_any, (r.val k).isSome_eq, Option.isSome_map]
  unfold putK storedH
  rw [e]
  by_cases q : (atKey xs k).isSome = true
  · rw [if_pos q, if_pos q]; exact r.repl k ry
  · rw [if_neg q, if_neg q]; exact Paired.snoc r ⟨rfl, hb, ry⟩
theorem KT.keeps {H H' : Hp} {kvs : List (List Key × V)} {xs : List (List Key × Addr × Value)} (r : KT H kvs xs) (ht : ∀ b ys, H b = some (.tup ys) → H' b = some (.tup ys)) : KT H' kvs xs :=
  Paired.mapP r fun _ _ z => ⟨z.1, ht _ _ z.2.1, z.2.2⟩

section
variable {P : Program} {w : World} {H : Hp} {h : Heap} {a : Addr}
theorem rd_of {u : HO} (ok : HOk P w H h) (e : Rd H a u) : ObjOk P w H h a u := e.ok ok
theorem dk_rd {kvs : List (Key × V)} (ok : HOk P w H h) (e : Rd H a (.dK kvs)) : kvs.length ≤ sizeLine ∧ (a == sysModules) = false ∧ ∃ vs, KV kvs vs ∧ h.DictOf (mixKind P w) a vs :=
  show ObjOk P w H h a (.dK kvs) from rd_of ok e
theorem dk_of {kvs : List (Key × V)} (ok : HOk P w H h) (e : H a = some (.dK kvs)) : kvs.length ≤ sizeLine ∧ (a == sysModules) = false ∧ ∃ vs, KV kvs vs ∧ h.DictOf (mixKind P w) a vs := dk_rd ok (.inl e)
/-- a tracked tuple of ints and texts is a key -/
theorem key_of {ks : List Key} (ok : HOk P w H h) (e : H a = some (.tup (ks.map kV))) : (tupleKind (mixKind P w)).is h ks a := by
  obtain ⟨_, its, r, o, h1, h2, n, h3⟩ := (show ObjOk P w H h a (.tup (ks.map kV)) from ok a _ e)
  exact ⟨o, its.toArray, n, h1, h2, h3, by simpa using items_are r⟩
theorem dt_rd {kvs : List (List Key × V)} (ok : HOk P w H h) (e : Rd H a (.dT kvs)) : kvs.length ≤ sizeLine ∧ (a == sysModules) = false ∧
    ∃ xs, KT H kvs xs ∧ h.DictOfH (tupleKind (mixKind P w)) a xs := by
  obtain ⟨z, y, xs, r, o, es, ep, h1, h2, h3, h4, h5⟩ := (show ObjOk P w H h a (.dT kvs) from rd_of ok e)
  refine ⟨z, y, xs, r, o, es, ep, h1, h2, h3, h4, fun x hx => ?_, h5⟩
  have all : ∀ {l : List (List Key × V)} {m : List (List Key × Addr × Value)}, KT H l m → ∀ x ∈ m, (tupleKind (mixKind P w)).is h x.1 x.2.1 := by
    intro l m q
    induction q with
    | nil => intro x hx; exact nomatch hx
    | @cons p q ps qs hq t ih =>
      intro x hx
      rcases List.mem_cons.mp hx with e | hx
      · subst e
        exact key_of ok (by rw [← hq.1]; exact hq.2.1)
      · exact ih x hx
  exact all r x hx
theorem dt_of {kvs : List (List Key × V)} (ok : HOk P w H h) (e : H a = some (.dT kvs)) : kvs.length ≤ sizeLine ∧ (a == sysModules) = false ∧
    ∃ xs, KT H kvs xs ∧ h.DictOfH (tupleKind (mixKind P w)) a xs := dt_rd ok (.inl e)
end

/-- what the dict at a holds at the key y -/
def DGet (H : Hp) (a : Addr) (y : V) (r : Option V) : Prop :=
  (∃ kvs k, Rd H a (.dK kvs) ∧ y = kV k ∧ r = valV kvs k) ∨ ∃ kvs k b, Rd H a (.dT kvs) ∧ y = .ref b ∧ H b = some (.tup (k.map kV)) ∧ r = valV kvs k
/-- the heap behind a[y] = v -/
def DPut (H : Hp) (a : Addr) (y v : V) (H' : Hp) : Prop :=
  (∃ kvs k, H a = some (.dK kvs) ∧ y = kV k ∧ kvs.length < sizeLine ∧ H' = upd H a (.dK (putK kvs k v))) ∨
  ∃ kvs k b, H a = some (.dT kvs) ∧ y = .ref b ∧ H b = some (.tup (k.map kV)) ∧ kvs.length < sizeLine ∧ H' = upd H a (.dT (putK kvs k v))
theorem DGet.k {H : Hp} {a : Addr} {kvs : List (Key × V)} {k : Key} (e : H a = some (.dK kvs)) : DGet H a (kV k) (valV kvs k) := .inl ⟨kvs, k, .inl e, rfl, rfl⟩
theorem DGet.t {H : Hp} {a b : Addr} {kvs : List (List Key × V)} {k : List Key} (e : H a = some (.dT kvs)) (eb : H b = some (.tup (k.map kV))) : DGet H a (.ref b) (valV kvs k) := .inr ⟨kvs, k, b, .inl e, rfl, eb, rfl⟩
theorem DPut.k {H : Hp} {a : Addr} {kvs : List (Key × V)} {k : Key} {v : V} (e : H a = some (.dK kvs)) (hl : kvs.length < sizeLine) : DPut H a (kV k) v (upd H a (.dK (putK kvs k v))) := .inl ⟨kvs, k, e, rfl, hl, rfl⟩
theorem DPut.t {H : Hp} {a b : Addr} {kvs : List (List Key × V)} {k : List Key} {v : V} (e : H a = some (.dT kvs)) (eb : H b = some (.tup (k.map kV))) (hl : kvs.length < sizeLine) :
    DPut H a (.ref b) v (upd H a (.dT (putK kvs k v))) := .inr ⟨kvs, k, b, e, rfl, eb, hl, rfl⟩


section
variable {X : Cx} {pins : List (Addr × Obj)} {σ : St} {H : Hp} {s : Shared} {a : Addr} {y v : V} {u r : Value} {o : Option V} {A : Around} {E : Value → Shared → Prop}

theorem Inv.big (I : Inv X pins σ H s) : sysModules < s.heap.objs.size := by
  have h : mainGlobals < s.heap.objs.size := (I.mod.glob.keeps I.bk).lt
  exact Nat.lt_trans (by decide) h

/-- d[y], there -/
theorem d_getItem {Q : Value → Shared → Prop} (hu : A.units + 1 < cLine) (I : Inv X pins σ H s) (g : DGet H a y (some v)) (ry : RelV y u) (h : ∀ w' s', Inv X pins σ H s' → RelV v w' → Q w' s') :
    wpAny (model X.prog X.w) A (getItem (.ref a) u) Q E s := by
  rcases g with ⟨kvs, k, e, ey, l⟩ | ⟨kvs, k, b, e, ey, eb, l⟩
  · subst ey
    obtain ⟨z, hd, vs, rel, dd⟩ := dk_rd I.hok e
    obtain ⟨w', hw, rw'⟩ := RelO.some_of (v := v) (o := valueAt vs k) (by rw [l]; exact rel.val k)
    exact wpAny_getItem_of (kV_is ry) dd.mapOf hw (h w' _ (I.tok _) rw')
  · subst ey
    cases (show u = Value.ref b from ry)
    obtain ⟨z, hd, xs, rel, dd⟩ := dt_rd I.hok e
    obtain ⟨w', hw, rw'⟩ := RelO.some_of (v := v) (o := (atKey xs k).map (·.2)) (by rw [l]; exact rel.val k)
    obtain ⟨p, hp, hp2⟩ := Option.map_eq_some_iff.mp hw
    refine wpAny_getItem_heap (tupleKind_room_in1 hu) (key_of I.hok eb) dd hp ?_
    rw [hp2]
    exact h w' _ (I.tok _) rw'
/-- a dict's object is replaced -/
theorem d_write {h' : Heap} {t' : Nat} {ob : HO} (I : Inv X pins σ H s) (mu : Mut (H a)) (hs : Heap.SameBut a s.heap h') (he : ∃ q, h'.get? a = some q) (new : ObjOk X.prog X.w (upd H a ob) h' a ob) :
    Inv X pins σ (upd H a ob) { s with heap := h', toks := t' } :=
  I.write (x := a) (e := a) mu (.inl rfl) (fun b q hb z => (hs.2 b hb).trans z) he new
theorem dk_new {P : Program} {w : World} {H' : Hp} {h' : Heap} {kvs : List (Key × V)} {vs : List (Key × Value)} (z : kvs.length ≤ sizeLine) (hd : (a == sysModules) = false) (rel : KV kvs vs) (dd : h'.DictOf (mixKind P w) a vs) :
    ObjOk P w H' h' a (.dK kvs) := ⟨z, hd, vs, rel, dd⟩
/-- d[y] = v -/
theorem d_setItem {H' : Hp} {Q : Unit → Shared → Prop} (hu : A.units + 1 < cLine) (I : Inv X pins σ H s) (g : DPut H a y v H') (ry : RelV y u) (rv : RelV v r) (h : ∀ s', Inv X pins σ H' s' → Q () s') :
    wpAny (model X.prog X.w) A (setItem (.ref a) u r) Q E s := by
  rcases g with ⟨kvs, k, e, ey, l, eH⟩ | ⟨kvs, k, b, e, ey, eb, l, eH⟩
  · subst ey eH
    obtain ⟨z, hd, vs, rel, dd⟩ := dk_of I.hok e
    have hz : vs.length ≤ sizeLine := by rw [← rel.length]; exact z
    have hl : (putK kvs k v).length ≤ sizeLine := by have := length_putK kvs k v; omega
    refine wpAny_setItem_pairs (hsz := hz) (kV_is ry) dd fun h' dd' hs => h _ ?_
    have he : ∃ q, h'.get? a = some q := let ⟨q, _, _, hq, _⟩ := dd'; ⟨q, hq⟩
    exact d_write I (by rw [e]; exact True.intro) hs he (dk_new hl hd (rel.put k rv) dd')
  · subst ey eH
    cases (show u = Value.ref b from ry)
    obtain ⟨z, hd, xs, rel, dd⟩ := dt_of I.hok e
    have hz : xs.length ≤ sizeLine := by rw [← Paired.length rel]; exact z
    have hl : (putK kvs k v).length ≤ sizeLine := by have := length_putK kvs k v; omega
    refine wpAny_setItem_heap (hsz := hz) (tupleKind_room_in1 hu) (key_of I.hok eb) dd fun h' dd' hs => h _ ?_
    obtain ⟨q, es, ep, hq, h2, h3, h4, _, h5⟩ := dd'
    refine d_write I (by rw [e]; exact True.intro) hs ⟨q, hq⟩ ⟨hl, hd, _, (rel.put k eb rv).keeps fun c ys ec => ?_, q, es, ep, hq, h2, h3, h4, h5⟩
    rw [upd_ne (ne_of ec e (fun z => nomatch z))]
    exact ec
end

section
variable {X : Cx} {pins : List (Addr × Obj)} {σ : St} {H : Hp} {s : Shared} {a : Addr} {kvs : List (Key × V)} {k : Key} {u : Value} {A : Around} {E : Value → Shared → Prop}
end


/-! ### readings and rules -/
/-- the element of a subscription, not a slice -/
def NoSl (i : Expr) : Prop := ∀ ov iv, subscripted i false ov iv = operate [ov, iv] (getItem ov iv)
theorem subD_of {prog : Program} {w : World} {A : Around} {E : Value → Shared → Prop} {s : Shared} {env : Env} {value slice : Expr} {pos : Pos} {T id : String} {Q : Value → Shared → Prop}
    (hl : typeLookup (.type T) "__getitem__" = pure (some (.builtin id))) (hs : NoSl slice)
    (h : wpAny (model prog w) A (eval value env) (fun o s₁ => wpAny (model prog w) A (eval slice env) (fun i s₂ => s₂.TypeIs o T ∧ wpAny (model prog w) A (getItem o i) Q E s₂) E s₁) E s) :
    wpAny (model prog w) A (eval (.Subscript value slice pos) env) Q E s := by
  refine Subscript_ (wpAny_mono h (fun o s₁ h₁ => wpAny_mono h₁ (fun i s₂ h₂ => ?_) fun _ _ x => x) fun _ _ x => x)
  obtain ⟨hT, h₂⟩ := h₂
  unfold subscriptTail
  refine wpAny_bind ?_
  rw [getitemInPython_of_ne hT.not_modules]
  refine wpAny_bind (wpAny_specialOf hT hl ?_)
  have fin : wpAny (model prog w) A (subscripted slice false o i) (fun r s₃ => wpAny (model prog w) A (letTemporaryGo value o r >>= fun _ => pure r) Q E s₃) E s₂ := by
    rw [hs o i]
    exact wpAny_operating (wpAny_mono h₂ (fun r s₃ h₃ => wpAny_bind (wpAny_letTemporaryGo (wpAny_pure h₃))) fun _ _ x => x)
  first
    | exact wpAny_pure (wpAny_bind fin)
    | exact wpAny_bind (wpAny_pure (wpAny_bind fin))
    | exact wpAny_bind fin

theorem dict_typeIs {X : Cx} {pins : List (Addr × Obj)} {σ : St} {H : Hp} {s : Shared} {a : Addr} {y : V} {o : Option V} (I : Inv X pins σ H s) (g : DGet H a y o) : s.TypeIs (.ref a) "dict" := by
  rcases g with ⟨kvs, k, e, _, _⟩ | ⟨kvs, k, b, e, _, _, _⟩
  · obtain ⟨_, _, vs, _, dd⟩ := dk_rd I.hok e
    exact dd.typeIs
  · obtain ⟨_, _, xs, _, dd⟩ := dt_rd I.hok e
    exact dd.typeIs
/-- d[y] -/
def tDGet (td ty : TE) : TE := fun σ H Q => td σ H fun x H1 => ty σ H1 fun y H2 => ∃ a v, x = .ref a ∧ DGet H2 a y (some v) ∧ Q v H2
/-- d[y] op= v -/
def sDAug (td ty tv : TE) (rd : V → V → Hp → VK → Prop) : TS := fun D σ H => td σ H fun x H1 => ty σ H1 fun y H2 => ∃ a v, x = .ref a ∧ DGet H2 a y (some v) ∧
  tv σ H2 fun y2 H3 => rd v y2 H3 fun z H4 => ∃ H5, DPut H4 a y z H5 ∧ D.nx σ H5
section
variable {X : Cx} {o i e value : Expr} {pos pos' tpos : Pos} {td ty tv : TE}
theorem pe_dget (hu : X.A.units + 1 < cLine) (ho : PE X o td) (hi : PE X i ty) (hs : NoSl i) : PE X (.Subscript o i pos) (tDGet td ty) := by
  intro pins s σ H Q I h
  refine subD_of PySem.F.slot_dict_getitem.lookup hs (thn (ho pins s σ H _ I h) fun u s1 ⟨x, H1, I1, rx, q1⟩ => thn (hi pins s1 σ H1 _ I1 q1) fun iv s2 ⟨y, H2, I2, ry, a, v, ex, g, q2⟩ => ?_)
  subst ex
  obtain rfl : u = Value.ref a := rx
  exact ⟨dict_typeIs I2 g, d_getItem hu I2 g ry fun w' s3 I3 rw' => ⟨v, H2, I3, rw', q2⟩⟩
theorem ps_daug {op : Operator} {rd : V → V → Hp → VK → Prop} (hu : X.A.units + 1 < cLine) (ho : PE X o td) (hi : PE X i ty) (hv : PE X value tv) (hop : InOp X op rd)
    (ha : ∀ ov iv new, augStore i ov iv new = (do holding [new, ov, iv] (setItem ov iv new); release [new, ov, iv] []; pure .next)) : PS X (.AugAssign (.Subscript o i tpos) op value pos) (sDAug td ty tv rd) := by
  intro pins s σ H D I h
  refine wpAny_AugAssign_SubscriptAny (thn (ho pins s σ H _ I h) fun u s1 ⟨x, H1, I1, rx, q1⟩ => thn (hi pins s1 σ H1 _ I1 q1) fun iv s2 ⟨y, H2, I2, ry, a, v, ex, g, q2⟩ => ?_) ha
  subst ex
  obtain rfl : u = Value.ref a := rx
  refine d_getItem hu I2 g ry fun w' s3 I3 rw' => thn (hv pins s3 σ H2 _ I3 q2) fun w2 s4 ⟨y2, H3, I4, ry2, q3⟩ => thn (hop pins s4 σ H3 v y2 w' w2 _ I4 rw' ry2 q3) fun w3 s5 ⟨z, H4, I5, rz, H5, g5, q4⟩ => ?_
  exact d_setItem hu I5 g5 ry rz fun s6 I6 => ⟨σ, H5, I6, q4⟩
end


/-! ### displays -/
theorem dk_empty {P : Program} {w : World} {H : Hp} (h : Heap) (hb : sysModules < h.objs.size) : ObjOk P w H (h.push { cls := .type "dict", data := .dict #[] }) h.objs.size (.dK []) :=
  ⟨Nat.zero_le _, beq_eq_false_iff_ne.mpr (Ne.symm (Nat.ne_of_lt hb)), [], .nil, Heap.DictOf.new h⟩
theorem dt_empty {P : Program} {w : World} {H : Hp} (h : Heap) (hb : sysModules < h.objs.size) : ObjOk P w H (h.push { cls := .type "dict", data := .dict #[] }) h.objs.size (.dT []) :=
  ⟨Nat.zero_le _, beq_eq_false_iff_ne.mpr (Ne.symm (Nat.ne_of_lt hb)), [], .nil, _, #[], 0, Heap.get?_push_size _ rfl, ⟨rfl, rfl, rfl⟩, rfl, rfl, List.nodup_nil⟩
section
variable {X : Cx} {pos : Pos}
end

abbrev VV : List (V × V) → List (Value × Value) → Prop := Paired fun p q => RelV p.1 q.1 ∧ RelV p.2 q.2
def mergeK (kvs more : List (Key × V)) : List (Key × V) := more.foldl (fun acc kv => putK acc kv.1 kv.2) kvs
theorem KV.merge : ∀ {more : List (Key × V)} {rs : List (Key × Value)} {kvs : List (Key × V)} {vs : List (Key × Value)}, KV more rs → KV kvs vs → KV (mergeK kvs more) (merged vs rs) := by
  intro more rs kvs vs r
  unfold KV at r
  induction r generalizing kvs vs with
  | nil => intro q; exact q
  | @cons p q ps qs h t ih =>
    intro r0
    have e : KV (putK kvs p.1 p.2) (stored vs q.1 q.2) := by
      have := r0.put p.1 h.2
      rw [← h.1]; exact this
    exact ih e
theorem carries_of {P : Program} {w : World} : ∀ {kvs : List (Key × V)} {ws : List (Value × Value)}, VV (kvs.map fun kv => (kV kv.1, kv.2)) ws → ∃ rs, Carries (mixKind P w) ws rs ∧ KV kvs rs
  | [], _, r => by rw [List.map_nil] at r; cases r; exact ⟨[], True.intro, .nil⟩
  | p :: kvs, _, r => by
    rw [List.map_cons] at r
    cases r with
    | @cons a b as bs h t =>
      obtain ⟨rs, c, q⟩ := carries_of (P := P) (w := w) t
      obtain ⟨b1, b2⟩ := b
      exact ⟨(p.1, b2) :: rs, ⟨kV_is h.1, rfl, c⟩, .cons ⟨rfl, h.2⟩ q⟩
/-! ### methods -/
/-- a method call o.m(e) of a built-in, with one argument: what must be seen of the text -/
structure M1 (X : Cx) (o : Expr) (m : Str) (apos : Pos) (e : Expr) (cpos : Pos) : Prop where
  base : attributeBase o m X.env (eval o X.env) = eval o X.env
  few : ((backTo cpos (starEach [e] X.env)).all (fun x => !x.1) && (backToKw cpos (keywordEach [] X.env)).all (fun x => x.1.isSome)
    && decide (([e] : List Expr).length + ([] : List Keyword).length + (if ([] : List Keyword).isEmpty then 0 else 1) < 30)) = true
  line : (apos.endLine == cpos.line) = true
  trees : backTo cpos (starEach [e] X.env) = [(false, eval e X.env)]
structure M2 (X : Cx) (o : Expr) (m : Str) (apos : Pos) (e f : Expr) (cpos : Pos) : Prop where
  base : attributeBase o m X.env (eval o X.env) = eval o X.env
  few : ((backTo cpos (starEach [e, f] X.env)).all (fun x => !x.1) && (backToKw cpos (keywordEach [] X.env)).all (fun x => x.1.isSome)
    && decide (([e, f] : List Expr).length + ([] : List Keyword).length + (if ([] : List Keyword).isEmpty then 0 else 1) < 30)) = true
  line : (apos.endLine == cpos.line) = true
  trees : backTo cpos (starEach [e, f] X.env) = [(false, eval e X.env), (false, eval f X.env)]

section
variable {X : Cx} {pins : List (Addr × Obj)} {σ : St} {H : Hp} {s : Shared} {a : Addr} {y d : V} {u r : Value} {o : Option V} {A : Around} {E : Value → Shared → Prop}
end

section
variable {X : Cx} {o e f : Expr} {apos cpos : Pos} {td ty tx : TE}
end

/-! ### dict(d): a copy -/
section
variable {X : Cx} {pins : List (Addr × Obj)} {σ : St} {H : Hp} {s : Shared} {a : Addr} {kvs : List (Key × V)} {A : Around} {E : Value → Shared → Prop}
end


section
variable {X : Cx} {pins : List (Addr × Obj)} {σ : St} {H : Hp} {s : Shared} {a : Addr} {y : V} {u : Value} {A : Around} {E : Value → Shared → Prop}
end
end L2

namespace PM
/-- one turn of Euclid's way -/
theorem gcd_step (a b : Int) : Int.gcd b (a.fmod b) = Int.gcd a b := by
  have h := Int.fmod_add_mul_fdiv a b
  have h' : a = a.fmod b + a.fdiv b * b := by rw [Int.mul_comm]; exact h.symm
  rw [Int.gcd_comm a b]
  conv => rhs; rw [h']
  rw [Int.gcd_add_mul_right_right]
theorem fmod_less (a : Int) {b : Int} (hb : b ≠ 0) : (a.fmod b).natAbs < b.natAbs := by
  by_cases h : 0 < b
  · have h1 := Int.fmod_lt_of_pos a h
    have h2 := Int.fmod_nonneg_of_pos a h
    omega
  · have h1 : b < 0 := by omega
    have e : a.fmod b = -((-a).fmod (-b)) := by
      have := Int.neg_fmod_neg (a := a) (b := b)
      omega
    have h2 := Int.fmod_lt_of_pos (-a) (b := -b) (by omega)
    have h3 := Int.fmod_nonneg_of_pos (-a) (b := -b) (by omega)
    omega
/-- the greatest common divisor of three -/
def g3 (x y z : Int) : Nat := Int.gcd (Int.gcd x y : Int) z
theorem g3_1 (x y z : Int) : (g3 x y z : Int) ∣ x := Int.dvd_trans (Int.gcd_dvd_left _ _) (Int.gcd_dvd_left _ _)
theorem g3_2 (x y z : Int) : (g3 x y z : Int) ∣ y := Int.dvd_trans (Int.gcd_dvd_left _ _) (Int.gcd_dvd_right _ _)
theorem g3_3 (x y z : Int) : (g3 x y z : Int) ∣ z := Int.gcd_dvd_right _ _
theorem g3_zero {x y z : Int} : g3 x y z = 0 ↔ x = 0 ∧ y = 0 ∧ z = 0 := by
  unfold g3
  rw [Int.gcd_eq_zero_iff]
  constructor
  · rintro ⟨h, h3⟩
    have h' : Int.gcd x y = 0 := by omega
    obtain ⟨h1, h2⟩ := Int.gcd_eq_zero_iff.mp h'
    exact ⟨h1, h2, h3⟩
  · rintro ⟨h1, h2, h3⟩
    subst h1 h2 h3
    simp
/-- the divisor with the sign of the lead -/
def dv3 (x y z l : Int) : Int := if l < 0 then -(g3 x y z : Int) else (g3 x y z : Int)
theorem dv3_ne {x y z l : Int} (h : ¬ (x = 0 ∧ y = 0 ∧ z = 0)) : dv3 x y z l ≠ 0 := by
  have : g3 x y z ≠ 0 := fun e => h (g3_zero.mp e)
  unfold dv3
  split <;> omega
theorem dv3_abs (x y z l : Int) : (dv3 x y z l).natAbs = g3 x y z := by
  unfold dv3
  split <;> omega
theorem dv3_dvd {x y z l t : Int} (h : (g3 x y z : Int) ∣ t) : dv3 x y z l ∣ t := by
  unfold dv3
  split
  · exact Int.neg_dvd.mpr h
  · exact h
theorem red_mul {x y z l t : Int} (h : (g3 x y z : Int) ∣ t) : t.fdiv (dv3 x y z l) * dv3 x y z l = t := by
  have h' := dv3_dvd (l := l) h
  rw [Int.fdiv_eq_ediv_of_dvd h']
  exact Int.ediv_mul_cancel h'
theorem fdiv_abs_le {t g : Int} (hg : g ≠ 0) (h : g ∣ t) : (t.fdiv g).natAbs ≤ t.natAbs := by
  rw [Int.fdiv_eq_ediv_of_dvd h]
  have e := Int.ediv_mul_cancel h
  have : (t / g).natAbs * g.natAbs = t.natAbs := by rw [← Int.natAbs_mul, e]
  have hp : 0 < g.natAbs := by omega
  rw [← this]
  exact Nat.le_mul_of_pos_right _ hp
theorem gcd_zero' (a : Int) : Int.gcd a 0 = a.natAbs := by simp
end PM

namespace PX
open PySem PySem.W PySem.Spec PySem.Calls PyProof.Rows PySem.Builtin.ObjectAttr PySem.Builtin.Getset_descriptor
/-- an exception of the class at c stands at e -/
def ExcAt (e c : Addr) (h : Heap) : Prop := ∃ o vs, h.get? e = some o ∧ o.cls = .ref c ∧ o.data = .fields vs
theorem ExcAt.ty {M : Model} {e c : Addr} {h : Heap} (p : ExcAt e c h) : Looks M h (typeOf (.ref e)) (.ref c) := by
  obtain ⟨o, vs, h1, h2, _⟩ := p
  exact h2 ▸ (Looks.ld h1).andThen .now
/-- what is asked of an error's class -/
def excK (K : Frag) (c : Addr) : Bool :=
  (clsIn K c).isSome && findIn K (.ref c) "__getattribute__" == some (some (.builtin "BaseException.__getattribute__"))
  && findIn K (.ref c) "__getattr__" == some none && findIn K (.ref c) "__class__" == some (some (.builtin "object.__class__"))
  && specialIn K (.builtin "object.__class__") "__get__" == some (some (.builtin "getset_descriptor.__get__"))
  && takesIn K (.builtin "object.__class__") == some true
  && mroIn K c (.type "object") == some true && mroIn K c (.type "BaseException") == some true
  && kitOne K (.ref c) (.type "int") == some false && kitOne K (.ref c) (.type "bool") == some false && kitOne K (.ref c) (.type "tuple") == some false
  && kitOne K (.ref c) (.type "list") == some false && kitOne K (.ref c) (.type "str") == some false
structure ExcK (K : Frag) (c : Addr) : Prop where
  cls : (clsIn K c).isSome = true
  ga : findIn K (.ref c) "__getattribute__" = some (some (.builtin "BaseException.__getattribute__"))
  hook : findIn K (.ref c) "__getattr__" = some none
  at_ : findIn K (.ref c) "__class__" = some (some (.builtin "object.__class__"))
  get : specialIn K (.builtin "object.__class__") "__get__" = some (some (.builtin "getset_descriptor.__get__"))
  takes : takesIn K (.builtin "object.__class__") = some true
  obj : mroIn K c (.type "object") = some true
  exc : mroIn K c (.type "BaseException") = some true
  not : ∀ T, (T = "int" ∨ T = "bool" ∨ T = "tuple" ∨ T = "list" ∨ T = "str") → kitOne K (.ref c) (.type T) = some false
section
variable {prog : Program} {w : World} {A : Around} {E : Value → Shared → Prop} {s : Shared} {K : Frag} {e c : Addr}
theorem x_get {R : Result → Shared → Prop} {tp : Value} (X : K.In s.heap) (p : ExcAt e c s.heap) (hm : mroIn K c (.type "object") = some true) (hq : R (.ok (.ret (.ref c))) s) :
    codeAny (model prog w) A (.call (.builtin "getset_descriptor.__get__") ⟨[.builtin "object.__class__", .ref e, tp], []⟩) R s := by
  obtain ⟨h, g, dr, t, os⟩ := s
  have La := p.ty (M := model prog w)
  have Lb := looks_mroIn (M := model prog w) X hm
  refine codeAny_call_builtin (KF.slot_gs.plain) KF.entry_gs (KF.slot_gs.check _ _ _ _ _ _ _ _ KF.type_class (KF.args_gs _ _ _) ?_)
  unfold Builtin.«getset_descriptor.__get__» descrGet
  rw [dga_obj]
  refine wpAny_bind (wpAny_pure ?_)
  unfold descrGetter descrCheckInstance descrNameAndClass isInstance
  simp only [KF.owner_class]
  repeat lk
  refine ⟨Code.quiet_builtin _ (by decide +kernel), codeAny_builtin KF.entry_class ?_⟩
  unfold Builtin.«object.__class__» shownTypeOf
  repeat lk
  exact hq
theorem x_find {M : Model} {h : Heap} (k : ExcK K c) (X : K.In h) : Looks M h (find (.ref e) (.ref c) "__class__") (.bind (.builtin "getset_descriptor.__get__") (.builtin "object.__class__")) := by
  have La := looks_findIn (M := M) X k.at_
  have Lb : Looks M h (getOf (some (.builtin "object.__class__"))) (some (.builtin "getset_descriptor.__get__")) := looks_specialIn X k.get
  have Lc := looks_takesIn (M := M) X k.takes
  refine La.andThen (Lb.andThen ?_)
  exact (show Looks M h (dataDescriptor? (some (.builtin "object.__class__")) (some (.builtin "getset_descriptor.__get__"))) (some (.builtin "getset_descriptor.__get__", .builtin "object.__class__")) from Lc.andThen .now).andThen (Looks.tag .now)
theorem x_entry {tk : Tok} {Q : Fin → Shared → Prop} (k : ExcK K c) (X : K.In s.heap) (p : ExcAt e c s.heap) (hq : Q (.done (.ret (.ref c))) s) :
    wpAny (model prog w) A (Builtin.«object.__getattribute__» ⟨[.ref e, .str "__class__" tk], []⟩) Q E s := by
  obtain ⟨h, g, dr, t, os⟩ := s
  have La := p.ty (M := model prog w)
  have Lb := x_find (M := model prog w) (e := e) k X
  refine wpAny_bind (wpAny_pure ?_)
  refine wpAny_bind (wpAny_pure ?_)
  refine wpAny_bind (La.at (wpAny_bind (Lb.at ?_)))
  show wpAny _ _ (bindTo _ _ _ _) _ _ _
  unfold bindTo
  repeat (first | with_reducible refine wpAny_bind ?_ | with_reducible refine wpAny_holding ?_)
  refine wpAny_call (x_get X p k.obj ?_)
  exact wpAny_pure hq
theorem x_check {M : Model} {nv : Value} {Q : Unit → Shared → Prop} (k : ExcK K c) (X : K.In s.heap) (p : ExcAt e c s.heap) (hq : Q () s) :
    wpAny M A (checkBuiltinCall "BaseException.__getattribute__" ⟨[.ref e, nv], []⟩) Q E s := by
  obtain ⟨h, g, dr, t, os⟩ := s
  have hk : builtinKind "BaseException.__getattribute__" = some .slot := by decide +kernel
  have hsp : splitId "BaseException.__getattribute__" = some ("BaseException", "__getattribute__") := by decide +kernel
  have ha := F.args_bexc_ga (.ref e) nv
  have La := p.ty (M := M)
  have Lb := looks_mroIn (M := M) X k.exc
  have Li : Looks M h (isInstance (.ref e) (.type "BaseException")) true := La.andThen Lb
  simp only [checkBuiltinCall, hk, hsp]
  refine wpAny_bind (Li.at ?_)
  repeat (first | wp_step)
  exact hq
theorem x_call {tk : Tok} {R : Result → Shared → Prop} (k : ExcK K c) (X : K.In s.heap) (p : ExcAt e c s.heap) (hq : R (.ok (.ret (.ref c))) s) :
    codeAny (model prog w) A (.call (.builtin "BaseException.__getattribute__") ⟨[.ref e, .str "__class__" tk], []⟩) R s :=
  codeAny_call_builtin F.excAttr_ValueError.ga.plain F.entry_bexc_ga (x_check k X p (x_entry k X p hq))
theorem x_attr {Q : Option Value → Shared → Prop} (k : ExcK K c) (X : K.In s.heap) (p : ExcAt e c s.heap) (hq : Q (some (.ref c)) { s with toks := s.toks + 1 }) :
    wpAny (model prog w) A (getAttr? (.ref e) "__class__") Q E s := by
  obtain ⟨h, g, dr, t, os⟩ := s
  have La := p.ty (M := model prog w)
  have Lb := looks_findIn (M := model prog w) X k.ga
  have Lc := looks_findIn (M := model prog w) X k.hook
  have f3 := F.excAttr_ValueError.ga.bind (.ref e)
  unfold getAttr? getAttrBy? getAttrBy
  refine wpAny_bind (wpAny_mkText (wpAny_bind (wpAny_attempt (wpAny_holding (wpAny_bind (La.at (wpAny_bind (Lb.at ?_))))))))
  have hne : (Value.builtin "BaseException.__getattribute__" == Value.builtin "object.__getattribute__") = false := by decide +kernel
  simp only [onTheHeap, Bool.true_and, hne, Bool.false_eq_true, if_false]
  unfold getAttrByItsOwn hookBefore
  simp only [onTheHeap, if_true]
  refine wpAny_bind (Lc.at ?_)
  refine wpAny_bind (wpAny_attempt (wpAny_holding ?_))
  unfold callGetattribute boundAndCalled
  simp only [Bool.false_and, Bool.false_eq_true, if_false]
  refine wpAny_bind (wpAny_of_eq f3 ?_)
  refine wpAny_call (x_call k X p ?_)
  refine wpAny_pure (a := Value.ref c) ?_
  exact wpAny_pure hq
theorem kitx_exc (k : ExcK K c) : KitX K (.ref e) (.ref c) (ExcAt e c) where
  ty := fun _ _ _ p => p.ty
  it := fun _ _ X _ => by
    have h := k.cls
    unfold clsIn at h
    split at h
    · rename_i c' d' cd' sl' ho
      intro A' Q' E' s' kk q
      unfold isType loadHead
      exact wpAny_bind (wpAny_loadPart (kk _ _ (X _ _ ho)) (wpAny_pure q))
    · cases h
  ne := fun h tp dd its n sl X htp => by
    have h := k.cls
    refine Bool.eq_false_iff.mpr fun q => ?_
    have z : c = tp := Value.ref.inj (beq_iff_eq.mp q)
    subst z
    unfold clsIn at h
    split at h
    · rename_i c' d' cd' sl' ho
      cases (X _ _ ho).symm.trans htp
    · cases h
  ca := fun X p kk => x_attr k X p kk
end
end PX

namespace PD
open PySem PySem.Spec PyProof.Rows L2 PX
abbrev St := L2.St

/-! ## What stays: all but the tables of code objects, which grow -/
def NT : HO → Prop
  | .tbl _ => False
  | _ => True
/-- the name of the lambda that a table may hold -/
def lamQ : Str := "lightest.<locals>.<lambda>"
def CodeAt (c : Addr) : Heap → Prop := fun h => h.CodeRec (.ref c) lamQ
/-- what a table holds is tracked -/
def TabOk (H : Hp) : Prop := ∀ P ps, H P = some (.tbl ps) → TriplesOk ps.toList ∧ ∀ pos cv, codeAmong pos ps.toList = some cv → ∃ c, cv = .ref c ∧ H c = some (.ext (CodeAt c))
/-- the table of the def that makes a lambda, if it is none of the module's fixed objects -/
def tabOf (K : PySem.W.Frag) : Option Addr :=
  match PySem.W.nsIn K mainGlobals "lightest" with
  | some (some (.ref f)) => (match K.lookup f with
    | some ⟨_, _, .func fd, _⟩ => (match fd.code with
      | .ref c => (match K.lookup c with
        | some ⟨_, _, .fields vs, _⟩ => (match (vs[11]? : Option Value) with
          | some (.ref P) => if (K.lookup P).isNone = true then some P else none
          | _ => none)
        | _ => none)
      | _ => none)
    | _ => none)
  | _ => none
structure Same (H H' : Hp) : Prop where
  kp : ∀ b o, H b = some o → NT o → H' b = some o
  tb : ∀ b ps, H b = some (.tbl ps) → ∃ more, H' b = some (.tbl (ps ++ more))
  ok : TabOk H → TabOk H'
theorem Same.app {H H' : Hp} (e : Same H H') (b : Addr) (o : HO) (h : H b = some o) (nt : NT o := by first | exact True.intro | assumption) : H' b = some o := e.kp b o h nt
instance {H H' : Hp} : CoeFun (Same H H') (fun _ => ∀ (b : Addr) (o : HO), H b = some o → (nt : NT o := by first | exact True.intro | assumption) → H' b = some o) := ⟨@Same.app H H'⟩
theorem Same.refl (H : Hp) : Same H H := ⟨fun _ _ h _ => h, fun _ ps h => ⟨#[], by rw [h]; simp⟩, id⟩
theorem Same.trans {H H1 H2 : Hp} (a : Same H H1) (b : Same H1 H2) : Same H H2 := ⟨fun c o h n => b.kp c o (a.kp c o h n) n, fun c ps h => by
  obtain ⟨m1, e1⟩ := a.tb c ps h
  obtain ⟨m2, e2⟩ := b.tb c _ e1
  exact ⟨m1 ++ m2, by rw [e2, Array.append_assoc]⟩, fun h => b.ok (a.ok h)⟩
theorem Same.ex {H H' : Hp} (e : Same H H') {b : Addr} {o : HO} (h : H b = some o) : ∃ o', H' b = some o' := by
  by_cases n : NT o
  · exact ⟨o, e.kp b o h n⟩
  · cases o with
    | tbl ps =>
      obtain ⟨m, q⟩ := e.tb b ps h
      exact ⟨_, q⟩
    | _ => exact absurd True.intro n
theorem Same.free {H H' : Hp} (e : Same H H') {l : Addr} (h : H' l = Option.none) : H l = Option.none := by
  cases q : H l with
  | none => rfl
  | some o =>
    obtain ⟨o', z⟩ := e.ex q
    rw [h] at z; cases z
theorem Same.seq {K : PySem.W.Frag} {H H' : Hp} {a : Addr} {xs : List V} (e : Same H H') (h : SqL K H a xs) : SqL K H' a xs := by
  rcases h with (h | ⟨o, h⟩) | h
  · exact .inl (.inl (e _ _ h))
  · exact .inl (.inr ⟨o, e _ _ h⟩)
  · exact .inr h
theorem TabOk.upd {H : Hp} {p : Addr} {o : HO} (n : NT o) (hp : H p = none ∨ ∃ u, H p = some u ∧ (∀ φ, u ≠ .ext φ) ∧ NT u) (h : TabOk H) : TabOk (upd H p o) := by
  intro P ps e
  have hne : P ≠ p := fun z => by
    subst z
    rw [upd_same] at e
    cases e
    exact n
  rw [upd_ne hne] at e
  obtain ⟨h1, h2⟩ := h P ps e
  refine ⟨h1, fun pos cv q => ?_⟩
  obtain ⟨c, e1, e2⟩ := h2 pos cv q
  refine ⟨c, e1, ?_⟩
  rw [upd_ne fun z => ?_]
  · exact e2
  · subst z
    rcases hp with hp | ⟨u, hp, hu, _⟩
    · rw [hp] at e2; cases e2
    · rw [hp] at e2; cases e2; exact hu _ rfl

/-- what is known of the tables -/
structure TabK (K : PySem.W.Frag) (H : Hp) : Prop where
  ok : TabOk H
  at' : ∀ P, tabOf K = some P → ∃ ps, H P = some (.tbl ps)
theorem TabK.same {K : PySem.W.Frag} {H H' : Hp} (h : TabK K H) (e : Same H H') : TabK K H' := ⟨e.ok h.ok, fun P q => by
  obtain ⟨ps, z⟩ := h.at' P q
  obtain ⟨m, z⟩ := e.tb P ps z
  exact ⟨_, z⟩⟩
theorem TabK.upd {K : PySem.W.Frag} {H : Hp} {p : Addr} {o : HO} (h : TabK K H) (n : NT o) (hp : H p = none ∨ ∃ u, H p = some u ∧ (∀ φ, u ≠ .ext φ) ∧ NT u) : TabK K (upd H p o) := ⟨TabOk.upd n hp h.ok, fun P q => by
  obtain ⟨ps, z⟩ := h.at' P q
  refine ⟨ps, ?_⟩
  rw [upd_ne fun e => ?_]
  · exact z
  · subst e
    rcases hp with hp | ⟨u, hp, _, hu⟩
    · rw [hp] at z; cases z
    · rw [hp] at z; cases z; exact hu⟩

/-! ## Data without a heap, and how a value bears them -/
inductive D where
  | non | bl (b : Bool) | int (i : Int) | str (x : Str) | tup (ds : List D) | lst (t : Bool) (ds : List D) | exc (c : Addr)

/-- a list; tagged true: a tracked one -/
def SqG (K : PySem.W.Frag) (H : Hp) (t : Bool) (a : Addr) (vs : List V) : Prop := SqL K H a vs ∧ (t = true → H a = some (.lst vs) ∧ K.lookup a = none)
theorem SqG.same {K : PySem.W.Frag} {H H' : Hp} {t : Bool} {a : Addr} {vs : List V} (e : Same H H') (q : SqG K H t a vs) : SqG K H' t a vs := ⟨e.seq q.1, fun z => ⟨e _ _ (q.2 z).1, (q.2 z).2⟩⟩
theorem SqG.any {K : PySem.W.Frag} {H : Hp} {a : Addr} {vs : List V} (q : SqL K H a vs) : SqG K H false a vs := ⟨q, fun z => by cases z⟩
theorem SqG.new {K : PySem.W.Frag} {H : Hp} {t : Bool} {a : Addr} {vs : List V} (q : H a = some (.lst vs)) (k : K.lookup a = none) : SqG K H t a vs := ⟨SqL.of q, fun _ => ⟨q, k⟩⟩
mutual
/-- v bears d in H; no list of it stands at an address of P (by its tag: true for a list made behind the def's entry) -/
def Den (K : PySem.W.Frag) (P : Bool → Addr → Prop) (H : Hp) : D → V → Prop
  | .non, v => v = .non
  | .bl b, v => v = .bl b
  | .int i, v => v = .int i
  | .str x, v => v = .str x
  | .tup ds, v => ∃ a vs, v = .ref a ∧ SqT K H a vs ∧ Dens K P H ds vs
  | .lst t ds, v => ∃ a vs, v = .ref a ∧ ¬ P t a ∧ SqG K H t a vs ∧ Dens K P H ds vs
  | .exc c, v => ∃ e, v = .ref e ∧ H e = some (.ext (ExcAt e c)) ∧ ExcK K c
def Dens (K : PySem.W.Frag) (P : Bool → Addr → Prop) (H : Hp) : List D → List V → Prop
  | [], vs => vs = []
  | d :: ds, vs => ∃ v r, vs = v :: r ∧ Den K P H d v ∧ Dens K P H ds r
end

section
variable {K : PySem.W.Frag} {P P' : Bool → Addr → Prop} {H H' : Hp}
mutual
theorem Den.map (hT : ∀ a vs, SqT K H a vs → SqT K H' a vs) (hL : ∀ t a vs, ¬ P t a → SqG K H t a vs → ¬ P' t a ∧ SqG K H' t a vs) (hX : ∀ a φ, H a = some (.ext φ) → H' a = some (.ext φ)) : ∀ (d : D) (v : V), Den K P H d v → Den K P' H' d v
  | .non, _, h => by simpa only [Den] using h
  | .bl _, _, h => by simpa only [Den] using h
  | .int _, _, h => by simpa only [Den] using h
  | .str _, _, h => by simpa only [Den] using h
  | .tup ds, _, h => by
    simp only [Den] at h ⊢
    obtain ⟨a, vs, e, q, r⟩ := h
    exact ⟨a, vs, e, hT a vs q, Dens.map hT hL hX ds vs r⟩
  | .lst t ds, _, h => by
    simp only [Den] at h ⊢
    obtain ⟨a, vs, e, p, q, r⟩ := h
    exact ⟨a, vs, e, (hL t a vs p q).1, (hL t a vs p q).2, Dens.map hT hL hX ds vs r⟩
  | .exc c, _, h => by
    simp only [Den] at h ⊢
    obtain ⟨a, e, q, k⟩ := h
    exact ⟨a, e, hX a _ q, k⟩
theorem Dens.map (hT : ∀ a vs, SqT K H a vs → SqT K H' a vs) (hL : ∀ t a vs, ¬ P t a → SqG K H t a vs → ¬ P' t a ∧ SqG K H' t a vs) (hX : ∀ a φ, H a = some (.ext φ) → H' a = some (.ext φ)) : ∀ (ds : List D) (vs : List V), Dens K P H ds vs → Dens K P' H' ds vs
  | [], _, h => by simpa only [Dens] using h
  | d :: ds, _, h => by
    simp only [Dens] at h ⊢
    obtain ⟨v, r, e, h1, h2⟩ := h
    exact ⟨v, r, e, Den.map hT hL hX d v h1, Dens.map hT hL hX ds r h2⟩
end
end

theorem SqT.same {K : PySem.W.Frag} {H H' : Hp} {a : Addr} {xs : List V} (e : Same H H') (h : SqT K H a xs) : SqT K H' a xs := by
  rcases h with (h | ⟨o, h⟩) | h
  · exact .inl (.inl (e _ _ h))
  · exact .inl (.inr ⟨o, e _ _ h⟩)
  · exact .inr h

section
variable {K : PySem.W.Frag} {P : Bool → Addr → Prop} {H H' : Hp}
theorem Den.same {d : D} {v : V} (e : Same H H') (h : Den K P H d v) : Den K P H' d v := Den.map (fun _ _ q => SqT.same e q) (fun _ _ _ p q => ⟨p, q.same e⟩) (fun a _ q => e a _ q) d v h
theorem Dens.same {ds : List D} {vs : List V} (e : Same H H') (h : Dens K P H ds vs) : Dens K P H' ds vs := Dens.map (fun _ _ q => SqT.same e q) (fun _ _ _ p q => ⟨p, q.same e⟩) (fun a _ q => e a _ q) ds vs h
theorem Den.fewer {P' : Bool → Addr → Prop} {d : D} {v : V} (e : ∀ t a, P' t a → P t a) (h : Den K P H d v) : Den K P' H d v := Den.map (fun _ _ q => q) (fun _ _ _ p q => ⟨fun z => p (e _ _ z), q⟩) (fun _ _ q => q) d v h
theorem Dens.fewer {P' : Bool → Addr → Prop} {ds : List D} {vs : List V} (e : ∀ t a, P' t a → P t a) (h : Dens K P H ds vs) : Dens K P' H ds vs := Dens.map (fun _ _ q => q) (fun _ _ _ p q => ⟨fun z => p (e _ _ z), q⟩) (fun _ _ q => q) ds vs h
theorem Dens.len : ∀ {ds : List D} {vs : List V}, Dens K P H ds vs → vs.length = ds.length
  | [], _, h => by simp only [Dens] at h; subst h; rfl
  | d :: ds, _, h => by
    simp only [Dens] at h
    obtain ⟨v, r, rfl, _, h2⟩ := h
    simp [Dens.len h2]
theorem Dens.get : ∀ {ds : List D} {vs : List V} {i : Nat} {d : D}, Dens K P H ds vs → ds[i]? = some d → ∃ v, vs[i]? = some v ∧ Den K P H d v
  | [], _, _, _, _, e => by simp at e
  | d :: ds, _, 0, _, h, e => by
    simp only [Dens] at h
    obtain ⟨v, r, rfl, h1, _⟩ := h
    simp at e; subst e
    exact ⟨v, rfl, h1⟩
  | d :: ds, _, i + 1, x, h, e => by
    simp only [Dens] at h
    obtain ⟨v, r, rfl, _, h2⟩ := h
    obtain ⟨u, e1, e2⟩ := Dens.get (i := i) (d := x) h2 (by simpa using e)
    exact ⟨u, by simpa using e1, e2⟩
theorem Dens.getV : ∀ {ds : List D} {vs : List V} {i : Nat} {v : V}, Dens K P H ds vs → vs[i]? = some v → ∃ d, ds[i]? = some d ∧ Den K P H d v
  | [], _, _, _, h, e => by simp only [Dens] at h; subst h; simp at e
  | d :: ds, _, 0, _, h, e => by
    simp only [Dens] at h
    obtain ⟨v, r, rfl, h1, _⟩ := h
    simp at e; subst e
    exact ⟨d, rfl, h1⟩
  | d :: ds, _, i + 1, x, h, e => by
    simp only [Dens] at h
    obtain ⟨v, r, rfl, _, h2⟩ := h
    obtain ⟨u, e1, e2⟩ := Dens.getV (i := i) (v := x) h2 (by simpa using e)
    exact ⟨u, by simpa using e1, e2⟩
theorem Dens.append : ∀ {ds es : List D} {vs us : List V}, Dens K P H ds vs → Dens K P H es us → Dens K P H (ds ++ es) (vs ++ us)
  | [], _, _, _, h, h' => by simp only [Dens] at h; subst h; exact h'
  | d :: ds, _, _, _, h, h' => by
    simp only [Dens] at h
    obtain ⟨v, r, rfl, h1, h2⟩ := h
    simp only [List.cons_append, Dens]
    exact ⟨v, _, rfl, h1, Dens.append h2 h'⟩
theorem Dens.one {d : D} {v : V} (h : Den K P H d v) : Dens K P H [d] [v] := by
  simp only [Dens]
  exact ⟨v, [], rfl, h, rfl⟩
theorem Dens.nil : Dens K P H [] [] := by simp only [Dens]
theorem Dens.cons {d : D} {v : V} {ds : List D} {vs : List V} (h : Den K P H d v) (h' : Dens K P H ds vs) : Dens K P H (d :: ds) (v :: vs) := by
  simp only [Dens]
  exact ⟨v, vs, rfl, h, h'⟩
theorem Den.int_ {i : Int} {v : V} (h : Den K P H (.int i) v) : v = .int i := by simpa only [Den] using h
theorem Den.bl_ {b : Bool} {v : V} (h : Den K P H (.bl b) v) : v = .bl b := by simpa only [Den] using h
theorem Den.non_ {v : V} (h : Den K P H .non v) : v = .non := by simpa only [Den] using h
theorem Den.str_ {x : Str} {v : V} (h : Den K P H (.str x) v) : v = .str x := by simpa only [Den] using h
theorem Den.int (i : Int) : Den K P H (.int i) (.int i) := by simp only [Den]
theorem Den.bl (b : Bool) : Den K P H (.bl b) (.bl b) := by simp only [Den]
theorem Den.non : Den K P H .non .non := by simp only [Den]
theorem Den.str (x : Str) : Den K P H (.str x) (.str x) := by simp only [Den]
theorem Den.tup_ {ds : List D} {v : V} (h : Den K P H (.tup ds) v) : ∃ a vs, v = .ref a ∧ SqT K H a vs ∧ Dens K P H ds vs := by simpa only [Den] using h
theorem Den.lstG_ {t : Bool} {ds : List D} {v : V} (h : Den K P H (.lst t ds) v) : ∃ a vs, v = .ref a ∧ ¬ P t a ∧ SqG K H t a vs ∧ Dens K P H ds vs := by simpa only [Den] using h
theorem Den.lst_ {t : Bool} {ds : List D} {v : V} (h : Den K P H (.lst t ds) v) : ∃ a vs, v = .ref a ∧ ¬ P t a ∧ SqL K H a vs ∧ Dens K P H ds vs := by
  obtain ⟨a, vs, h1, h2, h3, h4⟩ := h.lstG_
  exact ⟨a, vs, h1, h2, h3.1, h4⟩
theorem Den.exc_ {c : Addr} {v : V} (h : Den K P H (.exc c) v) : ∃ e, v = .ref e ∧ H e = some (.ext (ExcAt e c)) ∧ ExcK K c := by simpa only [Den] using h
theorem Den.exc {c e : Addr} (h : H e = some (.ext (ExcAt e c))) (k : ExcK K c) : Den K P H (.exc c) (.ref e) := by simp only [Den]; exact ⟨e, rfl, h, k⟩
theorem Den.tup {ds : List D} {a : Addr} {vs : List V} (h : SqT K H a vs) (h' : Dens K P H ds vs) : Den K P H (.tup ds) (.ref a) := by simp only [Den]; exact ⟨a, vs, rfl, h, h'⟩
theorem Den.lst {t : Bool} {ds : List D} {a : Addr} {vs : List V} (p : ¬ P t a) (h : SqG K H t a vs) (h' : Dens K P H ds vs) : Den K P H (.lst t ds) (.ref a) := by simp only [Den]; exact ⟨a, vs, rfl, p, h, h'⟩
end

/-! ## The names' values; lists of one's own (appended to) -/
/-- a thing of one's own: a list, a dict with ints and texts as keys, one with tuples of these -/
inductive LI where
  | own (ds : List D) | val (d : D)
inductive OS where
  | lst (ds : List D) | dk (kvs : List (Key × D)) | dt (kvs : List (List Key × D)) | ll (xs : List LI)
inductive Sl where
  | val (d : D)
  | ob (x : OS)
abbrev Sl.own (ds : List D) : Sl := .ob (.lst ds)
/-- the things of a list whose own lists stand at B -/
def LDens (K : PySem.W.Frag) (P : Bool → Addr → Prop) (H : Hp) (B : Nat → Option Addr) : Nat → List LI → List V → Prop
  | _, [], vs => vs = []
  | k, .own ds :: r, vs => ∃ b us u, vs = .ref b :: u ∧ B k = some b ∧ H b = some (.lst us) ∧ Dens K P H ds us ∧ LDens K P H B (k + 1) r u
  | k, .val d :: r, vs => ∃ v u, vs = v :: u ∧ Den K P H d v ∧ LDens K P H B (k + 1) r u
theorem LDens.map {K : PySem.W.Frag} {P P' : Bool → Addr → Prop} {H H' : Hp} {B B' : Nat → Option Addr} (hd : ∀ ds vs, Dens K P H ds vs → Dens K P' H' ds vs) (hB : ∀ k b, B k = some b → B' k = some b ∧ ∀ us, H b = some (.lst us) → H' b = some (.lst us)) : ∀ {k : Nat} {xs : List LI} {vs : List V}, LDens K P H B k xs vs → LDens K P' H' B' k xs vs
  | _, [], _, h => by simpa only [LDens] using h
  | k, .own ds :: r, _, h => by
    simp only [LDens] at h ⊢
    obtain ⟨b, us, u, e, h1, h2, h3, h4⟩ := h
    exact ⟨b, us, u, e, (hB k b h1).1, (hB k b h1).2 us h2, hd ds us h3, LDens.map hd hB h4⟩
  | k, .val d :: r, _, h => by
    simp only [LDens] at h ⊢
    obtain ⟨v, u, e, h1, h2⟩ := h
    have h3 := hd [d] [v] (Dens.one h1)
    simp only [Dens] at h3
    obtain ⟨v', r', e', h4, _⟩ := h3
    cases e'
    exact ⟨v, u, e, h4, LDens.map hd hB h2⟩
inductive OwnD (K : PySem.W.Frag) (P : Bool → Addr → Prop) (H : Hp) (B : Nat → Option Addr) : OS → HO → Prop where
  | lst {ds : List D} {vs : List V} (h : Dens K P H ds vs) : OwnD K P H B (.lst ds) (.lst vs)
  | ll {xs : List LI} {vs : List V} (h : LDens K P H B 0 xs vs) : OwnD K P H B (.ll xs) (.lst vs)
  | dk {kvs : List (Key × D)} {kws : List (Key × V)} (e : kws.map (·.1) = kvs.map (·.1)) (h : Dens K P H (kvs.map (·.2)) (kws.map (·.2))) : OwnD K P H B (.dk kvs) (.dK kws)
  | dt {kvs : List (List Key × D)} {kws : List (List Key × V)} (e : kws.map (·.1) = kvs.map (·.1)) (h : Dens K P H (kvs.map (·.2)) (kws.map (·.2))) : OwnD K P H B (.dt kvs) (.dT kws)
def MutO : HO → Prop
  | .lst _ => True | .dK _ => True | .dT _ => True | _ => False
theorem MutO.nt {o : HO} (h : MutO o) : NT o := by cases o <;> first | exact True.intro | exact h.elim
theorem MutO.ne {o : HO} (h : MutO o) : ∀ φ, o ≠ .ext φ := fun _ e => by subst e; exact h
section
variable {K : PySem.W.Frag} {P P' : Bool → Addr → Prop} {H H' : Hp} {B B' : Nat → Option Addr} {x : OS} {o : HO}
theorem OwnD.map (k : ∀ ds vs, Dens K P H ds vs → Dens K P' H' ds vs) (hB : ∀ k b, B k = some b → B' k = some b ∧ ∀ us, H b = some (.lst us) → H' b = some (.lst us)) (h : OwnD K P H B x o) : OwnD K P' H' B' x o := by
  cases h with
  | lst h => exact .lst (k _ _ h)
  | ll h => exact .ll (h.map k hB)
  | dk e h => exact .dk e (k _ _ h)
  | dt e h => exact .dt e (k _ _ h)
theorem OwnD.same (e : Same H H') (h : OwnD K P H B x o) : OwnD K P H' B x o := h.map (fun _ _ z => z.same e) fun _ _ q => ⟨q, fun _ z => e _ _ z⟩
theorem OwnD.fewer (e : ∀ t a, P' t a → P t a) (hB : ∀ k b, B k = some b → B' k = some b) (h : OwnD K P H B x o) : OwnD K P' H B' x o := h.map (fun _ _ z => z.fewer e) fun k b q => ⟨hB k b q, fun _ z => z⟩
theorem OwnD.mut (h : OwnD K P H B x o) : MutO o := by cases h <;> exact True.intro
theorem OwnD.lst_ {ds : List D} (h : OwnD K P H B (.lst ds) o) : ∃ vs, o = .lst vs ∧ Dens K P H ds vs := by
  cases h with
  | lst h => exact ⟨_, rfl, h⟩
end
abbrev Ro := List (Option Sl)
/-- the callers' own lists; the frame's own ones, by the slot; what no list tagged true stands at -/
structure Own where
  B : Addr → Prop
  O : Nat → Option Addr
  S : Addr → Prop
def Own.bad (W : Own) (t : Bool) (a : Addr) : Prop := W.B a ∨ (∃ i, W.O i = some a) ∨ (t = true ∧ W.S a)
def Own.drop (W : Own) (i : Nat) : Own := ⟨W.B, fun j => if j = i then none else W.O j, W.S⟩
def Own.put (W : Own) (i : Nat) (a : Addr) : Own := ⟨W.B, fun j => if j = i then some a else W.O j, W.S⟩
theorem Own.drop_bad {W : Own} {i : Nat} {t : Bool} {a : Addr} (h : (W.drop i).bad t a) : W.bad t a := by
  rcases h with h | ⟨j, h⟩ | h
  · exact .inl h
  · have h' : (if j = i then none else W.O j) = some a := h
    by_cases e : j = i
    · rw [if_pos e] at h'; cases h'
    · rw [if_neg e] at h'; exact .inr (.inl ⟨j, h'⟩)
  · exact .inr (.inr h)
theorem Own.bad_up {W : Own} {t : Bool} {a : Addr} (h : W.bad false a) : W.bad t a := by
  rcases h with h | h | ⟨h, _⟩
  · exact .inl h
  · exact .inr (.inl h)
  · cases h

/-- where the own lists within a thing of one's own are kept: behind the names -/
def vix (n i k : Nat) : Nat := n * (k + 1) + i
theorem vix_ne {n i j k : Nat} (h : j < n) : vix n i k ≠ j := fun e => by
  unfold vix at e
  rw [Nat.mul_add] at e
  omega
abbrev Own.sub (W : Own) (n i : Nat) (k : Nat) : Option Addr := W.O (vix n i k)
theorem Own.drop_sub {W : Own} {n i j : Nat} (h : i < n) (k : Nat) (b : Addr) (e : W.sub n j k = some b) : (W.drop i).sub n j k = some b := by
  show (if vix n j k = i then none else W.O (vix n j k)) = _
  rw [if_neg (vix_ne h)]
  exact e
structure Rel (X : Cx) (W : Own) (H : Hp) (σ : St) (ρ : Ro) : Prop where
  val : ∀ (i : Nat) (d : D), ρ[i]? = some (some (Sl.val d)) → ∃ v, σ[i]? = some (some v) ∧ Den X.K W.bad H d v
  own : ∀ (i : Nat) (x : OS), ρ[i]? = some (some (Sl.ob x)) → ∃ a o, W.O i = some a ∧ σ[i]? = some (some (.ref a)) ∧ H a = some o ∧ OwnD X.K W.bad H (W.sub σ.length i) x o
  inj : ∀ i j a, W.O i = some a → W.O j = some a → i = j
  kn : ∀ i a, W.O i = some a → X.K.lookup a = none ∧ (¬ W.B a ∧ ¬ W.S a) ∧ ∃ o, H a = some o ∧ MutO o
  ke : ∀ i a, W.O i = some a → X.H₀ a = none
  bt : ∀ a, W.B a → ∃ o, H a = some o
  st : ∀ a, W.S a → ∃ o, H a = some o
  ent : Same X.H₀ H
  tab : TabK X.K H
theorem Rel.same {X : Cx} {W : Own} {H H' : Hp} {σ : St} {ρ : Ro} (r : Rel X W H σ ρ) (e : Same H H') : Rel X W H' σ ρ where
  val := fun i d h => let ⟨v, h1, h2⟩ := r.val i d h; ⟨v, h1, h2.same e⟩
  own := fun i ds h => let ⟨a, vs, h1, h2, h3, h4⟩ := r.own i ds h; ⟨a, vs, h1, h2, e.kp _ _ h3 h4.mut.nt, h4.same e⟩
  inj := r.inj
  kn := fun i a h => let ⟨h1, h2, o, h3, h4⟩ := r.kn i a h; ⟨h1, h2, o, e.kp _ _ h3 h4.nt, h4⟩
  ke := r.ke
  bt := fun a h => let ⟨_, q⟩ := r.bt a h; e.ex q
  st := fun a h => let ⟨_, q⟩ := r.st a h; e.ex q
  ent := r.ent.trans e
  tab := r.tab.same e
theorem Rel.ownL {X : Cx} {W : Own} {H : Hp} {σ : St} {ρ : Ro} (r : Rel X W H σ ρ) (i : Nat) (ds : List D) (h : ρ[i]? = some (some (Sl.own ds))) : ∃ a vs, W.O i = some a ∧ σ[i]? = some (some (.ref a)) ∧ H a = some (.lst vs) ∧ Dens X.K W.bad H ds vs := by
  obtain ⟨a, o, h1, h2, h3, h4⟩ := r.own i _ h
  obtain ⟨vs, e, h5⟩ := h4.lst_
  subst e
  exact ⟨a, vs, h1, h2, h3, h5⟩
/-- every own list is tracked -/
theorem Rel.tracked {X : Cx} {W : Own} {H : Hp} {σ : St} {ρ : Ro} (r : Rel X W H σ ρ) (t : Bool) (a : Addr) (h : W.bad t a) : ∃ o, H a = some o := by
  rcases h with h | ⟨i, h⟩ | ⟨_, h⟩
  · exact r.bt a h
  · obtain ⟨_, _, o, q, _⟩ := r.kn i a h
    exact ⟨_, q⟩
  · exact r.st a h
theorem Rel.fresh {X : Cx} {W : Own} {H : Hp} {σ : St} {ρ : Ro} (r : Rel X W H σ ρ) {t : Bool} {p : Addr} (h : H p = none) : ¬ W.bad t p := fun z => by
  obtain ⟨o, q⟩ := r.tracked t p z
  rw [h] at q; cases q

structure Fwd (W : Own) (H : Hp) (W' : Own) (H' : Hp) : Prop where
  B : W'.B = W.B
  S : W'.S = W.S
  kp : ∀ b o, (∀ i, W.O i ≠ some b) → H b = some o → NT o → H' b = some o
  new : ∀ i a, W'.O i = some a → (∃ j, W.O j = some a) ∨ H a = none
  tb : ∀ b ps, H b = some (.tbl ps) → ∃ more, H' b = some (.tbl (ps ++ more))
  ok : TabOk H → TabOk H'
theorem Fwd.keep {W W' : Own} {H H' : Hp} (f : Fwd W H W' H') (b : Addr) (o : HO) (h : ∀ i, W.O i ≠ some b) (q : H b = some o) (nt : NT o := by first | exact True.intro | assumption) : H' b = some o := f.kp b o h q nt
theorem Fwd.ex {W W' : Own} {H H' : Hp} (f : Fwd W H W' H') {b : Addr} {o : HO} (h : ∀ i, W.O i ≠ some b) (q : H b = some o) : ∃ o', H' b = some o' := by
  by_cases n : NT o
  · exact ⟨o, f.kp b o h q n⟩
  · cases o with
    | tbl ps =>
      obtain ⟨m, e⟩ := f.tb b ps q
      exact ⟨_, e⟩
    | _ => exact absurd True.intro n
theorem Fwd.refl (W : Own) (H : Hp) : Fwd W H W H := ⟨rfl, rfl, fun _ _ _ h _ => h, fun i _ h => .inl ⟨i, h⟩, fun _ ps h => ⟨#[], by rw [h]; simp⟩, id⟩
theorem Fwd.trans {W W1 W2 : Own} {H H1 H2 : Hp} (a : Fwd W H W1 H1) (b : Fwd W1 H1 W2 H2) : Fwd W H W2 H2 := by
  refine ⟨b.B.trans a.B, b.S.trans a.S, fun x o n h t => b.kp x o (fun i z => ?_) (a.kp x o n h t) t, fun i x h => ?_, fun c ps h => ?_, fun h => b.ok (a.ok h)⟩
  · rcases a.new i x z with ⟨j, q⟩ | q
    · exact n j q
    · rw [h] at q; cases q
  · rcases b.new i x h with ⟨j, q⟩ | q
    · exact a.new j x q
    · by_cases z : ∃ j, W.O j = some x
      · exact .inl z
      · refine .inr ?_
        cases e : H x with
        | none => rfl
        | some o =>
          obtain ⟨o', this⟩ := a.ex (fun i w => z ⟨i, w⟩) e
          rw [this] at q; cases q
  · obtain ⟨m1, e1⟩ := a.tb c ps h
    obtain ⟨m2, e2⟩ := b.tb c _ e1
    exact ⟨m1 ++ m2, by rw [e2, Array.append_assoc]⟩
theorem Fwd.same {W : Own} {H H' : Hp} (e : Same H H') : Fwd W H W H' := ⟨rfl, rfl, fun _ _ _ h n => e.kp _ _ h n, fun i _ h => .inl ⟨i, h⟩, e.tb, e.ok⟩
theorem Same.ins {H₀ H : Hp} (e : Same H₀ H) {a : Addr} {o o' : HO} (h0 : H₀ a = none) (ha : H a = some o) (hm : MutO o) (hn : NT o') : Same H₀ (upd H a o') :=
  ⟨fun b u h n => by rw [upd_ne (ne_of_none h h0)]; exact e.kp b u h n, fun b ps h => by rw [upd_ne (ne_of_none h h0)]; exact e.tb b ps h, fun h => TabOk.upd hn (.inr ⟨o, ha, hm.ne, hm.nt⟩) (e.ok h)⟩
/-- one's own thing is changed -/
theorem Fwd.upd {W : Own} {H : Hp} {i : Nat} {a : Addr} {o o' : HO} (oa : W.O i = some a) (ha : H a = some o) (hm : MutO o) (hn : NT o') : Fwd W H W (upd H a o') :=
  ⟨rfl, rfl, fun b u n h _ => by rw [upd_ne fun e => n i (by rw [e]; exact oa)]; exact h, fun j _ h => .inl ⟨j, h⟩, fun b ps h => ⟨#[], by rw [upd_ne (fun e => by subst e; rw [ha] at h; cases h; exact hm), h]; simp⟩, TabOk.upd hn (.inr ⟨o, ha, hm.ne, hm.nt⟩)⟩

/-- what is wanted behind a statement -/
structure DEnds where
  nx : Ro → Prop
  rt : D → Prop
  bk : Ro → Prop := fun _ => False
  ct : Ro → Prop := fun _ => False

abbrev DE := Ro → (D → Prop) → Prop
abbrev DT := Ro → (Bool → Prop) → Prop
abbrev DA := Ro → (List D → Prop) → Prop
abbrev DS := DEnds → Ro → Prop

def DP (X : Cx) (pins : List (Addr × Obj)) (σ : St) (W : Own) (H : Hp) (Q : D → Prop) (u : Value) (s' : Shared) : Prop :=
  ∃ v H' d, Inv X pins σ H' s' ∧ RelV v u ∧ Same H H' ∧ Den X.K W.bad H' d v ∧ Q d
def DTP (X : Cx) (pins : List (Addr × Obj)) (σ : St) (H : Hp) (Q : Bool → Prop) (b : Bool) (s' : Shared) : Prop :=
  ∃ H', Inv X pins σ H' s' ∧ Same H H' ∧ Q b
def DAP (X : Cx) (pins : List (Addr × Obj)) (σ : St) (W : Own) (H : Hp) (Q : List D → Prop) (us : List Value) (s' : Shared) : Prop :=
  ∃ vs H' ds, Inv X pins σ H' s' ∧ Vals vs us ∧ Same H H' ∧ Dens X.K W.bad H' ds vs ∧ Q ds
def SPD (X : Cx) (pins : List (Addr × Obj)) (W : Own) (H : Hp) (E : DEnds) (f : Flow) (s' : Shared) : Prop :=
  ∃ W' σ' H', Inv X pins σ' H' s' ∧ Fwd W H W' H' ∧
  match f with
  | .next => ∃ ρ', Rel X W' H' σ' ρ' ∧ E.nx ρ'
  | .brk => ∃ ρ', Rel X W' H' σ' ρ' ∧ E.bk ρ'
  | .cont => ∃ ρ', Rel X W' H' σ' ρ' ∧ E.ct ρ'
  | .ret u => ∃ v d, RelV v u ∧ Den X.K W'.bad H' d v ∧ E.rt d

def PED (X : Cx) (e : Expr) (t : DE) : Prop :=
  ∀ (pins : List (Addr × Obj)) (s : Shared) (σ : St) (H : Hp) (W : Own) (ρ : Ro) (Q : D → Prop), Inv X pins σ H s → Rel X W H σ ρ → t ρ Q →
    wpAny (model X.prog X.w) X.A (eval e X.env) (DP X pins σ W H Q) X.xe s
def PTD (X : Cx) (e : Expr) (t : DT) : Prop :=
  ∀ (pins : List (Addr × Obj)) (s : Shared) (σ : St) (H : Hp) (W : Own) (ρ : Ro) (Q : Bool → Prop), Inv X pins σ H s → Rel X W H σ ρ → t ρ Q →
    wpAny (model X.prog X.w) X.A (isTrue e X.env (eval e X.env)) (DTP X pins σ H Q) X.xe s
def PWD (X : Cx) (e : Expr) (t : DT) : Prop :=
  ∀ (whole : Sem Value) (pins : List (Addr × Obj)) (s : Shared) (σ : St) (H : Hp) (W : Own) (ρ : Ro) (Q : Bool → Prop), Inv X pins σ H s → Rel X W H σ ρ → t ρ Q →
    wpAny (model X.prog X.w) X.A (isTrue e X.env whole) (DTP X pins σ H Q) X.xe s
theorem PWD.pt {X : Cx} {e : Expr} {t : DT} (h : PWD X e t) : PTD X e t := h _
def PAD (X : Cx) (es : List Expr) (t : DA) : Prop :=
  ∀ (pos : Pos) (pins : List (Addr × Obj)) (s : Shared) (σ : St) (H : Hp) (W : Own) (ρ : Ro) (Q : List D → Prop), Inv X pins σ H s → Rel X W H σ ρ → t ρ Q →
    wpAny (model X.prog X.w) X.A (spliced (backTo pos (starEach es X.env))) (DAP X pins σ W H Q) X.xe s
def PSD (X : Cx) (st : Stmt) (t : DS) : Prop :=
  ∀ (pins : List (Addr × Obj)) (s : Shared) (σ : St) (H : Hp) (W : Own) (ρ : Ro) (E : DEnds), Inv X pins σ H s → Rel X W H σ ρ → t E ρ →
    wpAny (model X.prog X.w) X.A (exec st X.env) (SPD X pins W H E) X.xe s
def PSDs (X : Cx) (st : List Stmt) (t : DS) : Prop :=
  ∀ (pins : List (Addr × Obj)) (s : Shared) (σ : St) (H : Hp) (W : Own) (ρ : Ro) (E : DEnds), Inv X pins σ H s → Rel X W H σ ρ → t E ρ →
    wpAny (model X.prog X.w) X.A (execs st X.env) (SPD X pins W H E) X.xe s

/-! ## Between the two layers -/
def liftE (X : Cx) (t : DE) : TE := fun σ H Q => ∃ W ρ Qd, Rel X W H σ ρ ∧ t ρ Qd ∧ ∀ v H' d, Same H H' → Den X.K W.bad H' d v → Qd d → Q v H'
def liftS (X : Cx) (t : DS) : TS := fun D σ H => ∃ W ρ Ed, Rel X W H σ ρ ∧ t Ed ρ ∧
  (∀ W' σ' H' ρ', Fwd W H W' H' → Rel X W' H' σ' ρ' → Ed.nx ρ' → D.nx σ' H') ∧
  (∀ W' H' v d, Fwd W H W' H' → Den X.K W'.bad H' d v → Ed.rt d → D.rt v H') ∧
  (∀ W' σ' H' ρ', Fwd W H W' H' → Rel X W' H' σ' ρ' → Ed.bk ρ' → D.bk σ' H') ∧
  (∀ W' σ' H' ρ', Fwd W H W' H' → Rel X W' H' σ' ρ' → Ed.ct ρ' → D.ct σ' H')
section
variable {X : Cx}
theorem PED.pe {e : Expr} {t : DE} (h : PED X e t) : PE X e (liftE X t) := by
  intro pins s σ H Q I q
  obtain ⟨W, ρ, Qd, r, ht, k⟩ := q
  exact thn (h pins s σ H W ρ Qd I r ht) fun u s1 ⟨v, H', d, I1, rv, e1, hd, qd⟩ => ⟨v, H', I1, rv, k v H' d e1 hd qd⟩
theorem PSDs.ps {st : List Stmt} {t : DS} (h : PSDs X st t) : PSs X st (liftS X t) := by
  intro pins s σ H D I q
  obtain ⟨W, ρ, Ed, r, ht, k1, k2, k3, k4⟩ := q
  refine thn (h pins s σ H W ρ Ed I r ht) fun f s1 ⟨W', σ', H', I1, fw, q⟩ => ?_
  cases f with
  | next => obtain ⟨ρ', r', q'⟩ := q; exact ⟨σ', H', I1, k1 W' σ' H' ρ' fw r' q'⟩
  | brk => obtain ⟨ρ', r', q'⟩ := q; exact ⟨σ', H', I1, k3 W' σ' H' ρ' fw r' q'⟩
  | cont => obtain ⟨ρ', r', q'⟩ := q; exact ⟨σ', H', I1, k4 W' σ' H' ρ' fw r' q'⟩
  | ret u => obtain ⟨v, d, rv, hd, q'⟩ := q; exact ⟨v, σ', H', I1, rv, k2 W' H' v d fw hd q'⟩
/-- from an expression's rule of the layer beneath -/
theorem PED.of {e : Expr} {te : TE} {t : DE} (h : PE X e te) (k : ∀ σ H W ρ Q, Rel X W H σ ρ → t ρ Q → te σ H fun v H' => Same H H' ∧ ∃ d, Den X.K W.bad H' d v ∧ Q d) : PED X e t := by
  intro pins s σ H W ρ Q I r ht
  exact thn (h pins s σ H _ I (k σ H W ρ Q r ht)) fun u s1 ⟨v, H', I1, rv, e1, d, hd, q⟩ => ⟨v, H', d, I1, rv, e1, hd, q⟩
end

/-! ## Expressions -/
section
variable {X : Cx} {a b c : Expr} {ta tb : DE} {pos : Pos}
def dVar (i : Nat) : DE := fun ρ Q => ∃ d, ρ[i]? = some (some (.val d)) ∧ Q d
def dC (d : D) : DE := fun _ Q => Q d
theorem dv (i : Nat) {x : Str} {pos : Pos} (hN : X.N[i]? = some x := by rfl) (hv : Vis X.env.scope x := by first | exact Or.inl rfl | exact Or.inr (Or.inl rfl) | exact Or.inr (Or.inr rfl)) (hd : (x == ("__debug__" : Str)) = false := by decide)
    (hcd : (x == ("__classdict__" : Str)) = false := by decide) : PED X (.Name x pos) (dVar i) :=
  PED.of (pe_var hN hv hd hcd) fun σ H W ρ Q r ht => by
    obtain ⟨d, e, q⟩ := ht
    obtain ⟨v, e1, e2⟩ := r.val i d e
    exact ⟨v, e1, Same.refl H, d, e2, q⟩
theorem de_int {i j pos} : PED X (.Constant (.int i) j pos) (dC (.int i)) := PED.of pe_int fun _ H _ _ _ _ q => ⟨Same.refl H, _, Den.int i, q⟩
theorem de_bl {i j pos} : PED X (.Constant (.bool i) j pos) (dC (.bl i)) := PED.of pe_bl fun _ H _ _ _ _ q => ⟨Same.refl H, _, Den.bl i, q⟩
theorem de_non {j pos} : PED X (.Constant .none j pos) (dC .non) := PED.of pe_non fun _ H _ _ _ _ q => ⟨Same.refl H, _, Den.non, q⟩
/-- a two-place operation on data -/
abbrev RD2 := D → D → (D → Prop) → Prop
def OpD (X : Cx) (f : Value → Value → Sem Value) (r : RD2) : Prop :=
  ∀ (pins : List (Addr × Obj)) (s : Shared) (σ : St) (H : Hp) (W : Own) (x y : D) (v u : V) (vv uu : Value) (Q : D → Prop), Inv X pins σ H s → (∀ t a, W.bad t a → ∃ o, H a = some o) → RelV v vv → RelV u uu → Den X.K W.bad H x v → Den X.K W.bad H y u → r x y Q →
    wpAny (model X.prog X.w) X.A (f vv uu) (DP X pins σ W H Q) X.xe s
def dOp (r : RD2) (ta tb : DE) : DE := fun ρ Q => ta ρ fun x => tb ρ fun y => r x y Q
theorem bind2 (ha : PED X a ta) (hb : PED X b tb) {pins : List (Addr × Obj)} {s : Shared} {σ : St} {H : Hp} {W : Own} {ρ : Ro} {R : D → D → Prop} (I : Inv X pins σ H s) (r : Rel X W H σ ρ) (h : ta ρ fun x => tb ρ fun y => R x y)
    {α : Type} {Q : α → Shared → Prop} {f : Value → Value → Sem α}
    (hf : ∀ vv uu s2 v u x y H2, Inv X pins σ H2 s2 → Same H H2 → RelV v vv → RelV u uu → Den X.K W.bad H2 x v → Den X.K W.bad H2 y u → R x y → wpAny (model X.prog X.w) X.A (f vv uu) Q X.xe s2) :
    wpAny (model X.prog X.w) X.A (eval a X.env) (fun v s₁ => wpAny (model X.prog X.w) X.A (eval b X.env) (fun u s₂ => wpAny (model X.prog X.w) X.A (f v u) Q X.xe s₂) X.xe s₁) X.xe s := by
  refine thn (ha pins s σ H W ρ _ I r h) fun vv s1 ⟨v, H1, x, I1, rv, e1, hx, q1⟩ => ?_
  refine thn (hb pins s1 σ H1 W ρ _ I1 (r.same e1) q1) fun uu s2 ⟨u, H2, y, I2, ru, e2, hy, q2⟩ => ?_
  exact hf vv uu s2 v u x y H2 I2 (e1.trans e2) rv ru (hx.same e2) hy q2
theorem DP.up {pins : List (Addr × Obj)} {σ : St} {W : Own} {H H1 : Hp} {Q : D → Prop} {u : Value} {s' : Shared} (e : Same H H1) (h : DP X pins σ W H1 Q u s') : DP X pins σ W H Q u s' := by
  obtain ⟨v, H', d, I, r, e1, hd, q⟩ := h
  exact ⟨v, H', d, I, r, e.trans e1, hd, q⟩
theorem de_op {op : Operator} {r : RD2} (ho : OpD X (binaryOp op) r) (ha : PED X a ta) (hb : PED X b tb) : PED X (.BinOp a op b pos) (dOp r ta tb) := by
  intro pins s σ H W ρ Q I rr h
  refine wpAny_BinOp (bind2 ha hb I rr h fun vv uu s2 v u x y H2 I2 e rv ru hx hy q => ?_)
  exact thn (ho pins s2 σ H2 W x y v u vv uu Q I2 (rr.same e).tracked rv ru hx hy q) fun _ _ z => z.up e
theorem de_un {op : UnaryOp} {r : V → Hp → VK → Prop} {rd : D → (D → Prop) → Prop} (ho : UnR X (unaryOp op) r) (ha : PED X a ta)
    (k : ∀ P H d v Q, Den X.K P H d v → rd d Q → r v H fun v' H' => Same H H' ∧ ∃ d', Den X.K P H' d' v' ∧ Q d') : PED X (.UnaryOp op a pos) (fun ρ Q => ta ρ fun x => rd x Q) := by
  intro pins s σ H W ρ Q I rr h
  refine UnaryOp_ (thn (ha pins s σ H W ρ _ I rr h) fun vv s1 ⟨v, H1, x, I1, rv, e1, hx, q1⟩ => ?_)
  exact thn (ho pins s1 σ H1 v vv _ I1 rv (k _ H1 x v Q hx q1)) fun u s2 ⟨w', H2, I2, r2, e2, d, hd, q2⟩ => ⟨w', H2, d, I2, r2, e1.trans e2, hd, q2⟩
/-- -e of an int -/
def dNeg (ta : DE) : DE := fun ρ Q => ta ρ fun x => ∃ i, x = .int i ∧ Q (.int (-i))
theorem de_neg (ha : PED X a ta) : PED X (.UnaryOp .USub a pos) (dNeg ta) :=
  de_un (rd := fun x Q => ∃ i, x = .int i ∧ Q (.int (-i))) un_neg ha fun P H d v Q hd ⟨i, e, q⟩ => by
    subst e
    exact ⟨i, hd.int_, Same.refl H, _, Den.int _, q⟩
/-- from the layer beneath: scalars in, a value out, the heap stays -/
theorem OpD.of {f : Value → Value → Sem Value} {r : R2} {rd : RD2} (h : OpR X f r) (k : ∀ P H x y v u Q, Den X.K P H x v → Den X.K P H y u → rd x y Q → r v u H fun v' H' => Same H H' ∧ ∃ d', Den X.K P H' d' v' ∧ Q d') : OpD X f rd := by
  intro pins s σ H W x y v u vv uu Q I _ rv ru hx hy q
  exact thn (h pins s σ H v u vv uu _ I rv ru (k _ H x y v u Q hx hy q)) fun _ s2 ⟨w', H2, I2, r2, e2, d, hd, q2⟩ => ⟨w', H2, d, I2, r2, e2, hd, q2⟩
def rdI (C : Int → Int → Prop) (g : Int → Int → D) : RD2 := fun x y Q => ∃ i j, x = .int i ∧ y = .int j ∧ C i j ∧ Q (g i j)
def rdI0 (g : Int → Int → D) : RD2 := fun x y Q => ∃ i j, x = .int i ∧ y = .int j ∧ Q (g i j)
theorem OpD.ofI {f : Value → Value → Sem Value} {C : Int → Int → Prop} {g : Int → Int → Int} (h : OpR X f (rI C fun i j => .int (g i j))) : OpD X f (rdI C fun i j => .int (g i j)) :=
  OpD.of h fun P H x y v u Q hx hy ⟨i, j, e1, e2, hc, q⟩ => by
    subst e1 e2
    exact ⟨i, j, hx.int_, hy.int_, hc, Same.refl H, _, Den.int _, q⟩
theorem OpD.ofI0 {f : Value → Value → Sem Value} {g : Int → Int → Int} (h : OpR X f (rI0 fun i j => .int (g i j))) : OpD X f (rdI0 fun i j => .int (g i j)) :=
  OpD.of h fun P H x y v u Q hx hy ⟨i, j, e1, e2, q⟩ => by
    subst e1 e2
    exact ⟨i, j, hx.int_, hy.int_, Same.refl H, _, Den.int _, q⟩
theorem OpD.ofB0 {f : Value → Value → Sem Value} {g : Int → Int → Bool} (h : OpR X f (rI0 fun i j => .bl (g i j))) : OpD X f (rdI0 fun i j => .bl (g i j)) :=
  OpD.of h fun P H x y v u Q hx hy ⟨i, j, e1, e2, q⟩ => by
    subst e1 e2
    exact ⟨i, j, hx.int_, hy.int_, Same.refl H, _, Den.bl _, q⟩
theorem od_add : OpD X (binaryOp .Add) (rdI0 fun i j => .int (i + j)) := OpD.ofI0 op_add
theorem od_sub : OpD X (binaryOp .Sub) (rdI0 fun i j => .int (i - j)) := OpD.ofI0 op_sub
theorem od_lt : OpD X (compareOp .Lt) (rdI0 fun i j => .bl (decide (i < j))) := OpD.ofB0 op_lt
theorem od_le : OpD X (compareOp .LtE) (rdI0 fun i j => .bl (decide (i ≤ j))) := OpD.ofB0 op_le
theorem od_gt : OpD X (compareOp .Gt) (rdI0 fun i j => .bl (decide (j < i))) := OpD.ofB0 op_gt
/-! ### sizes of ints -/
/-- x has at most n bits -/
def Bd (n : Nat) (x : Int) : Prop := x.natAbs < 2 ^ n
theorem Bd.mono {m n : Nat} {x : Int} (h : Bd m x) (l : m ≤ n) : Bd n x := Nat.lt_of_lt_of_le h (Nat.pow_le_pow_right (by decide) l)
theorem Bd.mul {m n : Nat} {x y : Int} (h : Bd m x) (h' : Bd n y) : Bd (m + n) (x * y) := by
  unfold Bd at *
  rw [Int.natAbs_mul, Nat.pow_add]
  exact Nat.mul_lt_mul'' h h'
theorem Bd.add {m : Nat} {x y : Int} (h : Bd m x) (h' : Bd m y) : Bd (m + 1) (x + y) := by
  unfold Bd at *
  rw [Nat.pow_succ]
  have := Int.natAbs_add_le x y
  omega
theorem Bd.sub {m : Nat} {x y : Int} (h : Bd m x) (h' : Bd m y) : Bd (m + 1) (x - y) := by
  unfold Bd at *
  rw [Nat.pow_succ]
  have := Int.natAbs_sub_le x y
  omega
theorem Bd.bits {n : Nat} {x : Int} (h : Bd n x) : Builtin.Int.intBits x ≤ n := by
  unfold Bd at h
  unfold Builtin.Int.intBits
  split
  · exact Nat.zero_le _
  · rename_i hz
    have hp : x.natAbs ≠ 0 := by
      intro e
      apply hz
      have : x = 0 := Int.natAbs_eq_zero.mp e
      simp [this]
    have := (Nat.log2_lt hp).mpr h
    omega
/-- one factor is short, or both are not long -/
def CM (i j : Int) : Prop := Bd 64 i ∨ Bd 64 j ∨ (Bd 100000 i ∧ Bd 100000 j)
theorem CM.ok {i j : Int} (h : CM i j) : IntMulOk i j := by
  rcases h with h | h | ⟨h, h'⟩
  · exact .of_left h.bits
  · exact .of_right h.bits
  · exact .of_bits (Nat.le_trans h.bits (by decide)) (Nat.le_trans h'.bits (by decide))
theorem op_mulM : OpR X (binaryOp .Mult) (rI CM fun i j => .int (i * j)) := opI fun _ _ _ _ _ _ _ hc q => mul_int q hc.ok
theorem od_mul : OpD X (binaryOp .Mult) (rdI CM fun i j => .int (i * j)) := OpD.ofI op_mulM
/-- a divisor that is not 0 and not long -/
def CD (_ : Int) (j : Int) : Prop := j ≠ 0 ∧ Bd 8000 j
theorem CD.noPy {i j : Int} (h : CD i j) : Builtin.divisionGoesByPylong i j = false := by
  refine PyProof.noPylong_of_log2 ?_
  have hz : j.natAbs ≠ 0 := fun e => h.1 (Int.natAbs_eq_zero.mp e)
  have := (Nat.log2_lt hz).mpr h.2
  omega
theorem op_fdivM : OpR X (binaryOp .FloorDiv) (rI CD fun i j => .int (i.fdiv j)) := opI fun _ _ _ _ _ _ _ hc q => floordiv_int hc.1 q (.inl hc.noPy)
theorem od_fdiv : OpD X (binaryOp .FloorDiv) (rdI CD fun i j => .int (i.fdiv j)) := OpD.ofI op_fdivM
theorem od_mod : OpD X (binaryOp .Mod) (rdI (fun _ j => j ≠ 0) fun i j => .int (i.fmod j)) := OpD.ofI op_modN
theorem od_pow : OpD X (binaryOp .Pow) (rdI CPow fun i j => .int (i ^ j.toNat)) := OpD.ofI op_pow

/-! ### comparisons, tests -/
def dB (t : DE) : DT := fun ρ Q => t ρ fun x => ∃ k, x = .bl k ∧ Q k
theorem de_cmp {op : CmpOp} {r : RD2} (ho : OpD X (compareOp op) r) (ha : PED X a ta) (hb : PED X b tb) (hm : behindInMarks op b = false := by first | exact nobehind _ (by decide) (by decide) | rfl) : PED X (.Compare a [op] [b] pos) (dOp r ta tb) := by
  intro pins s σ H W ρ Q I rr h
  refine wpAny_Compare1 (bind2 ha hb I rr h fun vv uu s2 v u x y H2 I2 e rv ru hx hy q => ?_) hm
  exact thn (ho pins s2 σ H2 W x y v u vv uu Q I2 (rr.same e).tracked rv ru hx hy q) fun _ _ z => z.up e
theorem dt_cmp {op : CmpOp} {r : RD2} (ho : OpD X (compareOp op) r) (ha : PED X a ta) (hb : PED X b tb) (hm : behindInMarks op b = false := by first | exact nobehind _ (by decide) (by decide) | rfl) : PTD X (.Compare a [op] [b] pos) (dB (dOp r ta tb)) := by
  intro pins s σ H W ρ Q I rr h
  refine wpAny_isTrue_Compare1 (thn (ha pins s σ H W ρ _ I rr h) fun vv s1 ⟨v, H1, x, I1, rv, e1, hx, q1⟩ => thn (hb pins s1 σ H1 W ρ _ I1 (rr.same e1) q1) fun uu s2 ⟨u, H2, y, I2, ru, e2, hy, q2⟩ =>
    thn (ho pins s2 σ H2 W x y v u vv uu _ I2 ((rr.same e1).same e2).tracked rv ru (hx.same e2) hy q2) fun c s3 ⟨z, H3, d, I3, r3, e3, hd, k, ek, q3⟩ => ?_) hm
  subst ek
  have hz := hd.bl_
  subst hz
  cases r3
  exact wpAny_truthy_bool ⟨H3, I3, e1.trans (e2.trans e3), q3⟩
/-- an expression whose value is a bool, as a test -/
theorem dt_val {e : Expr} {t : DE} (h : PED X e t) (he : ∀ whole, isTrue e X.env whole = (do let v ← whole; standAt e.pos; holding [v] (truthy v)) := by intro _; rfl) : PTD X e (dB t) := by
  intro pins s σ H W ρ Q I rr hw
  refine isTrue_plain (thn (h pins s σ H W ρ _ I rr hw) fun vv s1 ⟨v, H1, x, I1, rv, e1, hx, k, ek, q⟩ => ?_) (he _)
  subst ek
  have hz := hx.bl_
  subst hz
  cases rv
  exact wpAny_truthy_bool ⟨H1, I1, e1, q⟩
variable {tA tB' : DT} {rest : List Expr}
def dAnd (t u : DT) : DT := fun ρ Q => t ρ fun c => if c = true then u ρ Q else Q false
def dOr (t u : DT) : DT := fun ρ Q => t ρ fun c => if c = true then Q true else u ρ Q
def dNot (t : DT) : DT := fun ρ Q => t ρ fun c => Q (!c)
theorem dw_and1 (ha : PTD X a tA) : PWD X (.BoolOp .And [a] pos) tA := by
  intro wh pins s σ H W ρ Q I rr h
  refine isTrue_and (thn (ha pins s σ H W ρ Q I rr h) fun c s1 e => ?_)
  cases c with
  | true => exact isTrue_and_nil e
  | false => exact e
theorem dw_or1 (ha : PTD X a tA) : PWD X (.BoolOp .Or [a] pos) tA := by
  intro wh pins s σ H W ρ Q I rr h
  refine isTrue_or (thn (ha pins s σ H W ρ Q I rr h) fun c s1 e => ?_)
  cases c with
  | false => exact isTrue_or_nil e
  | true => exact e
theorem dw_and (ha : PTD X a tA) (hb : PWD X (.BoolOp .And (b :: rest) pos) tB') : PWD X (.BoolOp .And (a :: b :: rest) pos) (dAnd tA tB') := by
  intro wh pins s σ H W ρ Q I rr h
  refine isTrue_and (thn (ha pins s σ H W ρ _ I rr h) fun c s1 ⟨H1, I1, e1, q1⟩ => ?_)
  cases c with
  | true => exact thn (hb wh pins s1 σ H1 W ρ Q I1 (rr.same e1) q1) fun _ _ ⟨H2, I2, e2, q2⟩ => ⟨H2, I2, e1.trans e2, q2⟩
  | false => exact ⟨H1, I1, e1, q1⟩
theorem dw_or (ha : PTD X a tA) (hb : PWD X (.BoolOp .Or (b :: rest) pos) tB') : PWD X (.BoolOp .Or (a :: b :: rest) pos) (dOr tA tB') := by
  intro wh pins s σ H W ρ Q I rr h
  refine isTrue_or (thn (ha pins s σ H W ρ _ I rr h) fun c s1 ⟨H1, I1, e1, q1⟩ => ?_)
  cases c with
  | true => exact ⟨H1, I1, e1, q1⟩
  | false => exact thn (hb wh pins s1 σ H1 W ρ Q I1 (rr.same e1) q1) fun _ _ ⟨H2, I2, e2, q2⟩ => ⟨H2, I2, e1.trans e2, q2⟩
theorem dt_not (ha : PTD X a tA) : PTD X (.UnaryOp .Not a pos) (dNot tA) := by
  intro pins s σ H W ρ Q I rr h
  exact isTrue_not (ha pins s σ H W ρ (fun c => Q (!c)) I rr h)
/-- as values (bools) -/
def dAndV (ta tb : DE) : DE := fun ρ Q => ta ρ fun x => ∃ c, x = .bl c ∧ if c = true then tb ρ Q else Q (.bl false)
def dNotV (ta : DE) : DE := fun ρ Q => ta ρ fun x => ∃ c, x = .bl c ∧ Q (.bl (!c))
theorem de_one {op} {t : DE} (h : PED X a t) : PED X (.BoolOp op [a] pos) t := fun pins s σ H W ρ Q I rr hw => BoolOp_one (h pins s σ H W ρ Q I rr hw)
theorem de_and (ha : PED X a ta) (hb : PED X (.BoolOp .And (b :: rest) pos) tb) : PED X (.BoolOp .And (a :: b :: rest) pos) (dAndV ta tb) := by
  intro pins s σ H W ρ Q I rr h
  refine BoolOp_and (thn (ha pins s σ H W ρ _ I rr h) fun vv s1 ⟨v, H1, x, I1, rv, e1, hx, c, ec, q1⟩ => ?_)
  subst ec
  have hz := hx.bl_
  subst hz
  cases rv
  refine wpAny_truthy_bool ?_
  cases c with
  | true => exact thn (hb pins s1 σ H1 W ρ Q I1 (rr.same e1) q1) fun _ _ z => z.up e1
  | false => exact ⟨.bl false, H1, _, I1, rfl, e1, Den.bl _, q1⟩
theorem de_not (ha : PED X a ta) : PED X (.UnaryOp .Not a pos) (dNotV ta) := by
  intro pins s σ H W ρ Q I rr h
  refine UnaryOp_ (thn (ha pins s σ H W ρ _ I rr h) fun vv s1 ⟨v, H1, x, I1, rv, e1, hx, c, ec, q1⟩ => ?_)
  subst ec
  have hz := hx.bl_
  subst hz
  cases rv
  exact not_of (wpAny_truthy_bool ⟨.bl (!c), H1, _, I1, rfl, e1, Den.bl _, q1⟩)
/-- not of a test -/
def dIf (t : DT) (ta tb : DE) : DE := fun ρ Q => t ρ fun c => if c = true then ta ρ Q else tb ρ Q
theorem de_ifExp (hc : PTD X c tA) (ha : PED X a ta) (hb : PED X b tb) : PED X (.IfExp c a b pos) (dIf tA ta tb) := by
  intro pins s σ H W ρ Q I rr h
  refine wpAny_IfExp (thn (hc pins s σ H W ρ _ I rr h) fun d s1 ⟨H1, I1, e1, q1⟩ => ?_)
  cases d with
  | true => exact thn (ha pins s1 σ H1 W ρ Q I1 (rr.same e1) q1) fun _ _ z => z.up e1
  | false => exact thn (hb pins s1 σ H1 W ρ Q I1 (rr.same e1) q1) fun _ _ z => z.up e1

/-! ### items -/
def rdIx : RD2 := fun x y Q => ∃ ds i d, (x = .tup ds ∨ ∃ t, x = .lst t ds) ∧ y = .int i ∧ atI ds i = some d ∧ Q d
theorem atI_dens {K : PySem.W.Frag} {P : Bool → Addr → Prop} {H : Hp} {ds : List D} {vs : List V} {i : Int} {d : D} (h : Dens K P H ds vs) (e : atI ds i = some d) : ∃ v, atI vs i = some v ∧ Den K P H d v := by
  unfold atI at e ⊢
  rw [h.len]
  cases q : ixN ds.length i with
  | none => rw [q] at e; cases e
  | some j =>
    rw [q] at e
    exact h.get e
theorem de_ix (ha : PED X a ta) (hb : PED X b tb) (hs : PlainIx b := by intro _ _; rfl) : PED X (.Subscript a b pos) (dOp rdIx ta tb) := by
  intro pins s σ H W ρ Q I rr h
  refine Subscript_ (bind2 ha hb I rr h fun vv uu s2 v u x y H2 I2 e rv ru hx hy q => ?_)
  obtain ⟨ds, i, d, ex, ey, ei, q⟩ := q
  subst ey
  have hu := hy.int_
  subst hu
  have fin : ∀ (v' : V), Den X.K W.bad H2 d v' → Same H2 H2 ∧ ∃ d', Den X.K W.bad H2 d' v' ∧ Q d' := fun v' hd => ⟨Same.refl _, d, hd, q⟩
  rcases ex with ex | ⟨tg, ex⟩
  · subst ex
    obtain ⟨p, vs, ev, hq, hd⟩ := hx.tup_
    subst ev
    obtain ⟨v', e1, e2⟩ := atI_dens hd ei
    exact thn (ix_tup a b pins s2 σ H2 _ _ vv uu (fun v' H' => Same H2 H' ∧ ∃ d', Den X.K W.bad H' d' v' ∧ Q d') I2 rv ru ⟨p, vs, i, v', rfl, rfl, hq, e1, fin v' e2⟩ (hs _ _))
      fun _ s3 ⟨w', H3, I3, r3, e3, d', hd', q'⟩ => ⟨w', H3, d', I3, r3, e.trans e3, hd', q'⟩
  · subst ex
    obtain ⟨p, vs, ev, _, hq, hd⟩ := hx.lst_
    subst ev
    obtain ⟨v', e1, e2⟩ := atI_dens hd ei
    exact thn (ix_list a b pins s2 σ H2 _ _ vv uu (fun v' H' => Same H2 H' ∧ ∃ d', Den X.K W.bad H' d' v' ∧ Q d') I2 rv ru ⟨p, vs, i, v', rfl, rfl, hq, e1, fin v' e2⟩ (hs _ _))
      fun _ s3 ⟨w', H3, I3, r3, e3, d', hd', q'⟩ => ⟨w', H3, d', I3, r3, e.trans e3, hd', q'⟩
end

/-! ### argument lists, displays -/
section
variable {X : Cx} {e : Expr} {es : List Expr} {te : DE} {t : DA} {pos : Pos}
def dNil : DA := fun _ Q => Q []
def dCons (ta : DE) (tr : DA) : DA := fun ρ Q => ta ρ fun x => tr ρ fun xs => Q (x :: xs)
theorem da_nil : PAD X [] dNil := fun _ _ _ _ H W ρ Q I _ h => Calls.spliced_nil ⟨[], H, [], I, .nil, Same.refl H, Dens.nil, h⟩
theorem da_cons (ha : PED X e te) (hr : PAD X es t) (hs : starEach (e :: es) X.env = (false, eval e X.env) :: starEach es X.env := by rfl) : PAD X (e :: es) (dCons te t) := by
  intro pos pins s σ H W ρ Q I rr h
  rw [hs]
  show wpAny _ _ (spliced ((false, eval e X.env) :: backTo pos (starEach es X.env))) _ _ s
  refine Calls.spliced_cons (thn (ha pins s σ H W ρ _ I rr h) fun u s1 ⟨v, H1, x, I1, r1, e1, hx, q1⟩ => ?_)
  exact thn (hr pos pins s1 σ H1 W ρ _ I1 (rr.same e1) q1) fun us s2 ⟨vs, H2, xs, I2, r2, e2, hxs, q2⟩ => ⟨v :: vs, H2, x :: xs, I2, .cons r1 r2, e1.trans e2, Dens.cons (hx.same e2) hxs, q2⟩
theorem Same.upd {H : Hp} {p : Addr} {o : HO} (h : H p = none) (n : NT o := by exact True.intro) : Same H (upd H p o) := ⟨fun b u e _ => by rw [upd_ne (ne_of_none e h)]; exact e, fun b ps e => ⟨#[], by rw [upd_ne (ne_of_none e h), e]; simp⟩, TabOk.upd n (.inl h)⟩
def dTup (t : DA) : DE := fun ρ Q => t ρ fun ds => ds.length ≤ sizeLine ∧ Q (.tup ds)
def dLst (t : DA) : DE := fun ρ Q => t ρ fun ds => ds.length ≤ sizeLine ∧ Q (.lst true ds)
theorem de_tup {x1} (h : PAD X es t) : PED X (.Tuple es x1 pos) (dTup t) := by
  intro pins s σ H W ρ Q I rr hq
  refine wpAny_Tuple_spliced (thn (h pos pins s σ H W ρ _ I rr hq) fun us s1 ⟨vs, H1, ds, I1, r, e1, hd, z, q⟩ => ?_)
  rw [← hd.len] at z
  refine ⟨by rw [← r.length]; exact z, ?_⟩
  have hf : H1 s1.heap.objs.size = none := I1.hok.fresh (Nat.le_refl _)
  refine ⟨.ref s1.heap.objs.size, L2.upd H1 s1.heap.objs.size (.tup vs), _, I1.laid (t' := s1.toks) (fun b u e => Heap.get?_push_of_some _ e) (Nat.le_refl _) ⟨z, us, r, ⟨_, Heap.get?_push_size _ rfl, rfl, _, rfl⟩⟩, rfl, e1.trans (Same.upd hf), Den.tup (SqT.of upd_same) (hd.same (Same.upd hf)), q⟩
theorem Inv.kfresh {pins : List (Addr × Obj)} {σ : St} {H : Hp} {s : Shared} (I : Inv X pins σ H s) : X.K.lookup s.heap.objs.size = none := by
  cases e : X.K.lookup s.heap.objs.size with
  | none => rfl
  | some o => exact absurd (Heap.lt_size (I.kIn _ _ e)) (Nat.lt_irrefl _)
theorem de_lst (h : PAD X es t) : PED X (.List es pos) (dLst t) := by
  intro pins s σ H W ρ Q I rr hq
  refine wpAny_List_spliced (thn (h pos pins s σ H W ρ _ I rr hq) fun us s1 ⟨vs, H1, ds, I1, r, e1, hd, z, q⟩ => ?_)
  rw [← hd.len] at z
  refine ⟨by rw [← r.length]; exact z, ?_⟩
  have hf : H1 s1.heap.objs.size = none := I1.hok.fresh (Nat.le_refl _)
  exact ⟨.ref s1.heap.objs.size, L2.upd H1 s1.heap.objs.size (.lst vs), _, I1.laid (t' := s1.toks) (fun b u e => Heap.get?_push_of_some _ e) (Nat.le_refl _) ⟨z, us, 0, r, Heap.get?_push_size _ rfl⟩, rfl, e1.trans (Same.upd hf),
    Den.lst ((rr.same e1).fresh hf) (.new upd_same (Inv.kfresh I1)) (hd.same (Same.upd hf)), q⟩
end

/-! ## Calls -/
/-- a def's promise over data: the arguments, the wanted end, the wanted exception (its class) -/
abbrev DSp := List D → (D → Prop) → (Value → Prop) → Prop
def spOf (K : PySem.W.Frag) (sp : DSp) : Sp := fun vs H Q E => ∃ (P : Addr → Prop) (ds : List D) (Qd : D → Prop) (Ed : Value → Prop), TabK K H ∧ (∀ a, P a → ∃ o, H a = some o) ∧ Dens K (fun t a => t = true ∨ P a) H ds vs ∧ sp ds Qd Ed ∧
  (∀ d v H', Same H H' → Den K (fun t a => P a ∨ (t = true ∧ ∃ o, H a = some o)) H' d v → Qd d → Q v H') ∧ ∀ c a H', Same H H' → Ed c → E c a H'
mutual
/-- as a callee sees it: no list is its own -/
def untag : D → D
  | .tup ds => .tup (untags ds)
  | .lst _ ds => .lst false (untags ds)
  | .non => .non | .bl b => .bl b | .int i => .int i | .str x => .str x | .exc c => .exc c
def untags : List D → List D
  | [] => []
  | d :: ds => untag d :: untags ds
end
section
variable {K : PySem.W.Frag} {P : Bool → Addr → Prop} {P' : Addr → Prop} {H : Hp}
mutual
theorem Den.untag (h : ∀ t a, P' a → P t a) : ∀ (d : D) (v : V), Den K P H d v → Den K (fun t a => t = true ∨ P' a) H (PD.untag d) v
  | .non, _, q => by simpa only [Den, PD.untag] using q
  | .bl _, _, q => by simpa only [Den, PD.untag] using q
  | .int _, _, q => by simpa only [Den, PD.untag] using q
  | .str _, _, q => by simpa only [Den, PD.untag] using q
  | .exc _, _, q => by simpa only [Den, PD.untag] using q
  | .tup ds, _, q => by
    simp only [Den, PD.untag] at q ⊢
    obtain ⟨a, vs, e, q1, q2⟩ := q
    exact ⟨a, vs, e, q1, Dens.untag h ds vs q2⟩
  | .lst t ds, _, q => by
    simp only [Den, PD.untag] at q ⊢
    obtain ⟨a, vs, e, p, q1, q2⟩ := q
    exact ⟨a, vs, e, fun z => z.elim (fun z => by cases z) fun z => p (h t a z), .any q1.1, Dens.untag h ds vs q2⟩
theorem Dens.untag (h : ∀ t a, P' a → P t a) : ∀ (ds : List D) (vs : List V), Dens K P H ds vs → Dens K (fun t a => t = true ∨ P' a) H (PD.untags ds) vs
  | [], _, q => by simpa only [Dens, PD.untags] using q
  | d :: ds, _, q => by
    simp only [Dens, PD.untags] at q ⊢
    obtain ⟨v, r, e, h1, h2⟩ := q
    exact ⟨v, r, e, Den.untag h d v h1, Dens.untag h ds r h2⟩
end
end
/-- a callee's answer, as the caller sees it -/
theorem Den.back {K : PySem.W.Frag} {W : Own} {H H' : Hp} {d : D} {v : V} (tr : ∀ t a, W.bad t a → ∃ o, H a = some o) (h : Den K (fun t a => W.bad false a ∨ (t = true ∧ ∃ o, H a = some o)) H' d v) : Den K W.bad H' d v :=
  h.fewer fun t a z => by
    cases t with
    | false => exact .inl z
    | true => exact .inr ⟨rfl, tr true a z⟩
section
variable {X : Cx} {CX : CXT} {k : Nat} {f : Addr} {fd : FuncData} {ps : List Str} {sp : DSp} {x : Str} {p pos : Pos} {e : Expr} {es : List Expr} {t : DA}
/-- no exception is wanted of the callee -/
def dCall (sp : DSp) (dds : List D) (t : DA) : DE := fun ρ Q => t ρ fun ds => sp (untags ds ++ dds) Q fun _ => False
/-- defaults: scalars -/
def dval : D → V
  | .non => .non | .bl b => .bl b | .int i => .int i | .str x => .str x | _ => .non
def scalD : D → Prop
  | .tup _ => False | .lst _ _ => False | .exc _ => False | _ => True
theorem Dens.scal {K : PySem.W.Frag} {P : Bool → Addr → Prop} {H : Hp} : ∀ {dds : List D}, (∀ d ∈ dds, scalD d) → Dens K P H dds (dds.map dval)
  | [], _ => Dens.nil
  | d :: r, h => by
    refine Dens.cons ?_ (Dens.scal fun x hx => h x (List.mem_cons_of_mem _ hx))
    have := h d List.mem_cons_self
    cases d with
    | non => exact Den.non
    | bl b => exact Den.bl b
    | int i => exact Den.int i
    | str x => exact Den.str x
    | tup _ => exact this.elim
    | lst _ _ => exact this.elim
    | exc _ => exact this.elim
theorem run_d {dds : List D} {dsv : List Value} (F : FnOk X.prog X.w X.K X.mg X.base CX k f fd ps (spOf X.K sp)) (hr : Room k X.A) (hb : Binds X.K fd ps dsv) (hd : Vals (dds.map dval) dsv) (hs : ∀ d ∈ dds, scalD d) (hx : Passes CX X E0)
    {pins : List (Addr × Obj)} {σ : St} {H : Hp} {s : Shared} {W : Own} {ρ : Ro} {us : List Value} {vs : List V} {ds : List D} {Q : D → Prop} (I : Inv X pins σ H s) (rr : Rel X W H σ ρ) (r : Vals vs us) (hds : Dens X.K W.bad H ds vs)
    (q : sp (untags ds ++ dds) Q fun _ => False) : wpAny (model X.prog X.w) X.A (call (.ref f) us) (DP X pins σ W H Q) X.xe s := by
  refine thn (run_fn (Q := fun v H' => Same H H' ∧ ∃ d, Den X.K W.bad H' d v ∧ Q d) F hr hb hd hx I r ⟨W.bad false, untags ds ++ dds, Q, fun _ => False, rr.tab, rr.tracked false, (Dens.untag (fun _ _ => Own.bad_up) ds vs hds).append (Dens.scal hs), q, fun d v H' e h1 h2 => ⟨e, d, Den.back rr.tracked h1, h2⟩, fun _ _ _ _ z => z.elim⟩)
    fun u s2 ⟨v, H2, I2, r2, e2, d, h1, h2⟩ => ⟨v, H2, d, I2, r2, e2, h1, h2⟩
theorem de_callD {dds : List D} {dsv : List Value} (F : FnOk X.prog X.w X.K X.mg X.base CX k f fd ps (spOf X.K sp)) (hr : Room k X.A) (hg : Gl X x) (hm : X.mg x = some (.ref f)) (hk : PySem.W.keepIn X.K (.ref f) = true) (hb : Binds X.K fd ps dsv) (hd : Vals (dds.map dval) dsv) (hs : ∀ d ∈ dds, scalD d) (hx : Passes CX X E0)
    (ha : PAD X (e :: es) t) (hdb : (x == ("__debug__" : Str)) = false := by decide) (he : starEach (e :: es) X.env = (false, eval e X.env) :: starEach es X.env := by rfl) (hpl : (backTo pos (starEach es X.env)).any (·.1) = false := by rfl) :
    PED X (.Call (.Name x p) (e :: es) [] pos) (dCall sp dds t) := by
  intro pins s σ H W ρ Q I rr h
  refine wpAny_Call_Name_kw (ld_glob I hg hm ?_ hdb)
  refine PySem.W.callWith_K (h₀ := X.base) I.ok.mod.kin hk (thn (ha pos pins s σ H W ρ _ I rr h) fun us s1 ⟨vs, H1, ds, I1, r, e1, hds, q⟩ => ⟨I1.kIn, ?_⟩) he hpl
  exact thn (run_d F hr hb hd hs hx I1 (rr.same e1) r hds q) fun _ _ z => z.up e1
/-- a builtin's call -/
def dCB (r : List D → (D → Prop) → Prop) (t : DA) : DE := fun ρ Q => t ρ fun ds => r ds Q
def CallD (X : Cx) (f : Value) (r : List D → (D → Prop) → Prop) : Prop :=
  ∀ (pins : List (Addr × Obj)) (s : Shared) (σ : St) (H : Hp) (W : Own) (ds : List D) (vs : List V) (us : List Value) (Q : D → Prop), Inv X pins σ H s → (∀ t a, W.bad t a → ∃ o, H a = some o) → Vals vs us → Dens X.K W.bad H ds vs → r ds Q →
    wpAny (model X.prog X.w) X.A (call f us) (DP X pins σ W H Q) X.xe s
theorem CallD.of {f : Value} {r : List V → Hp → VK → Prop} {rd : List D → (D → Prop) → Prop} (h : CallR X f r) (k : ∀ P H ds vs Q, (∀ t a, P t a → ∃ o, H a = some o) → Dens X.K P H ds vs → rd ds Q → r vs H fun v' H' => Same H H' ∧ ∃ d', Den X.K P H' d' v' ∧ Q d') : CallD X f rd := by
  intro pins s σ H W ds vs us Q I tr r hd q
  exact thn (h pins s σ H vs us _ I r (k _ H ds vs Q tr hd q)) fun _ s2 ⟨w', H2, I2, r2, e2, d, hd, q2⟩ => ⟨w', H2, d, I2, r2, e2, hd, q2⟩
variable {id T : String} {r : List D → (D → Prop) → Prop}
theorem de_callB (hc : CallD X (.builtin id) r) (hg : Gl X x) (hm : X.mg x = none) (hv : bootBuiltins x = some (.builtin id)) (ha : PAD X (e :: es) t) (hn : x ≠ "__name__" := by decide) (hdb : (x == ("__debug__" : Str)) = false := by decide)
    (hst : starEach (e :: es) X.env = (false, eval e X.env) :: starEach es X.env := by rfl) (hpl : (backTo pos (starEach es X.env)).any (·.1) = false := by rfl) :
    PED X (.Call (.Name x p) (e :: es) [] pos) (dCB r t) := by
  intro pins s σ H W ρ Q I rr h
  refine wpAny_Call_Name_kw (ld_blt I hg hm hv ?_ hn hdb)
  exact PyProof.Rows.callWith_builtin1 (thn (ha pos pins s σ H W ρ _ I rr h) fun us s1 ⟨vs, H1, ds, I1, rv, e1, hd, q⟩ => thn (hc pins s1 σ H1 W ds vs us Q I1 (rr.same e1).tracked rv hd q) fun _ _ z => z.up e1) hst hpl
theorem de_callTy (hc : CallD X (.type T) r) (hg : Gl X x) (hm : X.mg x = none) (hv : bootBuiltins x = some (.type T)) (ha : PAD X (e :: es) t) (hn : x ≠ "__name__" := by decide) (hdb : (x == ("__debug__" : Str)) = false := by decide)
    (hst : starEach (e :: es) X.env = (false, eval e X.env) :: starEach es X.env := by rfl) (hpl : (backTo pos (starEach es X.env)).any (·.1) = false := by rfl) :
    PED X (.Call (.Name x p) (e :: es) [] pos) (dCB r t) := by
  intro pins s σ H W ρ Q I rr h
  refine wpAny_Call_Name_kw (ld_blt I hg hm hv ?_ hn hdb)
  exact PyProof.Rows.callWith_type1 (thn (ha pos pins s σ H W ρ _ I rr h) fun us s1 ⟨vs, H1, ds, I1, rv, e1, hd, q⟩ => thn (hc pins s1 σ H1 W ds vs us Q I1 (rr.same e1).tracked rv hd q) fun _ _ z => z.up e1) hst hpl
end
end PD

namespace PD
open PySem PySem.Spec PyProof.Rows L2 PX

/-! ## == and != of any data -/
mutual
def pyD : D → PyData
  | .non => .none
  | .bl b => .bool b
  | .int i => .int i
  | .str x => .str x
  | .tup ds => .tuple (pyDs ds)
  | .lst _ ds => .list (pyDs ds)
  | .exc _ => .none
def pyDs : List D → List PyData
  | [] => []
  | d :: ds => pyD d :: pyDs ds
end
mutual
/-- no exception is in it -/
def plD : D → Bool
  | .tup ds => plDs ds
  | .lst _ ds => plDs ds
  | .exc _ => false
  | _ => true
def plDs : List D → Bool
  | [] => true
  | d :: ds => plD d && plDs ds
end
def eqD (x y : D) : Bool := PyData.eqv (pyD x) (pyD y)
/-- what may be compared: texts are texts, not deeper than 64 -/
def okD (x : D) : Prop := plD x = true ∧ SeqAt.shaped (pyD x) = true
section
variable {X : Cx} {pins : List (Addr × Obj)} {σ : St} {H : Hp} {s : Shared} {P : Bool → Addr → Prop}
mutual
theorem den_reads (I : Inv X pins σ H s) : ∀ (d : D) (v : V) (u : Value), Den X.K P H d v → RelV v u → plD d = true → ∃ as, Reads s.heap u (pyD d) as
  | .non, _, _, h, r, _ => by have e := h.non_; subst e; cases r; rw [pyD]; exact ⟨_, .none⟩
  | .bl b, _, _, h, r, _ => by have e := h.bl_; subst e; cases r; rw [pyD]; exact ⟨_, .bool b⟩
  | .int i, _, _, h, r, _ => by have e := h.int_; subst e; obtain ⟨t, rfl⟩ := r; rw [pyD]; exact ⟨_, .int i t⟩
  | .str x, _, _, h, r, _ => by have e := h.str_; subst e; obtain ⟨t, rfl⟩ := r; rw [pyD]; exact ⟨_, .str x t⟩
  | .tup ds, _, _, h, r, pl => by
    rw [plD] at pl
    obtain ⟨a, vs, e, hq, hd⟩ := h.tup_
    subst e
    cases r
    obtain ⟨its, rv, ⟨o, h1, h2, n, h3⟩, _⟩ := I.tuple hq
    obtain ⟨as, q⟩ := dens_reads I ds vs its hd rv pl
    rw [pyD]
    exact ⟨as, reads_tuple_at h1 h2 h3 (by simpa using q)⟩
  | .lst _ ds, _, _, h, r, pl => by
    rw [plD] at pl
    obtain ⟨a, vs, e, _, hq, hd⟩ := h.lst_
    subst e
    cases r
    obtain ⟨its, rv, ⟨o, n, h1, h2, _, h3⟩, _⟩ := I.list hq
    obtain ⟨as, q⟩ := dens_reads I ds vs its hd rv pl
    rw [pyD]
    exact ⟨_, reads_list_at h1 h2 h3 (by simpa using q)⟩
  | .exc _, _, _, _, _, pl => by rw [plD] at pl; cases pl
theorem dens_reads (I : Inv X pins σ H s) : ∀ (ds : List D) (vs : List V) (us : List Value), Dens X.K P H ds vs → Vals vs us → plDs ds = true → ∃ as, ReadsAll s.heap us (pyDs ds) as
  | [], _, _, h, r, _ => by simp only [Dens] at h; subst h; cases r; rw [pyDs]; exact ⟨_, .nil⟩
  | d :: ds, _, _, h, r, pl => by
    rw [plDs, Bool.and_eq_true] at pl
    simp only [Dens] at h
    obtain ⟨v, r', rfl, h1, h2⟩ := h
    cases r with
    | cons ra rb =>
      obtain ⟨as, q⟩ := den_reads I d v _ h1 ra pl.1
      obtain ⟨bs, q'⟩ := dens_reads I ds _ _ h2 rb pl.2
      rw [pyDs]
      exact ⟨_, .cons q q'⟩
end
def rdEq : RD2 := fun x y Q => okD x ∧ okD y ∧ Q (.bl (eqD x y))
def rdNe : RD2 := fun x y Q => okD x ∧ okD y ∧ Q (.bl (!eqD x y))
theorem od_eq (hu : X.A.units + 64 < cLine) : OpD X (compareOp .Eq) rdEq := by
  intro pins s σ H W x y v u vv uu Q I _ rv ru hx hy q
  obtain ⟨h1, h2, q⟩ := q
  obtain ⟨as, ra⟩ := den_reads I x v vv hx rv h1.1
  obtain ⟨bs, rb⟩ := den_reads I y u uu hy ru h2.1
  exact eq_dataH ra rb h1.2 h2.2 hu ⟨.bl _, H, _, I, rfl, Same.refl H, Den.bl _, q⟩
theorem od_ne (hu : X.A.units + 64 < cLine) : OpD X (compareOp .NotEq) rdNe := by
  intro pins s σ H W x y v u vv uu Q I _ rv ru hx hy q
  obtain ⟨h1, h2, q⟩ := q
  obtain ⟨as, ra⟩ := den_reads I x v vv hx rv h1.1
  obtain ⟨bs, rb⟩ := den_reads I y u uu hy ru h2.1
  exact ne_dataH ra rb h1.2 h2.2 hu ⟨.bl _, H, _, I, rfl, Same.refl H, Den.bl _, q⟩
/-- ints alone: no room is asked -/
theorem od_eqI : OpD X (compareOp .Eq) (rdI0 fun i j => .bl (decide (i = j))) := OpD.of op_eq fun P H x y v u Q hx hy ⟨i, j, e1, e2, q⟩ => by
  subst e1 e2
  have a := hx.int_
  have b := hy.int_
  subst a b
  refine ⟨rfl, Same.refl H, _, Den.bl _, ?_⟩
  rw [show decide (V.int i = V.int j) = decide (i = j) from by rw [dec_int]; rfl]
  exact q
theorem od_neI : OpD X (compareOp .NotEq) (rdI0 fun i j => .bl (!decide (i = j))) := OpD.of op_ne fun P H x y v u Q hx hy ⟨i, j, e1, e2, q⟩ => by
  subst e1 e2
  have a := hx.int_
  have b := hy.int_
  subst a b
  refine ⟨rfl, Same.refl H, _, Den.bl _, ?_⟩
  rw [show decide (V.int i = V.int j) = decide (i = j) from by rw [dec_int]; rfl]
  exact q
def isNon : D → Bool
  | .non => true
  | _ => false
theorem den_isNon {K : PySem.W.Frag} {d : D} {v : V} (h : Den K P H d v) : decide (v = .non) = isNon d := by
  cases d with
  | non => have := h.non_; subst this; rfl
  | bl b => have := h.bl_; subst this; rfl
  | int b => have := h.int_; subst this; rfl
  | str b => have := h.str_; subst this; rfl
  | tup ds => obtain ⟨a, vs, e, _⟩ := h.tup_; subst e; rfl
  | lst _ ds => obtain ⟨a, vs, e, _⟩ := h.lst_; subst e; rfl
  | exc c => obtain ⟨a, e, _⟩ := h.exc_; subst e; rfl
theorem od_isN : OpD X (compareOp .Is) (fun x y Q => y = .non ∧ Q (.bl (isNon x))) := OpD.of op_isN fun P H x y v u Q hx hy ⟨e, q⟩ => by
  subst e
  refine ⟨hy.non_, Same.refl H, _, Den.bl _, ?_⟩
  rw [den_isNon hx]
  exact q
theorem od_notN : OpD X (compareOp .IsNot) (fun x y Q => y = .non ∧ Q (.bl (!isNon x))) := OpD.of op_notN fun P H x y v u Q hx hy ⟨e, q⟩ => by
  subst e
  refine ⟨hy.non_, Same.refl H, _, Den.bl _, ?_⟩
  rw [den_isNon hx]
  exact q
end

/-! ## builtins -/
section
variable {X : Cx}
theorem cd_abs : CallD X (.builtin "abs") (fun ds Q => ∃ i : Int, ds = [.int i] ∧ Q (.int (i.natAbs : Int))) := CallD.of call_abs fun P H ds vs Q _ hd ⟨i, e, q⟩ => by
  subst e
  obtain ⟨v, r, rfl, h1, h2⟩ : ∃ v r, vs = v :: r ∧ Den X.K P H (.int i) v ∧ Dens X.K P H [] r := by simpa only [Dens] using hd
  have e1 := h1.int_
  have e2 : r = [] := by simpa only [Dens] using h2
  subst e1 e2
  refine ⟨i, rfl, Same.refl H, _, Den.int _, ?_⟩
  have : (if i < 0 then -i else i) = (i.natAbs : Int) := by split <;> omega
  rw [this]
  exact q
theorem dens2 {K : PySem.W.Frag} {P : Bool → Addr → Prop} {H : Hp} {x y : D} {vs : List V} (h : Dens K P H [x, y] vs) : ∃ v u, vs = [v, u] ∧ Den K P H x v ∧ Den K P H y u := by
  simp only [Dens] at h
  obtain ⟨v, r, e, h1, u, r', e', h2, e''⟩ := h
  subst e' e'' e
  exact ⟨v, u, rfl, h1, h2⟩
theorem dens1 {K : PySem.W.Frag} {P : Bool → Addr → Prop} {H : Hp} {x : D} {vs : List V} (h : Dens K P H [x] vs) : ∃ v, vs = [v] ∧ Den K P H x v := by
  simp only [Dens] at h
  obtain ⟨v, r, e, h1, e'⟩ := h
  subst e' e
  exact ⟨v, rfl, h1⟩
theorem cd_max (hc : X.calm = true) : CallD X (.builtin "max") (fun ds Q => ∃ i j : Int, ds = [.int i, .int j] ∧ Q (.int (max i j))) := CallD.of (call_max2 hc) fun P H ds vs Q _ hd ⟨i, j, e, q⟩ => by
  subst e
  obtain ⟨v, u, rfl, h1, h2⟩ := dens2 hd
  have e1 := h1.int_
  have e2 := h2.int_
  subst e1 e2
  refine ⟨i, j, rfl, Same.refl H, _, Den.int _, ?_⟩
  have : (if j > i then j else i) = max i j := by split <;> omega
  rw [this]
  exact q
theorem cd_len : CallD X (.builtin "len") (fun ds Q => ∃ xs, ((∃ t, ds = [.lst t xs]) ∨ ds = [.tup xs]) ∧ Q (.int (xs.length : Int))) := CallD.of call_len_seq fun P H ds vs Q _ hd ⟨xs, e, q⟩ => by
  rcases e with ⟨tg, e⟩ | e
  · subst e
    obtain ⟨v, rfl, h1⟩ := dens1 hd
    obtain ⟨a, ws, e, _, hq, hw⟩ := h1.lst_
    subst e
    refine ⟨a, ws, rfl, .inl hq, Same.refl H, _, Den.int _, ?_⟩
    rw [hw.len]
    exact q
  · subst e
    obtain ⟨v, rfl, h1⟩ := dens1 hd
    obtain ⟨a, ws, e, hq, hw⟩ := h1.tup_
    subst e
    refine ⟨a, ws, rfl, .inr hq, Same.refl H, _, Den.int _, ?_⟩
    rw [hw.len]
    exact q
theorem cd_int : CallD X (.type "int") (fun ds Q => (∃ i : Int, ds = [.int i] ∧ Q (.int i)) ∨ ∃ k : Bool, ds = [.bl k] ∧ Q (.int (if k then 1 else 0))) := CallD.of call_int1 fun P H ds vs Q _ hd h => by
  rcases h with ⟨i, e, q⟩ | ⟨k, e, q⟩
  · subst e
    obtain ⟨v, rfl, h1⟩ := dens1 hd
    have e1 := h1.int_
    subst e1
    exact .inl ⟨i, rfl, Same.refl H, _, Den.int _, q⟩
  · subst e
    obtain ⟨v, rfl, h1⟩ := dens1 hd
    have e1 := h1.bl_
    subst e1
    exact .inr ⟨k, rfl, Same.refl H, _, Den.int _, q⟩

/-! ### isinstance(x, T) for a built-in type T -/
/-- the name of a datum's type -/
def tyD : D → String
  | .non => "NoneType" | .bl _ => "bool" | .int _ => "int" | .str _ => "str" | .tup _ => "tuple" | .lst _ _ => "list" | .exc _ => "object"
def tyV : D → Value
  | .exc c => .ref c
  | d => .type (tyD d)
variable {e : Expr} {te : DE} {p p' pos : Pos} {T : String} {x : Str}
theorem isinst_d {pins : List (Addr × Obj)} {σ : St} {H : Hp} {s : Shared} {P : Bool → Addr → Prop} {A : Around} {E : Value → Shared → Prop} {Q : Value → Shared → Prop} {c : Value} {b : Bool} {d : D} {v : V} {u : Value} (I : Inv X pins σ H s) (h : Den X.K P H d v) (r : RelV v u)
    (e : PySem.W.kitOne X.K (tyV d) c = some b) (q : ∀ tk, Q (.bool b) { s with toks := tk }) : wpAny (model X.prog X.w) A (call (.builtin "isinstance") [u, c]) Q E s := by
  cases d with
  | non => have z := h.non_; subst z; cases r; exact PySem.W.kia_one PySem.W.kitx_none I.kIn True.intro e (fun z => nomatch z) q
  | bl y => have z := h.bl_; subst z; cases r; exact PySem.W.kia_one PySem.W.kitx_bool I.kIn True.intro e (fun z => nomatch z) q
  | int i => have z := h.int_; subst z; obtain ⟨t, rfl⟩ := r; exact PySem.W.kia_one PySem.W.kitx_int I.kIn True.intro e (fun z => nomatch z) q
  | str y => have z := h.str_; subst z; obtain ⟨t, rfl⟩ := r; exact PySem.W.kia_one PySem.W.kitx_str I.kIn True.intro e (fun z => nomatch z) q
  | tup ds =>
    obtain ⟨a, vs, z, hq, _⟩ := h.tup_
    subst z
    cases r
    obtain ⟨its, rv, ⟨o, h1, h2, n, h3⟩, _⟩ := I.tuple hq
    exact PySem.W.kia_one PySem.W.kitx_tuple I.kIn ⟨o, h1, h2⟩ e (fun z => nomatch z) q
  | lst _ ds =>
    obtain ⟨a, vs, z, _, hq, _⟩ := h.lst_
    subst z
    cases r
    obtain ⟨its, rv, ⟨o, n, h1, h2, _, h3⟩, _⟩ := I.list hq
    exact PySem.W.kia_one PySem.W.kitx_list I.kIn ⟨o, h1, h2⟩ e (fun z => nomatch z) q
  | exc c' =>
    obtain ⟨a, z, hq, k⟩ := h.exc_
    subst z
    cases r
    exact PySem.W.kia_one (kitx_exc k) I.kIn (I.hok a _ hq).1 e (fun z => nomatch z) q
theorem kitOne_type (K : PySem.W.Frag) (S T : String) : PySem.W.kitOne K (.type S) (.type T) = if S = T then some true else if PySem.W.kitMeta T = true then (fastBuiltinMro S).map (·.contains (.type T)) else none := by
  unfold PySem.W.kitOne PySem.W.kitCls PySem.W.subIn
  by_cases h : S = T
  · subst h; simp
  · have : (Value.type S == Value.type T) = false := by
      rw [beq_eq_false_iff_ne]
      intro e
      injection e with e
      exact h e
    rw [this, if_neg Bool.false_ne_true, if_neg h]
/-- the answer for each kind of datum -/
def isT (T : String) (d : D) : Bool := tyD d == T || (tyD d == "bool" && T == "int")
/-- T is one of: int, bool, tuple, list, str -/
theorem kit_ans (K : PySem.W.Frag) (d : D) (hk : ∀ c, d = .exc c → ExcK K c) (hT : T = "int" ∨ T = "bool" ∨ T = "tuple" ∨ T = "list" ∨ T = "str") : PySem.W.kitOne K (tyV d) (.type T) = some (isT T d) := by
  by_cases hx : ∃ c, d = .exc c
  · obtain ⟨c, rfl⟩ := hx
    show PySem.W.kitOne K (.ref c) (.type T) = _
    rw [(hk c rfl).not T hT]
    show _ = some ("object" == T || ("object" == "bool" && T == "int"))
    rcases hT with e | e | e | e | e <;> subst e <;> decide +kernel
  have hv : tyV d = .type (tyD d) := by cases d <;> first | rfl | exact absurd ⟨_, rfl⟩ hx
  rw [hv, kitOne_type]
  unfold isT
  have hS : tyD d = "NoneType" ∨ tyD d = "bool" ∨ tyD d = "int" ∨ tyD d = "str" ∨ tyD d = "tuple" ∨ tyD d = "list" := by cases d <;> first | exact absurd ⟨_, rfl⟩ hx | simp [tyD]
  generalize tyD d = S at hS ⊢
  rcases hT with e | e | e | e | e <;> subst e <;> rcases hS with e | e | e | e | e | e <;> subst e <;> decide +kernel
def dIs (T : String) (te : DE) : DE := fun ρ Q => te ρ fun d => Q (.bl (isT T d))
theorem de_isinst (hg : Gl X "isinstance") (hm : X.mg "isinstance" = none) (hgT : Gl X x) (hmT : X.mg x = none) (hv : bootBuiltins x = some (.type T)) (hT : T = "int" ∨ T = "bool" ∨ T = "tuple" ∨ T = "list" ∨ T = "str") (he : PED X e te)
    (hn : x ≠ "__name__" := by decide) (hdb : (x == ("__debug__" : Str)) = false := by decide)
    (hst : starEach [e, .Name x p'] X.env = (false, eval e X.env) :: starEach [.Name x p'] X.env := by rfl) (hst2 : starEach [.Name x p'] X.env = (false, eval (.Name x p') X.env) :: starEach [] X.env := by rfl) (hst3 : (backTo pos (starEach [.Name x p'] X.env)).any (·.1) = false := by rfl) :
    PED X (.Call (.Name "isinstance" p) [e, .Name x p'] [] pos) (dIs T te) := by
  intro pins s σ H W ρ Q I rr h
  have hpa : PA X [e, .Name x p'] (tCons (liftE X te) (tCons (tC (.ty T)) tNil)) := pa_cons he.pe (pa_cons (pe_bltn hgT hmT hv rfl hn hdb) pa_nil hst2) hst
  refine wpAny_Call_Name_kw (ld_blt I hg hm boot_isinstance ?_ (by decide) (by decide))
  refine PyProof.Rows.callWith_builtin1 (thn (hpa pos pins s σ H (fun vs H1 => ∃ v d, vs = [v, .ty T] ∧ Same H H1 ∧ Den X.K W.bad H1 d v ∧ Q (.bl (isT T d))) I ⟨W, ρ, _, rr, h, fun v H1 d e1 hd q1 => ⟨v, d, rfl, e1, hd, q1⟩⟩) fun us s1 ⟨vs, H1, I1, rv, v, d, ev, e1, hd, q1⟩ => ?_) hst hst3
  subst ev
  cases rv with
  | cons r1 rr =>
    cases rr with
    | cons r2 rr =>
      cases rr
      cases (show _ = Value.type T from r2)
      exact isinst_d I1 hd r1 (kit_ans X.K d (fun c z => by subst z; exact hd.exc_.choose_spec.2.2) hT) fun tk => ⟨.bl _, H1, _, I1.tok tk, rfl, e1, Den.bl _, q1⟩
end

/-! ## Statements -/
section
variable {X : Cx} {pos : Pos}
theorem SPD.up {pins : List (Addr × Obj)} {W0 W : Own} {H0 H : Hp} {E : DEnds} {f : Flow} {s' : Shared} (g : Fwd W0 H0 W H) (h : SPD X pins W H E f s') : SPD X pins W0 H0 E f s' := by
  obtain ⟨W', σ', H', I, fw, q⟩ := h
  exact ⟨W', σ', H', I, g.trans fw, q⟩
variable {st : Stmt} {rest : List Stmt} {t u : DS} {e : Expr} {te : DE}
def dNext : DS := fun E ρ => E.nx ρ
def dSeq (t u : DS) : DS := fun E ρ => t { E with nx := u E } ρ
theorem dss_nil : PSDs X [] dNext := fun _ _ σ H W ρ E I r h => wpAny_execs_nil ⟨W, σ, H, I, Fwd.refl W H, ρ, r, h⟩
theorem dss_cons (h1 : PSD X st t) (h2 : PSDs X rest u) : PSDs X (st :: rest) (dSeq t u) := by
  intro pins s σ H W ρ E I r h
  refine wpAny_execs_cons (thn (h1 pins s σ H W ρ { E with nx := u E } I r h) fun f s1 ⟨W', σ', H', I', fw, q⟩ => ?_)
  cases f with
  | next =>
    obtain ⟨ρ', r', q⟩ := q
    exact thn (h2 pins s1 σ' H' W' ρ' E I' r' q) fun _ _ z => z.up fw
  | ret v => exact ⟨W', σ', H', I', fw, q⟩
  | brk => exact ⟨W', σ', H', I', fw, q⟩
  | cont => exact ⟨W', σ', H', I', fw, q⟩
theorem dss_one (h1 : PSD X st t) : PSDs X [st] t := by
  intro pins s σ H W ρ E I r h
  refine wpAny_execs_cons (thn (h1 pins s σ H W ρ E I r h) fun f s1 q => ?_)
  cases f with
  | next => exact wpAny_execs_nil q
  | ret v => exact q
  | brk => exact q
  | cont => exact q
def dRet (te : DE) : DS := fun E ρ => te ρ E.rt
theorem ds_ret (he : PED X e te) : PSD X (.Return (some e) pos) (dRet te) := by
  intro pins s σ H W ρ E I r h
  exact wpAny_Return_some (thn (he pins s σ H W ρ _ I r h) fun u s1 ⟨v, H1, d, I1, r1, e1, hd, q1⟩ => ⟨W, σ, H1, I1, Fwd.same e1, v, d, r1, hd, q1⟩)
def dIfS (c : DT) (t u : DS) : DS := fun E ρ => c ρ fun b => if b = true then t E ρ else u E ρ
theorem ds_if {c : Expr} {a b : List Stmt} {tc : DT} (hc : PTD X c tc) (ha : PSDs X a t) (hb : PSDs X b u) : PSD X (.If c a b pos) (dIfS tc t u) := by
  intro pins s σ H W ρ E I r h
  refine wpAny_If (thn (hc pins s σ H W ρ _ I r h) fun d s1 ⟨H1, I1, e1, q1⟩ => ?_)
  cases d with
  | true => exact thn (ha pins s1 σ H1 W ρ E I1 (r.same e1) q1) fun _ _ z => z.up (Fwd.same e1)
  | false => exact thn (hb pins s1 σ H1 W ρ E I1 (r.same e1) q1) fun _ _ z => z.up (Fwd.same e1)

/-! ### names -/
theorem Rel.put {X : Cx} {W : Own} {H : Hp} {σ : St} {ρ : Ro} {i : Nat} {d : D} {v : V} (r : Rel X W H σ ρ) (hi : i < σ.length) (hd : Den X.K W.bad H d v) : Rel X (W.drop i) H (σ.set i (some v)) (ρ.set i (some (.val d))) where
  val := fun j x h => by
    by_cases hj : j = i
    · subst hj
      refine ⟨v, by simp [hi], ?_⟩
      by_cases hl : j < ρ.length
      · rw [List.getElem?_set_self hl] at h
        cases h
        exact hd.fewer fun _ _ => Own.drop_bad
      · rw [List.getElem?_eq_none (by simpa using hl)] at h
        cases h
    · rw [List.getElem?_set_ne (Ne.symm hj)] at h
      obtain ⟨w, h1, h2⟩ := r.val j x h
      exact ⟨w, by rw [List.getElem?_set_ne (Ne.symm hj)]; exact h1, h2.fewer fun _ _ => Own.drop_bad⟩
  own := fun j x h => by
    by_cases hj : j = i
    · subst hj
      by_cases hl : j < ρ.length
      · rw [List.getElem?_set_self hl] at h; cases h
      · rw [List.getElem?_eq_none (by simpa using hl)] at h; cases h
    · rw [List.getElem?_set_ne (Ne.symm hj)] at h
      obtain ⟨a, vs, h1, h2, h3, h4⟩ := r.own j x h
      exact ⟨a, vs, by show (if j = i then none else W.O j) = _; rw [if_neg hj]; exact h1, by rw [List.getElem?_set_ne (Ne.symm hj)]; exact h2, h3, by rw [List.length_set]; exact h4.fewer (fun _ _ => Own.drop_bad) (Own.drop_sub hi)⟩
  inj := fun j k a h1 h2 => by
    have h1' : (if j = i then none else W.O j) = some a := h1
    have h2' : (if k = i then none else W.O k) = some a := h2
    by_cases e1 : j = i
    · rw [if_pos e1] at h1'; cases h1'
    · by_cases e2 : k = i
      · rw [if_pos e2] at h2'; cases h2'
      · rw [if_neg e1] at h1'
        rw [if_neg e2] at h2'
        exact r.inj j k a h1' h2'
  kn := fun j a h1 => by
    have h1' : (if j = i then none else W.O j) = some a := h1
    by_cases e1 : j = i
    · rw [if_pos e1] at h1'; cases h1'
    · rw [if_neg e1] at h1'
      exact r.kn j a h1'
  ke := fun j a h1 => by
    have h1' : (if j = i then none else W.O j) = some a := h1
    by_cases e1 : j = i
    · rw [if_pos e1] at h1'; cases h1'
    · rw [if_neg e1] at h1'
      exact r.ke j a h1'
  bt := r.bt
  st := r.st
  ent := r.ent
  tab := r.tab
theorem Fwd.drop (W : Own) (H : Hp) (i : Nat) : Fwd W H (W.drop i) H := ⟨rfl, rfl, fun _ _ _ h _ => h, fun j a h => by
  have h' : (if j = i then none else W.O j) = some a := h
  by_cases e1 : j = i
  · rw [if_pos e1] at h'; cases h'
  · rw [if_neg e1] at h'; exact .inl ⟨j, h'⟩, fun _ ps h => ⟨#[], by rw [h]; simp⟩, id⟩
theorem Inv.ilt {pins : List (Addr × Obj)} {σ : St} {H : Hp} {s : Shared} {i : Nat} {x : Str} (I : Inv X pins σ H s) (hi : X.N[i]? = some x) : i < σ.length := by
  rw [I.len]
  exact (List.getElem?_eq_some_iff.mp hi).1
def dSet (i : Nat) (te : DE) : DS := fun E ρ => te ρ fun d => E.nx (ρ.set i (some (.val d)))
theorem ds_set {x : Str} {pos' : Pos} (i : Nat) (hN : X.N.Nodup) (he : PED X e te) (hi : X.N[i]? = some x := by rfl) (hx : Loc X.env.scope x := by first | exact Or.inl rfl | exact Or.inr rfl) (hs : swapsWith e (some (.Name x pos')) pos.line X.env = pure false := by rfl)
    (hf : X.fn x = true ∨ X.env.scope.names.lookup x = some .local := by first | exact .inl rfl | exact .inr rfl | assumption) : PSD X (.Assign [.Name x pos'] e pos) (dSet i te) := by
  intro pins s σ H W ρ E I r h
  refine wpAny_Assign_Name (thn (he pins s σ H W ρ _ I r h) fun u s1 ⟨v, H1, d, I1, r1, e1, hd, q1⟩ => ?_) hs
  exact store_ok I1 hN hi hx r1 (fun s2 I2 => ⟨W.drop i, _, H1, I2, (Fwd.same e1).trans (Fwd.drop W H1 i), _, (r.same e1).put (Inv.ilt I1 hi) hd, q1⟩) hf
/-- from a statement's rule of the layer beneath -/
theorem PSD.of {ts : TS} {t : DS} (h : PS X st ts) (k : ∀ σ H W ρ E, Rel X W H σ ρ → σ.length = X.N.length → t E ρ → ts ⟨(fun σ' H' => ∃ W' ρ', Fwd W H W' H' ∧ Rel X W' H' σ' ρ' ∧ E.nx ρ'), (fun v H' => ∃ W' d, Fwd W H W' H' ∧ Den X.K W'.bad H' d v ∧ E.rt d),
      (fun σ' H' => ∃ W' ρ', Fwd W H W' H' ∧ Rel X W' H' σ' ρ' ∧ E.bk ρ'), (fun σ' H' => ∃ W' ρ', Fwd W H W' H' ∧ Rel X W' H' σ' ρ' ∧ E.ct ρ')⟩ σ H) : PSD X st t := by
  intro pins s σ H W ρ E I r ht
  refine thn (h pins s σ H _ I (k σ H W ρ E r I.len ht)) fun f s1 q => ?_
  cases f with
  | next => obtain ⟨σ', H', I', W', ρ', fw, r', q⟩ := q; exact ⟨W', σ', H', I', fw, ρ', r', q⟩
  | brk => obtain ⟨σ', H', I', W', ρ', fw, r', q⟩ := q; exact ⟨W', σ', H', I', fw, ρ', r', q⟩
  | cont => obtain ⟨σ', H', I', W', ρ', fw, r', q⟩ := q; exact ⟨W', σ', H', I', fw, ρ', r', q⟩
  | ret u => obtain ⟨v, σ', H', I', rv, W', d, fw, hd, q⟩ := q; exact ⟨W', σ', H', I', fw, v, d, rv, hd, q⟩

/-! ### while -/
/-- a word and a measure of the names' values -/
def dWhile (c : DT) (tb : DS) : DS := fun E ρ => ∃ W : Nat → Ro → Prop, (∃ m, W m ρ) ∧ ∀ m ρ, W m ρ → c ρ fun b => if b = true then tb { E with nx := fun ρ' => ∃ m', m' < m ∧ W m' ρ', ct := fun ρ' => ∃ m', m' < m ∧ W m' ρ', bk := E.nx } ρ else E.nx ρ
theorem ds_while {c : Expr} {body : List Stmt} {tc : DT} {tb : DS} (hp : PassesOwn (model X.prog X.w) X.A X.env X.xe) (hc : PTD X c tc) (hb : PSDs X body tb) : PSD X (.While c body [] pos) (dWhile tc tb) := by
  intro pins s σ H W ρ E I r h
  obtain ⟨Wd, ⟨m0, w0⟩, turn⟩ := h
  refine wpAny_While (codeAny_whileLoop (fun n s' => ∃ W' σ' H' ρ', Inv X pins σ' H' s' ∧ Fwd W H W' H' ∧ Rel X W' H' σ' ρ' ∧ Wd n ρ') ?_ m0 ⟨W, σ, H, ρ, I, Fwd.refl W H, r, w0⟩)
  rintro n s1 ⟨W1, σ1, H1, ρ1, I1, fw1, r1, w1⟩
  refine wpAny_passesOwn hp (thn (hc pins s1 σ1 H1 W1 ρ1 _ I1 r1 (turn n ρ1 w1)) fun b s2 ⟨H2, I2, e2, q2⟩ => ?_)
  have fw2 := fw1.trans (Fwd.same (W := W1) e2)
  cases b with
  | true =>
    rw [if_pos rfl] at q2
    rw [if_pos rfl]
    refine wpAny_passesOwn hp (thn (hb pins s2 σ1 H2 W1 ρ1 _ I2 (r1.same e2) q2) fun f s3 q3 => ?_)
    obtain ⟨W3, σ3, H3, I3, fw3, q3⟩ := q3
    cases f with
    | next =>
      obtain ⟨ρ3, r3, m', hm, w3⟩ := q3
      exact ⟨m', hm, W3, σ3, H3, ρ3, I3, fw2.trans fw3, r3, w3⟩
    | cont =>
      obtain ⟨ρ3, r3, m', hm, w3⟩ := q3
      exact ⟨m', hm, W3, σ3, H3, ρ3, I3, fw2.trans fw3, r3, w3⟩
    | brk => exact ⟨W3, σ3, H3, I3, fw2.trans fw3, q3⟩
    | ret v => exact ⟨W3, σ3, H3, I3, fw2.trans fw3, q3⟩
  | false =>
    rw [if_neg Bool.false_ne_true] at q2
    rw [if_neg Bool.false_ne_true]
    exact wpAny_execs_nil ⟨W1, σ1, H2, I2, fw2, ρ1, r1.same e2, q2⟩
end

/-! ### for -/
section
variable {X : Cx} {pos : Pos}
theorem fwdX {X : Cx} {W W' : Own} {H H' : Hp} {σ : St} {ρ : Ro} (r : Rel X W H σ ρ) (f : Fwd W H W' H') (a : Addr) (φ : Heap → Prop) (q : H a = some (.ext φ)) : H' a = some (.ext φ) :=
  f.keep a _ (fun i z => by obtain ⟨_, _, o, q', m⟩ := r.kn i a z; rw [q] at q'; cases q'; exact m) q
theorem fwdT {X : Cx} {W W' : Own} {H H' : Hp} {σ : St} {ρ : Ro} (r : Rel X W H σ ρ) (f : Fwd W H W' H') (a : Addr) (vs : List V) (q : SqT X.K H a vs) : SqT X.K H' a vs := by
  have noT : ∀ a xs, (H a = some (.tup xs) ∨ ∃ o, H a = some (.frz o (.tup xs))) → ∀ i, W.O i ≠ some a := fun a xs z i e => by
    obtain ⟨_, _, o', q, m⟩ := r.kn i a e
    rcases z with z | ⟨o, z⟩
    · rw [q] at z; cases z; exact m
    · rw [q] at z; cases z; exact m
  rcases q with q | q
  · rcases q with q' | ⟨o, q'⟩
    · exact .inl (.inl (f.keep a _ (noT a vs (.inl q')) q'))
    · exact .inl (.inr ⟨o, f.keep a _ (noT a vs (.inr ⟨o, q'⟩)) q'⟩)
  · exact .inr q
theorem fwdL {X : Cx} {W W' : Own} {H H' : Hp} {σ' : St} {ρ' : Ro} (r' : Rel X W' H' σ' ρ') (f : Fwd W H W' H') (t : Bool) (a : Addr) (vs : List V) (p : ¬ W.bad t a) (q : SqG X.K H t a vs) : ¬ W'.bad t a ∧ SqG X.K H' t a vs := by
  have no : ∀ i, W.O i ≠ some a := fun i e => p (.inr (.inl ⟨i, e⟩))
  refine ⟨fun b => ?_, ?_, fun z => ⟨f.keep a _ no (q.2 z).1, (q.2 z).2⟩⟩
  · rcases b with b | ⟨i, b⟩ | ⟨e, b⟩
    · rw [f.B] at b; exact p (.inl b)
    · rcases f.new i a b with ⟨j, z⟩ | z
      · exact no j z
      · rcases q.1 with (q | ⟨o, q⟩) | ⟨o, its, n, q, _⟩
        · rw [z] at q; cases q
        · rw [z] at q; cases q
        · rw [(r'.kn i a b).1] at q; cases q
    · rw [f.S] at b; exact p (.inr (.inr ⟨e, b⟩))
  · rcases q.1 with (q | ⟨o, q⟩) | q
    · exact .inl (.inl (f.keep a _ no q))
    · exact .inl (.inr ⟨o, f.keep a _ no q⟩)
    · exact .inr q
theorem Den.fwd {X : Cx} {W W' : Own} {H H' : Hp} {σ σ' : St} {ρ ρ' : Ro} {d : D} {v : V} (r : Rel X W H σ ρ) (r' : Rel X W' H' σ' ρ') (f : Fwd W H W' H') (h : Den X.K W.bad H d v) : Den X.K W'.bad H' d v :=
  Den.map (fwdT r f) (fwdL r' f) (fwdX r f) d v h
theorem SqL.fwd {K : PySem.W.Frag} {W W' : Own} {H H' : Hp} {a : Addr} {vs : List V} {t : Bool} (f : Fwd W H W' H') (p : ¬ W.bad t a) (q : SqL K H a vs) : SqL K H' a vs := by
  have no : ∀ i, W.O i ≠ some a := fun i e => p (.inr (.inl ⟨i, e⟩))
  rcases q with (q | ⟨o, q⟩) | q
  · exact .inl (.inl (f.keep a _ no q))
  · exact .inl (.inr ⟨o, f.keep a _ no q⟩)
  · exact .inr q
/-! ### targets -/
abbrev DG := D → Ro → (Ro → Prop) → Prop
def PGD (X : Cx) (target : Expr) (g : DG) : Prop :=
  ∀ (pins : List (Addr × Obj)) (s : Shared) (σ : St) (H : Hp) (W : Own) (ρ : Ro) (d : D) (v : V) (u : Value) (Q : Ro → Prop), Inv X pins σ H s → Rel X W H σ ρ → RelV v u → Den X.K W.bad H d v → g d ρ Q →
    wpAny (model X.prog X.w) X.A (assign target X.env u) (fun _ s' => ∃ W' σ' H' ρ', Inv X pins σ' H' s' ∧ Fwd W H W' H' ∧ Rel X W' H' σ' ρ' ∧ Q ρ') X.xe s
abbrev DGs := List D → Ro → (Ro → Prop) → Prop
def PGDs (X : Cx) (ts : List Expr) (t : DGs) : Prop :=
  ∀ (pins : List (Addr × Obj)) (s : Shared) (σ : St) (H : Hp) (W : Own) (ρ : Ro) (ds : List D) (vs : List V) (us : List Value) (Q : Ro → Prop), Inv X pins σ H s → Rel X W H σ ρ → Vals vs us → Dens X.K W.bad H ds vs → t ds ρ Q →
    wpAny (model X.prog X.w) X.A (assignInOrder ((assignEach ts X.env).map (·.2)) us) (fun _ s' => ∃ W' σ' H' ρ', Inv X pins σ' H' s' ∧ Fwd W H W' H' ∧ Rel X W' H' σ' ρ' ∧ Q ρ') X.xe s
theorem Dens.fwd {X : Cx} {W W' : Own} {H H' : Hp} {σ σ' : St} {ρ ρ' : Ro} (r : Rel X W H σ ρ) (r' : Rel X W' H' σ' ρ') (f : Fwd W H W' H') : ∀ {ds : List D} {vs : List V}, Dens X.K W.bad H ds vs → Dens X.K W'.bad H' ds vs
  | [], _, h => by simpa only [Dens] using h
  | d :: ds, _, h => by
    simp only [Dens] at h ⊢
    obtain ⟨v, q, e, h1, h2⟩ := h
    exact ⟨v, q, e, Den.fwd r r' f h1, Dens.fwd r r' f h2⟩
def gdName (i : Nat) : DG := fun d ρ Q => Q (ρ.set i (some (.val d)))
theorem gd_name {x : Str} (i : Nat) (hN : X.N.Nodup) (hi : X.N[i]? = some x := by rfl) (hx : Loc X.env.scope x := by first | exact Or.inl rfl | exact Or.inr rfl)
    (hf : X.fn x = true ∨ X.env.scope.names.lookup x = some .local := by first | exact .inl rfl | exact .inr rfl | assumption) : PGD X (.Name x pos) (gdName i) := by
  intro pins s σ H W ρ d v u Q I r rv hd h
  exact wpAny_assign_Name (store_ok I hN hi hx rv (fun s' I' => ⟨W.drop i, _, H, _, I', Fwd.drop W H i, r.put (Inv.ilt I hi) hd, h⟩) hf)
def gdNil : DGs := fun ds ρ Q => ds = [] ∧ Q ρ
def gdCons (g : DG) (u : DGs) : DGs := fun ds ρ Q => ∃ d r, ds = d :: r ∧ g d ρ fun ρ' => u r ρ' Q
theorem gds_nil : PGDs X [] gdNil := by
  intro pins s σ H W ρ ds vs us Q I r rv hd h
  obtain ⟨e, h⟩ := h
  subst e
  simp only [Dens] at hd
  subst hd
  cases rv
  exact assignInOrder_nil ⟨W, σ, H, ρ, I, Fwd.refl W H, r, h⟩
theorem gds_cons {e : Expr} {es : List Expr} {g : DG} {u : DGs} (h1 : PGD X e g) (h2 : PGDs X es u) (hs : (assignEach (e :: es) X.env).map (·.2) = assign e X.env :: (assignEach es X.env).map (·.2) := by rfl) : PGDs X (e :: es) (gdCons g u) := by
  intro pins s σ H W ρ ds vs us Q I r rv hd h
  obtain ⟨d, dr, e1, h⟩ := h
  subst e1
  simp only [Dens] at hd
  obtain ⟨v, vr, e2, hd1, hd2⟩ := hd
  subst e2
  cases rv with
  | cons ra rb =>
    rw [hs]
    refine assignInOrder_cons (thn (h1 pins s σ H W ρ d v _ _ I r ra hd1 h) fun _ s1 ⟨W1, σ1, H1, ρ1, I1, f1, r1, q1⟩ => ?_)
    exact thn (h2 pins s1 σ1 H1 W1 ρ1 dr vr _ Q I1 r1 rb (Dens.fwd r r1 f1 hd2) q1) fun _ s2 ⟨W2, σ2, H2, ρ2, I2, f2, r2, q2⟩ => ⟨W2, σ2, H2, ρ2, I2, f1.trans f2, r2, q2⟩
theorem isL_same {h h' : Heap} {it l : Addr} {items : Array Value} (hl : h.IsList l items) (hs : Heap.SameBut it h h') (hne : l ≠ it) : h'.IsList l items := by
  obtain ⟨o, ho, r⟩ := hl
  exact ⟨o, (hs.2 l hne).trans ho, r⟩
/-- a list drawn item by item -/
theorem draw_list {prog : Program} {w : World} {A : Around} {E : Value → Shared → Prop} {it l : Addr} {items : Array Value} (hne : l ≠ it) : ∀ (n i : Nat) (s : Shared) (Q : List Value → Shared → Prop), s.heap.IsListIter it l i → s.heap.IsList l items → i + n ≤ items.size →
    (∀ h', h'.IsListIter it l (i + n) → Heap.SameBut it s.heap h' → Q ((items.toList.drop i).take n) { s with heap := h' }) → wpAny (model prog w) A (draw (.ref it) n) Q E s
  | 0, i, s, Q, hit, _, _, hQ => by
    show wpAny _ _ (pure []) Q E s
    exact wpAny_pure (by simpa using hQ s.heap hit (Heap.SameBut.refl ..))
  | n + 1, i, s, Q, hit, hl, hle, hQ => by
    have hlt : i < items.size := by omega
    show wpAny _ _ (pyNext (.ref it) >>= _) Q E s
    refine wpAny_bind (wpAny_pyNext_list_item hit hl (x := items[i]) (by simp [hlt]) fun h₁ hit₁ hs₁ => ?_)
    refine wpAny_bind (wpAny_holding (draw_list hne n (i + 1) _ _ hit₁ (isL_same hl hs₁ hne) (by omega) fun h₂ hit₂ hs₂ => wpAny_pure ?_))
    have hd : items.toList.drop i = items[i] :: items.toList.drop (i + 1) := by simp [List.drop_eq_getElem_cons, hlt]
    have := hQ h₂ (by rw [show i + (n + 1) = i + 1 + n by omega]; exact hit₂) (hs₁.trans hs₂)
    rw [hd, List.take_succ_cons] at this
    exact this
theorem unpackItems_list {prog : Program} {w : World} {A : Around} {E : Value → Shared → Prop} {s : Shared} {l : Addr} {items : Array Value} {Q : List Value → Shared → Prop} (hh : A.handled = none) (hl : s.heap.IsList l items)
    (hQ : ∀ h', Heap.ExtBut s.heap.objs.size s.heap h' → Q items.toList { s with heap := h' }) : wpAny (model prog w) A (unpackItems (.ref l) items.size none) Q E s := by
  have hlt : l ≠ s.heap.objs.size := by obtain ⟨o, ho, _⟩ := hl; exact Nat.ne_of_lt (Heap.lt_size ho)
  unfold unpackItems
  refine wpAny_bind ?_
  · unfold notIterableAtAll
    refine wpAny_bind (wpAny_specialOf hl.typeIs F.slot_list_iter.lookup ?_)
    refine wpAny_pure ?_
    simp only [Bool.false_eq_true, if_false]
    refine wpAny_bind (wpAny_holding (wpAny_pyIter_list hl ?_))
    have hl0 : (s.heap.push { cls := .type "list_iterator", data := .fields #[.ref l, rawInt 0] }).IsList l items := by
      obtain ⟨o, ho, r⟩ := hl
      exact ⟨o, Heap.get?_push_of_some _ ho, r⟩
    refine wpAny_bind (wpAny_holding (draw_list hlt items.size 0 _ _ ⟨_, Heap.get?_push_size _ rfl, rfl, rfl⟩ hl0 (by omega) fun h₁ hit₁ hs₁ => ?_))
    have hall : List.take items.size (List.drop 0 items.toList) = items.toList := by
      rw [List.drop_zero]; exact List.take_of_length_le (by simp)
    rw [hall]
    rw [if_neg (by simp)]
    have hl₁ : h₁.IsList l items := isL_same hl0 hs₁ hlt
    refine wpAny_bind (wpAny_holding (wpAny_pyNext_list_end hh hit₁ hl₁ (by simp) fun h₂ he₂ => ?_))
    simp only [Option.isSome_none, Bool.false_eq_true, if_false]
    refine wpAny_pure (hQ h₂ fun b o hb e => he₂ b o hb (hs₁.extBut b o hb (Heap.get?_push_of_some _ e)))
/-- (a, b, ..) = a tuple or a list of that length -/
def gdSeq (n : Nat) (t : DGs) : DG := fun d ρ Q => ∃ ds, (d = .tup ds ∨ ∃ t, d = .lst t ds) ∧ ds.length = n ∧ t ds ρ Q
theorem gd_tup {es : List Expr} {k : Nat} {t : DGs} {n : Nat} (hc : X.calm = true) (h : PGDs X es t) (hn : (assignEach es X.env).length = n := by rfl) (hst : (assignEach es X.env).findIdx? (·.1) = none := by rfl) : PGD X (.Tuple es k pos) (gdSeq n t) := by
  intro pins s σ H W ρ d v u Q I r rv hd hw
  obtain ⟨ds, ed, hl, hw⟩ := hw
  rcases ed with ed | ⟨tg, ed⟩
  · subst ed
    obtain ⟨a, vs, e1, hq, hds⟩ := hd.tup_
    subst e1
    cases rv
    obtain ⟨its, rvs, ht, hz⟩ := I.tuple hq
    refine assign_Tuple_tuple (I.ok.hd hc) ht (by simp [hn, ← hl, ← rvs.length, hds.len]) hst fun h' hx => ?_
    have I1 : Inv X pins σ H { s with heap := h' } := I.kept (t' := s.toks) fun b o e => hx b o (Nat.ne_of_lt (Heap.lt_size e)) e
    exact h pins _ σ H W ρ ds vs _ Q I1 r (by simpa using rvs) hds hw
  · subst ed
    obtain ⟨a, vs, e1, _, hq, hds⟩ := hd.lst_
    subst e1
    cases rv
    obtain ⟨its, rvs, ht, hz⟩ := I.list hq
    rw [assign_Tuple]
    refine wpAny_bind (wpAny_standAt ?_)
    unfold unpack
    rw [hst, show (assignEach es X.env).length = its.toArray.size by simp [hn, ← hl, ← rvs.length, hds.len]]
    refine wpAny_bind (wpAny_holding (unpackItems_list (I.ok.hd hc) ht.isList fun h' hx => ?_))
    have I1 : Inv X pins σ H { s with heap := h' } := I.kept (t' := s.toks) fun b o e => hx b o (Nat.ne_of_lt (Heap.lt_size e)) e
    exact h pins _ σ H W ρ ds vs _ Q I1 r (by simpa using rvs) hds hw
def dAsg (te : DE) (g : DG) : DS := fun E ρ => te ρ fun d => g d ρ E.nx
theorem ds_asg {tg e : Expr} {te : DE} {g : DG} (he : PED X e te) (hg : PGD X tg g) (hs : swapsWithSole [tg] e pos.line X.env = pure false := by rfl) (hw : swappedStores [tg] e X.env = pure none := by rfl)
    (h1 : (assignEach [tg] X.env).map (·.2) = [assign tg X.env] := by rfl) : PSD X (.Assign [tg] e pos) (dAsg te g) := by
  intro pins s σ H W ρ E I r h
  refine wpAny_Assign_stores (thn (he pins s σ H W ρ _ I r h) fun u s1 ⟨v, H1, d, I1, r1, e1, hd, q1⟩ => ?_) hs hw
  rw [h1]
  exact thn (hg pins s1 σ H1 W ρ d v u _ I1 (r.same e1) r1 hd q1) fun _ s2 ⟨W2, σ2, H2, ρ2, I2, f2, r2, q2⟩ => ⟨W2, σ2, H2, I2, (Fwd.same e1).trans f2, ρ2, r2, q2⟩

/-! ### what is walked: a known list of data -/
def YD (K : PySem.W.Frag) (W : Own) (H : Hp) (J : It) (ds : List D) : Prop := ∀ (P' : Bool → Addr → Prop) (H' : Hp), (∀ a vs, SqT K H a vs → SqT K H' a vs) → (∀ t a vs, ¬ W.bad t a → SqG K H t a vs → ¬ P' t a ∧ SqG K H' t a vs) → (∀ a φ, H a = some (.ext φ) → H' a = some (.ext φ)) → ∀ i, (i < ds.length → J.go i H') ∧ (∀ x H3, J.yld i H' x H3 → i < ds.length → Same H' H3 ∧ ∃ d, ds[i]? = some d ∧ Den K P' H3 d x) ∧ (ds.length ≤ i → J.stop i H')
def PID (X : Cx) (tg iter : Expr) (wi : DA) : Prop :=
  ∀ (pins : List (Addr × Obj)) (s : Shared) (σ : St) (H : Hp) (W : Own) (ρ : Ro) (R : List D → Prop), Inv X pins σ H s → Rel X W H σ ρ → wi ρ R →
    wpAny (model X.prog X.w) X.A (eval iter X.env) (fun v s1 => wpAny (model X.prog X.w) X.A (pyIter v) (fun itv s2 => ∃ (it : Addr) (fp : List Addr) (tn : Nat → Heap → Prop) (J : It) (H' : Hp) (ds : List D), itv = .ref it ∧ Inv X pins σ H' s2 ∧ Same H H' ∧
      Turn X.prog X.w X.K tg J fp it tn ∧ tn 0 s2.heap ∧ (∀ b ∈ fp, FpOk X pins H' b) ∧ YD X.K W H' J ds ∧ R ds) X.xe s1) X.xe s
theorem PID.of {tg iter : Expr} {wi : TI} {wd : DA} (h : PI X tg iter wi) (k : ∀ σ H W ρ R, Rel X W H σ ρ → wd ρ R → wi σ H fun J H' => Same H H' ∧ ∃ ds, YD X.K W H' J ds ∧ R ds) : PID X tg iter wd := by
  intro pins s σ H W ρ R I r hw
  refine thn (h pins s σ H _ I (k σ H W ρ R r hw)) fun v s1 h1 => thn h1 fun itv s2 h2 => ?_
  obtain ⟨it, fp, tn, J, H', e, I2, T, st, f2, e2, ds, y, q⟩ := h2
  exact ⟨it, fp, tn, J, H', ds, e, I2, e2, T, st, f2, y, q⟩
def dIter (ti : DE) : DA := fun ρ R => ti ρ fun d => ∃ t ds, d = .lst t ds ∧ R ds
theorem id_list {tg iter : Expr} {ti : DE} (h : PED X iter ti) : PID X tg iter (dIter ti) := by
  refine PID.of (pi_list h.pe) fun σ H W ρ R r hw => ⟨W, ρ, _, r, hw, fun v H1 d e1 hd q => ?_⟩
  obtain ⟨tg', ds, rfl, q⟩ := q
  obtain ⟨a, vs, rfl, na, hq, hds⟩ := hd.lstG_
  refine ⟨a, rfl, ⟨vs, hq.1⟩, e1, ds, ?_, q⟩
  intro P' H' hT hL hX i
  have hq' : SqL X.K H' a vs := (hL _ a vs na hq).2.1
  have hl := hds.len
  refine ⟨fun hi => ?_, fun x H3 y hi => ?_, fun hi => ⟨vs, hq', by omega⟩⟩
  · obtain ⟨v, hv, _⟩ := hds.get (i := i) (d := ds[i]) (by simp [hi])
    exact ⟨vs, v, hq', hv⟩
  · obtain ⟨e3, y⟩ := y
    subst e3
    obtain ⟨d, h1, h2⟩ := hds.getV (y vs hq')
    exact ⟨Same.refl _, d, h1, Den.map hT hL hX d _ h2⟩
/-- range(..): what it yields -/
def rngD (lo step : Int) (n : Nat) : List D := (List.range n).map fun (i : Nat) => D.int (lo + i * step)
theorem rngD_len (lo step : Int) (n : Nat) : (rngD lo step n).length = n := by simp [rngD]
theorem rngD_get {lo step : Int} {n i : Nat} (h : i < n) : (rngD lo step n)[i]? = some (D.int (lo + i * step)) := by simp [rngD, h]
def Itr3 (lo c : Int) (n : Nat) : It := ⟨fun i _ => i < n, fun i H x H' => H' = H ∧ x = .int (lo + i * c), fun i _ => n ≤ i⟩
theorem yd_range (K : PySem.W.Frag) (W : Own) (H : Hp) (lo c : Int) (n : Nat) : YD K W H (Itr3 lo c n) (rngD lo c n) := fun P' H' _ _ _ i => by
  rw [rngD_len]
  refine ⟨fun h => h, fun x H3 y hi => ?_, fun h => h⟩
  obtain ⟨e, ex⟩ := y
  subst e ex
  exact ⟨Same.refl _, _, rngD_get hi, Den.int _⟩
theorem turn_range3 {P : Program} {w : World} {K : PySem.W.Frag} {tg : Expr} (it : Addr) (lo c : Int) (n : Nat) : Turn P w K tg (Itr3 lo c n) [it] it (fun i h => IsRangeIter h it (lo + (i : Nat) * c) ((n : Int) - (i : Nat)) c) where
  mem := by simp
  obj := fun i h st b hb => by
    have e : b = it := by simpa using hb
    subst e
    exact ⟨_, st, fun v z => by
      have z' : Data.fields _ = Data.cell v := z
      cases z'⟩
  keep := fun i h h' st k => k it (by simp) _ st
  item := by
    intro X hP hw hK hc i pins s σ H E I hf st hg
    subst hP hw hK
    obtain ⟨f0, f1, f2, f3, f4, f5⟩ := hf it (by simp)
    have W := Walks.range (prog := X.prog) (w := X.w) (I.ok.hd hc) it lo c n
    refine W.item i s _ _ hg st fun v h' tk hv st' kk => ?_
    obtain ⟨t, rfl⟩ := hv
    have I1 : Inv X pins σ H { s with heap := h', toks := tk } := I.turned (fun b o hb e => kk b o (by simpa using hb) e) f0 f1 f3 f4 f5
    exact ⟨_, rfl, go_of (s := { s with heap := h', toks := tk }) (n := "range_iterator") st' rfl rfl (by decide) ⟨.int (lo + i * c), H, I1, ⟨t, rfl⟩, ⟨rfl, rfl⟩, st', fun b hb => (hf b hb).1⟩⟩
  done := by
    intro X hP hw hK hc i pins s σ H E I hf st hg
    subst hP hw hK
    obtain ⟨f0, f1, f2, f3, f4, f5⟩ := hf it (by simp)
    exact wpAny_pyNext_range_end (I.ok.hd hc) st (by have : n ≤ i := hg; omega) fun h' eb => ⟨rfl, I.turned (t' := s.toks) (fun b o hb e => eb b o hb e) f0 f1 f3 f4 f5⟩
  self := fun _ _ _ _ _ st h => wpAny_pyIter_rangeiter st h
/-- how many turns -/
def rngN (lo hi c : Int) : Nat := (Builtin.Range.rangeSize lo hi c).toNat
theorem small_pos {a b c : Int} (ha : -(2 ^ 40) ≤ a) (ha' : a < 2 ^ 40) (hb : -(2 ^ 40) ≤ b) (hb' : b < 2 ^ 40) (hc : 0 < c) (hc' : c < 2 ^ 20) : Builtin.Range.small a b c = true ∧ 0 ≤ Builtin.Range.rangeSize a b c := by
  have hd : a < b → 0 ≤ (b - a - 1) / c ∧ (b - a - 1) / c ≤ b - a - 1 := fun h => ⟨Int.ediv_nonneg (by omega) (by omega), Int.ediv_le_self _ (by omega)⟩
  have hm : a < b → (b - a - 1) / c * c ≤ b - a - 1 := fun h => Int.ediv_mul_le _ (by omega)
  unfold Builtin.Range.small Builtin.Range.rangeSize
  rw [if_pos (show c > 0 from hc)]
  by_cases h : a < b
  · obtain ⟨h1, h2⟩ := hd h
    have h3 := hm h
    rw [if_pos h]
    generalize (b - a - 1) / c = q at h1 h2 h3 ⊢
    have h4 : 0 ≤ q * c := Int.mul_nonneg h1 (by omega)
    simp only [Builtin.Range.rangeFitsLong, Bool.and_eq_true, Bool.or_eq_true, decide_eq_true_eq, beq_iff_eq]
    have e : (q + 1 - 1) * c = q * c := by rw [Int.add_sub_cancel]
    have e' : (q + 1) * c = q * c + c := by rw [Int.add_mul, Int.one_mul]
    constructor
    · rw [if_pos (show c > 0 from hc)]
      simp only [Bool.and_eq_true, decide_eq_true_eq]
      omega
    · omega
  · rw [if_neg h]
    simp only [Builtin.Range.rangeFitsLong, Bool.and_eq_true, Bool.or_eq_true, decide_eq_true_eq, beq_iff_eq]
    constructor
    · simp; omega
    · exact Int.le_refl _
theorem range_it3 {pins : List (Addr × Obj)} {σ : St} {H : Hp} {s : Shared} {W : Own} {R : List D → Prop} {E : Value → Shared → Prop} {tg : Expr} {lo hi c : Int} {t u v : Tok} {tk : Nat} (I : Inv X pins σ H s) (h1 : -(2 ^ 40) ≤ lo) (h2 : lo < 2 ^ 40) (h3 : -(2 ^ 40) ≤ hi) (h4 : hi < 2 ^ 40) (h5 : 0 < c) (h6 : c < 2 ^ 20)
    (q : R (rngD lo c (rngN lo hi c))) : wpAny (model X.prog X.w) X.A (pyIter (.ref s.heap.objs.size)) (fun itv s2 => ∃ (it : Addr) (fp : List Addr) (tn : Nat → Heap → Prop) (J : It) (H' : Hp) (ds : List D), itv = .ref it ∧ Inv X pins σ H' s2 ∧ Same H H' ∧
      Turn X.prog X.w X.K tg J fp it tn ∧ tn 0 s2.heap ∧ (∀ b ∈ fp, FpOk X pins H' b) ∧ YD X.K W H' J ds ∧ R ds) E { s with heap := s.heap.push { cls := .type "range", data := .fields #[.int lo t, .int hi u, .int c v] }, toks := tk } := by
  obtain ⟨sm, nn⟩ := small_pos h1 h2 h3 h4 h5 h6
  refine wpAny_pyIter_range (IsRange.new ..) sm ?_
  have I1 : Inv X pins σ H { s with heap := s.heap.push { cls := .type "range", data := .fields #[.int lo t, .int hi u, .int c v] }, toks := tk } := I.kept fun b o e => Heap.get?_push_of_some _ e
  refine ⟨(s.heap.push { cls := .type "range", data := .fields #[.int lo t, .int hi u, .int c v] }).objs.size, [(s.heap.push { cls := .type "range", data := .fields #[.int lo t, .int hi u, .int c v] }).objs.size], _, _, H, _, rfl,
    I1.kept (t' := tk) fun b o e => Heap.get?_push_of_some _ e, Same.refl H, turn_range3 _ lo c (rngN lo hi c), ?_, fun b hb => ?_, yd_range _ _ _ _ _ _, q⟩
  · have e1 : lo + ((0 : Nat) : Int) * c = lo := by simp
    have e2 : ((rngN lo hi c : Nat) : Int) - ((0 : Nat) : Int) = Builtin.Range.rangeSize lo hi c := by unfold rngN; omega
    show IsRangeIter _ _ (lo + ((0 : Nat) : Int) * c) (((rngN lo hi c : Nat) : Int) - ((0 : Nat) : Int)) c
    rw [e1, e2]
    exact Heap.get?_push_size _ rfl
  · have e : b = (s.heap.push { cls := .type "range", data := .fields #[.int lo t, .int hi u, .int c v] }).objs.size := by simpa using hb
    subst e
    exact I1.fpOk (Nat.le_refl _) (I1.hok.fresh (Nat.le_refl _))
def CR3 (i : Int) : Prop := -(2 ^ 40) ≤ i ∧ i < 2 ^ 40
def dRng2 (ta : DA) : DA := fun ρ R => ta ρ fun ds => ∃ i j : Int, ds = [.int i, .int j] ∧ CR3 i ∧ CR3 j ∧ R (rngD i 1 (rngN i j 1))
def dRng1 (ta : DA) : DA := fun ρ R => ta ρ fun ds => ∃ j : Int, ds = [.int j] ∧ CR3 j ∧ R (rngD 0 1 (rngN 0 j 1))
theorem id_range2 {tg a b : Expr} {ta : DA} {p pos : Pos} (hg : Gl X "range") (hm : X.mg "range" = none) (ha : PAD X [a, b] ta) (hs : starEach [a, b] X.env = (false, eval a X.env) :: starEach [b] X.env := by rfl) (hs2 : (backTo pos (starEach [b] X.env)).any (·.1) = false := by rfl) :
    PID X tg (.Call (.Name "range" p) [a, b] [] pos) (dRng2 ta) := by
  intro pins s σ H W ρ R I r h
  refine Call_ (ld_blt I hg hm boot_range (PyProof.Rows.callWith_type1 (thn (ha pos pins s σ H W ρ _ I r h) fun us s1 ⟨vs, H1, ds, I1, r1, e1, hd, q1⟩ => ?_) hs hs2))
  obtain ⟨i, j, e, ⟨a1, a2⟩, ⟨b1, b2⟩, q⟩ := q1
  subst e
  obtain ⟨v1, u1, rfl, d1, d2⟩ := dens2 hd
  have z1 := d1.int_
  have z2 := d2.int_
  subst z1 z2
  cases r1 with
  | cons ra rr =>
    cases rr with
    | cons rb rr =>
      cases rr
      obtain ⟨t, rfl⟩ := ra
      obtain ⟨t', rfl⟩ := rb
      refine call_range_2 ?_
      exact thn (range_it3 (W := W) (R := R) I1 a1 a2 b1 b2 (by decide) (by decide) q) fun itv s2 ⟨it, fp, tn, J, H', ds, x1, x2, x3, x4, x5, x6, x7, x8⟩ => ⟨it, fp, tn, J, H', ds, x1, x2, e1.trans x3, x4, x5, x6, x7, x8⟩
theorem id_range1 {tg a : Expr} {ta : DA} {p pos : Pos} (hg : Gl X "range") (hm : X.mg "range" = none) (ha : PAD X [a] ta) (hs : starEach [a] X.env = (false, eval a X.env) :: starEach [] X.env := by rfl) (hs2 : (backTo pos (starEach [] X.env)).any (·.1) = false := by rfl) :
    PID X tg (.Call (.Name "range" p) [a] [] pos) (dRng1 ta) := by
  intro pins s σ H W ρ R I r h
  refine Call_ (ld_blt I hg hm boot_range (PyProof.Rows.callWith_type1 (thn (ha pos pins s σ H W ρ _ I r h) fun us s1 ⟨vs, H1, ds, I1, r1, e1, hd, q1⟩ => ?_) hs hs2))
  obtain ⟨j, e, ⟨b1, b2⟩, q⟩ := q1
  subst e
  obtain ⟨v1, rfl, d1⟩ := dens1 hd
  have z1 := d1.int_
  subst z1
  cases r1 with
  | cons ra rr =>
    cases rr
    obtain ⟨t, rfl⟩ := ra
    refine call_range_1 ?_
    exact thn (range_it3 (W := W) (R := R) I1 (by decide) (by decide) b1 b2 (by decide) (by decide) q) fun itv s2 ⟨it, fp, tn, J, H', ds, x1, x2, x3, x4, x5, x6, x7, x8⟩ => ⟨it, fp, tn, J, H', ds, x1, x2, e1.trans x3, x4, x5, x6, x7, x8⟩

/-- for: a word by the turn -/
def dFor (wi : DA) (g : DG) (tb : DS) : DS := fun E ρ => wi ρ fun ds => ∃ Pv : Nat → Ro → Prop, Pv 0 ρ ∧
  (∀ j x ρ', ds[j]? = some x → Pv j ρ' → g x ρ' fun ρ2 => tb { E with nx := Pv (j + 1), ct := Pv (j + 1), bk := E.nx } ρ2) ∧ ∀ ρ', Pv ds.length ρ' → E.nx ρ'
theorem ds_for {tg iter : Expr} {body : List Stmt} {wi : DA} {g : DG} {tb : DS} (hp : PassesOwn (model X.prog X.w) X.A X.env X.xe) (hc : X.calm = true) (hi : PID X tg iter wi) (hg : PGD X tg g) (hb : PSDs X body tb)
    (hs : ∀ x, foldedSetIterable iter X.env x = pure x := by intro _; rfl) : PSD X (.For tg iter body [] pos) (dFor wi g tb) := by
  intro pins s σ H W ρ E I r h
  refine wpAny_For (thn (hi pins s σ H W ρ _ I r h) fun v s1 h1 => thn h1 fun itv s2 h2 => ?_) hs
  obtain ⟨it, fp, tn, J, H2, ds, e, I2, e2, T, st2, f2, yd, Pv, p0, turn, pd⟩ := h2
  subst e
  have r2 := r.same e2
  have stat : ∀ {H' : Hp}, (∀ b ∈ fp, H' b = none) → ∀ b ∈ fp, FpOk X pins H' b := fun hn b hb => ⟨hn b hb, (f2 b hb).2⟩
  refine codeAny_forLoop_any (fun n s' => ∃ i W' σ' H' ρ', n = ds.length - i ∧ i ≤ ds.length ∧ Inv X pins σ' H' s' ∧ tn i s'.heap ∧ (∀ b ∈ fp, H' b = none) ∧ Fwd W H2 W' H' ∧ Rel X W' H' σ' ρ' ∧ Pv i ρ') ?_ ds.length ⟨0, W, σ, H2, ρ, by simp, Nat.zero_le _, I2, st2, fun b hb => (f2 b hb).1, Fwd.refl W H2, r2, p0⟩
  rintro n s3 ⟨i, W3, σ3, H3, ρ3, en, hle, I3, st3, fr3, fw3, r3, p3⟩
  obtain ⟨yg, yy, ys⟩ := yd W3.bad H3 (fwdT r2 fw3) (fwdL r3 fw3) (fwdX r2 fw3) i
  by_cases hlt : i < ds.length
  · refine wpAny_passesOwn hp (thn (T.item X rfl rfl rfl hc i pins s3 σ3 H3 X.xe I3 (stat fr3) st3 (yg hlt)) fun rr s4 ⟨u, hr, h4⟩ => ?_)
    subst hr
    refine wpAny_passesOwn hp (thn h4 fun _ s5 ⟨x, H5, I5, r5, y5, st5, fr5⟩ => ?_)
    obtain ⟨e5, d, hd, hden⟩ := yy x H5 y5 hlt
    have I5' := I5.pinned (stat fr5) (T.obj _ _ st5)
    have rl5 := r3.same e5
    refine wpAny_passesOwn hp (thn (hg _ s5 σ3 H5 W3 ρ3 d x u _ I5' rl5 r5 hden (turn i d ρ3 hd p3)) fun _ s6 ⟨W6, σ6, H6, ρ6, I6, f6, r6, q6⟩ => ?_)
    refine wpAny_passesOwn hp (thn (hb _ s6 σ6 H6 W6 ρ6 _ I6 r6 q6) fun f s7 q7 => ?_)
    obtain ⟨W7, σ7, H7, I7, f7, q7⟩ := q7
    have fw7 : Fwd W H2 W7 H7 := fw3.trans ((Fwd.same e5).trans (f6.trans f7))
    have fw70 : Fwd W H W7 H7 := (Fwd.same e2).trans fw7
    have again : ∀ {ρ7 : Ro}, Rel X W7 H7 σ7 ρ7 → Pv (i + 1) ρ7 → ∃ m, m < n ∧ ∃ i W' σ' H' ρ', m = ds.length - i ∧ i ≤ ds.length ∧ Inv X pins σ' H' s7 ∧ tn i s7.heap ∧ (∀ b ∈ fp, H' b = none) ∧ Fwd W H2 W' H' ∧ Rel X W' H' σ' ρ' ∧ Pv i ρ' := fun {ρ7} r7 p7 => by
      refine ⟨ds.length - (i + 1), by omega, i + 1, W7, σ7, H7, ρ7, rfl, hlt, I7.unpinned, T.keep _ _ _ st5 fun b hb o e => (I7.pin (b, o) (List.mem_append_right _ (List.mem_append_right _ (mem_pinsAt hb e)))).1, fun b hb => ?_, fw7, r7, p7⟩
      obtain ⟨o, e, d⟩ := T.obj _ _ st5 b hb
      exact (I7.pin (b, o) (List.mem_append_right _ (List.mem_append_right _ (mem_pinsAt hb e)))).2.1
    cases f with
    | next => obtain ⟨ρ7, r7, n7⟩ := q7; exact again r7 n7
    | cont => obtain ⟨ρ7, r7, n7⟩ := q7; exact again r7 n7
    | brk => obtain ⟨ρ7, r7, q7⟩ := q7; exact ⟨W7, σ7, H7, I7.unpinned, fw70, ρ7, r7, q7⟩
    | ret v => obtain ⟨x7, d7, r7, h7, q7⟩ := q7; exact ⟨W7, σ7, H7, I7.unpinned, fw70, x7, d7, r7, h7, q7⟩
  · have e : i = ds.length := by omega
    refine wpAny_passesOwn hp (thn (T.done X rfl rfl rfl hc i pins s3 σ3 H3 X.xe I3 (stat fr3) st3 (ys (by omega))) fun rr s4 ⟨hr, I4⟩ => ?_)
    subst hr
    subst e
    exact wpAny_execs_nil ⟨W3, σ3, H3, I4, (Fwd.same e2).trans fw3, ρ3, r3, pd ρ3 p3⟩

/-! ### a, b = x, y -/
end

/-! ## A def -/
def startD (N : List Str) (ds : List D) : Ro := ds.map (fun d => some (.val d)) ++ List.replicate (N.length - ds.length) none
theorem Rel.start {X : Cx} {P : Addr → Prop} {H : Hp} {N : List Str} {ds : List D} {vs : List V} (hP : ∀ a, P a → ∃ o, H a = some o) (h : Dens X.K (fun t a => t = true ∨ P a) H ds vs) (hH : X.H₀ = H) (hT : TabK X.K H) : Rel X ⟨P, fun _ => none, fun a => ∃ o, H a = some o⟩ H (start N vs) (startD N ds) where
  val := fun i d e => by
    unfold startD at e
    have hl := h.len
    by_cases hi : i < ds.length
    · rw [List.getElem?_append_left (by simpa using hi), List.getElem?_map] at e
      cases q : ds[i]? with
      | none => rw [q] at e; cases e
      | some d' =>
        rw [q] at e
        have e' : d' = d := by simpa using e
        subst e'
        obtain ⟨v, h1, h2⟩ := h.get q
        refine ⟨v, ?_, h2.fewer fun tg a z => ?_⟩
        · unfold L2.start
          rw [List.getElem?_append_left (by simpa [hl] using hi), List.getElem?_map, h1]
          rfl
        · rcases z with z | ⟨j, z⟩ | ⟨z, _⟩
          · exact .inr z
          · cases z
          · exact .inl z
    · rw [List.getElem?_append_right (by simpa using hi), List.getElem?_replicate] at e
      split at e <;> cases e
  own := fun i d e => by
    unfold startD at e
    by_cases hi : i < ds.length
    · rw [List.getElem?_append_left (by simpa using hi), List.getElem?_map] at e
      cases q : ds[i]? with
      | none => rw [q] at e; cases e
      | some d' => rw [q] at e; cases e
    · rw [List.getElem?_append_right (by simpa using hi), List.getElem?_replicate] at e
      split at e <;> cases e
  inj := fun i j a h _ => by cases h
  kn := fun i a h => by cases h
  ke := fun i a h => by cases h
  bt := hP
  st := fun _ z => z
  ent := by rw [hH]; exact Same.refl H
  tab := hT
end PD

namespace PD
open PySem PySem.Spec PyProof.Rows L2 PX

/-! ## Exceptions: raised, passing, caught -/
theorem ObjOk.there {P : Program} {w : World} {H : Hp} {h : Heap} {a : Addr} {o : HO} (x : ObjOk P w H h a o) : ∃ u, h.get? a = some u := by
  cases o with
  | lst xs => obtain ⟨_, _, _, _, e⟩ := x; exact ⟨_, e⟩
  | tup xs => obtain ⟨_, _, _, ob, e, _⟩ := x; exact ⟨ob, e⟩
  | dK kvs => obtain ⟨_, _, _, _, ob, _, _, e, _⟩ := x; exact ⟨ob, e⟩
  | dT kvs => obtain ⟨_, _, _, _, ob, _, _, e, _⟩ := x; exact ⟨ob, e⟩
  | set S n => obtain ⟨ob, _, _, _, e, _⟩ := x; exact ⟨ob, e⟩
  | ins C dx fs => obtain ⟨_, _, _, e, _⟩ := x; exact ⟨_, e⟩
  | own y => exact x
  | xd fs => obtain ⟨_, ⟨ob, _, _, e, _⟩, _⟩ := x; exact ⟨ob, e⟩
  | rng lo hi => obtain ⟨_, _, _, e⟩ := x; exact ⟨_, e⟩
  | frz ob u => obtain ⟨e, _⟩ := x; exact ⟨ob, e⟩
  | tbl ps => exact ⟨_, x⟩
  | met f y => exact ⟨_, x⟩
  | ext φ => obtain ⟨_, e, _⟩ := x; exact e
/-- what is tracked is kept -/
theorem HOk.keptT {P : Program} {w : World} {H : Hp} {h h' : Heap} (x : HOk P w H h) (k : ∀ b u, (∃ o, H b = some o) → h.get? b = some u → h'.get? b = some u) : HOk P w H h' := fun a o e =>
  (x a o e).stay (fun b u hb q => k b u (by
    rcases hb with z | z
    · subst z; exact ⟨o, e⟩
    · exact ⟨_, z⟩) q) (fun _ q => q) fun _ _ q => q

/-- ahead of it: h₀, H₀; now h, H; what stood there or is tracked stands in B as it is now -/
structure Fl (P : Program) (w : World) (l : List Env) (h₀ : Heap) (H₀ H : Hp) (B h : Heap) : Prop where
  un : Un (frs l) [] H₀ H h₀ h
  hok : HOk P w H h
  fr : ∀ b ∈ frs l, H₀ b = none ∧ ∃ o, h₀.get? b = some o ∧ ∀ vs, o.data ≠ .fields vs
  cov : ∀ b o, h.get? b = some o → ((∃ u, H b = some u) ∨ ∃ o', h₀.get? b = some o') → b ∉ frs l → B.get? b = some o
section
variable {P : Program} {w : World} {l : List Env} {h₀ : Heap} {H₀ H : Hp} {B h h' : Heap}
theorem Fl.free (F : Fl P w l h₀ H₀ H B h) {b : Addr} (hb : b ∈ frs l) : H b = none := by
  obtain ⟨n, o, e, _⟩ := F.fr b hb
  exact F.un.free b o e n (by simp)
theorem Fl.step (F : Fl P w l h₀ H₀ H B h) (st : B.StaysIn h') (sl : h.UpToSlots h') : Fl P w l h₀ H₀ H B h' := by
  have fr1 : ∀ b o, b ∈ frs l → h₀.get? b = some o → ∃ s', h'.get? b = some { o with slots := s' } := fun b o hb e => by
    obtain ⟨n, o', e', hd⟩ := F.fr b hb
    rw [e] at e'
    cases e'
    obtain ⟨s1, e1⟩ := F.un.slot b o e n hb (by simp)
    obtain ⟨s2, e2⟩ := sl b _ e1 hd
    exact ⟨s2, e2⟩
  have kp : ∀ b o, h.get? b = some o → ((∃ u, H b = some u) ∨ ∃ o', h₀.get? b = some o') → b ∉ frs l → h'.get? b = some o := fun b o e c n => st b o (F.cov b o e c n)
  refine ⟨⟨fun b o e n hb hx => kp b o (F.un.keep b o e n hb hx) (.inr ⟨o, e⟩) hb, fun b o e n hb hx => fr1 b o hb e, F.un.free, fun b o e hx => ?_, F.un.tups, F.un.frzs, F.un.tbls⟩, PD.HOk.keptT F.hok (fun b u hu e => kp b u e (.inl hu) fun z => ?_), F.fr, fun b o e c n => ?_⟩
  · by_cases hb : b ∈ frs l
    · obtain ⟨s2, e2⟩ := fr1 b o hb e
      exact ⟨_, e2⟩
    · obtain ⟨o', e1⟩ := F.un.there b o e hx
      exact ⟨o', kp b o' e1 (.inr ⟨o, e⟩) hb⟩
  · obtain ⟨o, q⟩ := hu
    rw [F.free z] at q
    cases q
  · have : ∃ o1, h.get? b = some o1 := by
      rcases c with ⟨u, c⟩ | ⟨o', c⟩
      · exact PD.ObjOk.there (F.hok b u c)
      · exact F.un.there b o' c (by simp)
    obtain ⟨o1, e1⟩ := this
    have q := kp b o1 e1 c n
    rw [e] at q
    cases q
    exact F.cov b o e1 c n
end
/-- an exception that left a call -/
def CX1 (P : Program) (w : World) : CXT := fun outer H s E e s' => ∃ (ea c : Addr) (H' : Hp) (B : Heap) (a0 : Value), e = .ref ea ∧ s'.os = s.os ∧ AllBare s'.gens ∧ Fl P w outer s.heap H H' B s'.heap ∧ Same H H' ∧ H' ea = none ∧ s.heap.get? ea = none ∧
  Heap.FlyingW B outer ea (.ref c) a0 s'.heap ∧ E (.ref c) none H'
theorem pass1 {P : Program} {w : World} {X : Cx} : Passes (CX1 P w) X E0 := fun _ _ _ _ _ _ _ h => by
  obtain ⟨_, _, _, _, _, _, _, _, _, _, _, _, _, z⟩ := h
  exact z.elim

/-- what a body wants: of a made one, of one that came out of a call -/
def MadeX (X : Cx) (Ed : Value → Prop) : Prop := ∀ (pins : List (Addr × Obj)) (σ : St) (H : Hp) (W : Own) (ρ : Ro) (s : Shared) (e c : Addr) (vs : List Value) (h' : Heap), Inv X pins σ H s → Rel X W H σ ρ → Heap.MadeExcOf s.heap h' e (.ref c) vs → Ed (.ref c) → X.xe (.ref e) { s with heap := h' }
def PassX (X : Cx) (Ed : Value → Prop) : Prop := ∀ (pins : List (Addr × Obj)) (σ : St) (H : Hp) (W : Own) (ρ : Ro) (s : Shared) (e : Value) (s' : Shared), Inv X pins σ H s → Rel X W H σ ρ → CX1 X.prog X.w X.stack H s (fun c _ _ => Ed c) e s' → X.xe e s'

section
variable {P : Program} {w : World} {K : PySem.W.Frag} {mg : Str → Option Value} {base : Heap} {N : List Str} {qual : Str} {sc : Scope} {f : Addr} {cd : Value} {A : Around} {outer : List Env} {s₀ : Shared} {H₀ : Hp} {E : XK}
theorem closeX {pins : List (Addr × Obj)} {σ : St} {H : Hp} {s : Shared} {B h' : Heap} {e c : Addr} {a0 : Value} (I : Inv (cxOf (CX1 P w) P w K mg base N qual sc f cd A outer s₀ H₀ E) pins σ H s) (hS : Same H₀ H) (hn : H e = none) (hn0 : s₀.heap.get? e = none)
    (cov : ∀ b o, s.heap.get? b = some o → ((∃ u, H b = some u) ∨ ∃ o', s₀.heap.get? b = some o') → b ∉ frs (envOfC qual sc s₀.heap.objs.size f cd :: outer) → B.get? b = some o)
    (fl : Heap.FlyingW B outer e (.ref c) a0 h') (sl : s.heap.UpToSlots h') (hE : E (.ref c) none H) : CX1 P w outer H₀ s₀ E (.ref e) { s with heap := h' } := by
  have nf : ∀ b, ((∃ u, H b = some u) ∨ ∃ o', s₀.heap.get? b = some o') → b ∉ frs outer → b ∉ frs (envOfC qual sc s₀.heap.objs.size f cd :: outer) := fun b c n z => by
    rcases c with ⟨u, c⟩ | ⟨o', c⟩
    · have := I.stkFree b z
      rw [c] at this
      cases this
    · rcases List.mem_cons.mp (I.stkSub b z) with q | q
      · have h1 := Heap.lt_size c
        have h2 : s₀.heap.objs.size ≤ b := by rw [q]; exact I.ok.above
        exact absurd (Nat.lt_of_lt_of_le h1 h2) (Nat.lt_irrefl _)
      · exact n q
  have F : Fl P w outer s₀.heap H₀ H B s.heap := ⟨I.base, I.hok, fun b hb => ⟨I.ok.frf b hb, by
    obtain ⟨_, o, e, d⟩ := I.ok.funs.mem hb
    exact ⟨o, e, d⟩⟩, fun b o e c n => cov b o e c (nf b c n)⟩
  exact ⟨e, c, H, B, a0, rfl, I.os, I.bare, F.step fl.1 sl, hS, hn, hn0, fl, hE⟩
theorem made1 {Ed : Value → Prop} (hE : ∀ c a H', Same H₀ H' → Ed c → E c a H') : MadeX (cxOf (CX1 P w) P w K mg base N qual sc f cd A outer s₀ H₀ E) Ed := by
  intro pins σ H W ρ s e c vs h' I r hx hd
  show wpAny (model P w) (A.deeper (envOfC qual sc s₀.heap.objs.size f cd)) (leaving (envOfC qual sc s₀.heap.objs.size f cd) (.ref e)) _ _ _
  refine wpAny_leaves_madeW (base := PySem.W.hideAll s.heap (frs (envOfC qual sc s₀.heap.objs.size f cd :: outer))) (h := s.heap) (outer := outer) I.ok.frames rfl (fun b o q => PySem.W.of_hideAll _ q)
    (PySem.W.funFrames_hide I.stack fun env he b hb => List.mem_filterMap.mpr ⟨env, he, hb⟩) hx fun h'' t x1 _ _ x4 => ?_
  have ne : ∀ {h1 : Heap}, (∀ b o, h1.get? b = some o → ∃ o', s.heap.get? b = some o') → h1.get? e = none := fun {h1} k => by
    cases q : h1.get? e with
    | none => rfl
    | some o =>
      obtain ⟨o', q'⟩ := k e o q
      rw [hx.new] at q'
      cases q'
  refine closeX (s := s) (h' := h'') I r.ent ?_ (ne fun b o q => I.base.there b o q (by intro z; cases z)) (fun b o q _ n => PySem.W.hideAll_get _ q n) x1 (fun b o q d => ?_) (hE _ _ _ r.ent hd)
  · cases q : H e with
    | none => rfl
    | some u =>
      obtain ⟨o, z⟩ := PD.ObjOk.there (I.hok e u q)
      rw [hx.new] at z
      cases z
  · exact x4 b o (hx.keeps b o q) d
theorem passes1 {Ed : Value → Prop} (hE : ∀ c a H', Same H₀ H' → Ed c → E c a H') : PassX (cxOf (CX1 P w) P w K mg base N qual sc f cd A outer s₀ H₀ E) Ed := by
  intro pins σ H W ρ s e s' I r hx
  obtain ⟨ea, c, H', B, a0, rfl, os, bare, F, sm, hn, hn0, fl, hd⟩ := hx
  show wpAny (model P w) (A.deeper (envOfC qual sc s₀.heap.objs.size f cd)) (leaving (envOfC qual sc s₀.heap.objs.size f cd) (.ref ea)) _ _ _
  refine wpAny_leaves_onW (outer := outer) I.ok.frames rfl fl fun h'' x1 x2 => ?_
  have I' := I.call' os F.un F.hok bare (by intro b z; cases z)
  refine closeX (s := s') (h' := h'') I' (r.ent.trans sm) hn ?_ (fun b o q z n => F.cov b o q (z.elim .inl fun ⟨o', z⟩ => .inr (I.base.there b o' z (by intro q; cases q))) n) x1 x2 (hE _ _ _ (r.ent.trans sm) hd)
  cases q : s₀.heap.get? ea with
  | none => rfl
  | some o =>
    obtain ⟨o', q'⟩ := I.base.there ea o q (by intro z; cases z)
    rw [hn0] at q'
    cases q'
end

/-! ### calls that may raise -/
section
variable {X : Cx} {k : Nat} {f : Addr} {fd : FuncData} {ps : List Str} {sp : DSp} {x : Str} {p pos : Pos} {e : Expr} {es : List Expr} {t : DA}
end

/-! ### raise C("..") -/
section
variable {X : Cx} {pos : Pos}
theorem ds_never {st : Stmt} : PSD X st (fun _ _ => False) := fun _ _ _ _ _ _ _ _ _ h => h.elim

/-! ### no exception in a part -/
theorem Rel.wish {W : Own} {H : Hp} {σ : St} {ρ : Ro} (r : Rel X W H σ ρ) (E : Value → Shared → Prop) : Rel (X.wish E) W H σ ρ := ⟨r.val, r.own, r.inj, r.kn, r.ke, r.bt, r.st, r.ent, r.tab⟩
theorem Rel.unwish {W : Own} {H : Hp} {σ : St} {ρ : Ro} {E : Value → Shared → Prop} (r : Rel (X.wish E) W H σ ρ) : Rel X W H σ ρ := ⟨r.val, r.own, r.inj, r.kn, r.ke, r.bt, r.st, r.ent, r.tab⟩
theorem SPD.unwish {pins : List (Addr × Obj)} {W : Own} {H : Hp} {E : DEnds} {f : Flow} {s' : Shared} {XE : Value → Shared → Prop} (h : SPD (X.wish XE) pins W H E f s') : SPD X pins W H E f s' := by
  obtain ⟨W', σ', H', I, fw, q⟩ := h
  refine ⟨W', σ', H', I.unwish, fw, ?_⟩
  cases f with
  | next => obtain ⟨ρ', r, q⟩ := q; exact ⟨ρ', r.unwish, q⟩
  | brk => obtain ⟨ρ', r, q⟩ := q; exact ⟨ρ', r.unwish, q⟩
  | cont => obtain ⟨ρ', r, q⟩ := q; exact ⟨ρ', r.unwish, q⟩
  | ret u => exact q
theorem PSD.nox {st : Stmt} {t : DS} (h : PSD X.nox st t) : PSD X st t := fun pins s σ H W ρ E I r hw =>
  wpAny_mono (h pins s σ H W ρ E (I.wish _) (r.wish _) hw) (fun _ _ q => q.unwish) fun _ _ z => False.elim z
theorem PSDs.nox {st : List Stmt} {t : DS} (h : PSDs X.nox st t) : PSDs X st t := fun pins s σ H W ρ E I r hw =>
  wpAny_mono (h pins s σ H W ρ E (I.wish _) (r.wish _) hw) (fun _ _ q => q.unwish) fun _ _ z => False.elim z
theorem PED.nox {e : Expr} {t : DE} (h : PED X.nox e t) : PED X e t := fun pins s σ H W ρ Q I r hw =>
  wpAny_mono (h pins s σ H W ρ Q (I.wish _) (r.wish _) hw) (fun _ _ ⟨v, H', d, I', q⟩ => ⟨v, H', d, I'.unwish, q⟩) fun _ _ z => False.elim z

/-! ### within an except suite -/
/-! ### try: f(..) except C as n: suite -/
/-! ### isinstance(e, C), C any class -/
end

/-! ### a def -/
/-! ## Exceptions out of a comprehension -/
/-- traced, whatever the mark of its flight -/
def AnyW (base : Heap) (l : List Env) (e : Addr) (cls a0 : Value) (h : Heap) : Prop := base.StaysIn h ∧ base.get? e = none ∧ h.FunFrames base l ∧ ∃ fl, h.TracedAtW base e cls a0 fl
section
variable {M : Model} {A : Around} {E : Value → Shared → Prop} {s : Shared} {base : Heap} {l outer : List Env} {env : Env} {e L : Addr} {cls a0 : Value}
theorem noteAny {Q : Unit → Shared → Prop} (hfr : A.frames = some (env :: outer)) (hf : env.frame = some L) (R : AnyW base (env :: outer) e cls a0 s.heap)
    (h : ∀ h', AnyW base (env :: outer) e cls a0 h' → s.heap.UpToSlots h' → Q () { s with heap := h' }) : wpAny M A (noteFrame (.ref e) env) Q E s := by
  obtain ⟨k1, k2, k3, fl, oe, vs, T, oT, ts, g1, g2, g3, g4, g5, g6, g7, g8, g9⟩ := id R
  by_cases hfl : (fl == rawInt L) = true
  · have efl : fl = rawInt L := by simpa using hfl
    subst efl
    exact wpAny_noteFrame_againW (base := base) (cls := cls) (a0 := a0) hf ⟨oe, vs, T, oT, ts, g1, g2, g3, g4, g5, g6, g7, g8, g9⟩ (h _ R (Heap.UpToSlots.refl _))
  · obtain ⟨ec, g0⟩ := g2
    subst ec
    unfold noteFrame
    simp only [hf]
    refine wpAny_bind (wpAny_field g1 g3 g4 ?_)
    rw [if_pos (by simp)]
    refine wpAny_bind (wpAny_field g7 g8 g9 ?_)
    rw [if_neg hfl]
    refine wpAny_bind (wpAny_setField g7 g8 (Array.getElem?_eq_some_iff.mp g9).1 ?_)
    have oth : ∀ b, b ≠ T → (s.heap.update T (Obj.mapFields (·.setIfInBounds 3 Value.none))).get? b = s.heap.get? b := fun b hb => Heap.get?_update_other _ _ (Ne.symm hb)
    have nrec : ∀ b o, s.heap.get? b = some o → (∀ vs, o.data ≠ .fields vs) → b ≠ T := fun b o hb hn q => by
      rw [q, g7] at hb
      cases hb
      exact hn ts g8
    refine wpAny_entryW (base := base) hfr (k3.of_keeps fun b o hb hn => ⟨o, (oth b (nrec b o hb hn)).trans hb, rfl⟩) hf ((oth e (Ne.symm g6)).trans g1) (fun b o hb => (oth b fun q => by rw [q, g5] at hb; cases hb).trans (k1 b o hb)) k2 g3 (Array.getElem?_eq_some_iff.mp g4).1 g0 fun h' hN => ?_
    obtain ⟨n1, n2, n3, n4⟩ := hN
    exact h h' ⟨n1, k2, n2, _, n3⟩ fun b o hb hn => n4 b o ((oth b (nrec b o hb hn)).trans hb) hn
theorem leaveAny {Q : Unit → Shared → Prop} (hfr : A.frames = some (env :: outer)) (hf : env.frame = some L) (R : AnyW base (env :: outer) e cls a0 s.heap)
    (h : ∀ h', Heap.FlyingW base outer e cls a0 h' → s.heap.UpToSlots h' → Q () { s with heap := h' }) : wpAny M A (leaving env (.ref e)) Q E s := by
  unfold leaving
  refine wpAny_bind (noteAny hfr hf R fun h1 R1 s1 => ?_)
  obtain ⟨k1, k2, k3, fl, k4⟩ := R1
  refine wpAny_setFlight_noneW (base := base) k1 k3 k4 fun h2 m1 m2 m3 m4 => ?_
  obtain ⟨_, _, m2⟩ := m2
  exact h h2 ⟨m1, k2, m2, m3⟩ (s1.trans fun b o hb hn => ⟨o.slots, m4 b o hb hn⟩)
end
/-- what a body wants of one that a part of it has noted -/
def HeldX (X : Cx) (Ed : Value → Prop) : Prop := ∀ (pins : List (Addr × Obj)) (σ : St) (H : Hp) (W : Own) (ρ : Ro) (s s' : Shared) (ea c : Addr) (H' : Hp) (B : Heap) (a0 : Value), Inv X pins σ H s → Rel X W H σ ρ → s'.os = s.os → AllBare s'.gens → Fl X.prog X.w X.stack s.heap H H' B s'.heap → Same H H' → H' ea = none → s.heap.get? ea = none →
  AnyW B X.stack ea (.ref c) a0 s'.heap → Ed (.ref c) → X.xe (.ref ea) s'
theorem HeldX.no {X : Cx} : HeldX X fun _ => False := fun _ _ _ _ _ _ _ _ _ _ _ _ _ _ _ _ _ _ _ _ _ z => z.elim
section
variable {P : Program} {w : World} {K : PySem.W.Frag} {mg : Str → Option Value} {base : Heap} {N : List Str} {qual : Str} {sc : Scope} {f : Addr} {cd : Value} {A : Around} {outer : List Env} {s₀ : Shared} {H₀ : Hp} {E : XK}
theorem held1 {Ed : Value → Prop} (hE : ∀ c a H', Same H₀ H' → Ed c → E c a H') : HeldX (cxOf (CX1 P w) P w K mg base N qual sc f cd A outer s₀ H₀ E) Ed := by
  intro pins σ H W ρ s s' ea c H' B a0 I r os bare F sm hn hn0 R hd
  show wpAny (model P w) (A.deeper (envOfC qual sc s₀.heap.objs.size f cd)) (leaving (envOfC qual sc s₀.heap.objs.size f cd) (.ref ea)) _ _ _
  refine leaveAny (outer := outer) I.ok.frames rfl R fun h'' x1 x2 => ?_
  have I' := I.call' os F.un F.hok bare (by intro b z; cases z)
  refine closeX (s := s') (h' := h'') I' (r.ent.trans sm) hn ?_ (fun b o q z n => F.cov b o q (z.elim .inl fun ⟨o', z⟩ => .inr (I.base.there b o' z (by intro q; cases q))) n) x1 x2 (hE _ _ _ (r.ent.trans sm) hd)
  cases q : s₀.heap.get? ea with
  | none => rfl
  | some o =>
    obtain ⟨o', q'⟩ := I.base.there ea o q (by intro z; cases z)
    rw [hn0] at q'
    cases q'
end
section
variable {P : Program} {w : World} {K : PySem.W.Frag} {mg : Str → Option Value} {base : Heap}
/-- a def of the text, with or without defaults -/
structure FunD (K : PySem.W.Frag) (x qual : Str) (st : Stmt) (f : Addr) (fd : FuncData) : Prop where
  ex : ∃ (oc : Value) (od : Option Addr) (dV kV doc pm : Value) (an : Option Addr) (cdv ct : Value) (osl : Array (Option Value)),
    fd = PySem.W.fnOf x qual (defArgs st) (defBody st) (defScope st) dV kV doc pm an cdv ct ∧ K.lookup f = some ⟨oc, od, .func fd, osl⟩ ∧ PySem.W.codeIn K cdv qual = true
  kp : PySem.W.keepIn K (.ref f) = true
theorem FunD.okC {x qual : Str} {st : Stmt} {f : Addr} {fd : FuncData} {N ps : List Str} {k : Nat} {sp : DSp} (F : FunD K x qual st f fd) (S : FnScope N ps (defScope st)) (len : ∀ ds Q E, sp ds Q E → ds.length = ps.length)
    (hbody : ∀ (cdv : Value), fd.code = cdv → ∀ (A : Around) (outer : List Env) (s : Shared) (H : Hp) (E : XK) (Ed : Value → Prop), Room k (A.deeper (envOfC qual (defScope st) s.heap.objs.size f cdv)) → MadeX (cxOf (CX1 P w) P w K mg base N qual (defScope st) f cdv A outer s H E) Ed → PassX (cxOf (CX1 P w) P w K mg base N qual (defScope st) f cdv A outer s H E) Ed → HeldX (cxOf (CX1 P w) P w K mg base N qual (defScope st) f cdv A outer s H E) Ed →
      ∃ t, PSDs (cxOf (CX1 P w) P w K mg base N qual (defScope st) f cdv A outer s H E) (defBody st) t ∧ ∀ ds Q, sp ds Q Ed → t { nx := fun _ => Q .non, rt := Q } (startD N ds)) : FnOk P w K mg base (CX1 P w) (k + 1) f fd ps (spOf K sp) := by
  obtain ⟨oc, od, dV, kV, doc, pm, an, cdv, ct, osl, rfl, lk, hcd⟩ := F.ex
  refine fn_of lk hcd S (fun vs H Q E h => ?_) fun A outer s H vs Q E hr h => ?_
  · obtain ⟨_, ds, _, _, _, _, hd, hs, _⟩ := h
    rw [hd.len]
    exact len ds _ _ hs
  · obtain ⟨Pb, ds, Qd, Ed, hT, hP, hd, hs, kq, ke⟩ := h
    obtain ⟨t, ht, k⟩ := hbody cdv rfl A outer s H E Ed hr (made1 ke) (passes1 ke) (held1 ke)
    refine ⟨_, ht.ps, ⟨Pb, fun _ => none, fun a => ∃ o, H a = some o⟩, _, _, Rel.start hP hd rfl hT, k ds Qd hs, fun W' σ' H' ρ' f r q => ?_, fun W' H' v d f hd' q => ?_, fun _ _ _ _ _ _ q => q, fun _ _ _ _ _ _ q => q⟩
    · exact kq .non .non H' ⟨fun b o e n => f.kp b o (fun i z => by cases z) e n, f.tb, f.ok⟩ Den.non q
    · refine kq d v H' ⟨fun b o e n => f.kp b o (fun i z => by cases z) e n, f.tb, f.ok⟩ (hd'.fewer fun t a z => ?_) q
      rcases z with z | z
      · exact .inl (by rw [f.B]; exact z)
      · exact .inr (.inr ⟨z.1, by rw [f.S]; exact z.2⟩)
theorem FunD.okX {x qual : Str} {st : Stmt} {f : Addr} {fd : FuncData} {N ps : List Str} {k : Nat} {sp : DSp} (F : FunD K x qual st f fd) (S : FnScope N ps (defScope st)) (len : ∀ ds Q E, sp ds Q E → ds.length = ps.length)
    (hbody : ∀ (cdv : Value) (A : Around) (outer : List Env) (s : Shared) (H : Hp) (E : XK) (Ed : Value → Prop), Room k (A.deeper (envOfC qual (defScope st) s.heap.objs.size f cdv)) → MadeX (cxOf (CX1 P w) P w K mg base N qual (defScope st) f cdv A outer s H E) Ed → PassX (cxOf (CX1 P w) P w K mg base N qual (defScope st) f cdv A outer s H E) Ed → HeldX (cxOf (CX1 P w) P w K mg base N qual (defScope st) f cdv A outer s H E) Ed →
      ∃ t, PSDs (cxOf (CX1 P w) P w K mg base N qual (defScope st) f cdv A outer s H E) (defBody st) t ∧ ∀ ds Q, sp ds Q Ed → t { nx := fun _ => Q .non, rt := Q } (startD N ds)) : FnOk P w K mg base (CX1 P w) (k + 1) f fd ps (spOf K sp) := FunD.okC F S len fun cdv _ => hbody cdv
theorem FunD.okN {x qual : Str} {st : Stmt} {f : Addr} {fd : FuncData} {N ps : List Str} {k : Nat} {sp : DSp} (F : FunD K x qual st f fd) (S : FnScope N ps (defScope st)) (len : ∀ ds Q E, sp ds Q E → ds.length = ps.length)
    (hbody : ∀ (cdv : Value) (A : Around) (outer : List Env) (s : Shared) (H : Hp) (E : XK), Room k (A.deeper (envOfC qual (defScope st) s.heap.objs.size f cdv)) →
      ∃ t, PSDs (cxOf (CX1 P w) P w K mg base N qual (defScope st) f cdv A outer s H E).nox (defBody st) t ∧ ∀ ds Q Ed, sp ds Q Ed → t { nx := fun _ => Q .non, rt := Q } (startD N ds)) : FnOk P w K mg base (CX1 P w) (k + 1) f fd ps (spOf K sp) :=
  FunD.okX F S len fun cdv A outer s H E Ed hr _ _ _ => by
    obtain ⟨t, ht, k⟩ := hbody cdv A outer s H E hr
    exact ⟨t, ht.nox, fun ds Q h => k ds Q Ed h⟩
theorem FunD.binds {x qual : Str} {st : Stmt} {f : Addr} {kV doc pm cdv ct : Value} {an : Option Addr} {ps : List Str}
    (h : ∀ us : List Value, us.length = ps.length → bindArgs (PySem.W.fnOf x qual (defArgs st) (defBody st) (defScope st) .none kV doc pm an cdv ct) ⟨us, []⟩ = pure (ps.zip us)) : Binds K (PySem.W.fnOf x qual (defArgs st) (defBody st) (defScope st) .none kV doc pm an cdv ct) ps [] := .all h
theorem funD_mk {x qual : Str} {st : Stmt} {f : Addr} {oc : Value} {od an : Option Addr} {osl : Array (Option Value)} {dV kV doc pm cdv ct : Value} (l : K.lookup f = some ⟨oc, od, .func (PySem.W.fnOf x qual (defArgs st) (defBody st) (defScope st) dV kV doc pm an cdv ct), osl⟩)
    (c : PySem.W.codeIn K cdv qual = true) (k : PySem.W.keepIn K (.ref f) = true) : FunD K x qual st f (PySem.W.fnOf x qual (defArgs st) (defBody st) (defScope st) dV kV doc pm an cdv ct) := ⟨⟨oc, od, dV, kV, doc, pm, an, cdv, ct, osl, rfl, l, c⟩, k⟩
end
end PD

namespace PD
open PySem PySem.Spec PyProof.Rows L2

/-! ## Defs of the text, called -/
def Has (P : Program) (w : World) (K : PySem.W.Frag) (mg : Str → Option Value) (base : Heap) (x : Str) (k : Nat) (ps : List Str) (sp : DSp) : Prop :=
  ∃ f fd, FnOk P w K mg base (CX1 P w) k f fd ps (spOf K sp) ∧ mg x = some (.ref f) ∧ PySem.W.keepIn K (.ref f) = true ∧ Binds K fd ps []
section
variable {X : Cx} {k : Nat} {ps : List Str} {sp : DSp} {x : Str} {p pos : Pos} {e : Expr} {es : List Expr} {t : DA}
theorem de_call (h : Has X.prog X.w X.K X.mg X.base x k ps sp) (hr : Room k X.A) (ha : PAD X (e :: es) t) (hg : Gl X x := by rfl) (hdb : (x == ("__debug__" : Str)) = false := by decide)
    (he : starEach (e :: es) X.env = (false, eval e X.env) :: starEach es X.env := by rfl) (hpl : (backTo pos (starEach es X.env)).any (·.1) = false := by rfl) : PED X (.Call (.Name x p) (e :: es) [] pos) (dCall sp [] t) := by
  obtain ⟨f, fd, F, hm, hk, hb⟩ := h
  exact de_callD (dds := []) (dsv := []) F hr hg hm hk hb .nil (by simp) pass1 ha hdb he hpl
end
def sp2 (R : D → D → (D → Prop) → Prop) : DSp := fun ds Q _ => ∃ a b, ds = [a, b] ∧ R a b Q
def spLaw : DSp := fun ds Q _ => ∃ ns : List Int, ds = [.lst false (ns.map .int)] ∧ ns.length ≤ 63 ∧ Q (.bl true)

theorem dens_ints {K : PySem.W.Frag} {P : Bool → Addr → Prop} {H : Hp} : ∀ ns : List Int, Dens K P H (ns.map D.int) (ns.map V.int)
  | [] => Dens.nil
  | n :: r => Dens.cons (Den.int n) (dens_ints r)
theorem law_sp {K : PySem.W.Frag} {H : Hp} {a : Addr} {ns : List Int} (hl : ns.length ≤ 63) (hS : SqL K H a (ns.map V.int)) (hT : TabK K H) : spOf K spLaw [.ref a] H (fun v _ => v = .bl true) fun _ _ _ => False :=
  ⟨fun _ => False, [.lst false (ns.map D.int)], fun d => d = .bl true, fun _ => False, hT, fun _ z => z.elim, Dens.one (Den.lst (fun z => z.elim (fun z => by cases z) id) (.any hS) (dens_ints ns)), ⟨ns, rfl, hl, rfl⟩, fun d v H' _ hd e => by subst e; exact hd.bl_, fun _ _ _ _ z => z.elim⟩
theorem walk {l : PySem.W.OpenLaw} {q : Program} {loose : List Str} {XP : (Str → Option Value) → Heap → Prop} {YP : World → Heap → Prop} {d : DefRec} {K : Params → PySem.W.Frag} {k : Nat} {x : Str} (hn : l.most = some 63) (hdf : d.params.defaults = []) (hr : Room k callerA)
    (hY : ∀ (w : World) (h : Heap), YP w h → (K w.params).In h) (hT : ∀ w : World, tabOf (K w.params) = none)
    (F : ∀ (w : World) (mg : Str → Option Value) (fa : Addr) (h : Heap), (K w.params).In h → h.Ns mainGlobals mg → mg d.name = some (.ref fa) →
      ∃ fd : FuncData, (∀ (s : Shared) (u : Value), BindsTo s fd ⟨[u], []⟩ [(x, u)]) ∧ ∀ base : Heap, (K w.params).In base → base.Ns mainGlobals mg → FnOk l.prog w (K w.params) mg base (CX1 l.prog w) k fa fd [x] (spOf (K w.params) spLaw)) :
    PySem.W.WalkO q loose XP YP l.row.toRowW d [] (fun f vs => PySem.call f vs) :=
  L2.walk_of (n := 63) (k := k) (x := x) (CX := fun w => CX1 l.prog w) (sp := fun w => spOf (K w.params) spLaw) hn (by decide) hdf hr hY F (fun w _ a ns hl hO hS => law_sp hl hS ⟨fun P ps e => (by rcases hO P with z | ⟨o, xs, z⟩ <;> rw [z] at e <;> cases e), fun P e => (by rw [hT w] at e; cases e)⟩) fun _ _ _ _ _ z => by obtain ⟨_, _, _, _, _, _, _, _, _, _, _, _, _, q⟩ := z; exact q.elim

/-! ## Readings: how each part is read when its data are known -/
theorem at0 {α : Type} (a : α) (r : List α) : atI (a :: r) 0 = some a := atI_nat (j := 0) rfl
theorem at1 {α : Type} (a b : α) (r : List α) : atI (a :: b :: r) 1 = some b := atI_nat (j := 1) rfl
theorem at2 {α : Type} (a b c : α) (r : List α) : atI (a :: b :: c :: r) 2 = some c := atI_nat (j := 2) rfl
theorem at3 {α : Type} (a b c d : α) (r : List α) : atI (a :: b :: c :: d :: r) 3 = some d := atI_nat (j := 3) rfl
theorem rdIx_tup (ds : List D) (i : Int) (Q : D → Prop) : rdIx (.tup ds) (.int i) Q = ∃ d, atI ds i = some d ∧ Q d := by
  apply propext
  constructor
  · rintro ⟨ds', i', d, e1, e2, h, q⟩
    rcases e1 with e1 | ⟨_, e1⟩
    · cases e1; cases e2; exact ⟨d, h, q⟩
    · cases e1
  · rintro ⟨d, h, q⟩
    exact ⟨ds, i, d, .inl rfl, rfl, h, q⟩
theorem rdIx_lst (t : Bool) (ds : List D) (i : Int) (Q : D → Prop) : rdIx (.lst t ds) (.int i) Q = ∃ d, atI ds i = some d ∧ Q d := by
  apply propext
  constructor
  · rintro ⟨ds', i', d, e1, e2, h, q⟩
    rcases e1 with e1 | ⟨_, e1⟩
    · cases e1
    · cases e1; cases e2; exact ⟨d, h, q⟩
  · rintro ⟨d, h, q⟩
    exact ⟨ds, i, d, .inr ⟨t, rfl⟩, rfl, h, q⟩
theorem untag_int (i : Int) : untag (.int i) = .int i := by rw [untag]
theorem untag_bl (b : Bool) : untag (.bl b) = .bl b := by rw [untag]
theorem untag_non : untag .non = .non := by rw [untag]
theorem untag_tup (ds : List D) : untag (.tup ds) = .tup (untags ds) := by rw [untag]
theorem untag_lst (t : Bool) (ds : List D) : untag (.lst t ds) = .lst false (untags ds) := by rw [untag]
theorem untags_nil : untags [] = [] := by rw [untags]
theorem untags_cons (d : D) (ds : List D) : untags (d :: ds) = untag d :: untags ds := by rw [untags]
theorem untags_map {α : Type} (f : α → D) (h : ∀ x, untag (f x) = f x) : ∀ xs : List α, untags (xs.map f) = xs.map f
  | [] => by rw [List.map_nil, untags]
  | x :: r => by rw [List.map_cons, untags, h, untags_map f h r]
theorem untags_ints (ns : List Int) : untags (ns.map D.int) = ns.map D.int := untags_map _ untag_int ns
theorem rdI_int (C : Int → Int → Prop) (g : Int → Int → D) (i j : Int) (Q : D → Prop) : rdI C g (.int i) (.int j) Q = (C i j ∧ Q (g i j)) := by
  apply propext
  constructor
  · rintro ⟨i', j', e1, e2, h, q⟩
    cases e1; cases e2; exact ⟨h, q⟩
  · rintro ⟨h, q⟩
    exact ⟨i, j, rfl, rfl, h, q⟩
theorem rdI0_int (g : Int → Int → D) (i j : Int) (Q : D → Prop) : rdI0 g (.int i) (.int j) Q = Q (g i j) := by
  apply propext
  constructor
  · rintro ⟨i', j', e1, e2, q⟩
    cases e1; cases e2; exact q
  · intro q
    exact ⟨i, j, rfl, rfl, q⟩
theorem dVar_0 (d : D) (r : Ro) (Q : D → Prop) : dVar 0 (some (.val d) :: r) Q = Q d := by
  apply propext
  constructor
  · rintro ⟨d', e, q⟩
    cases e; exact q
  · intro q; exact ⟨d, rfl, q⟩
theorem dVar_S (n : Nat) (x : Option Sl) (r : Ro) (Q : D → Prop) : dVar (n + 1) (x :: r) Q = dVar n r Q := rfl
theorem set_0 (x y : Option Sl) (r : Ro) : List.set (x :: r) 0 y = y :: r := rfl
theorem set_S (n : Nat) (x y : Option Sl) (r : Ro) : List.set (x :: r) (n + 1) y = x :: List.set r n y := rfl
theorem ex_bl (k : Bool) (R : Bool → Prop) : (∃ c, (D.bl k) = .bl c ∧ R c) = R k := by
  apply propext
  constructor
  · rintro ⟨c, e, q⟩; cases e; exact q
  · intro q; exact ⟨k, rfl, q⟩
theorem ex_int (k : Int) (R : Int → Prop) : (∃ c, (D.int k) = .int c ∧ R c) = R k := by
  apply propext
  constructor
  · rintro ⟨c, e, q⟩; cases e; exact q
  · intro q; exact ⟨k, rfl, q⟩
theorem ex_some {α : Type} (k : α) (R : α → Prop) : (∃ c, some k = some c ∧ R c) = R k := by
  apply propext
  constructor
  · rintro ⟨c, e, q⟩; cases e; exact q
  · intro q; exact ⟨k, rfl, q⟩
theorem sz3 (a b c : D) : ([a, b, c] : List D).length ≤ sizeLine := by rw [sizeLine_eq]; show 3 ≤ 16777216; decide
theorem sz2 (a b : D) : ([a, b] : List D).length ≤ sizeLine := by rw [sizeLine_eq]; show 2 ≤ 16777216; decide
theorem sz1 (a : D) : ([a] : List D).length ≤ sizeLine := by rw [sizeLine_eq]; show 1 ≤ 16777216; decide
theorem sz4 (a b c d : D) : ([a, b, c, d] : List D).length ≤ sizeLine := by rw [sizeLine_eq]; show 4 ≤ 16777216; decide
theorem len_lst (t : Bool) (xs : List D) (R : List D → Prop) : (∃ ys, ((∃ t', [D.lst t xs] = [.lst t' ys]) ∨ [D.lst t xs] = [.tup ys]) ∧ R ys) = R xs := by
  apply propext
  constructor
  · rintro ⟨c, e, q⟩
    rcases e with ⟨_, e⟩ | e
    · cases e; exact q
    · cases e
  · intro q; exact ⟨xs, .inl ⟨t, rfl⟩, q⟩
theorem len_tup (xs : List D) (R : List D → Prop) : (∃ ys, ((∃ t', [D.tup xs] = [.lst t' ys]) ∨ [D.tup xs] = [.tup ys]) ∧ R ys) = R xs := by
  apply propext
  constructor
  · rintro ⟨c, e, q⟩
    rcases e with ⟨_, e⟩ | e
    · cases e
    · cases e; exact q
  · intro q; exact ⟨xs, .inr rfl, q⟩
theorem isT_tup (ds : List D) : isT "tuple" (.tup ds) = true := by
  show (("tuple" : String) == "tuple" || (("tuple" : String) == "bool" && ("tuple" : String) == "int")) = true
  decide
theorem isT_lst (t : Bool) (ds : List D) : isT "list" (.lst t ds) = true := by
  show (("list" : String) == "list" || (("list" : String) == "bool" && ("list" : String) == "int")) = true
  decide
theorem isT_lst_t (ds : List D) : isT "list" (.tup ds) = false := by
  show (("tuple" : String) == "list" || (("tuple" : String) == "bool" && ("list" : String) == "int")) = false
  decide
theorem isT_int (i : Int) : isT "int" (.int i) = true := by
  show (("int" : String) == "int" || (("int" : String) == "bool" && ("int" : String) == "int")) = true
  decide
theorem isT_bool_i (i : Int) : isT "bool" (.int i) = false := by
  show (("int" : String) == "bool" || (("int" : String) == "bool" && ("bool" : String) == "int")) = false
  decide
theorem isNon_non : isNon .non = true := rfl
theorem isNon_tup (ds : List D) : isNon (.tup ds) = false := rfl
theorem okD_int (i : Int) : okD (.int i) := by unfold okD; rw [pyD, plD] <;> first | exact ⟨rfl, rfl⟩ | (intros; contradiction)
theorem okD_non : okD .non := by unfold okD; rw [pyD, plD] <;> first | exact ⟨rfl, rfl⟩ | (intros; contradiction)
abbrev T3 (a b c : Int) : D := .tup [.int a, .int b, .int c]
theorem CD.lit {i n : Int} (h : n ≠ 0 ∧ n.natAbs < 2 ^ 64 := by decide) : CD i n := ⟨h.1, Nat.lt_of_lt_of_le h.2 (Nat.pow_le_pow_right (by decide) (by decide))⟩
theorem rng2_eq (a b : Int) (R : Int → Int → Prop) : (∃ i j : Int, [D.int a, D.int b] = [.int i, .int j] ∧ R i j) = R a b := by
  apply propext
  constructor
  · rintro ⟨_, _, e, q⟩; cases e; exact q
  · intro q; exact ⟨a, b, rfl, q⟩
theorem rng1_eq (a : Int) (R : Int → Prop) : (∃ i : Int, [D.int a] = [.int i] ∧ R i) = R a := by
  apply propext
  constructor
  · rintro ⟨_, e, q⟩; cases e; exact q
  · intro q; exact ⟨a, rfl, q⟩
theorem atI_ints {ns : List Int} {k : Int} (h0 : 0 ≤ k) (h1 : k < ns.length) : atI (ns.map D.int) k = some (.int (ns.getD k.toNat 0)) := by
  have e : k = ((k.toNat : Nat) : Int) := by omega
  have hl : k.toNat < ns.length := by omega
  have q : atI (ns.map D.int) ((k.toNat : Nat) : Int) = some (.int (ns.getD k.toNat 0)) := atI_nat (by simp [List.getElem?_map, List.getElem?_eq_getElem hl, List.getD_eq_getElem?_getD])
  rw [← e] at q
  exact q
theorem map_int_inj {xs ys : List Int} (h : xs.map D.int = ys.map D.int) : xs = ys := by
  induction xs generalizing ys with
  | nil => cases ys with
    | nil => rfl
    | cons y r => simp at h
  | cons x r ih => cases ys with
    | nil => simp at h
    | cons y q =>
      simp only [List.map_cons, List.cons.injEq, D.int.injEq] at h
      rw [h.1, ih h.2]
theorem gdNt (n : Nat) (t : DGs) (ds : List D) (h : ds.length = n) (ρ : Ro) (Q : Ro → Prop) : gdSeq n t (.tup ds) ρ Q = t ds ρ Q := by
  apply propext
  unfold gdSeq
  constructor
  · rintro ⟨ds', e, _, h⟩
    rcases e with e | ⟨_, e⟩
    · cases e; exact h
    · cases e
  · intro q; exact ⟨ds, .inl rfl, h, q⟩
theorem gdc (g : DG) (u : DGs) (x : D) (r : List D) (ρ : Ro) (Q : Ro → Prop) : gdCons g u (x :: r) ρ Q = g x ρ fun ρ' => u r ρ' Q := by
  apply propext
  unfold gdCons
  constructor
  · rintro ⟨d, r', e, h⟩; cases e; exact h
  · intro h; exact ⟨x, r, rfl, h⟩
theorem gdn (ρ : Ro) (Q : Ro → Prop) : gdNil [] ρ Q = Q ρ := by apply propext; unfold gdNil; simp
theorem gd2t (g1 g2 : DG) (a b : D) (ρ : Ro) (Q : Ro → Prop) : gdSeq 2 (gdCons g1 (gdCons g2 gdNil)) (.tup [a, b]) ρ Q = g1 a ρ fun ρ1 => g2 b ρ1 Q := by
  (first | rw [gdNt 2 _ _ rfl] | rw [gdNt 4 _ _ rfl]); simp only [gdc, gdn]
end PD

namespace PD
open PySem PySem.Spec PyProof.Rows L2

/-! ## Things of one's own: x = [..]; x.append(e) -/
section
variable {X : Cx} {pos : Pos}
theorem Rel.putG {W : Own} {H H' : Hp} {σ : St} {ρ : Ro} {i : Nat} {p : Addr} {x : OS} {o : HO} (r : Rel X W H σ ρ) (hi : i < σ.length) (sm : Same H H') (hp : H p = none) (hk : X.K.lookup p = none) (h' : H' p = some o) (hd : OwnD X.K (fun t b => W.bad t b ∨ b = p) H' (W.sub σ.length i) x o) :
    Rel X ((W.drop i).put i p) H' (σ.set i (some (.ref p))) (ρ.set i (some (.ob x))) ∧ Fwd W H ((W.drop i).put i p) H' := by
  have hO : ∀ j a, ((W.drop i).put i p).O j = some a → (j = i ∧ a = p) ∨ (j ≠ i ∧ W.O j = some a) := fun j a h => by
    have h1 : (if j = i then some p else (if j = i then none else W.O j)) = some a := h
    by_cases e : j = i
    · rw [if_pos e] at h1; cases h1; exact .inl ⟨e, rfl⟩
    · rw [if_neg e, if_neg e] at h1; exact .inr ⟨e, h1⟩
  have hOi : ((W.drop i).put i p).O i = some p := by show (if i = i then some p else _) = _; rw [if_pos rfl]
  have hOj : ∀ j, j ≠ i → ((W.drop i).put i p).O j = W.O j := fun j n => by show (if j = i then some p else (if j = i then none else W.O j)) = _; rw [if_neg n, if_neg n]
  have hS : ∀ j k b, W.sub σ.length j k = some b → ((W.drop i).put i p).sub σ.length j k = some b := fun j k b e => (hOj _ (vix_ne hi)).trans e
  have bad' : ∀ t a, ((W.drop i).put i p).bad t a → W.bad t a ∨ a = p := fun t a z => by
    rcases z with z | ⟨j, z⟩ | z
    · exact .inl (.inl z)
    · rcases hO j a z with ⟨_, q⟩ | ⟨_, q⟩
      · exact .inr q
      · exact .inl (.inr (.inl ⟨j, q⟩))
    · exact .inl (.inr (.inr z))
  have nb : ∀ {t : Bool} {a : Addr} {ws : List V}, SqG X.K H t a ws → a ≠ p := fun {t a ws} q z => by
    subst z
    rcases q.1 with (q | ⟨o, q⟩) | ⟨o, its, n, q, _⟩
    · rw [hp] at q; cases q
    · rw [hp] at q; cases q
    · rw [hk] at q; cases q
  have up : ∀ (d : D) (v : V), Den X.K W.bad H d v → Den X.K ((W.drop i).put i p).bad H' d v := Den.map (fun _ _ q => SqT.same sm q) (fun t a ws n q => ⟨fun z => (bad' t a z).elim n (nb q), q.same sm⟩) (fun a _ q => sm a _ q)
  have ups : ∀ (ds : List D) (vs' : List V), Dens X.K W.bad H ds vs' → Dens X.K ((W.drop i).put i p).bad H' ds vs' := Dens.map (fun _ _ q => SqT.same sm q) (fun t a ws n q => ⟨fun z => (bad' t a z).elim n (nb q), q.same sm⟩) (fun a _ q => sm a _ q)
  refine ⟨⟨fun j d h => ?_, fun j x h => ?_, fun j k a h1 h2 => ?_, fun j a h1 => ?_, fun j a h1 => ?_, fun a h => let ⟨_, q⟩ := r.bt a h; sm.ex q, fun a h => let ⟨_, q⟩ := r.st a h; sm.ex q, r.ent.trans sm, r.tab.same sm⟩, rfl, rfl, fun b o _ q n => sm.kp b o q n, fun j a h => ?_, sm.tb, sm.ok⟩
  · by_cases hj : j = i
    · subst hj
      rw [List.getElem?_set] at h
      split at h
      · split at h <;> cases h
      · omega
    · rw [List.getElem?_set_ne (Ne.symm hj)] at h
      obtain ⟨w, h1, h2⟩ := r.val j d h
      exact ⟨w, by rw [List.getElem?_set_ne (Ne.symm hj)]; exact h1, up d w h2⟩
  · by_cases hj : j = i
    · subst hj
      rw [List.getElem?_set] at h
      split at h
      · split at h
        · cases h
          exact ⟨p, _, hOi, by simp [hi], h', by rw [List.length_set]; exact hd.fewer (fun t a z => bad' t a z) (hS _)⟩
        · cases h
      · omega
    · rw [List.getElem?_set_ne (Ne.symm hj)] at h
      obtain ⟨a, ws, h1, h2, h3, h4⟩ := r.own j x h
      exact ⟨a, ws, (hOj j hj).trans h1, by rw [List.getElem?_set_ne (Ne.symm hj)]; exact h2, sm.kp _ _ h3 h4.mut.nt, by rw [List.length_set]; exact h4.map ups fun k b q => ⟨hS j k b q, fun _ z => sm _ _ z⟩⟩
  · rcases hO j a h1 with ⟨e1, q1⟩ | ⟨e1, q1⟩ <;> rcases hO k a h2 with ⟨e2, q2⟩ | ⟨e2, q2⟩
    · rw [e1, e2]
    · subst q1
      obtain ⟨_, _, ws, q, _⟩ := r.kn k _ q2
      rw [hp] at q; cases q
    · subst q2
      obtain ⟨_, _, ws, q, _⟩ := r.kn j _ q1
      rw [hp] at q; cases q
    · exact r.inj j k a q1 q2
  · rcases hO j a h1 with ⟨e1, q1⟩ | ⟨e1, q1⟩
    · subst q1
      exact ⟨hk, ⟨fun z => (by obtain ⟨o, q⟩ := r.bt _ z; rw [hp] at q; cases q), fun z => (by obtain ⟨o, q⟩ := r.st _ z; rw [hp] at q; cases q)⟩, _, h', hd.mut⟩
    · obtain ⟨a1, a2, ws, a3, a4⟩ := r.kn j a q1
      exact ⟨a1, a2, ws, sm.kp _ _ a3 a4.nt, a4⟩
  · rcases hO j a h1 with ⟨e1, q1⟩ | ⟨e1, q1⟩
    · subst q1; exact r.ent.free hp
    · exact r.ke j a q1
  · rcases hO j a h with ⟨e1, q1⟩ | ⟨e1, q1⟩
    · subst q1; exact .inr hp
    · exact .inl ⟨j, q1⟩
theorem Rel.putOwn2 {W : Own} {H H' : Hp} {σ : St} {ρ : Ro} {i : Nat} {p : Addr} {ds : List D} {vs : List V} (r : Rel X W H σ ρ) (hi : i < σ.length) (sm : Same H H') (hp : H p = none) (hk : X.K.lookup p = none) (h' : H' p = some (.lst vs)) (hd : Dens X.K (fun t b => W.bad t b ∨ b = p) H' ds vs) :
    Rel X ((W.drop i).put i p) H' (σ.set i (some (.ref p))) (ρ.set i (some (.own ds))) ∧ Fwd W H ((W.drop i).put i p) H' := r.putG hi sm hp hk h' (.lst hd)
/-- what was there ahead of a new thing does not hold it -/
theorem Dens.apart {K : PySem.W.Frag} {P : Bool → Addr → Prop} {H : Hp} {a : Addr} {o : HO} {ds : List D} {us : List V} (n : H a = none) (k : K.lookup a = none) (h : Dens K P H ds us) (nt : NT o := by exact True.intro) : Dens K (fun t b => P t b ∨ b = a) (L2.upd H a o) ds us :=
  Dens.map (fun _ _ q => SqT.same (Same.upd n nt) q) (fun t b ws p q => ⟨(fun z => z.elim p fun z => by
    subst z
    rcases q.1 with (q | ⟨o, q⟩) | ⟨o, its, m, q, _⟩
    · rw [n] at q; cases q
    · rw [n] at q; cases q
    · rw [k] at q; cases q), q.same (Same.upd n nt)⟩) (fun b _ q => (Same.upd n nt) b _ q) ds us h
theorem Rel.mutG {W : Own} {H : Hp} {σ : St} {ρ : Ro} {i : Nat} {a : Addr} {x x' : OS} {o o' : HO} (r : Rel X W H σ ρ) (eo : ρ[i]? = some (some (.ob x))) (oa : W.O i = some a) (sa : σ[i]? = some (some (.ref a))) (ha : H a = some o) (hm : MutO o) (hd : OwnD X.K W.bad H (W.sub σ.length i) x' o') :
    Rel X W (L2.upd H a o') σ (ρ.set i (some (.ob x'))) ∧ Fwd W H W (L2.upd H a o') := by
  have badA : ∀ t, W.bad t a := fun _ => .inr (.inl ⟨i, oa⟩)
  have noT : ∀ b ws, SqT X.K H b ws → SqT X.K (L2.upd H a o') b ws := fun b ws q => by
    rcases q with (q | ⟨u, q⟩) | q
    · exact .inl (.inl (by rw [upd_ne (ne_of q ha (by intro z; subst z; exact hm))]; exact q))
    · exact .inl (.inr ⟨u, by rw [upd_ne (ne_of q ha (by intro z; subst z; exact hm))]; exact q⟩)
    · exact .inr q
  have noL : ∀ t b ws, ¬ W.bad t b → SqG X.K H t b ws → ¬ W.bad t b ∧ SqG X.K (L2.upd H a o') t b ws := fun t b ws n q => by
    have hne : b ≠ a := fun e => n (e ▸ badA t)
    refine ⟨n, ?_, fun z => ⟨by rw [upd_ne hne]; exact (q.2 z).1, (q.2 z).2⟩⟩
    rcases q.1 with (q | ⟨u, q⟩) | q
    · exact .inl (.inl (by rw [upd_ne hne]; exact q))
    · exact .inl (.inr ⟨u, by rw [upd_ne hne]; exact q⟩)
    · exact .inr q
  have noX : ∀ b φ, H b = some (.ext φ) → L2.upd H a o' b = some (.ext φ) := fun b φ q => by rw [upd_ne (ne_of q ha (by intro z; subst z; exact hm))]; exact q
  have hl' : i < ρ.length := (List.getElem?_eq_some_iff.mp eo).1
  have il : i < σ.length := (List.getElem?_eq_some_iff.mp sa).1
  have hSb : ∀ j k b, W.sub σ.length j k = some b → W.sub σ.length j k = some b ∧ ∀ us, H b = some (.lst us) → L2.upd H a o' b = some (.lst us) := fun j k b q => ⟨q, fun us z => by rw [upd_ne (fun e => vix_ne il (r.inj _ _ a (by rw [← e]; exact q) oa))]; exact z⟩
  have tr : ∀ b u, H b = some u → ∃ u', L2.upd H a o' b = some u' := fun b u q => by
    by_cases hba : b = a
    · subst hba; exact ⟨_, upd_same⟩
    · exact ⟨u, by rw [upd_ne hba]; exact q⟩
  refine ⟨⟨fun j d h => ?_, fun j y h => ?_, r.inj, fun j b hb => ?_, r.ke, fun b hb => let ⟨u, q⟩ := r.bt b hb; tr b u q, fun b hb => let ⟨u, q⟩ := r.st b hb; tr b u q, r.ent.ins (r.ke i a oa) ha hm hd.mut.nt, r.tab.upd hd.mut.nt (.inr ⟨o, ha, hm.ne, hm.nt⟩)⟩, Fwd.upd oa ha hm hd.mut.nt⟩
  · by_cases hj : j = i
    · subst hj
      rw [List.getElem?_set_self hl'] at h; cases h
    · rw [List.getElem?_set_ne (Ne.symm hj)] at h
      obtain ⟨w, h1, h2⟩ := r.val j d h
      exact ⟨w, h1, Den.map noT noL noX d w h2⟩
  · by_cases hj : j = i
    · subst hj
      rw [List.getElem?_set_self hl'] at h
      cases h
      exact ⟨a, o', oa, sa, upd_same, hd.map (Dens.map noT noL noX) (hSb _)⟩
    · rw [List.getElem?_set_ne (Ne.symm hj)] at h
      obtain ⟨b, ws, h1, h2, h3, h4⟩ := r.own j y h
      have hne : b ≠ a := fun e => hj (r.inj j i a (by rw [← e]; exact h1) oa)
      exact ⟨b, ws, h1, h2, by rw [upd_ne hne]; exact h3, h4.map (Dens.map noT noL noX) (hSb _)⟩
  · obtain ⟨k1, k2, ws, k3, k4⟩ := r.kn j b hb
    refine ⟨k1, k2, ?_⟩
    by_cases hba : b = a
    · subst hba; exact ⟨_, upd_same, hd.mut⟩
    · exact ⟨ws, by rw [upd_ne hba]; exact k3, k4⟩
theorem Rel.mut {W : Own} {H : Hp} {σ : St} {ρ : Ro} {i : Nat} {a : Addr} {ds ds' : List D} {vs vs' : List V} (r : Rel X W H σ ρ) (eo : ρ[i]? = some (some (.own ds))) (oa : W.O i = some a) (sa : σ[i]? = some (some (.ref a))) (ha : H a = some (.lst vs)) (hd : Dens X.K W.bad H ds' vs') :
    Rel X W (L2.upd H a (.lst vs')) σ (ρ.set i (some (.own ds'))) ∧ Fwd W H W (L2.upd H a (.lst vs')) := r.mutG eo oa sa ha True.intro (.lst hd)
variable {es : List Expr} {t : DA}
def dOwn (i : Nat) (t : DA) : DS := fun E ρ => t ρ fun ds => ds.length ≤ sizeLine ∧ E.nx (ρ.set i (some (.own ds)))
theorem ds_own {x : Str} {pos' lpos : Pos} (i : Nat) (hN : X.N.Nodup) (h : PAD X es t) (hi : X.N[i]? = some x := by rfl) (hx : Loc X.env.scope x := by first | exact Or.inl rfl | exact Or.inr rfl)
    (hs : swapsWith (.List es lpos) (some (.Name x pos')) pos.line X.env = pure false := by rfl) (hf : X.fn x = true ∨ X.env.scope.names.lookup x = some .local := by first | exact .inl rfl | exact .inr rfl | assumption) :
    PSD X (.Assign [.Name x pos'] (.List es lpos) pos) (dOwn i t) := by
  intro pins s σ H W ρ E I r hq
  refine wpAny_Assign_Name (wpAny_List_spliced (thn (h lpos pins s σ H W ρ _ I r hq) fun us s1 ⟨vs, H1, ds, I1, rv, e1, hd, z, q⟩ => ?_)) hs
  rw [← hd.len] at z
  refine ⟨by rw [← rv.length]; exact z, ?_⟩
  have hf1 : H1 s1.heap.objs.size = none := I1.hok.fresh (Nat.le_refl _)
  have I2 := I1.laid (o := .lst vs) (t' := s1.toks) (fun b u e => Heap.get?_push_of_some _ e) (Nat.le_refl _) ⟨z, us, 0, rv, Heap.get?_push_size _ rfl⟩
  have rp := (r.same e1).putOwn2 (Inv.ilt I1 hi) (Same.upd (o := .lst vs) hf1) hf1 (Inv.kfresh I1) upd_same (Dens.apart hf1 (Inv.kfresh I1) hd)
  exact store_ok (v := .ref s1.heap.objs.size) I2 hN hi hx rfl (fun s2 I3 => ⟨_, _, _, I3, (Fwd.same e1).trans rp.2, _, rp.1, q⟩) hf
/-- x.append(e), x a list of one's own -/
def dAppend (i : Nat) (te : DE) : DS := fun E ρ => ∃ ds, ρ[i]? = some (some (.own ds)) ∧ te ρ fun d => ds.length < sizeLine ∧ E.nx (ρ.set i (some (.own (ds ++ [d]))))
theorem ds_append {x : Str} {e : Expr} {te : DE} {px apos cpos : Pos} (i : Nat) (he : PED X e te) (hi : X.N[i]? = some x := by rfl) (hv : Vis X.env.scope x := by first | exact Or.inl rfl | exact Or.inr (Or.inl rfl) | exact Or.inr (Or.inr rfl))
    (hd : (x == ("__debug__" : Str)) = false := by decide) (hcd : (x == ("__classdict__" : Str)) = false := by decide)
    (hbase : attributeBase (.Name x px) "append" X.env (eval (.Name x px) X.env) = eval (.Name x px) X.env := by rfl)
    (hfew : ((backTo cpos (starEach [e] X.env)).all (fun x => !x.1) && (backToKw cpos (keywordEach [] X.env)).all (fun x => x.1.isSome) && decide ([e].length + ([] : List Keyword).length + (if ([] : List Keyword).isEmpty then 0 else 1) < 30)) = true := by rfl)
    (hline : (apos.endLine == cpos.line) = true := by rfl) (hst : starEach [e] X.env = (false, eval e X.env) :: starEach [] X.env := by rfl) (hplain : (backTo cpos (starEach [] X.env)).any (·.1) = false := by rfl)
    (hs : swapsWith (.Call (.Attribute (.Name x px) "append" apos) [e] [] cpos) none pos.line X.env = pure false := by rfl) :
    PSD X (.Expr (.Call (.Attribute (.Name x px) "append" apos) [e] [] cpos) pos) (dAppend i te) := by
  have P0 := ps_expr (pos := pos) (pe_bm PySem.F.plainAttrs_list PySem.F.slot_list_append PySem.F.type_list_append mt_append (pe_var hi hv hd hcd) (pa_cons he.pe pa_nil hst) hbase hfew hline hst hplain) hs
  refine PSD.of P0 fun σ H W ρ E r hl h => ?_
  obtain ⟨ds, eo, h⟩ := h
  obtain ⟨a, vs, oa, sa, ha, hds⟩ := r.ownL i ds eo
  refine ⟨.ref a, sa, .inl ⟨rfl, _, SqL.of ha⟩, W, ρ, _, r, h, fun v H' d e1 hd' q => ?_⟩
  obtain ⟨z, q⟩ := q
  have ha' := e1 _ _ ha
  have r' := r.same e1
  have hds' := hds.same e1
  refine ⟨a, vs, v, rfl, rfl, ha', by rw [hds'.len]; exact z, ?_⟩
  obtain ⟨r2, f2⟩ := r'.mut (vs' := vs ++ [v]) eo oa sa ha' (hds'.append (Dens.one hd'))
  exact ⟨W, _, (Fwd.same e1).trans f2, r2, q⟩
/-- a list of one's own becomes a datum (nothing is appended to it any more) -/
theorem Rel.freeze {X : Cx} {W : Own} {H : Hp} {σ : St} {ρ : Ro} {i : Nat} {ds : List D} (r : Rel X W H σ ρ) (e : ρ[i]? = some (some (.own ds))) : Rel X (W.drop i) H σ (ρ.set i (some (.val (.lst true ds)))) := by
  obtain ⟨a, vs, oa, sa, ha, hds⟩ := r.ownL i ds e
  have il : i < σ.length := (List.getElem?_eq_some_iff.mp sa).1
  have hl' : i < ρ.length := (List.getElem?_eq_some_iff.mp e).1
  have nb : ¬ (W.drop i).bad true a := fun z => by
    rcases z with z | ⟨j, z⟩ | ⟨_, z⟩
    rotate_right
    · exact (r.kn i a oa).2.1.2 z
    · exact (r.kn i a oa).2.1.1 z
    · have z' : (if j = i then none else W.O j) = some a := z
      by_cases ej : j = i
      · rw [if_pos ej] at z'; cases z'
      · rw [if_neg ej] at z'; exact ej (r.inj j i a z' oa)
  have hd : Den X.K (W.drop i).bad H (.lst true ds) (.ref a) := Den.lst nb (.new ha (r.kn i a oa).1) (hds.fewer fun _ _ => Own.drop_bad)
  refine ⟨fun j x h => ?_, fun j x h => ?_, fun j k b h1 h2 => ?_, fun j b h1 => ?_, fun j b h1 => ?_, r.bt, r.st, r.ent, r.tab⟩
  · by_cases hj : j = i
    · subst hj
      rw [List.getElem?_set_self hl'] at h
      cases h
      exact ⟨.ref a, sa, hd⟩
    · rw [List.getElem?_set_ne (Ne.symm hj)] at h
      obtain ⟨w, h1, h2⟩ := r.val j x h
      exact ⟨w, h1, h2.fewer fun _ _ => Own.drop_bad⟩
  · by_cases hj : j = i
    · subst hj
      rw [List.getElem?_set_self hl'] at h; cases h
    · rw [List.getElem?_set_ne (Ne.symm hj)] at h
      obtain ⟨b, ws, h1, h2, h3, h4⟩ := r.own j x h
      exact ⟨b, ws, by show (if j = i then none else W.O j) = _; rw [if_neg hj]; exact h1, h2, h3, h4.fewer (fun _ _ => Own.drop_bad) (Own.drop_sub il)⟩
  · have h1' : (if j = i then none else W.O j) = some b := h1
    have h2' : (if k = i then none else W.O k) = some b := h2
    by_cases e1 : j = i
    · rw [if_pos e1] at h1'; cases h1'
    · by_cases e2 : k = i
      · rw [if_pos e2] at h2'; cases h2'
      · rw [if_neg e1] at h1'
        rw [if_neg e2] at h2'
        exact r.inj j k b h1' h2'
  · have h1' : (if j = i then none else W.O j) = some b := h1
    by_cases e1 : j = i
    · rw [if_pos e1] at h1'; cases h1'
    · rw [if_neg e1] at h1'
      exact r.kn j b h1'
  · have h1' : (if j = i then none else W.O j) = some b := h1
    by_cases e1 : j = i
    · rw [if_pos e1] at h1'; cases h1'
    · rw [if_neg e1] at h1'
      exact r.ke j b h1'
def dFreeze (i : Nat) (t : DS) : DS := fun E ρ => ∃ ds, ρ[i]? = some (some (.own ds)) ∧ t E (ρ.set i (some (.val (.lst true ds))))
theorem dss_freeze {sts : List Stmt} {t : DS} (i : Nat) (h : PSDs X sts t) : PSDs X sts (dFreeze i t) := by
  intro pins s σ H W ρ E I r hq
  obtain ⟨ds, e, hq⟩ := hq
  exact thn (h pins s σ H (W.drop i) _ E I (r.freeze e) hq) fun _ _ z => z.up (Fwd.drop W H i)
end

/-! ## Comprehensions: [elt for x in iter if c] -/
/-- the cells that the block shares with the body around it -/
def clOf (env : Env) (ns : List Str) : List (Str × Addr) := ns.filterMap fun n => (env.cells.lookup n).map fun c => (n, c)
theorem clOf_sub {env : Env} : ∀ {ns : List Str} {x : Str} {c : Addr}, (clOf env ns).lookup x = some c → env.cells.lookup x = some c
  | [], _, _, h => by cases h
  | n :: r, x, c, h => by
    unfold clOf at h
    rw [List.filterMap_cons] at h
    cases e : env.cells.lookup n with
    | none =>
      rw [e] at h
      exact clOf_sub (ns := r) h
    | some c' =>
      rw [e] at h
      have h' : List.lookup x ((n, c') :: clOf env r) = some c := h
      rw [List.lookup_cons] at h'
      cases q : x == n with
      | true =>
        rw [q] at h'
        have ex : x = n := by simpa using q
        subst ex
        rw [e]
        exact h'
      | false =>
        rw [q] at h'
        exact clOf_sub (ns := r) h'
theorem clOf_get {env : Env} : ∀ {ns : List Str} {x : Str} {c : Addr}, x ∈ ns → env.cells.lookup x = some c → (clOf env ns).lookup x = some c
  | [], _, _, h, _ => by cases h
  | n :: r, x, c, h, e => by
    unfold clOf
    rw [List.filterMap_cons]
    by_cases ex : x = n
    · subst ex
      rw [e]
      show List.lookup x ((x, c) :: _) = some c
      simp [List.lookup_cons]
    · have h' : x ∈ r := by
        rcases List.mem_cons.mp h with z | z
        · exact absurd z ex
        · exact z
      have ih := clOf_get (ns := r) h' e
      cases q : env.cells.lookup n with
      | none => exact ih
      | some c' =>
        show List.lookup x ((n, c') :: clOf env r) = some c
        rw [List.lookup_cons]
        have : (x == n) = false := by simpa using ex
        rw [this]
        exact ih
/-- what is read off the two scopes: osc of the body around, sc of the block, x the block's name, ns the names of the body that it uses -/
structure CSc (osc sc : Scope) (xs ns : List Str) : Prop where
  kind : sc.kind = .function
  nocell : ∀ y ∈ sc.names, y.2 ≠ .cell
  names : ∀ y ∈ sc.names, y.2 = .local → sc.names.lookup y.1 = some .local
  tgt : ∀ x ∈ xs, sc.names.lookup x = some .local
  free : ∀ y ∈ sc.names, y.2 = .free → y.1 ∈ ns ∧ osc.names.lookup y.1 = some .cell
  cells : ∀ n ∈ ns, sc.names.lookup n = some .free ∧ osc.names.lookup n = some .cell
  nd : (xs ++ ns).Nodup
def cxComp (X : Cx) (sc : Scope) (ns xs : List Str) (C : Addr) (s₂ : Shared) (H₂ : Hp) (fp : List Addr) (XE : Value → Shared → Prop) : Cx :=
  { X with N := xs ++ ns, s₀ := s₂, H₀ := H₂, env := compEnvC sc (clOf X.env ns) C X.env, outer := X.stack, stack := X.stack, ex := fp, fn := fun _ => false, pn := [], xe := XE }
theorem relabel_lookup {env : Env} (hk : env.scope.kind = .function) : ∀ {names : List (Str × NameKind)} {n : Str}, names.lookup n = some .free → env.kindOf n = some .cell →
    (names.map fun (n, k) => if (k == NameKind.free && env.scope.kind == .function && env.kindOf n == some .cell) then (n, NameKind.cell) else (n, k)).lookup n = some .cell
  | [], _, h, _ => by simp at h
  | (m, k) :: r, n, h, hc => by
    have ih := @relabel_lookup env hk r n
    show List.lookup n ((if (k == NameKind.free && env.scope.kind == .function && env.kindOf m == some .cell) = true then (m, NameKind.cell) else (m, k)) :: _) = _
    cases hx : n == m with
    | true =>
      simp only [List.lookup_cons, hx] at h
      cases h
      have e : n = m := by simpa using hx
      subst e
      rw [hk, hc]
      simp [List.lookup_cons]
    | false =>
      simp only [List.lookup_cons, hx] at h
      by_cases hcc : (k == NameKind.free && env.scope.kind == .function && env.kindOf m == some .cell) = true
      · rw [if_pos hcc]; simp only [List.lookup_cons, hx]; exact ih h hc
      · rw [if_neg hcc]; simp only [List.lookup_cons, hx]; exact ih h hc
theorem relabel_mem {env : Env} : ∀ {names : List (Str × NameKind)} {n : Str} {k : NameKind},
    (names.map fun (n, k) => if (k == NameKind.free && env.scope.kind == .function && env.kindOf n == some .cell) then (n, NameKind.cell) else (n, k)).lookup n = some k → (k = .cell ∨ k = .free) →
    (∃ y ∈ names, y.1 = n ∧ y.2 = .free) ∨ ∃ y ∈ names, y.1 = n ∧ y.2 = .cell
  | [], _, _, h, _ => by simp at h
  | (m, j) :: r, n, k, h, hk => by
    have h' : List.lookup n ((if (j == NameKind.free && env.scope.kind == .function && env.kindOf m == some .cell) = true then (m, NameKind.cell) else (m, j)) :: (r.map fun (n, k) => if (k == NameKind.free && env.scope.kind == .function && env.kindOf n == some .cell) then (n, NameKind.cell) else (n, k))) = some k := h
    have up : ((∃ y ∈ r, y.1 = n ∧ y.2 = .free) ∨ ∃ y ∈ r, y.1 = n ∧ y.2 = .cell) → ((∃ y ∈ (m, j) :: r, y.1 = n ∧ y.2 = .free) ∨ ∃ y ∈ (m, j) :: r, y.1 = n ∧ y.2 = .cell) := fun z => by
      rcases z with ⟨y, hy, q⟩ | ⟨y, hy, q⟩
      · exact .inl ⟨y, List.mem_cons_of_mem _ hy, q⟩
      · exact .inr ⟨y, List.mem_cons_of_mem _ hy, q⟩
    cases hx : n == m with
    | true =>
      have e : n = m := by simpa using hx
      subst e
      by_cases hcc : (j == NameKind.free && env.scope.kind == .function && env.kindOf n == some .cell) = true
      · have : j = .free := by
          simp only [Bool.and_eq_true] at hcc
          exact beq_iff_eq.mp hcc.1.1
        exact .inl ⟨(n, j), List.mem_cons_self, rfl, this⟩
      · rw [if_neg hcc] at h'
        simp only [List.lookup_cons, hx] at h'
        cases h'
        rcases hk with hk | hk
        · exact .inr ⟨(n, j), List.mem_cons_self, rfl, hk⟩
        · exact .inl ⟨(n, j), List.mem_cons_self, rfl, hk⟩
    | false =>
      by_cases hcc : (j == NameKind.free && env.scope.kind == .function && env.kindOf m == some .cell) = true
      · rw [if_pos hcc] at h'; simp only [List.lookup_cons, hx] at h'
        exact up (relabel_mem h' hk)
      · rw [if_neg hcc] at h'; simp only [List.lookup_cons, hx] at h'
        exact up (relabel_mem h' hk)
end PD

namespace PD
open PySem PySem.Spec PyProof.Rows L2
/-- a slot's datum -/
def getV (ρ : Ro) (j : Nat) : Option Sl := match ρ[j]? with
  | some (some (.val d)) => some (.val d)
  | _ => none
def getS (σ : St) (j : Nat) : Option V := match σ[j]? with
  | some (some v) => some v
  | _ => none
section
variable {X : Cx} {pins : List (Addr × Obj)} {σ : St} {H : Hp} {s : Shared} {sc : Scope} {ns : List Str} {js : List Nat} {xs : List Str} {fp : List Addr}
/-- the block's own state, at its start -/
theorem Inv.comp {XE : Value → Shared → Prop} {s₁ : Shared} {H₁ : Hp} {C : Addr} (I : Inv X pins σ H s) (S : CSc X.env.scope sc xs ns) (hj : js.length = ns.length ∧ ∀ (i : Nat) (j : Nat) (n : Str), js[i]? = some j → ns[i]? = some n → X.N[j]? = some n) (hfp : ∀ b ∈ fp, FpOk X pins H b) (hfo : ∀ b ∈ fp, ∃ o, s.heap.get? b = some o) (hC : s.heap.objs.size ≤ C)
    (hos : s₁.os = s.os) (hg : AllBare s₁.gens) (hk : ∀ b o, s.heap.get? b = some o → s₁.heap.get? b = some o) (hns : s₁.heap.Ns C fun _ => none) (hCn : H₁ C = none) (hs : Same H H₁) (hnew : ∀ b o, s.heap.get? b = some o → H b = none → H₁ b = none) (hok : HOk X.prog X.w H₁ s₁.heap) :
    Inv (cxComp X sc ns xs C s H fp XE) [] (List.replicate xs.length none ++ js.map (getS σ)) H₁ s₁ := by
  have kd : X.env.scope.kind = .function := I.ok.kind
  have cab : ∀ y c, (clOf X.env ns).lookup y = some c → X.env.cells.lookup y = some c := fun y c e => clOf_sub e
  have cold : ∀ y c, (clOf X.env ns).lookup y = some c → ∃ v, s.heap.IsCell c v := fun y c e => I.cell y c (cab y c e)
  refine ⟨⟨I.ok.mod, S.kind, I.ok.glob, I.ok.blt, hC, fun y z c h1 h2 => I.ok.inj y z c (cab y c h1) (cab z c h2), fun y hy => ?_, fun y c h _ => (by cases h), I.ok.hd, I.ok.frames, .inl rfl, fun b hb => ?_, I.bs, Nat.le_trans I.ok.bsz I.sz, fun b o e hb => ?_, fun b hb z => ?_, I.stack, I.stkFree⟩,
    hos, hg, ⟨fun b o e n _ _ => hk b o e, fun b o e n _ _ => ⟨o.slots, hk b o e⟩, fun b o e n _ => hnew b o e n, fun b o e _ => ⟨o, hk b o e⟩, fun b xs e => hs b _ e, fun b o u e => hs b _ e, fun b ps e => hs.tb b ps e⟩, ⟨_, hns, fun i y v h1 h2 h3 => ?_⟩, fun y c e => ?_, hCn, fun y c e => ?_, fun p hp => absurd (show p ∈ ([] : List (Addr × Obj)) from hp) (by simp), hok, ?_⟩
  · -- every cell of the block is one of the body's
    have hy' : ∃ k, ((relabel sc X.env).names.lookup y = some k) ∧ (k = .cell ∨ k = .free) := by
      rcases hy with hy | hy
      · exact ⟨_, hy, .inl rfl⟩
      · exact ⟨_, hy, .inr rfl⟩
    obtain ⟨k, h1, h2⟩ := hy'
    rcases relabel_mem (env := X.env) h1 h2 with ⟨z, hz, e1, e2⟩ | ⟨z, hz, e1, e2⟩
    · obtain ⟨m1, m2⟩ := S.free z hz e2
      subst e1
      obtain ⟨c, hc⟩ := I.ok.has z.1 (.inl m2)
      exact ⟨c, clOf_get m1 hc⟩
    · exact absurd e2 (S.nocell z hz)
  · refine ⟨fun z => ?_, fun y c e z => ?_⟩
    · have z' : b = C := z
      obtain ⟨o, ho⟩ := hfo b hb
      have hlt := Heap.lt_size ho
      rw [z'] at hlt
      exact absurd (Nat.lt_of_lt_of_le hlt hC) (Nat.lt_irrefl _)
    · exact (hfp b hb).2.2.2.2.1 y c (cab y c e) z
  · obtain ⟨f0, f1, f2, f3, f4, f5⟩ := hfp b hb
    rcases f3 with f3 | f3
    · exact I.ok.noex b o e f3
    · exact absurd (Nat.lt_of_lt_of_le (Heap.lt_size (I.ok.bs b o e).1) f3) (Nat.lt_irrefl _)
  · obtain ⟨f0, f1, f2, f3, f4, f5⟩ := hfp b hb
    rcases List.mem_cons.mp (I.stkSub b z) with e | e
    · exact f1 e
    · exact f2 e
  · by_cases hi : i < xs.length
    · rw [List.getElem?_append_left (by simpa using hi), List.getElem?_replicate, if_pos hi] at h2
      cases h2
    · have h1' : ns[i - xs.length]? = some y := by
        have h1 : (xs ++ ns)[i]? = some y := h1
        rw [List.getElem?_append_right (by omega)] at h1
        exact h1
      have h2' : (js.map (getS σ))[i - xs.length]? = some (some v) := by
        rw [List.getElem?_append_right (by simpa using hi)] at h2
        simpa using h2
      generalize i - xs.length = i at h1' h2'
      rw [List.getElem?_map] at h2'
      cases e : js[i]? with
      | none => rw [e] at h2'; cases h2'
      | some j =>
        rw [e] at h2'
        have h4 : getS σ j = some v := Option.some.inj h2'
        have h5 : σ[j]? = some (some v) := by
          unfold getS at h4
          split at h4
          · rename_i u q
            cases h4
            exact q
          · cases h4
        have hN := hj.2 i j y e h1'
        have mem : y ∈ ns := List.mem_of_getElem? h1'
        obtain ⟨c1, c2⟩ := S.cells y mem
        obtain ⟨m, hm, hl⟩ := I.loc
        obtain ⟨u, ru, lk⟩ := hl j y v hN h5 (.inr (.inl c2))
        refine ⟨u, ru, ?_⟩
        rcases lk with ⟨k1, _⟩ | ⟨_, c, e1, o, ho, hd⟩
        · have k1' : X.env.scope.names.lookup y = some .local := k1
          rw [c2] at k1'; cases k1'
        · exact .inr ⟨.inl (relabel_lookup kd c1 c2), c, clOf_get mem e1, o, hk c o ho, hd⟩
  · obtain ⟨v, z⟩ := cold y c e
    obtain ⟨o, ho, hd⟩ := z
    exact ⟨v, o, hk c o ho, hd⟩
  · obtain ⟨v, o, ho, hd⟩ := cold y c e
    exact hnew c o ho (I.freeC y c (cab y c e))
  · show (List.replicate xs.length none ++ js.map (getS σ)).length = (xs ++ ns).length
    simp [hj.1]
/-- the block's tests -/
def TsD (X : Cx) (ifs : List Expr) (t : DT) : Prop :=
  ∀ (pins : List (Addr × Obj)) (s : Shared) (σ : St) (H : Hp) (W : Own) (ρ : Ro) (Q : Bool → Prop), Inv X pins σ H s → Rel X W H σ ρ → t ρ Q →
    wpAny (model X.prog X.w) X.A (forIn ifs true fun c r => if r = true then do let ok ← isTrue c X.env (eval c X.env); pure (ForInStep.yield ok) else pure (ForInStep.yield r)) (DTP X pins σ H Q) X.xe s
def dAll : DT := fun _ Q => Q true
theorem ts_nil {X : Cx} : TsD X [] dAll := fun _ s σ H W ρ Q I r h => wpAny_tests_nil ⟨H, I, Same.refl H, h⟩
theorem ts_one {X : Cx} {c : Expr} {t : DT} (h : PTD X c t) : TsD X [c] t := fun pins s σ H W ρ Q I r q => wpAny_tests_one (h pins s σ H W ρ Q I r q)
/-- the targets' slots, then the captured ones -/
def CapR (n : Nat) (cap ρ : Ro) : Prop := ∃ r0 : Ro, r0.length = n ∧ ρ = r0 ++ cap
theorem compLoopG {prog : Program} {w : World} {A : Around} {s : Shared} {R : Result → Shared → Prop} {elt target iter : Expr} {ifs : List Expr} {scope : Scope} {pos : Pos} {it acc : Value} {env : Env} (I : Nat → Shared → Prop)
    (turn : ∀ n s, I n s → wpAny (model prog w) A (pyNext it) (fun r s₁ => match r with
      | none => R (.ok .next) s₁
      | some v => wpAny (model prog w) A (letOwnedTupleGo target it v) (fun _ z₁ => wpAny (model prog w) A (assign target env v) (fun _ s₂ =>
          wpAny (model prog w) A (forIn ifs true fun c r => if r = true then do let ok ← isTrue c env (eval c env); pure (ForInStep.yield ok) else pure (ForInStep.yield r)) (fun ok s₃ => if ok = true then wpAny (model prog w) A (eval elt env) (fun x s₄ =>
              wpAny (model prog w) A (call (.builtin "list.append") [acc, x]) (fun _ s₅ => ∃ m, m < n ∧ I m s₅) (notedBy (model prog w) A env fun e z => R (.error e) z) s₄) (notedBy (model prog w) A env fun e z => R (.error e) z) s₃
            else ∃ m, m < n ∧ I m s₃) (notedBy (model prog w) A env fun e z => R (.error e) z) s₂) (notedBy (model prog w) A env fun e z => R (.error e) z) z₁) (notedBy (model prog w) A env fun e z => R (.error e) z) s₁) (notedBy (model prog w) A env fun e z => R (.error e) z) s)
    (n : Nat) (h : I n s) : codeAny (model prog w) A (.compLoop (.ListComp elt [⟨target, iter, ifs, 0⟩] scope pos) 0 it acc env) R s := by
  refine codeAny_loop rfl I (fun m z hI => ?_) n h
  show wpAny _ A ((compTurn (.ListComp elt [⟨target, iter, ifs, 0⟩] scope pos) 0 it acc env).onRaise (fun e => do noteFrame e env; theTreesLotGoes e)) _ _ z
  refine wpAny_noted ?_
  rw [compTurn_list]
  refine wpAny_bind (wpAny_standAt (wpAny_bind (wpAny_mono (turn m z hI) (fun r z1 g1 => ?_) fun _ _ q => q)))
  cases r with
  | none => exact wpAny_pure g1
  | some v =>
    refine wpAny_bind (wpAny_mono g1 (fun _ z2 g2 => ?_) fun _ _ q => q)
    refine wpAny_bind (wpAny_mono g2 (fun _ z3 g3 => wpAny_bind (wpAny_mono g3 (fun ok z4 g4 => ?_) fun _ _ q => q)) fun _ _ q => q)
    cases ok with
    | false => exact wpAny_pure ⟨rfl, g4⟩
    | true => exact wpAny_bind (wpAny_bind (wpAny_mono g4 (fun y z5 g5 => wpAny_bind (wpAny_mono g5 (fun _ z6 g6 => wpAny_pure (wpAny_pure ⟨rfl, g6⟩)) fun _ _ q => q)) fun _ _ q => q))
/-- a list that none of the data holds is changed -/
theorem Rel.mutB {X : Cx} {W : Own} {H : Hp} {σ : St} {ρ : Ro} {a : Addr} {vs vs' : List V} (r : Rel X W H σ ρ) (hB : W.B a) (ha : H a = some (.lst vs)) (h0 : X.H₀ a = none) :
    Rel X W (L2.upd H a (.lst vs')) σ ρ ∧ ∀ ds us, Dens X.K W.bad H ds us → Dens X.K W.bad (L2.upd H a (.lst vs')) ds us := by
  have noT : ∀ b ws, SqT X.K H b ws → SqT X.K (L2.upd H a (.lst vs')) b ws := fun b ws q => by
    rcases q with (q | ⟨o, q⟩) | q
    · exact .inl (.inl (by rw [upd_ne (ne_of q ha (by intro z; cases z))]; exact q))
    · exact .inl (.inr ⟨o, by rw [upd_ne (ne_of q ha (by intro z; cases z))]; exact q⟩)
    · exact .inr q
  have noL : ∀ t b ws, ¬ W.bad t b → SqG X.K H t b ws → ¬ W.bad t b ∧ SqG X.K (L2.upd H a (.lst vs')) t b ws := fun t b ws n q => by
    have hne : b ≠ a := fun e => n (.inl (e ▸ hB))
    refine ⟨n, ?_, fun z => ⟨by rw [upd_ne hne]; exact (q.2 z).1, (q.2 z).2⟩⟩
    rcases q.1 with (q | ⟨o, q⟩) | q
    · exact .inl (.inl (by rw [upd_ne hne]; exact q))
    · exact .inl (.inr ⟨o, by rw [upd_ne hne]; exact q⟩)
    · exact .inr q
  have noX : ∀ b φ, H b = some (.ext φ) → L2.upd H a (.lst vs') b = some (.ext φ) := fun b φ q => by rw [upd_ne (ne_of q ha (by intro z; cases z))]; exact q
  have tr : ∀ b o, H b = some o → ∃ o', L2.upd H a (.lst vs') b = some o' := fun b o q => by
    by_cases hba : b = a
    · subst hba; exact ⟨_, upd_same⟩
    · exact ⟨o, by rw [upd_ne hba]; exact q⟩
  refine ⟨⟨fun j d h => ?_, fun j y h => ?_, r.inj, fun j b hb => ?_, r.ke, fun b hb => let ⟨o, q⟩ := r.bt b hb; tr b o q, fun b hb => let ⟨o, q⟩ := r.st b hb; tr b o q, r.ent.ins h0 ha True.intro True.intro, r.tab.upd True.intro (.inr ⟨_, ha, (fun _ z => by cases z), True.intro⟩)⟩, Dens.map noT noL noX⟩
  · obtain ⟨v, h1, h2⟩ := r.val j d h
    exact ⟨v, h1, Den.map noT noL noX d v h2⟩
  · obtain ⟨b, o, h1, h2, h3, h4⟩ := r.own j y h
    exact ⟨b, o, h1, h2, by rw [upd_ne (fun e => (r.kn j b h1).2.1.1 (by rw [e]; exact hB))]; exact h3, h4.map (Dens.map noT noL noX) fun k c q => ⟨q, fun us z => by rw [upd_ne (fun e => (r.kn _ c q).2.1.1 (by rw [e]; exact hB))]; exact z⟩⟩
  · obtain ⟨k1, k2, o, k3, k4⟩ := r.kn j b hb
    exact ⟨k1, k2, o, by rw [upd_ne (fun e => k2.1 (by rw [e]; exact hB))]; exact k3, k4⟩
/-- what an exception meets in a block -/
def noteX (X : Cx) (sc : Scope) (ns : List Str) (RR : Value → Addr → Result → Shared → Prop) (D C : Addr) : Value → Shared → Prop := notedBy (model X.prog X.w) X.A (compEnvC sc (clOf X.env ns) C X.env) fun e s'' => RR (.ref D) C (.error e) s''
theorem PassX.no {X : Cx} : PassX X fun _ => False := fun _ _ _ _ _ _ _ _ _ _ h => by
  obtain ⟨_, _, _, _, _, _, _, _, _, _, _, _, _, z⟩ := h
  exact z.elim
/-- the loop of a block, from where its iterator has come -/
theorem comp_block {elt iter tg : Expr} {ifs : List Expr} {pos : Pos} {g : DG} {te : DE} {tc : DT} {W : Own} {ρ : Ro} {J : It} {it : Addr} {tn : Nat → Heap → Prop} {ds : List D} {E : Value → Shared → Prop} {RR : Value → Addr → Result → Shared → Prop} (hc : X.calm = true) (S : CSc X.env.scope sc xs ns)
    (hj : js.length = ns.length ∧ ∀ (i : Nat) (j : Nat) (n : Str), js[i]? = some j → ns[i]? = some n → X.N[j]? = some n)
    {Ed : Value → Prop} (he : ∀ (C : Addr) (s₂ : Shared) (H₂ : Hp) (fp : List Addr) (XE : Value → Shared → Prop), PassX (cxComp X sc ns xs C s₂ H₂ fp XE) Ed → PED (cxComp X sc ns xs C s₂ H₂ fp XE) elt te) (ht : ∀ (C : Addr) (s₂ : Shared) (H₂ : Hp) (fp : List Addr) (XE : Value → Shared → Prop), PassX (cxComp X sc ns xs C s₂ H₂ fp XE) Ed → TsD (cxComp X sc ns xs C s₂ H₂ fp XE) ifs tc)
    (hx : ∀ D C : Addr, PassX (cxComp X sc ns xs C s H fp (noteX X sc ns RR D C)) Ed) (I : Inv X pins σ H s) (r : Rel X W H σ ρ) (hg : ∀ (C : Addr) (s₂ : Shared) (H₂ : Hp) (fp : List Addr) (XE : Value → Shared → Prop), PGD (cxComp X sc ns xs C s₂ H₂ fp XE) tg g) (T : Turn X.prog X.w X.K tg J fp it tn) (st : tn 0 s.heap) (hfp : ∀ b ∈ fp, FpOk X pins H b) (yd : YD X.K W H J ds) (hz : ds.length ≤ sizeLine)
    (Pv : Nat → List D → Prop) (p0 : Pv 0 []) (step : ∀ j d out ρ1, ds[j]? = some d → Pv j out → CapR xs.length (js.map (getV ρ)) ρ1 → g d ρ1 fun ρ2 => CapR xs.length (js.map (getV ρ)) ρ2 ∧ tc ρ2 fun b => if b = true then te ρ2 (fun e => Pv (j + 1) (out ++ [e])) else Pv (j + 1) out)
    (hRR : ∀ (D C : Addr) (s' : Shared) (H' : Hp) (m' : Str → Option Value) (out : List PD.D), Inv X pins σ H' s' → Same H H' → s'.heap.Ns C m' → H' C = none → C ≠ X.env.locals → X.s₀.heap.objs.size ≤ C → (∀ y c, X.env.cells.lookup y = some c → c ≠ C) → (∀ p ∈ X.pn ++ pins, p.1 ≠ C) →
      (H D = none ∧ X.K.lookup D = none ∧ ∃ vs, H' D = some (.lst vs) ∧ Dens X.K (fun t b => W.bad t b ∨ b = D) H' out vs) → Pv ds.length out → RR (.ref D) C (.ok .next) s') :
    wpAny (model X.prog X.w) X.A (newList []) (fun acc s₃ => wpAny (model X.prog X.w) X.A (newFunctionEnv sc X.env.globals (clOf X.env ns) [] X.env.qual none .none (some X.env)) (fun cenv s₄ =>
      codeAny (model X.prog X.w) X.A (.compStart (.ListComp elt [⟨tg, iter, ifs, 0⟩] sc pos) 0 (.ref it) acc { cenv with scope := relabel sc X.env }) (RR acc cenv.locals) s₄) E s₃) E s := by
  refine wpAny_newObj_type (wpAny_newFunctionEnv S.nocell (by intro y hy; simp at hy) (fun h₁ hns₁ hsb₁ => ?_) S.kind)
  dsimp only at hns₁ hsb₁ ⊢
  generalize hH2 : s.heap.push { cls := .type "list", dict := none, data := .seq ([] : List Value).toArray } = HP at hns₁ hsb₁ ⊢
  have hC : HP.objs.size = s.heap.objs.size + 1 := by rw [← hH2, Heap.size_push]
  have hDC : s.heap.objs.size ≠ HP.objs.size := by rw [hC]; exact Nat.ne_of_lt (Nat.lt_succ_self _)
  have hCle : s.heap.objs.size ≤ HP.objs.size := by rw [hC]; exact Nat.le_succ _
  have below : ∀ b, b < s.heap.objs.size → b ≠ HP.objs.size := fun b hb => by rw [hC]; exact Nat.ne_of_lt (Nat.lt_succ_of_lt hb)
  have old : ∀ b o, s.heap.get? b = some o → h₁.get? b = some o := fun b o e => hsb₁.extBut b o (below b (Heap.lt_size e)) (Heap.get?_push_of_some _ (hH2 ▸ Heap.get?_push_of_some _ e))
  have hacc : h₁.get? s.heap.objs.size = some { cls := .type "list", data := .seq ([] : List Value).toArray } := hsb₁.extBut _ _ hDC (Heap.get?_push_of_some _ (hH2 ▸ Heap.get?_push_size _ rfl))
  generalize eD : s.heap.objs.size = D at hDC hacc
  generalize eC : HP.objs.size = C at *
  have hDf : H D = none := by rw [← eD]; exact I.hok.fresh (Nat.le_refl _)
  have hKD : X.K.lookup D = none := by rw [← eD]; exact Inv.kfresh I
  have hCf : H C = none := I.hok.fresh hCle
  have hfo : ∀ b ∈ fp, ∃ o, s.heap.get? b = some o := fun b hb => let ⟨o, e, _⟩ := T.obj 0 s.heap st b hb; ⟨o, e⟩
  have leD : s.heap.objs.size ≤ D := Nat.le_of_eq eD
  have okk : HOk X.prog X.w (L2.upd H D (.lst [])) h₁ := I.hok.laid old leD ⟨Nat.zero_le _, [], 0, .nil, hacc⟩
  have upCD : ∀ o, L2.upd H D o C = none := fun o => by rw [upd_ne (Ne.symm hDC)]; exact hCf
  have I1 : Inv (cxComp X sc ns xs C s H fp (noteX X sc ns RR D C)) [] (List.replicate xs.length none ++ js.map (getS σ)) (L2.upd H D (.lst [])) { s with heap := h₁, toks := s.toks + ([] : List (Str × Value)).length } :=
    Inv.comp I S hj hfp hfo hCle rfl I.bare old hns₁ (upCD _) (Same.upd hDf) (fun b o e n => by rw [upd_ne (fun z => absurd (Heap.lt_size e) (by rw [z]; exact Nat.not_lt.mpr leD))]; exact n) okk
  -- what the block may not use: the lists of others, and its own
  have nl : ∀ {a : Addr} {ws : List V}, SqL X.K H a ws → a ≠ D := fun {a ws} q z => by
    subst z
    rcases q with (q | ⟨o, q⟩) | ⟨o, its, n, q, _⟩
    · rw [hDf] at q; cases q
    · rw [hDf] at q; cases q
    · rw [hKD] at q; cases q
  let W' : Own := ⟨fun a => W.bad false a ∨ a = D, fun _ => none, W.S⟩
  have bad' : ∀ t a, W'.bad t a ↔ (W.bad t a ∨ a = D) := fun t a => ⟨fun z => by
    rcases z with (z | z) | ⟨_, q⟩ | ⟨z1, z2⟩
    · exact .inl (Own.bad_up z)
    · exact .inr z
    · cases q
    · exact .inl (.inr (.inr ⟨z1, z2⟩)), fun z => by
    rcases z with z | z
    · rcases z with z | z | z
      · exact .inl (.inl (.inl z))
      · exact .inl (.inl (.inr (.inl z)))
      · exact .inr (.inr z)
    · exact .inl (.inr z)⟩
  have hT : ∀ {H' : Hp}, Same H H' → ∀ a vs, SqT X.K H a vs → SqT X.K H' a vs := fun sm a vs q => SqT.same sm q
  have hL : ∀ {H' : Hp}, Same H H' → ∀ t a vs, ¬ W.bad t a → SqG X.K H t a vs → ¬ W'.bad t a ∧ SqG X.K H' t a vs := fun sm t a vs n q => ⟨fun z => ((bad' t a).mp z).elim n (nl q.1), q.same sm⟩
  have relC : Rel (cxComp X sc ns xs C s H fp (noteX X sc ns RR D C)) W' (L2.upd H D (.lst [])) (List.replicate xs.length none ++ js.map (getS σ)) (List.replicate xs.length none ++ js.map (getV ρ)) := by
    have sm : Same H (L2.upd H D (.lst [])) := Same.upd hDf
    have at_ : ∀ {i : Nat} {z : Sl}, (List.replicate xs.length none ++ js.map (getV ρ))[i]? = some (some z) → ¬ i < xs.length ∧ (js.map (getV ρ))[i - xs.length]? = some (some z) := fun {i z} h => by
      by_cases hi : i < xs.length
      · rw [List.getElem?_append_left (by simpa using hi), List.getElem?_replicate, if_pos hi] at h
        cases h
      · rw [List.getElem?_append_right (by simpa using hi)] at h
        exact ⟨hi, by simpa using h⟩
    refine ⟨fun i d h => ?_, fun i x h => ?_, fun i j a h _ => (by cases h), fun i a h => (by cases h), fun i a h => (by cases h), fun a h => ?_, fun a h => ?_, sm, r.tab.same sm⟩
    · obtain ⟨hi, h'⟩ := at_ h
      rw [List.getElem?_map] at h'
      cases e : js[i - xs.length]? with
      | none => rw [e] at h'; cases h'
      | some j =>
        rw [e] at h'
        have h4 : getV ρ j = some (.val d) := Option.some.inj h'
        have h5 : ρ[j]? = some (some (.val d)) := by
          unfold getV at h4
          split at h4
          · rename_i u q
            cases h4
            exact q
          · cases h4
        obtain ⟨v, e1, e2⟩ := r.val j d h5
        refine ⟨v, ?_, Den.map (hT sm) (hL sm) (fun a _ q => sm a _ q) d v e2⟩
        rw [List.getElem?_append_right (by simpa using hi)]
        show (js.map (getS σ))[i - (List.replicate xs.length (none : Option V)).length]? = some (some v)
        rw [List.length_replicate, List.getElem?_map, e]
        show some (getS σ j) = some (some v)
        unfold getS
        rw [e1]
    · obtain ⟨hi, h'⟩ := at_ h
      rw [List.getElem?_map] at h'
      cases e : js[i - xs.length]? with
      | none => rw [e] at h'; cases h'
      | some j =>
        rw [e] at h'
        have h4 : getV ρ j = some (.ob x) := Option.some.inj h'
        unfold getV at h4
        split at h4 <;> cases h4
    · rcases h with h | h
      · obtain ⟨o, q⟩ := r.tracked false a h
        exact sm.ex q
      · rw [h]; exact ⟨_, upd_same⟩
    · obtain ⟨o, q⟩ := r.st a h
      exact sm.ex q
  have statC : ∀ {H' : Hp}, (∀ b ∈ fp, H' b = none) → ∀ b ∈ fp, FpOk (cxComp X sc ns xs C s H fp (noteX X sc ns RR D C)) [] H' b := fun hn b hb => by
    obtain ⟨f0, f1, f2, f3, f4, f5⟩ := hfp b hb
    obtain ⟨o, ho⟩ := hfo b hb
    refine ⟨hn b hb, fun z => ?_, fun z => ?_, .inl hb, fun y c e z => f4 y c (clOf_sub e) z, fun p hp => absurd (show p ∈ ([] : List (Addr × Obj)) from hp) (by simp)⟩
    · have z' : b = C := z
      have hlt := Heap.lt_size ho
      rw [z'] at hlt
      exact absurd (Nat.lt_of_lt_of_le hlt hCle) (Nat.lt_irrefl _)
    · rcases List.mem_cons.mp (I.stkSub b z) with e | e
      · exact f1 e
      · exact f2 e
  have hch : ∀ b ∈ fp, (b ∈ X.ex ∨ X.s₀.heap.objs.size ≤ b) ∧ b ≠ X.env.locals ∧ (∀ x c, X.env.cells.lookup x = some c → c ≠ b) ∧ ∀ p ∈ X.pn ++ pins, p.1 ≠ b := fun b hb => by
    obtain ⟨f0, f1, f2, f3, f4, f5⟩ := hfp b hb
    exact ⟨f3, f1, f4, f5⟩
  have loop : ∀ s₃ : Shared, s₃ = { s with heap := h₁, toks := s.toks + ([] : List (Str × Value)).length } →
      codeAny (model X.prog X.w) X.A (.compLoop (.ListComp elt [⟨tg, iter, ifs, 0⟩] sc pos) 0 (.ref it) (.ref D) (compEnvC sc (clOf X.env ns) C X.env)) (RR (.ref D) C) s₃ := by
    rintro s₃ rfl
    refine compLoopG (fun n s' => ∃ (i : Nat) (W2 : Own) (σ2 : St) (ρ2 : Ro) (H' : Hp) (out : List PD.D) (vs : List V), n = ds.length - i ∧ i ≤ ds.length ∧ Inv (cxComp X sc ns xs C s H fp (noteX X sc ns RR D C)) [] σ2 H' s' ∧ tn i s'.heap ∧ (∀ b ∈ fp, H' b = none) ∧
      H' D = some (.lst vs) ∧ (W2.B = W'.B ∧ W2.S = W'.S) ∧ Dens X.K W2.bad H' out vs ∧ Same H H' ∧ Rel (cxComp X sc ns xs C s H fp (noteX X sc ns RR D C)) W2 H' σ2 ρ2 ∧ CapR xs.length (js.map (getV ρ)) ρ2 ∧ Pv i out ∧ out.length ≤ i) ?_ ds.length
      ⟨0, W', _, _, _, [], [], by simp, Nat.zero_le _, I1, T.keep 0 s.heap h₁ st (fun b hb o e => old b o e), fun b hb => ?_, upd_same, ⟨rfl, rfl⟩, Dens.nil, Same.upd hDf, relC, ⟨_, by simp, rfl⟩, p0, Nat.le_refl _⟩
    rotate_left
    · obtain ⟨o, ho⟩ := hfo b hb
      rw [upd_ne (fun z => absurd (Heap.lt_size ho) (by rw [z]; exact Nat.not_lt.mpr leD))]
      exact (hfp b hb).1
    rintro n s3 ⟨i, W2, σ2, ρ2, H3, out, vs, en, hle, I3, st3, fr3, hD3, hW2, hds3, sm3, rl3, cap3, p3, ol⟩
    have nb2 : ∀ {W3 : Own} {H' : Hp} {σ3 : St} {ρ3 : Ro}, (W3.B = W'.B ∧ W3.S = W'.S) → Rel (cxComp X sc ns xs C s H fp (noteX X sc ns RR D C)) W3 H' σ3 ρ3 → Same H H' → ∀ t a vs, ¬ W.bad t a → SqG X.K H t a vs → ¬ W3.bad t a ∧ SqG X.K H' t a vs := fun {W3 H' σ3 ρ3} hw rl sm t a vs n q => by
      refine ⟨fun z => ?_, q.same sm⟩
      rcases z with z | ⟨k, z⟩ | ⟨z1, z2⟩
      · rw [hw.1] at z
        exact (hL sm t a vs n q).1 (.inl z)
      · have h0 : H a = none := rl.ke k a z
        rcases q.1 with (q1 | ⟨o, q1⟩) | ⟨o, its, m, q1, _⟩
        · rw [h0] at q1; cases q1
        · rw [h0] at q1; cases q1
        · have kk : X.K.lookup a = none := (rl.kn k a z).1
          rw [kk] at q1; cases q1
      · rw [hw.2] at z2
        exact (hL sm t a vs n q).1 (.inr (.inr ⟨z1, z2⟩))
    obtain ⟨yg, yy, ys⟩ := yd W2.bad H3 (hT sm3) (nb2 hW2 rl3 sm3) (fun a _ q => sm3 a _ q) i
    by_cases hlt : i < ds.length
    · refine thn (T.item (cxComp X sc ns xs C s H fp (noteX X sc ns RR D C)) rfl rfl rfl hc i [] s3 _ H3 _ I3 (statC fr3) st3 (yg hlt)) fun rr s4 ⟨u, hr, h4⟩ => ?_
      subst hr
      refine thn h4 fun _ s5 ⟨x5, H5, I5, r5, y5, st5, fr5⟩ => ?_
      obtain ⟨e5, d, hd, hden⟩ := yy x5 H5 y5 hlt
      have I5' := I5.pinned (statC fr5) (T.obj _ _ st5)
      have rl5 := rl3.same e5
      have sm5 : Same H H5 := sm3.trans e5
      refine wpAny_mono (hg C s H fp _ _ s5 σ2 H5 W2 ρ2 d x5 u _ I5' rl5 r5 hden (step i d out ρ2 hd p3 cap3)) (fun _ s6 ⟨W6, σ6, H6, ρ6, I6, f6, rl6, cap6, q6⟩ => ?_) (fun _ _ z => z)
      have hW6 : W6.B = W'.B ∧ W6.S = W'.S := ⟨f6.B.trans hW2.1, f6.S.trans hW2.2⟩
      have sm6 : Same H H6 := ⟨fun b o e n => f6.kp b o (fun k z => by have h0 : H b = none := rl5.ke k b z; rw [e] at h0; cases h0) (sm5.kp b o e n) n, (fun b ps e => by obtain ⟨m1, e1⟩ := sm5.tb b ps e; obtain ⟨m2, e2⟩ := f6.tb b _ e1; exact ⟨m1 ++ m2, by rw [e2, Array.append_assoc]⟩), fun h => f6.ok (sm5.ok h)⟩
      have BD : W'.B D := .inr rfl
      have hD6 : H6 D = some (.lst vs) := f6.keep D _ (fun k z => (rl5.kn k D z).2.1.1 (by rw [hW2.1]; exact BD)) (e5 _ _ hD3)
      have hds6 := Dens.fwd rl5 rl6 f6 (hds3.same e5)
      have keepT : ∀ {σ7 : St} {H7 : Hp} {s7 : Shared}, Inv (cxComp X sc ns xs C s H fp (noteX X sc ns RR D C)) ([] ++ pinsAt fp s5.heap) σ7 H7 s7 → tn (i + 1) s7.heap ∧ ∀ b ∈ fp, H7 b = none := fun {σ7 H7 s7} I7 => by
        refine ⟨T.keep _ _ _ st5 fun b hb o e => (I7.pin (b, o) (List.mem_append_right _ (List.mem_append_right _ (mem_pinsAt hb e)))).1, fun b hb => ?_⟩
        obtain ⟨o, e, _⟩ := T.obj _ _ st5 b hb
        exact (I7.pin (b, o) (List.mem_append_right _ (List.mem_append_right _ (mem_pinsAt hb e)))).2.1
      refine wpAny_mono (ht C s H fp _ (hx D C) _ s6 _ H6 W6 _ _ I6 rl6 q6) (fun b s7 ⟨H7, I7, e7, q7⟩ => ?_) (fun _ _ z => z)
      cases b with
      | false =>
        rw [if_neg Bool.false_ne_true] at q7
        rw [if_neg Bool.false_ne_true]
        obtain ⟨t7, f7⟩ := keepT I7
        exact ⟨ds.length - (i + 1), by omega, i + 1, W6, σ6, ρ6, H7, out, vs, rfl, hlt, I7.unpinned, t7, f7, e7 _ _ hD6, hW6, hds6.same e7, sm6.trans e7, rl6.same e7, cap6, q7, by omega⟩
      | true =>
        rw [if_pos rfl] at q7
        rw [if_pos rfl]
        refine wpAny_mono (he C s H fp _ (hx D C) _ s7 _ H7 W6 _ _ I7 (rl6.same e7) q7) (fun u8 s8 ⟨v8, H8, e8, I8, r8, sm8, hd8, q8⟩ => ?_) (fun _ _ z => z)
        have sm78 := e7.trans sm8
        have hD8 := sm78 _ _ hD6
        have hds8 := hds6.same sm78
        have rl8 := (rl6.same e7).same sm8
        have BD6 : W6.B D := by rw [hW6.1]; exact BD
        refine wpAny_mono (mt_append (X := cxComp X sc ns xs C s H fp (noteX X sc ns RR D C)) _ s8 _ H8 (.ref D) [v8] (.ref D) [u8] (fun _ H' => H' = L2.upd H8 D (.lst (vs ++ [v8]))) I8 rfl (.cons r8 .nil) ⟨D, vs, v8, rfl, rfl, hD8, by rw [hds8.len]; omega, rfl⟩) (fun _ s9 ⟨v9, H9, I9, _, eH⟩ => ?_) (fun _ _ z => z)
        subst eH
        obtain ⟨t9, f9⟩ := keepT I9
        obtain ⟨rl9, dn9⟩ := rl8.mutB (vs' := vs ++ [v8]) BD6 hD8 hDf
        exact ⟨ds.length - (i + 1), by omega, i + 1, W6, σ6, ρ6, _, out ++ [e8], vs ++ [v8], rfl, hlt, I9.unpinned, t9, f9, upd_same, hW6, dn9 _ _ (hds8.append (Dens.one hd8)), (sm6.trans sm78).ins hDf hD8 True.intro True.intro, rl9, cap6, q8, by rw [List.length_append, List.length_singleton]; omega⟩
    · have e : i = ds.length := by omega
      refine thn (T.done (cxComp X sc ns xs C s H fp (noteX X sc ns RR D C)) rfl rfl rfl hc i [] s3 _ H3 _ I3 (statC fr3) st3 (ys (by omega))) fun rr s4 ⟨hr, I4⟩ => ?_
      subst hr
      subst e
      have Io : Inv X pins σ H3 s4 := I.call' I4.os I4.base I4.hok I4.bare hch
      obtain ⟨m, hm, _⟩ := I4.loc
      exact hRR D C s4 H3 m out Io sm3 hm I4.free (fun z => absurd I.lt (by rw [← z]; exact Nat.not_lt.mpr hCle)) (Nat.le_trans I.sz hCle) (fun y c e z => by
        obtain ⟨v, q⟩ := I.cell y c e
        exact absurd q.lt (by rw [z]; exact Nat.not_lt.mpr hCle)) (fun p hp z => absurd (Heap.lt_size (I.pin p hp).1) (by rw [z]; exact Nat.not_lt.mpr hCle))
        ⟨hDf, hKD, _, hD3, hds3.fewer fun t a z => (by
          rcases (bad' t a).mpr z with q | ⟨k, q⟩ | q
          · exact .inl (by rw [hW2.1]; exact q)
          · cases q
          · exact .inr (.inr ⟨q.1, by rw [hW2.2]; exact q.2⟩))⟩ p3
  exact codeAny_compStart_list (loop _ rfl) (T.self _ 0 _ _ _ (T.keep 0 s.heap h₁ st (fun b hb o e => old b o e)) (loop _ rfl))
theorem gd_nameC {X : Cx} {sc : Scope} {ns : List Str} {x : Str} {px : Pos} {C : Addr} {s₂ : Shared} {H₂ : Hp} {fp : List Addr} {XE : Value → Shared → Prop} (S : CSc X.env.scope sc [x] ns) : PGD (cxComp X sc ns [x] C s₂ H₂ fp XE) (.Name x px) (gdName 0) :=
  have tl : (compEnvC sc (clOf X.env ns) C X.env).scope.names.lookup x = some .local := lookup_relabel_local (S.tgt x (by simp))
  gd_name (X := cxComp X sc ns [x] C s₂ H₂ fp XE) 0 S.nd rfl (.inl tl) (.inr tl)
theorem step1 {ds : List D} {Pv : Nat → List D → Prop} {tc : DT} {te : DE} {cap : Ro} (step : ∀ j d out, ds[j]? = some d → Pv j out → tc (some (.val d) :: cap) fun b => if b = true then te (some (.val d) :: cap) (fun e => Pv (j + 1) (out ++ [e])) else Pv (j + 1) out) :
    ∀ j d out ρ1, ds[j]? = some d → Pv j out → CapR 1 cap ρ1 → gdName 0 d ρ1 fun ρ2 => CapR 1 cap ρ2 ∧ tc ρ2 fun b => if b = true then te ρ2 (fun e => Pv (j + 1) (out ++ [e])) else Pv (j + 1) out := by
  rintro j d out ρ1 hd hp ⟨r0, hl, rfl⟩
  match r0, hl with
  | [a], _ => exact ⟨⟨[some (.val d)], rfl, rfl⟩, step j d out hd hp⟩
/-- the list of a block: a word by the turn and what has been told -/
def dComp (wi : DA) (js : List Nat) (tc : DT) (te : DE) : DE := fun ρ Q => wi ρ fun ds => ds.length ≤ sizeLine ∧ ∃ Pv : Nat → List D → Prop, Pv 0 [] ∧
  (∀ j d out, ds[j]? = some d → Pv j out → tc (some (.val d) :: js.map (getV ρ)) fun b => if b = true then te (some (.val d) :: js.map (getV ρ)) (fun e => Pv (j + 1) (out ++ [e])) else Pv (j + 1) out) ∧ ∀ out, Pv ds.length out → Q (.lst true out)
/-- where the body's names stand that the block uses -/
def Caps (N : List Str) (ns : List Str) (js : List Nat) : Prop := js.length = ns.length ∧ ∀ (i : Nat) (j : Nat) (n : Str), js[i]? = some j → ns[i]? = some n → N[j]? = some n
theorem Caps.nil {N : List Str} : Caps N [] [] := ⟨rfl, fun i j n h => by simp at h⟩
theorem Caps.cons {N ns : List Str} {js : List Nat} {n : Str} (j : Nat) (h : Caps N ns js) (e : N[j]? = some n := by rfl) : Caps N (n :: ns) (j :: js) := ⟨by simp [h.1], fun i j' m h1 h2 => by
  cases i with
  | zero => simp at h1 h2; subst h1 h2; exact e
  | succ i => exact h.2 i j' m (by simpa using h1) (by simpa using h2)⟩
variable {elt iter : Expr} {ifs : List Expr} {px pos : Pos} {te : DE} {tc : DT} {wi : DA} {x : Str}
theorem de_comp (hc : X.calm = true) (S : CSc X.env.scope sc [x] ns) (hj : Caps X.N ns js) (hi : PID X (.Name x px) iter wi) (ht : ∀ (C : Addr) (s₂ : Shared) (H₂ : Hp) (fp : List Addr) (XE : Value → Shared → Prop), TsD (cxComp X sc ns [x] C s₂ H₂ fp XE) ifs tc)
    (he : ∀ (C : Addr) (s₂ : Shared) (H₂ : Hp) (fp : List Addr) (XE : Value → Shared → Prop), PED (cxComp X sc ns [x] C s₂ H₂ fp XE) elt te) (hclos : closureFor sc X.env = pure (clOf X.env ns) := by rfl) (hs : ∀ x, foldedSetIterable iter X.env x = pure x := by intro _; rfl) :
    PED X (.ListComp elt [⟨.Name x px, iter, ifs, 0⟩] sc pos) (dComp wi js tc te) := by
  intro pins s σ H W ρ Q I r h
  rw [eval_ListComp]
  refine wpAny_comprehension_free (use := none) rfl hs hclos S.kind S.names (thn (hi pins s σ H W ρ _ I r h) fun v s1 h1 => thn h1 fun itv s2 h2 => ?_)
  obtain ⟨it, fp, tn, J, H2, ds, e, I2, e2, T, st2, f2, yd, hz, Pv, p0, step, fin⟩ := h2
  subst e
  refine comp_block (RR := fun acc C => compPost (model X.prog X.w) X.A X.xe none (DP X pins σ W H Q) acc C) hc S hj (Ed := fun _ => False) (fun C s₂ H₂ fp XE _ => he C s₂ H₂ fp XE) (fun C s₂ H₂ fp XE _ => ht C s₂ H₂ fp XE) (fun _ _ => PassX.no) I2 (r.same e2) (fun C s₂ H₂ fp XE => gd_nameC S) T st2 f2 yd hz Pv p0 (step1 step) ?_
  intro D C s' H' m' out I' sm hns hCn hC1 hC2 hC3 hC4 ⟨hn, hk, vs, hD, hds⟩ pv
  have hden : Den X.K W.bad H' (.lst true out) (.ref D) := Den.lst ((r.same e2).fresh hn) (.new hD hk) (hds.fewer fun _ _ z => .inl z)
  refine ⟨m', hns, fun h' hsb => ?_⟩
  exact ⟨.ref D, H', _, I'.turned (t' := s'.toks) (fun b o hb e => (hsb.2 b hb).trans e) hCn hC1 (.inr hC2) hC3 hC4, rfl, e2.trans sm, hden, fin out pv⟩
/-- y = [..]: the name is stored inside -/
theorem ds_setComp {y : Str} {py spos : Pos} (i : Nat) (hN : X.N.Nodup) (hc : X.calm = true) (S : CSc X.env.scope sc [x] ns) (hj : Caps X.N ns js) (hi : PID X (.Name x px) iter wi) (ht : ∀ (C : Addr) (s₂ : Shared) (H₂ : Hp) (fp : List Addr) (XE : Value → Shared → Prop), TsD (cxComp X sc ns [x] C s₂ H₂ fp XE) ifs tc)
    (he : ∀ (C : Addr) (s₂ : Shared) (H₂ : Hp) (fp : List Addr) (XE : Value → Shared → Prop), PED (cxComp X sc ns [x] C s₂ H₂ fp XE) elt te) (hy : X.N[i]? = some y := by rfl) (hly : X.env.scope.names.lookup y = some .local := by rfl) (hclos : closureFor sc X.env = pure (clOf X.env ns) := by rfl) (hs : ∀ x, foldedSetIterable iter X.env x = pure x := by intro _; rfl)
    (hsw : swapsWith (.ListComp elt [⟨.Name x px, iter, ifs, 0⟩] sc pos) (some (.Name y py)) spos.line X.env = pure true := by rfl) :
    PSD X (.Assign [.Name y py] (.ListComp elt [⟨.Name x px, iter, ifs, 0⟩] sc pos) spos) (dSet i (dComp wi js tc te)) := by
  intro pins s σ H W ρ E I r h
  rw [exec_Assign_Name_used _ _ _ _ hsw]
  refine wpAny_bind (wpAny_standAt (wpAny_bind ?_))
  show wpAny _ X.A (do let _ ← comprehension (.ListComp elt [⟨.Name x px, iter, ifs, 0⟩] sc pos) sc X.env _ (newList []) false (eval iter X.env) (some (assign (.Name y py) X.env))) _ _ s
  refine wpAny_bind (wpAny_mono (wpAny_comprehension_free (use := some (assign (.Name y py) X.env)) (Q := fun _ s' => SPD X pins W H E .next s') rfl hs hclos S.kind S.names
    (thn (hi pins s σ H W ρ _ I r h) fun v s1 h1 => thn h1 fun itv s2 h2 => ?_)) (fun _ s' hq => wpAny_pure (wpAny_pure hq)) fun _ _ e => e)
  obtain ⟨it, fp, tn, J, H2, ds, e, I2, e2, T, st2, f2, yd, hz, Pv, p0, step, fin⟩ := h2
  subst e
  refine comp_block (RR := fun acc C => compPost (model X.prog X.w) X.A X.xe (some (assign (.Name y py) X.env)) (fun _ s' => SPD X pins W H E .next s') acc C) hc S hj (Ed := fun _ => False) (fun C s₂ H₂ fp XE _ => he C s₂ H₂ fp XE) (fun C s₂ H₂ fp XE _ => ht C s₂ H₂ fp XE) (fun _ _ => PassX.no) I2 (r.same e2) (fun C s₂ H₂ fp XE => gd_nameC S) T st2 f2 yd hz Pv p0 (step1 step) ?_
  intro D C s' H' m' out I' sm hns hCn hC1 hC2 hC3 hC4 ⟨hn, hk, vs, hD, hds⟩ pv
  have hden : Den X.K W.bad H' (.lst true out) (.ref D) := Den.lst ((r.same e2).fresh hn) (.new hD hk) (hds.fewer fun _ _ z => .inl z)
  have rr := (r.same e2).same sm
  show wpAny _ X.A (assign (.Name y py) X.env (.ref D)) _ _ _
  refine wpAny_assign_Name (store_ok2 (v := .ref D) I' hN hy (.inl hly) rfl (fun s3 I3 ⟨a, hsb, ha⟩ => ?_) (.inr hly))
  have hne : C ≠ a := by
    rcases ha with z | z
    · rw [z]; exact hC1
    · exact fun q => hC3 y a z q.symm
  refine ⟨m', hns.sameBut hsb hne, fun h' hsb' => ?_⟩
  refine ⟨W.drop i, _, H', I3.turned (t' := s3.toks) (fun b o hb e => (hsb'.2 b hb).trans e) hCn hC1 (.inr hC2) hC3 hC4, (Fwd.same (e2.trans sm)).trans (Fwd.drop W H' i), _, rr.put (Inv.ilt I' hy) hden, fin out pv⟩
end
/-! ### a comprehension whose parts may raise -/
section
variable {X : Cx} {pins : List (Addr × Obj)} {σ : St} {H : Hp} {s : Shared} {sc : Scope} {ns : List Str} {js : List Nat} {xs : List Str} {fp : List Addr}
variable {elt iter : Expr} {ifs : List Expr} {px pos : Pos} {te : DE} {tc : DT} {wi : DA} {x : Str}
end
def cscB (osc sc : Scope) (xs ns : List Str) : Bool :=
  decide (sc.kind = .function) && (sc.names.all fun y => decide (y.2 ≠ .cell)) && (sc.names.all fun y => decide (y.2 = .local → sc.names.lookup y.1 = some .local)) && (xs.all fun x => decide (sc.names.lookup x = some .local)) &&
  (sc.names.all fun y => decide (y.2 = .free → y.1 ∈ ns ∧ osc.names.lookup y.1 = some .cell)) && (ns.all fun n => decide (sc.names.lookup n = some .free ∧ osc.names.lookup n = some .cell)) && decide (xs ++ ns).Nodup
theorem csc_dec {osc sc : Scope} {xs ns : List Str} (h : cscB osc sc xs ns = true) : CSc osc sc xs ns := by
  unfold cscB at h
  simp only [Bool.and_eq_true] at h
  obtain ⟨⟨⟨⟨⟨⟨h1, h2⟩, h3⟩, h4⟩, h5⟩, h6⟩, h7⟩ := h
  exact ⟨of_decide_eq_true h1, fun y hy => of_decide_eq_true (List.all_eq_true.mp h2 y hy), fun y hy => of_decide_eq_true (List.all_eq_true.mp h3 y hy), fun x hx => of_decide_eq_true (List.all_eq_true.mp h4 x hx), fun y hy => of_decide_eq_true (List.all_eq_true.mp h5 y hy), fun n hn => of_decide_eq_true (List.all_eq_true.mp h6 n hn), of_decide_eq_true h7⟩
end PD

namespace PD
open PySem PySem.Spec PyProof.Rows L2

/-! ## [elt for a, b, .. in iter if c] -/
inductive Nms : List Expr → List Str → Prop where
  | nil : Nms [] []
  | cons {x : Str} {p : Pos} {es : List Expr} {xs : List Str} (h : Nms es xs) : Nms (.Name x p :: es) (x :: xs)
section
variable {X : Cx} {sc : Scope} {ns xs : List Str} {js : List Nat}
theorem Nms.len {env : Env} : ∀ {es : List Expr} {ys : List Str}, Nms es ys → (assignEach es env).length = ys.length ∧ (assignEach es env).findIdx? (·.1) = none
  | _, _, .nil => ⟨rfl, rfl⟩
  | _, _, .cons (x := x) (p := p) (es := es) h => by
    obtain ⟨h1, h2⟩ := Nms.len (env := env) h
    have e : assignEach (.Name x p :: es) env = (false, assign (.Name x p) env) :: assignEach es env := rfl
    rw [e]
    refine ⟨by rw [List.length_cons, h1]; rfl, ?_⟩
    rw [List.findIdx?_cons, h2]
    rfl
variable {elt iter : Expr} {ifs es : List Expr} {kt : Nat} {tp pos : Pos} {te : DE} {tc : DT} {wi : DA}
end
end PD

namespace PD
open PySem PySem.Spec PyProof.Rows L2
theorem int_bl (k : Bool) (R : Int → Prop) (S : Bool → Prop) : ((∃ i : Int, [D.bl k] = [.int i] ∧ R i) ∨ ∃ j : Bool, [D.bl k] = [.bl j] ∧ S j) = S k := by
  apply propext
  constructor
  · rintro (⟨_, e, _⟩ | ⟨_, e, q⟩)
    · cases e
    · cases e; exact q
  · intro q; exact .inr ⟨k, rfl, q⟩
theorem okD_bl (b : Bool) : okD (.bl b) := by unfold okD; rw [pyD, plD] <;> first | exact ⟨rfl, rfl⟩ | (intros; contradiction)
theorem okD_int' (i : Int) : okD (.int i) = True := eq_true (okD_int i)
theorem okD_bl' (b : Bool) : okD (.bl b) = True := eq_true (okD_bl b)
theorem okD_non' : okD .non = True := eq_true okD_non
theorem eqD_int (i j : Int) : eqD (.int i) (.int j) = decide (i = j) := by
  unfold eqD
  rw [pyD, pyD]
  rfl
theorem eqD_bl (i j : Bool) : eqD (.bl i) (.bl j) = decide (i = j) := by
  unfold eqD
  rw [pyD, pyD]
  cases i <;> cases j <;> rfl
theorem it_lst (t : Bool) (xs : List D) (R : List D → Prop) : (∃ t' ds, D.lst t xs = .lst t' ds ∧ R ds) = R xs := by
  apply propext
  constructor
  · rintro ⟨_, _, e, q⟩; cases e; exact q
  · intro q; exact ⟨t, xs, rfl, q⟩
theorem exown_0 (ds : List D) (r : Ro) (R : List D → Prop) : (∃ ds', (some (Sl.own ds) :: r)[0]? = some (some (Sl.own ds')) ∧ R ds') = R ds := by
  apply propext
  constructor
  · rintro ⟨_, e, q⟩
    have e' : some (some (Sl.own ds)) = some (some (Sl.own _)) := e
    cases e'
    exact q
  · intro q; exact ⟨ds, rfl, q⟩
theorem exown_S (n : Nat) (x : Option Sl) (r : Ro) (R : List D → Prop) : (∃ ds', (x :: r)[n + 1]? = some (some (Sl.own ds')) ∧ R ds') = (∃ ds', r[n]? = some (some (Sl.own ds')) ∧ R ds') := rfl
theorem getV_0 (d : D) (r : Ro) : getV (some (.val d) :: r) 0 = some (.val d) := rfl
theorem getV_n (r : Ro) : getV (none :: r) 0 = none := rfl
theorem getV_S (n : Nat) (x : Option Sl) (r : Ro) : getV (x :: r) (n + 1) = getV r n := rfl
end PD

namespace PD
open PySem PySem.Spec PyProof.Rows L2

theorem bd_fdiv {n : Nat} {t g : Int} (hg : g ≠ 0) (hd : g ∣ t) (h : Bd n t) : Bd n (t.fdiv g) := Nat.lt_of_le_of_lt (PM.fdiv_abs_le hg hd) h
theorem bd_dv3 {n : Nat} {x y z l : Int} (h : ¬ (x = 0 ∧ y = 0 ∧ z = 0)) (hx : Bd n x) (hy : Bd n y) (hz : Bd n z) : Bd n (PM.dv3 x y z l) := by
  unfold Bd at *
  rw [PM.dv3_abs]
  have d1 := Int.natAbs_dvd_natAbs.mpr (PM.g3_1 x y z)
  have d2 := Int.natAbs_dvd_natAbs.mpr (PM.g3_2 x y z)
  have d3 := Int.natAbs_dvd_natAbs.mpr (PM.g3_3 x y z)
  simp only [Int.natAbs_natCast] at d1 d2 d3
  by_cases h1 : x = 0
  · by_cases h2 : y = 0
    · have h3 : z ≠ 0 := fun e => h ⟨h1, h2, e⟩
      have := Nat.le_of_dvd (by omega) d3
      omega
    · have := Nat.le_of_dvd (by omega) d2
      omega
  · have := Nat.le_of_dvd (by omega) d1
    omega
theorem bd_cross {a b c d : Int} (ha : Bd 200 a) (hb : Bd 200 b) (hc : Bd 200 c) (hd : Bd 200 d) : Bd 1000 (a * b - c * d) := ((ha.mul hb).sub (hc.mul hd)).mono (by decide)
def sg (n : Int) : Int := if 0 < n then 1 else if n < 0 then -1 else 0
def rk (a0 a1 a2 b0 b1 b2 : Int) : Int := if sg (a1 * b0 - b1 * a0) = 0 then sg (a2 * b0 - b2 * a0) else sg (a1 * b0 - b1 * a0)
/-- a place in lowest terms -/
structure Pl (n : Nat) (a b c : Int) : Prop where
  pos : 0 < a
  low : PM.g3 a b c = 1
  b0 : Bd n a
  b1 : Bd n b
  b2 : Bd n c
theorem Pl.mono {m n : Nat} {a b c : Int} (h : Pl m a b c) (l : m ≤ n) : Pl n a b c := ⟨h.pos, h.low, h.b0.mono l, h.b1.mono l, h.b2.mono l⟩
structure GoodP (d : D) (b x y : Int) : Prop where
  ex : ∃ p q r, d = T3 p q r ∧ Bd 4000 p ∧ Bd 4000 q ∧ Bd 4000 r ∧ 0 < p ∧ p * x = b * q ∧ p * y = b * r ∧ PM.g3 p q r = 1
end PD

namespace PZ
open PySem PySem.Spec PyProof.Rows
/-! ## zip of two sequences, each a list (k = true) or a tuple (k = false) -/
def SIt : Bool → Heap → Addr → Addr → Nat → Prop
  | true, h, it, a, i => h.IsListIter it a i
  | false, h, it, a, i => h.IsTupleIter it a i
def SSq : Bool → Heap → Addr → Array Value → Prop
  | true, h, a, xs => h.IsList a xs
  | false, h, a, xs => h.IsTuple a xs
def itName : Bool → String
  | true => "list_iterator"
  | false => "tuple_iterator"
section
variable {k : Bool} {h h' : Heap} {it a b : Addr} {i : Nat} {xs : Array Value}
theorem SIt.of (x : SIt k h it a i) (e : ∀ o, h.get? it = some o → h'.get? it = some o) : SIt k h' it a i := by
  cases k with
  | true => obtain ⟨o, ho, r⟩ := x; exact ⟨o, e o ho, r⟩
  | false => obtain ⟨o, ho, r⟩ := x; exact ⟨o, e o ho, r⟩
theorem SSq.of (x : SSq k h a xs) (e : ∀ o, h.get? a = some o → h'.get? a = some o) : SSq k h' a xs := by
  cases k with
  | true => obtain ⟨o, ho, r⟩ := x; exact ⟨o, e o ho, r⟩
  | false => obtain ⟨o, ho, r⟩ := x; exact ⟨o, e o ho, r⟩
theorem SIt.obj (x : SIt k h it a i) : ∃ o, h.get? it = some o ∧ o.cls = .type (itName k) ∧ o.data = .fields #[.ref a, .int i 0] := by
  cases k with
  | true => exact x
  | false => exact x
theorem SSq.obj (x : SSq k h a xs) : ∃ o n, h.get? a = some o ∧ o.data = .seq xs n := by
  cases k with
  | true => obtain ⟨o, ho, _, n, r⟩ := x; exact ⟨o, n, ho, r⟩
  | false => obtain ⟨o, ho, _, n, r⟩ := x; exact ⟨o, n, ho, r⟩
end
section
variable {prog : Program} {w : World} {A : Around} {E : Value → Shared → Prop} {s : Shared} {k : Bool} {it a : Addr} {i : Nat} {xs : Array Value}
theorem next1 {x : Value} {Q : Value → Shared → Prop} (hi : SIt k s.heap it a i) (hs : SSq k s.heap a xs) (hx : xs[i]? = some x) (hQ : ∀ h', SIt k h' it a (i + 1) → Heap.SameBut it s.heap h' → Q x { s with heap := h' }) :
    wpAny (model prog w) A (Builtin.SmallTypes.nextOf (.ref it)) Q E s := by
  cases k with
  | true => exact wpAny_nextOf_list_item hi hs hx hQ
  | false =>
    obtain ⟨o, ho, hc, hd⟩ := id hi
    obtain ⟨oq, hq, _, nq, hdq⟩ := hs
    unfold Builtin.SmallTypes.nextOf
    refine wpAny_bind (wpAny_callSpecial?_slot (name := Str.ofString "__next__") (Heap.IsTupleIter.typeIs hi) F.slot_tuple_iterator_next (wpAny_call_entry F.slot_tuple_iterator_next (Heap.IsTupleIter.typeIs hi) F.entry_tuple_iterator_next ?_ (F.args_tuple_iterator_next_1 _)))
    show wpAny _ _ (field (.ref it) 0 >>= _) _ _ s; refine wpAny_bind (wpAny_field ho hd (x := .ref a) rfl ?_)
    show wpAny _ _ (if (Value.ref a == Value.none) = true then _ else _) _ _ s; rw [if_neg (show ¬ ((Value.ref a == Value.none) = true) from Bool.false_ne_true)]
    show wpAny _ _ (field (.ref it) 1 >>= _) _ _ s; refine wpAny_bind (wpAny_field ho hd (x := .int i 0) rfl ?_)
    show wpAny _ _ (seqItems? (.ref a) >>= _) _ _ s; refine wpAny_bind (wpAny_seqItems hq hdq ?_); simp only [Int.toNat_natCast, hx]
    refine wpAny_bind (wpAny_setField ho hd (by simp) (wpAny_pure ⟨x, rfl, wpAny_pure (hQ _ ⟨_, Heap.get?_update_self _ ho (Obj.isFreed_of_fields (Obj.data_mapFields hd _)), (Obj.cls_mapFields ..).trans hc, by rw [Obj.data_mapFields hd]; simp [rawInt]⟩ (Heap.SameBut.update ..))⟩))
theorem next0 {Q : Value → Shared → Prop} (hh : A.handled = none) (hi : SIt k s.heap it a i) (hs : SSq k s.heap a xs) (hx : xs[i]? = none)
    (hE : ∀ h' e, Heap.ExtBut it s.heap h' → (∃ o, h'.get? e = some o ∧ o.cls = .type "StopIteration") → E (.ref e) { s with heap := h' }) : wpAny (model prog w) A (Builtin.SmallTypes.nextOf (.ref it)) Q E s := by
  cases k with
  | true => exact wpAny_nextOf_list_end hh hi hs hx hE
  | false =>
    obtain ⟨o, ho, hc, hd⟩ := id hi
    obtain ⟨oq, hq, _, nq, hdq⟩ := hs
    unfold Builtin.SmallTypes.nextOf
    refine wpAny_bind (wpAny_callSpecial?_slot (name := Str.ofString "__next__") (Heap.IsTupleIter.typeIs hi) F.slot_tuple_iterator_next (wpAny_call_entry F.slot_tuple_iterator_next (Heap.IsTupleIter.typeIs hi) F.entry_tuple_iterator_next ?_ (F.args_tuple_iterator_next_1 _)))
    show wpAny _ _ (field (.ref it) 0 >>= _) _ _ s; refine wpAny_bind (wpAny_field ho hd (x := .ref a) rfl ?_)
    show wpAny _ _ (if (Value.ref a == Value.none) = true then _ else _) _ _ s; rw [if_neg (show ¬ ((Value.ref a == Value.none) = true) from Bool.false_ne_true)]
    show wpAny _ _ (field (.ref it) 1 >>= _) _ _ s; refine wpAny_bind (wpAny_field ho hd (x := .int i 0) rfl ?_)
    show wpAny _ _ (seqItems? (.ref a) >>= _) _ _ s; refine wpAny_bind (wpAny_seqItems hq hdq ?_); simp only [Int.toNat_natCast, hx]
    refine wpAny_bind (wpAny_rule (wpAny_bind (wpAny_setField ho hd (by simp) ?_))); show wpAny _ _ (newExc (.type "StopIteration") [] >>= _) _ _ _
    refine wpAny_bind ?_; simp only [newExc, newTuple]; refine wpAny_bind (wpAny_newObj_type ?_ (by size_fits))
    refine wpAny_bind (m := firstArgMember _ _) (wpAny_of_eq (a := Value.none) (by simp only [firstArgMember]; rfl) ?_); refine wpAny_newObj_type ?_ (by size_fits)
    simp only [raiseNew]; refine wpAny_bind (wpAny_handled ?_); first | rw [show A.in1.handled = none from hh] | rw [hh]
    exact wpAny_bind (wpAny_pure (wpAny_throw (hE _ _ (((Heap.SameBut.update ..).extBut.push _).push _) ⟨_, Heap.get?_push_size _ rfl, rfl⟩)))
end
/-- the zip's own objects stand apart -/
structure Ap (z TI TO i1 i2 : Addr) : Prop where
  a1 : TI ≠ z
  a2 : TO ≠ z
  a3 : i1 ≠ z
  a4 : i2 ≠ z
  a5 : TI ≠ TO
  a6 : TI ≠ i1
  a7 : TI ≠ i2
  a8 : TO ≠ i1
  a9 : TO ≠ i2
  b1 : i1 ≠ i2
structure Out (z TO i1 i2 l : Addr) : Prop where
  c1 : l ≠ z
  c2 : l ≠ TO
  c3 : l ≠ i1
  c4 : l ≠ i2
/-- ahead of turn i -/
structure ZSt (k1 k2 : Bool) (z TI TO i1 i2 l1 l2 : Addr) (i : Nat) (h : Heap) : Prop where
  z : IsZip h z TI TO .none
  ti : IsPair h TI (.ref i1) (.ref i2)
  to : ∃ a b, IsPair h TO a b
  s1 : SIt k1 h i1 l1 i
  s2 : SIt k2 h i2 l2 i
section
variable {prog : Program} {w : World} {A : Around} {E : Value → Shared → Prop} {s : Shared} {k1 k2 : Bool} {z TI TO i1 i2 l1 l2 : Addr} {i : Nat} {xs ys : Array Value}
end
section
variable {prog : Program} {w : World} {A : Around} {E : Value → Shared → Prop} {s : Shared} {k1 k2 : Bool} {l1 l2 : Addr} {xs ys : Array Value}
end
end PZ

namespace PD
open PySem PySem.Spec PyProof.Rows L2 PZ
/-! ## for a, b in zip(x, y) -/
def SqK (K : PySem.W.Frag) : Bool → Hp → Addr → List V → Prop
  | true => SqL K
  | false => SqT K
section
variable {X : Cx} {pins : List (Addr × Obj)} {σ : St} {H : Hp} {s : Shared} {k : Bool} {a : Addr} {xs : List V}
theorem SqK.list (I : Inv X pins σ H s) (h : SqK X.K k H a xs) : ∃ its : List Value, Vals xs its ∧ SSq k s.heap a its.toArray := by
  cases k with
  | true =>
    obtain ⟨its, r, p, _⟩ := I.list h
    exact ⟨its, r, p.isList⟩
  | false =>
    obtain ⟨its, r, p, _⟩ := I.tuple h
    exact ⟨its, r, p⟩
theorem SqK.inj (I : Inv X pins σ H s) {ys : List V} (h : SqK X.K k H a xs) (h' : SqK X.K k H a ys) : xs = ys := by
  cases k with
  | true => exact I.list_inj h h'
  | false => exact I.tuple_inj h h'
theorem SqK.ne (I : Inv X pins σ H s) {b : Addr} (f : FpOk X pins H b) (h : SqK X.K k H a xs) : a ≠ b := fun e => by
  subst e
  obtain ⟨f0, f1, f2, f3, f4, f5⟩ := f
  have kn : ∀ o, X.K.lookup a = some o → False := fun o q => by
    have hb := I.ok.mod.kin a o q
    rcases f3 with z | z
    · exact I.ok.noex a o hb z
    · exact absurd (Nat.lt_of_lt_of_le (Heap.lt_size (I.ok.bs a o hb).1) z) (Nat.lt_irrefl _)
  cases k with
  | true =>
    rcases h with (h | ⟨o, h⟩) | ⟨o, its, n, h, _⟩
    · rw [f0] at h; cases h
    · rw [f0] at h; cases h
    · exact kn o h
  | false =>
    rcases h with (h | ⟨o, h⟩) | ⟨o, its, n, h, _⟩
    · rw [f0] at h; cases h
    · rw [f0] at h; cases h
    · exact kn o h
end
/-- a sequence's items -/
def seqD : D → Option (Bool × List D)
  | .lst _ ds => some (true, ds)
  | .tup ds => some (false, ds)
  | _ => none
section
variable {X : Cx}
theorem Den.seq {P : Bool → Addr → Prop} {H : Hp} {d : D} {v : V} {k : Bool} {ds : List D} (h : Den X.K P H d v) (e : seqD d = some (k, ds)) : ∃ a vs, v = .ref a ∧ SqK X.K k H a vs ∧ Dens X.K P H ds vs ∧
    ∀ (P' : Bool → Addr → Prop) (H' : Hp), (∀ a vs, SqT X.K H a vs → SqT X.K H' a vs) → (∀ t a vs, ¬ P t a → SqG X.K H t a vs → ¬ P' t a ∧ SqG X.K H' t a vs) → SqK X.K k H' a vs := by
  cases d with
  | lst t es =>
    cases e
    obtain ⟨a, vs, e1, p, q, hd⟩ := h.lstG_
    exact ⟨a, vs, e1, q.1, hd, fun P' H' _ hL => (hL t a vs p q).2.1⟩
  | tup es =>
    cases e
    obtain ⟨a, vs, e1, q, hd⟩ := h.tup_
    exact ⟨a, vs, e1, q, hd, fun P' H' hT _ => hT a vs q⟩
  | non => cases e
  | bl _ => cases e
  | int _ => cases e
  | str _ => cases e
  | exc _ => cases e
end
end PD

namespace PD
open PySem PySem.Spec PyProof.Rows L2

/-! ## Lists just made: they may become one's own -/
/-- the value is a list that was not there ahead of the expression -/
def PEF (X : Cx) (e : Expr) (t : DA) : Prop :=
  ∀ (pins : List (Addr × Obj)) (s : Shared) (σ : St) (H : Hp) (W : Own) (ρ : Ro) (Q : List D → Prop), Inv X pins σ H s → Rel X W H σ ρ → t ρ Q →
    wpAny (model X.prog X.w) X.A (eval e X.env) (fun u s' => ∃ a vs H' ds, u = .ref a ∧ Inv X pins σ H' s' ∧ Same H H' ∧ H a = none ∧ X.K.lookup a = none ∧ H' a = some (.lst vs) ∧ Dens X.K (fun t b => W.bad t b ∨ b = a) H' ds vs ∧ Q ds) X.xe s
def dNew (t : DA) : DE := fun ρ Q => t ρ fun ds => Q (.lst true ds)
section
variable {X : Cx} {e : Expr} {t : DA} {pos : Pos}
theorem PEF.ped (h : PEF X e t) : PED X e (dNew t) := by
  intro pins s σ H W ρ Q I r hw
  refine thn (h pins s σ H W ρ _ I r hw) fun u s1 ⟨a, vs, H', ds, e, I1, sm, n, k, ha, hd, q⟩ => ?_
  subst e
  exact ⟨.ref a, H', _, I1, rfl, sm, Den.lst (r.fresh n) (.new ha k) (hd.fewer fun _ _ z => .inl z), q⟩
/-- from a rule that lays one list -/
theorem PEF.of {te : TE} (h : PE X e te) (k : ∀ σ H W ρ Q, Rel X W H σ ρ → t ρ Q → te σ H fun v H' => ∃ a vs ds H1, v = .ref a ∧ Same H H1 ∧ H1 a = none ∧ H' = L2.upd H1 a (.lst vs) ∧ Dens X.K W.bad H1 ds vs ∧ Q ds) (hK : ∀ pins σ H s a vs, Inv X pins σ H s → H a = some (.lst vs) → X.K.lookup a = none) : PEF X e t := by
  intro pins s σ H W ρ Q I r hw
  refine thn (h pins s σ H _ I (k σ H W ρ Q r hw)) fun u s1 ⟨v, H', I1, rv, a, vs, ds, H1, e, sm, n, eH, hd, q⟩ => ?_
  subst e eH
  cases rv
  exact ⟨a, vs, _, ds, rfl, I1, sm.trans (Same.upd n), sm.free n, hK _ _ _ _ a vs I1 upd_same, upd_same, Dens.apart n (hK _ _ _ _ a vs I1 upd_same) hd, q⟩
/-- what is tracked is no object of the module -/
theorem Inv.kno {pins : List (Addr × Obj)} {σ : St} {H : Hp} {s : Shared} {a : Addr} {o : HO} (I : Inv X pins σ H s) (h : H a = some o) : X.K.lookup a = none := by
  cases e : X.K.lookup a with
  | none => rfl
  | some ob =>
    have := (I.bs a ob (I.ok.mod.kin a ob e)).2
    rw [h] at this
    cases this
def dOwnF (i : Nat) (t : DA) : DS := fun E ρ => t ρ fun ds => E.nx (ρ.set i (some (.own ds)))
theorem ds_ownF {x : Str} {pos' : Pos} (i : Nat) (hN : X.N.Nodup) (he : PEF X e t) (hi : X.N[i]? = some x := by rfl) (hx : Loc X.env.scope x := by first | exact Or.inl rfl | exact Or.inr rfl) (hs : swapsWith e (some (.Name x pos')) pos.line X.env = pure false := by rfl)
    (hf : X.fn x = true ∨ X.env.scope.names.lookup x = some .local := by first | exact .inl rfl | exact .inr rfl | assumption) : PSD X (.Assign [.Name x pos'] e pos) (dOwnF i t) := by
  intro pins s σ H W ρ E I r h
  refine wpAny_Assign_Name (thn (he pins s σ H W ρ _ I r h) fun u s1 ⟨a, vs, H1, ds, e1, I1, sm, n, k, ha, hd, q1⟩ => ?_) hs
  subst e1
  obtain ⟨r', f'⟩ := r.putOwn2 (Inv.ilt I1 hi) sm n k ha hd
  exact store_ok (v := .ref a) I1 hN hi hx rfl (fun s2 I2 => ⟨_, _, H1, I2, f', _, r', q1⟩) hf
end

/-! ### no list in it -/
mutual
def nolD : D → Bool
  | .tup ds => nolDs ds
  | .lst _ _ => false
  | _ => true
def nolDs : List D → Bool
  | [] => true
  | d :: ds => nolD d && nolDs ds
end
mutual
/-- all lists of it are tagged true -/
def allT : D → Bool
  | .tup ds => allTs ds
  | .lst t ds => t && allTs ds
  | _ => true
def allTs : List D → Bool
  | [] => true
  | d :: ds => allT d && allTs ds
end
section
variable {K : PySem.W.Frag} {P P' : Bool → Addr → Prop} {H : Hp}
mutual
theorem Den.nol : ∀ (d : D) (v : V), nolD d = true → Den K P H d v → Den K P' H d v
  | .non, _, _, h => by simpa only [Den] using h
  | .bl _, _, _, h => by simpa only [Den] using h
  | .int _, _, _, h => by simpa only [Den] using h
  | .str _, _, _, h => by simpa only [Den] using h
  | .exc _, _, _, h => by simpa only [Den] using h
  | .lst _ _, _, n, _ => by rw [nolD] at n; cases n
  | .tup ds, _, n, h => by
    rw [nolD] at n
    simp only [Den] at h ⊢
    obtain ⟨a, vs, e, q, r⟩ := h
    exact ⟨a, vs, e, q, Dens.nol ds vs n r⟩
theorem Dens.nol : ∀ (ds : List D) (vs : List V), nolDs ds = true → Dens K P H ds vs → Dens K P' H ds vs
  | [], _, _, h => by simpa only [Dens] using h
  | d :: ds, _, n, h => by
    rw [nolDs, Bool.and_eq_true] at n
    simp only [Dens] at h ⊢
    obtain ⟨v, r, e, h1, h2⟩ := h
    exact ⟨v, r, e, Den.nol d v n.1 h1, Dens.nol ds r n.2 h2⟩
end
mutual
theorem Den.hard (k : ∀ a, P' true a → P true a) : ∀ (d : D) (v : V), allT d = true → Den K P H d v → Den K P' H d v
  | .non, _, _, h => by simpa only [Den] using h
  | .bl _, _, _, h => by simpa only [Den] using h
  | .int _, _, _, h => by simpa only [Den] using h
  | .str _, _, _, h => by simpa only [Den] using h
  | .exc _, _, _, h => by simpa only [Den] using h
  | .lst t ds, _, n, h => by
    rw [allT, Bool.and_eq_true] at n
    obtain ⟨n1, n2⟩ := n
    subst n1
    simp only [Den] at h ⊢
    obtain ⟨a, vs, e, p, q, r⟩ := h
    exact ⟨a, vs, e, fun z => p (k a z), q, Dens.hard k ds vs n2 r⟩
  | .tup ds, _, n, h => by
    rw [allT] at n
    simp only [Den] at h ⊢
    obtain ⟨a, vs, e, q, r⟩ := h
    exact ⟨a, vs, e, q, Dens.hard k ds vs n r⟩
theorem Dens.hard (k : ∀ a, P' true a → P true a) : ∀ (ds : List D) (vs : List V), allTs ds = true → Dens K P H ds vs → Dens K P' H ds vs
  | [], _, _, h => by simpa only [Dens] using h
  | d :: ds, _, n, h => by
    rw [allTs, Bool.and_eq_true] at n
    simp only [Dens] at h ⊢
    obtain ⟨v, r, e, h1, h2⟩ := h
    exact ⟨v, r, e, Den.hard k d v n.1 h1, Dens.hard k ds r n.2 h2⟩
end
end

/-! ### a list of one's own, read for a while as a datum -/
def Own.soft (W : Own) (i : Nat) (a : Addr) : Own := ⟨W.B, fun j => if j = i then none else W.O j, fun b => W.S b ∨ b = a⟩
section
variable {X : Cx}
theorem Rel.soft {W : Own} {H : Hp} {σ : St} {ρ : Ro} {i : Nat} {ds : List D} (r : Rel X W H σ ρ) (e : ρ[i]? = some (some (.own ds))) : ∃ a, W.O i = some a ∧ Rel X (W.soft i a) H σ (ρ.set i (some (.val (.lst false ds)))) ∧ ∀ b, W.bad true b → (W.soft i a).bad true b := by
  obtain ⟨a, vs, oa, sa, ha, hds⟩ := r.ownL i ds e
  have hl' : i < ρ.length := (List.getElem?_eq_some_iff.mp e).1
  have hO : ∀ j b, (W.soft i a).O j = some b → j ≠ i ∧ W.O j = some b := fun j b h => by
    have h1 : (if j = i then none else W.O j) = some b := h
    by_cases z : j = i
    · rw [if_pos z] at h1; cases h1
    · rw [if_neg z] at h1; exact ⟨z, h1⟩
  have low : ∀ t b, (W.soft i a).bad t b → W.bad t b := fun t b z => by
    rcases z with z | ⟨j, z⟩ | ⟨z1, z2⟩
    · exact .inl z
    · exact .inr (.inl ⟨j, (hO j b z).2⟩)
    · rcases z2 with z2 | z2
      · exact .inr (.inr ⟨z1, z2⟩)
      · subst z2; exact .inr (.inl ⟨i, oa⟩)
  have nb : ¬ (W.soft i a).bad false a := fun z => by
    rcases z with z | ⟨j, z⟩ | ⟨z1, _⟩
    · exact (r.kn i a oa).2.1.1 z
    · exact (hO j a z).1 (r.inj j i a (hO j a z).2 oa)
    · cases z1
  refine ⟨a, oa, ⟨fun j d h => ?_, fun j x h => ?_, fun j k b h1 h2 => r.inj j k b (hO j b h1).2 (hO k b h2).2, fun j b h => ?_, fun j b h => r.ke j b (hO j b h).2, r.bt, fun b h => ?_, r.ent, r.tab⟩, fun b z => ?_⟩
  · by_cases hj : j = i
    · subst hj
      rw [List.getElem?_set_self hl'] at h
      cases h
      exact ⟨.ref a, sa, Den.lst nb (.any (SqL.of ha)) (hds.fewer low)⟩
    · rw [List.getElem?_set_ne (Ne.symm hj)] at h
      obtain ⟨w, h1, h2⟩ := r.val j d h
      exact ⟨w, h1, h2.fewer low⟩
  · by_cases hj : j = i
    · subst hj
      rw [List.getElem?_set_self hl'] at h; cases h
    · rw [List.getElem?_set_ne (Ne.symm hj)] at h
      obtain ⟨b, ws, h1, h2, h3, h4⟩ := r.own j x h
      exact ⟨b, ws, by show (if j = i then none else W.O j) = _; rw [if_neg hj]; exact h1, h2, h3, h4.fewer low fun k c q => (by
        show (if vix σ.length j k = i then none else W.O (vix σ.length j k)) = _
        rw [if_neg (vix_ne (List.getElem?_eq_some_iff.mp sa).1)]
        exact q)⟩
  · obtain ⟨k1, ⟨k2, k3⟩, k4⟩ := r.kn j b (hO j b h).2
    refine ⟨k1, ⟨k2, fun z => z.elim k3 fun z => ?_⟩, k4⟩
    subst z
    exact (hO j b h).1 (r.inj j i b (hO j b h).2 oa)
  · rcases h with h | h
    · exact r.st b h
    · subst h; exact ⟨_, ha⟩
  · rcases z with z | ⟨j, z⟩ | ⟨_, z⟩
    · exact .inl z
    · by_cases hj : j = i
      · subst hj
        rw [oa] at z
        cases z
        exact .inr (.inr ⟨rfl, .inr rfl⟩)
      · exact .inr (.inl ⟨j, by show (if j = i then none else W.O j) = _; rw [if_neg hj]; exact z⟩)
    · exact .inr (.inr ⟨rfl, .inl z⟩)
variable {e : Expr} {te : DE} {tt : DT} {ta : DA}
def dSoft (i : Nat) (t : DE) : DE := fun ρ Q => ∃ ds, ρ[i]? = some (some (.own ds)) ∧ t (ρ.set i (some (.val (.lst false ds)))) fun d => allT d = true ∧ Q d
def dSoftT (i : Nat) (t : DT) : DT := fun ρ Q => ∃ ds, ρ[i]? = some (some (.own ds)) ∧ t (ρ.set i (some (.val (.lst false ds)))) Q
theorem de_soft (i : Nat) (h : PED X e te) : PED X e (dSoft i te) := by
  intro pins s σ H W ρ Q I r hw
  obtain ⟨ds, eo, hw⟩ := hw
  obtain ⟨a, oa, r', up⟩ := r.soft eo
  exact thn (h pins s σ H _ _ _ I r' hw) fun u s1 ⟨v, H', d, I1, rv, e1, hd, al, q⟩ => ⟨v, H', d, I1, rv, e1, Den.hard up d v al hd, q⟩
theorem dt_soft (i : Nat) (h : PTD X e tt) : PTD X e (dSoftT i tt) := by
  intro pins s σ H W ρ Q I r hw
  obtain ⟨ds, eo, hw⟩ := hw
  obtain ⟨a, oa, r', up⟩ := r.soft eo
  exact h pins s σ H _ _ _ I r' hw
end

/-! ### a list of one's own is changed -/
section
variable {X : Cx} {pos : Pos}
theorem Dens.set {K : PySem.W.Frag} {P : Bool → Addr → Prop} {H : Hp} {d : D} {v : V} (hd : Den K P H d v) : ∀ {ds : List D} {vs : List V} (j : Nat), Dens K P H ds vs → Dens K P H (ds.set j d) (vs.set j v)
  | [], _, _, h => by simp only [Dens] at h; subst h; exact Dens.nil
  | x :: r, _, 0, h => by
    simp only [Dens] at h
    obtain ⟨u, w, rfl, h1, h2⟩ := h
    exact Dens.cons hd h2
  | x :: r, _, j + 1, h => by
    simp only [Dens] at h
    obtain ⟨u, w, rfl, h1, h2⟩ := h
    exact Dens.cons h1 (Dens.set hd j h2)
theorem Dens.take {K : PySem.W.Frag} {P : Bool → Addr → Prop} {H : Hp} : ∀ {ds : List D} {vs : List V} (n : Nat), Dens K P H ds vs → Dens K P H (ds.take n) (vs.take n)
  | _, _, 0, _ => by simp only [List.take_zero]; exact Dens.nil
  | [], _, _ + 1, h => by simp only [Dens] at h; subst h; exact Dens.nil
  | x :: r, _, n + 1, h => by
    simp only [Dens] at h
    obtain ⟨u, w, rfl, h1, h2⟩ := h
    exact Dens.cons h1 (Dens.take n h2)
theorem Dens.drop {K : PySem.W.Frag} {P : Bool → Addr → Prop} {H : Hp} : ∀ {ds : List D} {vs : List V} (n : Nat), Dens K P H ds vs → Dens K P H (ds.drop n) (vs.drop n)
  | _, _, 0, h => by simpa only [List.drop_zero] using h
  | [], _, _ + 1, h => by simp only [Dens] at h; subst h; exact Dens.nil
  | x :: r, _, n + 1, h => by
    simp only [Dens] at h
    obtain ⟨u, w, rfl, h1, h2⟩ := h
    exact Dens.drop n h2
theorem Dens.rev {K : PySem.W.Frag} {P : Bool → Addr → Prop} {H : Hp} : ∀ {ds : List D} {vs : List V}, Dens K P H ds vs → Dens K P H ds.reverse vs.reverse
  | [], _, h => by simp only [Dens] at h; subst h; exact Dens.nil
  | x :: r, _, h => by
    simp only [Dens] at h
    obtain ⟨u, w, rfl, h1, h2⟩ := h
    rw [List.reverse_cons, List.reverse_cons]
    exact (Dens.rev h2).append (Dens.one h1)
end
end PD

namespace PD
open PySem PySem.Spec PyProof.Rows L2
section
variable {X : Cx} {pos : Pos}
/-! ### x.pop(), x.clear(), x.reverse() -/
def dOwnM (i : Nat) (C : List D → Prop) (f : List D → List D) : DS := fun E ρ => ∃ ds, ρ[i]? = some (some (.own ds)) ∧ C ds ∧ E.nx (ρ.set i (some (.own (f ds))))
theorem ds_ownM0 {x name : Str} {id : String} {px apos cpos : Pos} {rm : V → List V → Hp → VK → Prop} {C : List D → Prop} {f : List D → List D} (g : List V → List V) (i : Nat) (slot : Slot "list" name id) (hty : typeOf (.builtin id) = pure (.type "method_descriptor")) (hm : MtM X id rm)
    (hr : ∀ (a : Addr) (vs : List V) (ds : List D) (H : Hp) (Q : VK), H a = some (.lst vs) → vs.length = ds.length → C ds → (∀ v, Q v (L2.upd H a (.lst (g vs)))) → rm (.ref a) [] H Q) (hg : ∀ (K : PySem.W.Frag) (P : Bool → Addr → Prop) (H : Hp) (ds : List D) (vs : List V), Dens K P H ds vs → Dens K P H (f ds) (g vs))
    (hi : X.N[i]? = some x := by rfl) (hv : Vis X.env.scope x := by first | exact Or.inl rfl | exact Or.inr (Or.inl rfl) | exact Or.inr (Or.inr rfl)) (hd : (x == ("__debug__" : Str)) = false := by decide) (hcd : (x == ("__classdict__" : Str)) = false := by decide)
    (hbase : attributeBase (.Name x px) name X.env (eval (.Name x px) X.env) = eval (.Name x px) X.env := by rfl) (hline : (apos.endLine == cpos.line) = true := by rfl)
    (hs : swapsWith (.Call (.Attribute (.Name x px) name apos) [] [] cpos) none pos.line X.env = pure false := by rfl) : PSD X (.Expr (.Call (.Attribute (.Name x px) name apos) [] [] cpos) pos) (dOwnM i C f) := by
  have P0 := ps_expr (pos := pos) (pe_bm0 PySem.F.plainAttrs_list slot hty hm (pe_var hi hv hd hcd) hbase hline) hs
  refine PSD.of P0 fun σ H W ρ E r hl h => ?_
  obtain ⟨ds, eo, hc, h⟩ := h
  obtain ⟨a, vs, oa, sa, ha, hds⟩ := r.ownL i ds eo
  obtain ⟨r', f'⟩ := r.mut eo oa sa ha (hg _ _ _ ds vs hds)
  exact ⟨.ref a, sa, .inl ⟨rfl, _, SqL.of ha⟩, hr a vs ds H _ ha hds.len hc fun v => ⟨W, _, f', r', h⟩⟩
theorem Dens.dropLast {K : PySem.W.Frag} {P : Bool → Addr → Prop} {H : Hp} {ds : List D} {vs : List V} (h : Dens K P H ds vs) : Dens K P H ds.dropLast vs.dropLast := by
  rw [List.dropLast_eq_take, List.dropLast_eq_take, h.len]
  exact h.take _
theorem ds_clear {x : Str} {px apos cpos : Pos} (i : Nat) (hi : X.N[i]? = some x := by rfl) (hv : Vis X.env.scope x := by first | exact Or.inl rfl | exact Or.inr (Or.inl rfl) | exact Or.inr (Or.inr rfl)) (hd : (x == ("__debug__" : Str)) = false := by decide) (hcd : (x == ("__classdict__" : Str)) = false := by decide)
    (hbase : attributeBase (.Name x px) "clear" X.env (eval (.Name x px) X.env) = eval (.Name x px) X.env := by rfl) (hline : (apos.endLine == cpos.line) = true := by rfl)
    (hs : swapsWith (.Call (.Attribute (.Name x px) "clear" apos) [] [] cpos) none pos.line X.env = pure false := by rfl) : PSD X (.Expr (.Call (.Attribute (.Name x px) "clear" apos) [] [] cpos) pos) (dOwnM i (fun _ => True) fun _ => []) :=
  ds_ownM0 (fun _ => []) i PySem.F.slot_list_clear PySem.F.type_list_clear mt_clear (fun a vs ds H Q ha hl hc q => ⟨a, vs, rfl, rfl, ha, q _⟩) (fun _ _ _ _ _ h => Dens.nil) hi hv hd hcd hbase hline hs
/-! ### name += e, ints -/
/-! ### list(e), tuple(e) -/
variable {e : Expr} {te : DE} {p : Pos}
def dSeqs (te : DE) : DA := fun ρ Q => te ρ fun d => ∃ k ds, seqD d = some (k, ds) ∧ Q ds
theorem dens_of_list {K : PySem.W.Frag} {P : Bool → Addr → Prop} {H : Hp} {d : D} {v : V} {k : Bool} {ds : List D} (h : Den K P H d v) (e : seqD d = some (k, ds)) : ∃ a vs, v = .ref a ∧ (SqL K H a vs ∨ SqT K H a vs) ∧ Dens K P H ds vs := by
  cases d with
  | lst t es =>
    cases e
    obtain ⟨a, vs, e1, p, q, hd⟩ := h.lst_
    exact ⟨a, vs, e1, .inl q, hd⟩
  | tup es =>
    cases e
    obtain ⟨a, vs, e1, q, hd⟩ := h.tup_
    exact ⟨a, vs, e1, .inr q, hd⟩
  | non => cases e
  | bl _ => cases e
  | int _ => cases e
  | str _ => cases e
  | exc _ => cases e
theorem df_list (hg : Gl X "list") (hm : X.mg "list" = none) (he : PED X e te) (hst : starEach [e] X.env = (false, eval e X.env) :: starEach [] X.env := by rfl) (hpl : (backTo pos (starEach [] X.env)).any (·.1) = false := by rfl) : PEF X (.Call (.Name "list" p) [e] [] pos) (dSeqs te) := by
  refine PEF.of (pe_callTy call_list_of hg hm boot_list (pa_cons he.pe pa_nil hst) (by decide) (by decide) hst hpl) (fun σ H W ρ Q r h => ?_) fun _ _ _ _ _ _ I h => Inv.kno I h
  refine ⟨W, ρ, _, r, h, fun v H' d e1 hd q => ?_⟩
  obtain ⟨k, ds, es, q⟩ := q
  obtain ⟨a, vs, ev, hq, hds⟩ := dens_of_list hd es
  subst ev
  exact ⟨a, vs, rfl, hq, fun l hl => ⟨l, vs, ds, H', rfl, e1, hl, rfl, hds, q⟩⟩
/-! ### sum(list of ints) -/
theorem dens_map_int {K : PySem.W.Frag} {P : Bool → Addr → Prop} {H : Hp} : ∀ {ns : List Int} {vs : List V}, Dens K P H (ns.map D.int) vs → vs = ns.map V.int
  | [], _, h => by simpa only [List.map_nil, Dens] using h
  | n :: r, _, h => by
    simp only [List.map_cons, Dens] at h
    obtain ⟨v, w, rfl, h1, h2⟩ := h
    rw [h1.int_, dens_map_int h2]
    rfl
theorem cd_sum (hc : X.calm = true) : CallD X (.builtin "sum") (fun ds Q => ∃ (t : Bool) (ns : List Int), ds = [.lst t (ns.map D.int)] ∧ Q (.int ns.sum)) := by
  intro pins s σ H W ds vs us Q I tr r hd q
  obtain ⟨t, ns, e, q⟩ := q
  subst e
  obtain ⟨v, rfl, h1⟩ := dens1 hd
  obtain ⟨a, ws, ev, _, hq, hw⟩ := h1.lst_
  subst ev
  cases r with
  | cons r1 rr =>
    cases rr
    cases r1
    obtain ⟨its, rv, pl, _⟩ := I.list hq
    rw [dens_map_int hw] at rv
    have ia := intsAre_of rv
    obtain ⟨xs, ex⟩ := ia.allInts.items
    have hl : s.heap.IsList a (intItems xs) := by rw [← ex]; exact pl.isList
    refine sum_intListG (I.ok.hd hc) hl fun h' tk t' kp => ?_
    have es : preSum (numAt xs) xs.size = ns.sum := by
      rw [preSum_eq, List.take_of_length_le (by simp), ← nums_intItems, ← ex, show its.toArray.toList = its from rfl, ia.numsOf]
    rw [es]
    exact ⟨.int ns.sum, H, _, I.kept kp, ⟨_, rfl⟩, Same.refl H, Den.int _, q⟩
theorem Vals.rev : ∀ {xs : List V} {us : List Value}, Vals xs us → Vals xs.reverse us.reverse
  | _, _, .nil => .nil
  | _, _, .cons r t => by
    rw [List.reverse_cons, List.reverse_cons]
    exact (Vals.rev t).append (.cons r .nil)
/-! ### slices -/
/-- the items of xs[lo:hi] -/
def cutD (xs : List D) (lo hi : Option Int) : List D := (xs.drop (HT.sIx xs.length 0 lo)).take (HT.sIx xs.length xs.length hi - HT.sIx xs.length 0 lo)
theorem Dens.cut {K : PySem.W.Frag} {P : Bool → Addr → Prop} {H : Hp} {ds : List D} {vs : List V} (lo hi : Option Int) (h : Dens K P H ds vs) : Dens K P H (cutD ds lo hi) (cutV vs lo hi) := by
  unfold cutD cutV
  rw [h.len]
  exact (h.drop _).take _
abbrev DO := Ro → (Option Int → Prop) → Prop
def PDO (X : Cx) (e : Option Expr) (t : DO) : Prop :=
  ∀ (pins : List (Addr × Obj)) (s : Shared) (σ : St) (H : Hp) (W : Own) (ρ : Ro) (Q : Option Int → Prop), Inv X pins σ H s → Rel X W H σ ρ → t ρ Q →
    wpAny (model X.prog X.w) X.A (evalPart e X.env) (fun u s' => ∃ o H', Inv X pins σ H' s' ∧ IsPart u o ∧ Same H H' ∧ Q o) X.xe s
def dNoPart : DO := fun _ Q => Q none
def dPart (te : DE) : DO := fun ρ Q => te ρ fun d => ∃ i, d = .int i ∧ Q (some i)
theorem do_none : PDO X none dNoPart := by
  intro pins s σ H W ρ Q I r h
  rw [evalPart_none]
  exact wpAny_pure ⟨none, H, I, .none, Same.refl H, h⟩
theorem do_some (he : PED X e te) : PDO X (some e) (dPart te) := by
  intro pins s σ H W ρ Q I r h
  rw [evalPart_some]
  refine thn (he pins s σ H W ρ _ I r h) fun u s1 ⟨v, H1, d, I1, rv, e1, hd, i, ed, q⟩ => ?_
  subst ed
  have z := hd.int_
  subst z
  obtain ⟨t, rfl⟩ := rv
  exact ⟨some i, H1, I1, .int i t, e1, q⟩
variable {lo hi st : Option Expr} {tl th ts : DO} {p2 : Pos}
/-- a[lo:hi:st], by the rule for the item at a slice object -/
theorem slice_wp {Q : Value → Shared → Prop} {pins : List (Addr × Obj)} {s : Shared} {σ : St} {H : Hp} {W : Own} {ρ : Ro} {R : D → Option Int → Option Int → Option Int → Prop} (he : PED X e te) (hl : PDO X lo tl) (hh : PDO X hi th) (ht : PDO X st ts) (I : Inv X pins σ H s) (r : Rel X W H σ ρ)
    (h : te ρ fun d => tl ρ fun l => th ρ fun u => ts ρ fun k => R d l u k)
    (hk : ∀ (v : V) (vv vl vu vk : Value) (l u k : Option Int) (d : D) (sl : Addr) (H' : Hp) (s' : Shared), Inv X pins σ H' s' → Same H H' → RelV v vv → Den X.K W.bad H' d v → s'.heap.IsSliceOf sl vl vu vk → IsPart vl l → IsPart vu u → IsPart vk k → R d l u k →
      ∃ T id, typeLookup (.type T) "__getitem__" = pure (some (.builtin id)) ∧ s'.TypeIs vv T ∧ wpAny (model X.prog X.w) X.A (getItem vv (.ref sl)) Q X.xe s')
    (htail : ∀ vv sl, ∃ ops, subscripted (.Slice lo hi st p2) false vv sl = operate ops (getItem vv sl)) : wpAny (model X.prog X.w) X.A (eval (.Subscript e (.Slice lo hi st p2) pos) X.env) Q X.xe s := by
  refine Subscript_ (thn (he pins s σ H W ρ _ I r h) fun vv s1 ⟨v, H1, d, I1, rv, e1, hd, q1⟩ => ?_)
  have r1 := r.same e1
  refine wpAny_Slice (thn (hl pins s1 σ H1 W ρ _ I1 r1 q1) fun vl s2 ⟨l, H2, I2, pl, e2, q2⟩ => thn (hh pins s2 σ H2 W ρ _ I2 (r1.same e2) q2) fun vu s3 ⟨u, H3, I3, pu, e3, q3⟩ => thn (ht pins s3 σ H3 W ρ _ I3 ((r1.same e2).same e3) q3) fun vk s4 ⟨k, H4, I4, pk, e4, q4⟩ => ?_)
  have I5 : Inv X pins σ H4 { s4 with heap := s4.heap.push { cls := .type "slice", data := .fields #[vl, vu, vk] } } := I4.kept (t' := s4.toks) fun b ob q => Heap.get?_push_of_some _ q
  obtain ⟨T, id, hT, ht', hg⟩ := hk v vv vl vu vk l u k d s4.heap.objs.size H4 _ I5 (e1.trans (e2.trans (e3.trans e4))) rv (hd.same (e2.trans (e3.trans e4))) (Heap.IsSliceOf.new ..) pl pu pk q4
  show wpAny (model X.prog X.w) X.A (subscriptTail e (.Slice lo hi st p2) vv (.ref s4.heap.objs.size)) Q X.xe _
  obtain ⟨ops, ho⟩ := htail vv (.ref s4.heap.objs.size)
  exact tail_any (ops := ops) ht' hT hg ho
def dSlL (te : DE) (tl th : DO) : DA := fun ρ Q => te ρ fun d => tl ρ fun l => th ρ fun u => ∃ t ds, d = .lst t ds ∧ Q (cutD ds l u)
def dSlT (te : DE) (tl th : DO) : DE := fun ρ Q => te ρ fun d => tl ρ fun l => th ρ fun u => ∃ ds, d = .tup ds ∧ ¬ (HT.sIx ds.length 0 l = 0 ∧ HT.sIx ds.length ds.length u = ds.length) ∧ Q (.tup (cutD ds l u))
theorem list_sliced {pins : List (Addr × Obj)} {s : Shared} {σ : St} {H H' : Hp} {W : Own} {v : V} {vv vl vu vk : Value} {l u k : Option Int} {tg : Bool} {ds : List D} {sl : Addr} (f : List V → List V) (g : List D → List D) (I : Inv X pins σ H' s) (r : Rel X W H' σ ρ) (sm : Same H H') (rv : RelV v vv) (hd : Den X.K W.bad H' (.lst tg ds) v) (hs : s.heap.IsSliceOf sl vl vu vk) (pl : IsPart vl l) (pu : IsPart vu u) (pk : IsPart vk k) (k0 : k ≠ some 0)
    (hp : ∀ its : List Value, ∃ g' : List Value → List Value, slicePick its.toArray l u k = (g' its).toArray ∧ ∀ vs, Vals vs its → Vals (f vs) (g' its) ∧ (f vs).length ≤ vs.length) (hg : ∀ vs, Dens X.K W.bad H' ds vs → Dens X.K W.bad H' (g ds) (f vs)) {Q : List D → Prop} (q : Q (g ds)) :
    ∃ T id, typeLookup (.type T) "__getitem__" = pure (some (.builtin id)) ∧ s.TypeIs vv T ∧ wpAny (model X.prog X.w) X.A (getItem vv (.ref sl)) (fun uu s' => ∃ a vs H'' ds, uu = .ref a ∧ Inv X pins σ H'' s' ∧ Same H H'' ∧ H a = none ∧ X.K.lookup a = none ∧ H'' a = some (.lst vs) ∧ Dens X.K (fun t b => W.bad t b ∨ b = a) H'' ds vs ∧ Q ds) X.xe s := by
  obtain ⟨a, vs, ev, _, hq, hds⟩ := hd.lst_
  subst ev
  cases rv
  obtain ⟨its, rr, ht, hz⟩ := I.list hq
  have hlen := rr.length
  refine ⟨"list", _, slot_list_getitem.lookup, ht.isList.typeIs, ?_⟩
  refine wpAny_getItem_list_slice ht.isList hs pl pu pk k0 ?_ (by rw [List.size_toArray] <;> omega)
  obtain ⟨g', e, hv⟩ := hp its
  rw [e]
  obtain ⟨rv', hl'⟩ := hv vs rr
  have hf : H' s.heap.objs.size = none := I.hok.fresh (Nat.le_refl _)
  refine ⟨s.heap.objs.size, f vs, _, g ds, rfl, I.laid (t' := s.toks) (o := .lst (f vs)) (fun b ob q => Heap.get?_push_of_some _ q) (Nat.le_refl _) ⟨Nat.le_trans hl' hz, _, 0, rv', Heap.get?_push_size _ rfl⟩, sm.trans (Same.upd hf), sm.free hf, Inv.kfresh I, upd_same, Dens.apart hf (Inv.kfresh I) (hg vs hds), q⟩
theorem df_slice (he : PED X e te) (hl : PDO X lo tl) (hh : PDO X hi th) : PEF X (.Subscript e (.Slice lo hi none p2) pos) (dSlL te tl th) := by
  intro pins s σ H W ρ Q I r h
  refine slice_wp (st := none) (ts := dNoPart) (R := fun d l u k => k = none ∧ ∃ t ds, d = .lst t ds ∧ Q (cutD ds l u)) he hl hh do_none I r ?_ ?_ (fun _ _ => ⟨_, rfl⟩)
  · have e1 : (fun d => tl ρ fun l => th ρ fun u => dNoPart ρ fun k => k = none ∧ ∃ t ds, d = D.lst t ds ∧ Q (cutD ds l u)) = fun d => tl ρ fun l => th ρ fun u => ∃ t ds, d = D.lst t ds ∧ Q (cutD ds l u) := by
      funext d
      congr 1
      funext l
      congr 1
      funext u
      exact propext ⟨fun z => z.2, fun z => ⟨rfl, z⟩⟩
    rw [e1]
    exact h
  · intro v vv vl vu vk l u k d sl H' s' I' sm rv hd hs pl pu pk hR
    obtain ⟨ek, t, ds, ed, q⟩ := hR
    subst ek ed
    exact list_sliced (fun vs => cutV vs l u) (fun ds => cutD ds l u) I' (r.same sm) sm rv hd hs pl pu pk (by simp) (fun its => ⟨fun its => (its.drop (HT.sIx its.length 0 l)).take (HT.sIx its.length its.length u - HT.sIx its.length 0 l), slicePick_cut its l u, fun vs rr => ⟨by unfold cutV; rw [rr.length]; exact (rr.drop _).take _, cutV_length vs l u⟩⟩) (fun vs hds => hds.cut l u) q
end
end PD

namespace PD
open PySem PySem.Spec PyProof.Rows L2

/-! ## a + b of ints, tuples, lists -/
section
variable {prog : Program} {w : World} {A : Around} {E : Value → Shared → Prop} {s : Shared} {p q : Addr} {us ws : List Value} {Q : Value → Shared → Prop}
theorem addL (hp : s.heap.IsList p us.toArray) (hq : s.heap.IsList q ws.toArray) (hz : us.length + ws.length ≤ sizeLine)
    (h : Q (.ref s.heap.objs.size) { s with heap := s.heap.push { cls := .type "list", data := .seq (us ++ ws).toArray } }) : wpAny (model prog w) A (binaryOp .Add (.ref p) (.ref q)) Q E s := by
  obtain ⟨⟨c1, k1, x1, y1⟩, g1, g2, n1, g3⟩ := id hp
  obtain ⟨⟨c2, k2, x2, y2⟩, f1, f2, n2, f3⟩ := id hq
  simp only at g2 g3 f2 f3
  subst g2 g3 f2 f3
  refine concat_meets ⟨_, g1, rfl⟩ ⟨_, f1, rfl⟩ noFill_list_add seq_list_add PySem.F.slot_list_add PySem.F.entry_list_add (PySem.F.args_list_add_2 _ _) (list_addW p q us.toArray ws.toArray n1 n2 k1 k2 y1 y2 (by simpa using hz)) ⟨g1, f1, ?_⟩
  rw [show us.toArray ++ ws.toArray = (us ++ ws).toArray by simp]
  exact h
theorem addT (hp : IsTup s.heap p us.toArray) (hq : IsTup s.heap q ws.toArray) (hz : us.length + ws.length ≤ sizeLine) (h0 : us = [] → Q (.ref q) s) (h1 : ws = [] → Q (.ref p) s)
    (h : Q (.ref s.heap.objs.size) { s with heap := s.heap.push { cls := .type "tuple", data := .seq (us ++ ws).toArray } }) : wpAny (model prog w) A (binaryOp .Add (.ref p) (.ref q)) Q E s := by
  obtain ⟨⟨c1, k1, x1, y1⟩, g1, g2, n1, g3⟩ := id hp
  obtain ⟨⟨c2, k2, x2, y2⟩, f1, f2, n2, f3⟩ := id hq
  simp only at g2 g3 f2 f3
  subst g2 g3 f2 f3
  by_cases hv : us = []
  · exact concat_meets ⟨_, g1, rfl⟩ ⟨_, f1, rfl⟩ noFill_tuple_add seq_tuple_add PySem.F.slot_tuple_add PySem.F.entry_tuple_add (PySem.F.args_tuple_add_2 _ _) (tuple_addW0 p q us.toArray ws.toArray n1 n2 k1 k2 y1 y2 (by simp [hv])) ⟨g1, f1, h0 hv⟩
  · by_cases hw : ws = []
    · exact concat_meets ⟨_, g1, rfl⟩ ⟨_, f1, rfl⟩ noFill_tuple_add seq_tuple_add PySem.F.slot_tuple_add PySem.F.entry_tuple_add (PySem.F.args_tuple_add_2 _ _) (tuple_addW1 p q us.toArray ws.toArray n1 n2 k1 k2 y1 y2 (by simpa using hv) (by simp [hw])) ⟨g1, f1, h1 hw⟩
    · refine concat_meets ⟨_, g1, rfl⟩ ⟨_, f1, rfl⟩ noFill_tuple_add seq_tuple_add PySem.F.slot_tuple_add PySem.F.entry_tuple_add (PySem.F.args_tuple_add_2 _ _) (tuple_addW2 p q us.toArray ws.toArray n1 n2 k1 k2 y1 y2 (by simpa using hv) (by simpa using hw) (by simpa using hz)) ⟨g1, f1, ?_⟩
      rw [show us.toArray ++ ws.toArray = (us ++ ws).toArray by simp]
      exact h
end
section
variable {X : Cx} {pos : Pos}
def rdAdd : RD2 := fun x y Q => match x, y with
  | .int i, .int j => Q (.int (i + j))
  | .tup xs, .tup ys => xs.length + ys.length ≤ sizeLine ∧ Q (.tup (xs ++ ys))
  | .lst _ xs, .lst _ ys => xs.length + ys.length ≤ sizeLine ∧ Q (.lst true (xs ++ ys))
  | _, _ => False
theorem add_ii (i j : Int) (Q : D → Prop) : rdAdd (.int i) (.int j) Q = Q (.int (i + j)) := rfl
theorem add_ll (t u : Bool) (xs ys : List D) (Q : D → Prop) : rdAdd (.lst t xs) (.lst u ys) Q = (xs.length + ys.length ≤ sizeLine ∧ Q (.lst true (xs ++ ys))) := rfl
theorem nofresh {W : Own} {H : Hp} {t : Bool} {a : Addr} (tr : ∀ t a, W.bad t a → ∃ o, H a = some o) (h : H a = none) : ¬ W.bad t a := fun z => by
  obtain ⟨o, q⟩ := tr _ _ z
  rw [h] at q
  cases q
theorem od_plus : OpD X (binaryOp .Add) rdAdd := by
  intro pins s σ H W x y v u vv uu Q I tr rv ru hx hy q
  cases x <;> cases y <;> first | exact q.elim | skip
  · exact od_add pins s σ H W _ _ v u vv uu Q I tr rv ru hx hy ⟨_, _, rfl, rfl, q⟩
  · rename_i xs ys
    obtain ⟨p, vs, e1, hq1, hd1⟩ := hx.tup_
    obtain ⟨p', vs', e2, hq2, hd2⟩ := hy.tup_
    subst e1 e2
    cases rv
    cases ru
    obtain ⟨its, r1, t1, _⟩ := I.tuple hq1
    obtain ⟨its', r2, t2, _⟩ := I.tuple hq2
    obtain ⟨hz, q⟩ := q
    have l1 := hd1.len
    have l2 := hd2.len
    have m1 := r1.length
    have m2 := r2.length
    have hz' : its.length + its'.length ≤ sizeLine := by omega
    have hf : H s.heap.objs.size = none := I.hok.fresh (Nat.le_refl _)
    refine addT t1 t2 hz' (fun e => ?_) (fun e => ?_) ?_
    · subst e
      have : vs = [] := List.eq_nil_of_length_eq_zero (by simpa using m1)
      subst this
      have : xs = [] := List.eq_nil_of_length_eq_zero (by simpa using l1.symm)
      subst this
      exact ⟨.ref p', H, _, I, rfl, Same.refl H, hy, q⟩
    · subst e
      have : vs' = [] := List.eq_nil_of_length_eq_zero (by simpa using m2)
      subst this
      have : ys = [] := List.eq_nil_of_length_eq_zero (by simpa using l2.symm)
      subst this
      rw [List.append_nil] at q
      exact ⟨.ref p, H, _, I, rfl, Same.refl H, hx, q⟩
    · exact ⟨.ref s.heap.objs.size, L2.upd H s.heap.objs.size (.tup (vs ++ vs')), _, I.laid (t' := s.toks) (fun b u e => Heap.get?_push_of_some _ e) (Nat.le_refl _) ⟨by rw [List.length_append]; omega, its ++ its', r1.append r2, ⟨_, Heap.get?_push_size _ rfl, rfl, _, rfl⟩⟩, rfl, Same.upd hf, Den.tup (SqT.of upd_same) ((hd1.append hd2).same (Same.upd hf)), q⟩
  · obtain ⟨p, vs, e1, _, hq1, hd1⟩ := hx.lst_
    obtain ⟨p', vs', e2, _, hq2, hd2⟩ := hy.lst_
    subst e1 e2
    cases rv
    cases ru
    obtain ⟨its, r1, t1, _⟩ := I.list hq1
    obtain ⟨its', r2, t2, _⟩ := I.list hq2
    obtain ⟨hz, q⟩ := q
    have l1 := hd1.len
    have l2 := hd2.len
    have m1 := r1.length
    have m2 := r2.length
    have hf : H s.heap.objs.size = none := I.hok.fresh (Nat.le_refl _)
    refine addL t1.isList t2.isList (by omega) ?_
    exact ⟨.ref s.heap.objs.size, L2.upd H s.heap.objs.size (.lst (vs ++ vs')), _, I.laid (t' := s.toks) (fun b u e => Heap.get?_push_of_some _ e) (Nat.le_refl _) ⟨by rw [List.length_append]; omega, its ++ its', 0, r1.append r2, Heap.get?_push_size _ rfl⟩, rfl, Same.upd hf, Den.lst (nofresh tr hf) (.new upd_same (Inv.kfresh I)) ((hd1.append hd2).same (Same.upd hf)), q⟩
/-! ## x in y -/
end

/-! ## calls with defaults, with keywords; a call's new list -/
/-- one keyword's value behind the others -/
def kwG {α : Type} (us ws : List α) : List α := match ws with
  | [w] => us ++ [w]
  | _ => []
theorem kwG_rel {vs zs : List V} {us ws : List Value} (r : Vals vs us) (rz : Vals zs ws) : Vals (kwG vs zs) (kwG us ws) := by
  cases rz with
  | nil => exact .nil
  | cons a b =>
    cases b with
    | nil => exact r.append (.cons a .nil)
    | cons c d => exact .nil
def HasD (P : Program) (w : World) (K : PySem.W.Frag) (mg : Str → Option Value) (base : Heap) (x : Str) (k : Nat) (ps : List Str) (kn : Str) (sp : DSp) : Prop :=
  ∃ f fd, FnOk P w K mg base (CX1 P w) k f fd ps (spOf K sp) ∧ mg x = some (.ref f) ∧ PySem.W.keepIn K (.ref f) = true ∧ Binds K fd ps [] ∧ Binds K fd ps [.none] ∧ KBinds K fd ps [kn] kwG kwG
theorem HasD.full {P : Program} {w : World} {K : PySem.W.Frag} {mg : Str → Option Value} {base : Heap} {x : Str} {k : Nat} {ps : List Str} {kn : Str} {sp : DSp} (h : HasD P w K mg base x k ps kn sp) : Has P w K mg base x k ps sp := by
  obtain ⟨f, fd, F, hm, hk, hb, _⟩ := h
  exact ⟨f, fd, F, hm, hk, hb⟩
/-- keywords' values -/
def PKD (X : Cx) (kws : List Keyword) (t : DA) : Prop :=
  ∀ (pos : Pos) (pins : List (Addr × Obj)) (s : Shared) (σ : St) (H : Hp) (W : Own) (ρ : Ro) (Q : List D → Prop), Inv X pins σ H s → Rel X W H σ ρ → t ρ Q →
    wpAny (model X.prog X.w) X.A (evalAll ((backToKw pos (keywordEach kws X.env)).map (·.2))) (DAP X pins σ W H Q) X.xe s
section
variable {X : Cx} {k : Nat} {ps : List Str} {kn : Str} {sp : DSp} {x : Str} {p pos kpos : Pos} {e : Expr} {es : List Expr} {t tk : DA} {te : DE} {nm : Option Str} {kws : List Keyword}
theorem de_callDf (h : HasD X.prog X.w X.K X.mg X.base x k ps kn sp) (hr : Room k X.A) (ha : PAD X (e :: es) t) (hg : Gl X x := by rfl) (hdb : (x == ("__debug__" : Str)) = false := by decide)
    (he : starEach (e :: es) X.env = (false, eval e X.env) :: starEach es X.env := by rfl) (hpl : (backTo pos (starEach es X.env)).any (·.1) = false := by rfl) : PED X (.Call (.Name x p) (e :: es) [] pos) (dCall sp [.non] t) := by
  obtain ⟨f, fd, F, hm, hk, _, hb, _⟩ := h
  exact de_callD (dds := [.non]) (dsv := [.none]) F hr hg hm hk hb (.cons rfl .nil) (by intro d hd; simp at hd; subst hd; exact True.intro) pass1 ha hdb he hpl
/-- f(..) whose answer is a new list (with no list in it) -/
def dCallF (sp : DSp) (t : DA) : DA := fun ρ Q => t ρ fun ds => sp (untags ds) (fun d => ∃ ys, d = .lst true ys ∧ nolDs ys = true ∧ Q ys) fun _ => False
theorem df_call (h : Has X.prog X.w X.K X.mg X.base x k ps sp) (hr : Room k X.A) (ha : PAD X (e :: es) t) (hg : Gl X x := by rfl) (hdb : (x == ("__debug__" : Str)) = false := by decide)
    (he : starEach (e :: es) X.env = (false, eval e X.env) :: starEach es X.env := by rfl) (hpl : (backTo pos (starEach es X.env)).any (·.1) = false := by rfl) : PEF X (.Call (.Name x p) (e :: es) [] pos) (dCallF sp t) := by
  obtain ⟨f, fd, F, hm, hk, hb⟩ := h
  intro pins s σ H W ρ Q I rr h
  refine wpAny_Call_Name_kw (ld_glob I hg hm ?_ hdb)
  refine PySem.W.callWith_K (h₀ := X.base) I.ok.mod.kin hk (thn (ha pos pins s σ H W ρ _ I rr h) fun us s1 ⟨vs, H1, ds, I1, r, e1, hds, q⟩ => ⟨I1.kIn, ?_⟩) he hpl
  have rr1 := rr.same e1
  refine thn (run_fn (us := us) (ds := []) (dvs := []) (Q := fun v H' => Same H1 H' ∧ ∃ ys, Den X.K (fun t a => W.bad false a ∨ (t = true ∧ ∃ o, H1 a = some o)) H' (.lst true ys) v ∧ nolDs ys = true ∧ Q ys) F hr hb .nil pass1 I1 r
    ⟨W.bad false, untags ds, _, fun _ => False, rr1.tab, rr1.tracked false, by rw [List.append_nil]; exact Dens.untag (fun _ _ => Own.bad_up) ds vs hds, q, fun d v H' e h1 h2 => ?_, fun _ _ _ _ z => z.elim⟩) fun u s2 ⟨v, H2, I2, r2, e2, ys, hd, nl, qy⟩ => ?_
  · obtain ⟨ys, rfl, nl, qy⟩ := h2
    exact ⟨e, ys, h1, nl, qy⟩
  · obtain ⟨a, ws, ev, np, sq, hw⟩ := hd.lstG_
    subst ev
    cases r2
    have hn : H1 a = none := by
      cases z : H1 a with
      | none => rfl
      | some o => exact absurd (.inr ⟨rfl, o, z⟩) np
    exact ⟨a, ws, H2, ys, rfl, I2, e1.trans e2, e1.free hn, (sq.2 rfl).2, (sq.2 rfl).1, Dens.nol ys ws nl hw, qy⟩
end
end PD

namespace PD
open PySem PySem.Spec PyProof.Rows L2

/-! ## Dicts of one's own, keys ints and texts -/
def keyD : Key → D
  | .inl i => .int i
  | .inr x => .str x
section
variable {κ : Type} [DecidableEq κ] {K : PySem.W.Frag} {P : Bool → Addr → Prop} {H : Hp}
def lookD (kvs : List (κ × D)) (k : κ) : Option D := (kvs.find? fun kv => decide (kv.1 = k)).map (·.2)
/-- in its place, or at the end -/
def putD (kvs : List (κ × D)) (k : κ) (d : D) : List (κ × D) := if (lookD kvs k).isSome = true then kvs.map (fun kv => if kv.1 = k then (kv.1, d) else kv) else kvs ++ [(k, d)]
theorem lookD_cons (p : κ × D) (r : List (κ × D)) (k : κ) : lookD (p :: r) k = if p.1 = k then some p.2 else lookD r k := by
  unfold lookD
  rw [List.find?_cons]
  by_cases e : p.1 = k
  · rw [if_pos e, decide_eq_true e]; rfl
  · rw [if_neg e, decide_eq_false e]
theorem look_den : ∀ {kvs : List (κ × D)} {kws : List (κ × V)} {k : κ}, kws.map (·.1) = kvs.map (·.1) → Dens K P H (kvs.map (·.2)) (kws.map (·.2)) → match lookD kvs k with | some d => ∃ v, valV kws k = some v ∧ Den K P H d v | none => valV kws k = none
  | [], kws, k, e, _ => by
    have : kws = [] := by simpa using e
    subst this
    exact valV_nil
  | p :: r, [], k, e, _ => by simp at e
  | p :: r, q :: s, k, e, h => by
    simp only [List.map_cons, List.cons.injEq] at e
    simp only [List.map_cons, Dens] at h
    obtain ⟨v, u, e1, h1, h2⟩ := h
    simp only [List.cons.injEq] at e1
    obtain ⟨e1, e2⟩ := e1
    subst e2
    rw [lookD_cons]
    by_cases z : p.1 = k
    · rw [if_pos z, valV_pos (e.1.trans z)]
      exact ⟨v, by rw [e1], h1⟩
    · rw [if_neg z, valV_neg (fun y => z (e.1.symm.trans y))]
      exact look_den e.2 h2
theorem get_den {kvs : List (κ × D)} {kws : List (κ × V)} {k : κ} {d : D} (e : kws.map (·.1) = kvs.map (·.1)) (h : Dens K P H (kvs.map (·.2)) (kws.map (·.2))) (l : lookD kvs k = some d) : ∃ v, valV kws k = some v ∧ Den K P H d v := by
  have := look_den (k := k) e h
  rw [l] at this
  exact this
theorem none_den {kvs : List (κ × D)} {kws : List (κ × V)} {k : κ} (e : kws.map (·.1) = kvs.map (·.1)) (h : Dens K P H (kvs.map (·.2)) (kws.map (·.2))) (l : lookD kvs k = none) : valV kws k = none := by
  have := look_den (k := k) e h
  rw [l] at this
  exact this
theorem some_den {kvs : List (κ × D)} {kws : List (κ × V)} {k : κ} (e : kws.map (·.1) = kvs.map (·.1)) (h : Dens K P H (kvs.map (·.2)) (kws.map (·.2))) : (valV kws k).isSome = (lookD kvs k).isSome := by
  cases l : lookD kvs k with
  | none => rw [none_den e h l]; rfl
  | some d =>
    obtain ⟨v, q, _⟩ := get_den e h l
    rw [q]; rfl
theorem repl_den : ∀ {kvs : List (κ × D)} {kws : List (κ × V)} {k : κ} {d : D} {v : V}, kws.map (·.1) = kvs.map (·.1) → Dens K P H (kvs.map (·.2)) (kws.map (·.2)) → Den K P H d v →
    (kws.map fun kv => if kv.1 = k then (kv.1, v) else kv).map (·.1) = (kvs.map fun kv => if kv.1 = k then (kv.1, d) else kv).map (·.1) ∧ Dens K P H ((kvs.map fun kv => if kv.1 = k then (kv.1, d) else kv).map (·.2)) ((kws.map fun kv => if kv.1 = k then (kv.1, v) else kv).map (·.2))
  | [], kws, k, d, v, e, _, _ => by
    have : kws = [] := by simpa using e
    subst this
    exact ⟨rfl, Dens.nil⟩
  | p :: r, [], k, d, v, e, _, _ => by simp at e
  | p :: r, q :: s, k, d, v, e, h, hd => by
    simp only [List.map_cons, List.cons.injEq] at e
    simp only [List.map_cons, Dens] at h
    obtain ⟨v', u, e1, h1, h2⟩ := h
    simp only [List.cons.injEq] at e1
    obtain ⟨e1, e2⟩ := e1
    subst e2
    obtain ⟨i1, i2⟩ := repl_den (k := k) e.2 h2 hd
    rw [List.map_cons, List.map_cons, List.map_cons, List.map_cons, List.map_cons, List.map_cons]
    by_cases z : p.1 = k
    · rw [if_pos z, if_pos (e.1.trans z)]
      exact ⟨by rw [i1, e.1], Dens.cons hd i2⟩
    · rw [if_neg z, if_neg (fun y => z (e.1.symm.trans y))]
      exact ⟨by rw [i1, e.1], Dens.cons (by rw [e1]; exact h1) i2⟩
theorem put_den {kvs : List (κ × D)} {kws : List (κ × V)} {k : κ} {d : D} {v : V} (e : kws.map (·.1) = kvs.map (·.1)) (h : Dens K P H (kvs.map (·.2)) (kws.map (·.2))) (hd : Den K P H d v) :
    (putK kws k v).map (·.1) = (putD kvs k d).map (·.1) ∧ Dens K P H ((putD kvs k d).map (·.2)) ((putK kws k v).map (·.2)) := by
  unfold putK putD
  rw [valV_any, some_den e h]
  by_cases z : (lookD kvs k).isSome = true
  · rw [if_pos z, if_pos z]
    exact repl_den e h hd
  · rw [if_neg z, if_neg z, List.map_append, List.map_append, List.map_append, List.map_append, e]
    exact ⟨rfl, h.append (Dens.one hd)⟩
end
theorem den_key {K : PySem.W.Frag} {P : Bool → Addr → Prop} {H : Hp} {k : Key} {v : V} (h : Den K P H (keyD k) v) : v = kV k := by
  cases k with
  | inl i => exact h.int_
  | inr x => exact h.str_
theorem dens_keys {K : PySem.W.Frag} {P : Bool → Addr → Prop} {H : Hp} : ∀ {ks : List Key} {vs : List V}, Dens K P H (ks.map keyD) vs → vs = ks.map kV
  | [], _, h => by simpa only [List.map_nil, Dens] using h
  | k :: r, _, h => by
    simp only [List.map_cons, Dens] at h
    obtain ⟨v, u, e, h1, h2⟩ := h
    rw [e, den_key h1, dens_keys h2]
    rfl
theorem pairs_of : ∀ (ks : List Key) (ps : List (V × V)), ps.map (·.1) = ks.map kV → ps = (ks.zip (ps.map (·.2))).map fun kv => (kV kv.1, kv.2)
  | [], ps, e => by
    have : ps = [] := by simpa using e
    subst this; rfl
  | k :: r, [], e => by simp at e
  | k :: r, p :: q, e => by
    simp only [List.map_cons, List.cons.injEq] at e
    rw [List.map_cons, List.zip_cons_cons, List.map_cons, ← pairs_of r q e.2, ← e.1]
theorem merge_nil {more : List (Key × V)} : ∀ {kvs : List (Key × V)}, (kvs.map (·.1) ++ more.map (·.1)).Nodup → mergeK kvs more = kvs ++ more := by
  induction more with
  | nil => intro kvs _; show kvs = kvs ++ []; rw [List.append_nil]
  | cons p r ih =>
    intro kvs h
    show mergeK (putK kvs p.1 p.2) r = _
    have hn : valV kvs p.1 = none := by
      cases q : valV kvs p.1 with
      | none => rfl
      | some x =>
        have ha : (kvs.any fun kv => decide (kv.1 = p.1)) = true := by rw [valV_any, q]; rfl
        obtain ⟨kv, hm, he⟩ := List.any_eq_true.mp ha
        have := (List.nodup_append.mp h).2.2 kv.1 (List.mem_map_of_mem hm) p.1 (by simp)
        exact absurd (of_decide_eq_true he) this
    rw [putK_new p.2 hn, ih (by rw [List.map_append]; simpa using h)]
    simp
/-- the pairs of a display -/
def PPD (X : Cx) (pos : Pos) (keys : List (Option Expr)) (values : List Expr) (t : Ro → (List (D × D) → Prop) → Prop) : Prop :=
  ∀ (pins : List (Addr × Obj)) (s : Shared) (σ : St) (H : Hp) (W : Own) (ρ : Ro) (Q : List (D × D) → Prop), Inv X pins σ H s → Rel X W H σ ρ → t ρ Q →
    wpAny (model X.prog X.w) X.A (evalPairs (pairTrees keys values X.env pos)) (fun vs s' => ∃ ps H' ds, Inv X pins σ H' s' ∧ VV ps vs ∧ Same H H' ∧ Dens X.K W.bad H' (ds.map (·.1)) (ps.map (·.1)) ∧ Dens X.K W.bad H' (ds.map (·.2)) (ps.map (·.2)) ∧ Q ds) X.xe s
section
variable {X : Cx} {pos : Pos}
def dpNil : Ro → (List (D × D) → Prop) → Prop := fun _ Q => Q []
def dpCons (tk tv : DE) (t : Ro → (List (D × D) → Prop) → Prop) : Ro → (List (D × D) → Prop) → Prop := fun ρ Q => tk ρ fun k => tv ρ fun v => t ρ fun r => Q ((k, v) :: r)
theorem dp_nil : PPD X pos [] [] dpNil := fun pins s σ H W ρ Q I r h => pairTrees_nil_walk ⟨[], H, [], I, .nil, Same.refl H, Dens.nil, Dens.nil, h⟩
theorem dp_cons {k v : Expr} {ks : List (Option Expr)} {vs : List Expr} {tk tv : DE} {t : Ro → (List (D × D) → Prop) → Prop} (hk : PED X k tk) (hv : PED X v tv) (hr : PPD X pos ks vs t) : PPD X pos (some k :: ks) (v :: vs) (dpCons tk tv t) := by
  intro pins s σ H W ρ Q I r h
  refine pairTrees_cons_walk (thn (hk pins s σ H W ρ _ I r h) fun u s1 ⟨x, H1, dx, I1, rx, e1, hx, q1⟩ => thn (hv pins s1 σ H1 W ρ _ I1 (r.same e1) q1) fun w2 s2 ⟨y, H2, dy, I2, ry, e2, hy, q2⟩ =>
    thn (hr pins s2 σ H2 W ρ _ I2 ((r.same e1).same e2) q2) fun ws s3 ⟨ps, H3, ds, I3, rel, e3, h1, h2, q3⟩ => ?_)
  exact ⟨(x, y) :: ps, H3, (dx, dy) :: ds, I3, .cons ⟨rx, ry⟩ rel, e1.trans (e2.trans e3), Dens.cons (hx.same (e2.trans e3)) h1, Dens.cons (hy.same e3) h2, q3⟩
/-- what stands there beside a dict does not hold it -/
theorem Dens.apartD {K : PySem.W.Frag} {P : Bool → Addr → Prop} {H : Hp} {a : Addr} {o o' : HO} {ds : List D} {us : List V} (n : H a = some o) (m : (∀ xs, o ≠ .lst xs) ∧ (∀ xs, o ≠ .tup xs) ∧ (∀ b u, o ≠ .frz b u) ∧ ∀ φ, o ≠ .ext φ) (k : K.lookup a = none) (h : Dens K P H ds us) : Dens K (fun t b => P t b ∨ b = a) (L2.upd H a o') ds us := by
  have hT : ∀ b ws, SqT K H b ws → SqT K (L2.upd H a o') b ws := fun b ws q => by
    rcases q with (q | ⟨u, q⟩) | q
    · exact .inl (.inl (by rw [upd_ne (ne_of q n fun z => m.2.1 _ z.symm)]; exact q))
    · exact .inl (.inr ⟨u, by rw [upd_ne (ne_of q n fun z => m.2.2.1 _ _ z.symm)]; exact q⟩)
    · exact .inr q
  refine Dens.map hT (fun t b ws p q => ?_) (fun b φ q => by rw [upd_ne (ne_of q n fun z => m.2.2.2 _ z.symm)]; exact q) ds us h
  have hne : b ≠ a := fun z => by
    subst z
    rcases q.1 with (q | ⟨u, q⟩) | ⟨u, its, j, q, _⟩
    · rw [n] at q; exact m.1 _ (Option.some.inj q)
    · rw [n] at q; exact m.2.2.1 _ _ (Option.some.inj q)
    · rw [k] at q; cases q
  refine ⟨fun z => z.elim p hne, ?_, fun z => ⟨by rw [upd_ne hne]; exact (q.2 z).1, (q.2 z).2⟩⟩
  rcases q.1 with (q | ⟨u, q⟩) | q
  · exact .inl (.inl (by rw [upd_ne hne]; exact q))
  · exact .inl (.inr ⟨u, by rw [upd_ne hne]; exact q⟩)
  · exact .inr q
/-- x = {k: v, ..} -/
def dOwnDk (i : Nat) (t : Ro → (List (D × D) → Prop) → Prop) : DS := fun E ρ => t ρ fun ps => ∃ kvs : List (Key × D), ps = kvs.map (fun kv => (keyD kv.1, kv.2)) ∧ kvs.length ≤ 15 ∧ (kvs.map (·.1)).Nodup ∧ E.nx (ρ.set i (some (.ob (.dk kvs))))
theorem ds_ownDk {x : Str} {pos' dpos : Pos} {keys : List (Option Expr)} {values : List Expr} {t : Ro → (List (D × D) → Prop) → Prop} (i : Nat) (hN : X.N.Nodup) (h : PPD X dpos keys values t) (hi : X.N[i]? = some x := by rfl) (hall : keys.all (·.isSome) = true := by rfl) (hl : keys.length = values.length := by rfl) (h0 : keys ≠ [] := by simp)
    (h15 : keys.length ≤ 15 := by decide) (hx : Loc X.env.scope x := by first | exact Or.inl rfl | exact Or.inr rfl) (hs : swapsWith (.Dict keys values dpos) (some (.Name x pos')) pos.line X.env = pure false := by rfl)
    (hf : X.fn x = true ∨ X.env.scope.names.lookup x = some .local := by first | exact .inl rfl | exact .inr rfl | assumption) : PSD X (.Assign [.Name x pos'] (.Dict keys values dpos) pos) (dOwnDk i t) := by
  intro pins s σ H W ρ E I r hq
  have hn := I.hok.fresh (Nat.le_refl s.heap.objs.size)
  have hkn := Inv.kfresh I
  have I1 := I.laid (a := s.heap.objs.size) (o := .dK []) (h' := s.heap.push { cls := .type "dict", data := .dict #[] }) (t' := s.toks) (fun _ _ q => Heap.get?_push_of_some _ q) (Nat.le_refl _) (dk_empty s.heap I.big)
  refine wpAny_Assign_Name (wpAny_Dict_walk (knd := mixKind X.prog X.w) hall hl h0 h15 (thn (h pins _ σ _ W ρ _ I1 (r.same (Same.upd hn)) hq) fun ws s2 ⟨ps, H2, ds, I2, rel, sm, d1, d2, kvs, ek, lk, nd, q⟩ => ?_)) hs
  subst ek
  have e := sm _ _ (upd_same (H := H) (a := s.heap.objs.size) (o := .dK []))
  have hk1 : ps.map (·.1) = (kvs.map (·.1)).map kV := dens_keys (by
    have : (kvs.map fun kv => (keyD kv.1, kv.2)).map (·.1) = (kvs.map (·.1)).map keyD := by simp [List.map_map, Function.comp_def]
    rw [this] at d1
    exact d1)
  have d2' : Dens X.K W.bad H2 (kvs.map (·.2)) (ps.map (·.2)) := by
    have : (kvs.map fun kv => (keyD kv.1, kv.2)).map (·.2) = kvs.map (·.2) := by simp [List.map_map, Function.comp_def]
    rw [this] at d2
    exact d2
  have hlen : (kvs.map (·.1)).length = (ps.map (·.2)).length := by have := d2'.len; simp at this; simp [this]
  have ep := pairs_of _ ps hk1
  generalize hkw : (kvs.map (·.1)).zip (ps.map (·.2)) = kws at ep
  have f1 : kws.map (·.1) = kvs.map (·.1) := by rw [← hkw, List.map_fst_zip (Nat.le_of_eq hlen)]
  have f2 : kws.map (·.2) = ps.map (·.2) := by rw [← hkw, List.map_snd_zip (Nat.le_of_eq hlen.symm)]
  rw [ep] at rel
  obtain ⟨rs, c, rk⟩ := carries_of (P := X.prog) (w := X.w) rel
  obtain ⟨z, hd, vs0, r0, dd⟩ := dk_of I2.hok e
  cases r0
  refine ⟨rs, c, dd, fun h' dd' hsb => ?_⟩
  have lkw : kws.length = kvs.length := by have := congrArg List.length f1; simpa using this
  have hm : mergeK [] kws = kws := by rw [merge_nil (by rw [f1]; simpa using nd)]; rfl
  have hz : kws.length ≤ sizeLine := by rw [lkw, sizeLine_eq]; omega
  have he : ∃ q, h'.get? s.heap.objs.size = some q := let ⟨q, _, _, hq, _⟩ := dd'; ⟨q, hq⟩
  have I3 := d_write (t' := s2.toks + ws.length) I2 (by rw [e]; exact True.intro) hsb he (dk_new (kvs := kws) hz hd (by rw [← hm]; exact rk.merge .nil) dd')
  have rp := r.putG (x := .dk kvs) (Inv.ilt I2 hi) (H' := L2.upd H2 s.heap.objs.size (.dK kws)) (((Same.upd hn).trans sm).ins hn e True.intro True.intro) hn hkn upd_same
    (.dk f1 (by rw [f2]; exact Dens.apartD e ⟨(fun _ z => by cases z), (fun _ z => by cases z), (fun _ _ z => by cases z), fun _ z => by cases z⟩ hkn d2'))
  exact store_ok (v := .ref s.heap.objs.size) I3 hN hi hx rfl (fun s3 I4 => ⟨_, _, _, I4, rp.2, _, rp.1, q⟩) hf
theorem Rel.ownK {W : Own} {H : Hp} {σ : St} {ρ : Ro} (r : Rel X W H σ ρ) {i : Nat} {kvs : List (Key × D)} (h : ρ[i]? = some (some (.ob (.dk kvs)))) : ∃ a kws, W.O i = some a ∧ σ[i]? = some (some (.ref a)) ∧ H a = some (.dK kws) ∧ kws.map (·.1) = kvs.map (·.1) ∧ Dens X.K W.bad H (kvs.map (·.2)) (kws.map (·.2)) := by
  obtain ⟨a, o, h1, h2, h3, h4⟩ := r.own i _ h
  cases h4 with
  | dk e h5 => exact ⟨a, _, h1, h2, h3, e, h5⟩
/-- d[k] -/
def dDix (i : Nat) (tb : DE) : DE := fun ρ Q => ∃ kvs, ρ[i]? = some (some (.ob (.dk kvs))) ∧ tb ρ fun k => ∃ key d, k = keyD key ∧ lookD kvs key = some d ∧ Q d
theorem de_dix {x : Str} {px : Pos} {b : Expr} {tb : DE} (i : Nat) (hu : X.A.units + 1 < cLine) (hb : PED X b tb) (hN : X.N[i]? = some x := by rfl) (hv : Vis X.env.scope x := by first | exact Or.inl rfl | exact Or.inr (Or.inl rfl) | exact Or.inr (Or.inr rfl)) (hd : (x == ("__debug__" : Str)) = false := by decide)
    (hcd : (x == ("__classdict__" : Str)) = false := by decide) (hs : NoSl b := by intro _ _; rfl) : PED X (.Subscript (.Name x px) b pos) (dDix i tb) := by
  refine PED.of (pe_dget hu (pe_var hN hv hd hcd) hb.pe hs) fun σ H W ρ Q r h => ?_
  obtain ⟨kvs, eo, h⟩ := h
  obtain ⟨a, kws, oa, sa, ha, e, hden⟩ := r.ownK eo
  refine ⟨.ref a, sa, W, ρ, _, r, h, fun v H1 d e1 hd q => ?_⟩
  obtain ⟨key, d', rfl, l, q⟩ := q
  obtain ⟨v', l', hv'⟩ := get_den e hden l
  have := den_key hd
  subst this
  refine ⟨a, v', rfl, ?_, e1, d', hv'.same e1, q⟩
  rw [← l']
  exact DGet.k (e1 _ _ ha)
/-- d[k] += e, ints -/
def dDAug (i : Nat) (tk te : DE) : DS := fun E ρ => ∃ kvs, ρ[i]? = some (some (.ob (.dk kvs))) ∧ tk ρ fun k => ∃ key n, k = keyD key ∧ lookD kvs key = some (.int n) ∧ te ρ fun d => ∃ m, d = .int m ∧ kvs.length < sizeLine ∧ E.nx (ρ.set i (some (.ob (.dk (putD kvs key (.int (n + m)))))))
theorem ds_daug {x : Str} {px tpos : Pos} {b e : Expr} {tb te : DE} (i : Nat) (hu : X.A.units + 1 < cLine) (hb : PED X b tb) (he : PED X e te) (hN : X.N[i]? = some x := by rfl) (hv : Vis X.env.scope x := by first | exact Or.inl rfl | exact Or.inr (Or.inl rfl) | exact Or.inr (Or.inr rfl)) (hd : (x == ("__debug__" : Str)) = false := by decide)
    (hcd : (x == ("__classdict__" : Str)) = false := by decide) (ha : ∀ ov iv new, augStore b ov iv new = (do holding [new, ov, iv] (setItem ov iv new); release [new, ov, iv] []; pure .next) := by intros; rfl) : PSD X (.AugAssign (.Subscript (.Name x px) b tpos) .Add e pos) (dDAug i tb te) := by
  refine PSD.of (ps_daug hu (pe_var hN hv hd hcd) hb.pe he.pe in_add ha) fun σ H W ρ E r hl h => ?_
  obtain ⟨kvs, eo, h⟩ := h
  obtain ⟨a, kws, oa, sa, ha, ek, hden⟩ := r.ownK eo
  refine ⟨.ref a, sa, W, ρ, _, r, h, fun v H1 d e1 hd q => ?_⟩
  obtain ⟨key, n, rfl, l, q⟩ := q
  obtain ⟨v', l', hv'⟩ := get_den ek hden l
  have z1 := den_key hd
  have z2 := hv'.int_
  subst z1 z2
  refine ⟨a, _, rfl, by rw [← l']; exact DGet.k (e1 _ _ ha), W, ρ, _, r.same e1, q, fun v2 H2 d2 e2 hd2 q2 => ?_⟩
  obtain ⟨m, rfl, hz, q2⟩ := q2
  have z3 := hd2.int_
  subst z3
  have lz : kws.length < sizeLine := by have := congrArg List.length ek; simp at this; omega
  have ha2 := e2 _ _ (e1 _ _ ha)
  obtain ⟨p1, p2⟩ := put_den (k := key) ek (hden.same (e1.trans e2)) (Den.int (n + m))
  obtain ⟨r2, f2⟩ := ((r.same e1).same e2).mutG eo oa sa ha2 True.intro (.dk p1 p2)
  exact ⟨n, m, rfl, rfl, _, DPut.k ha2 lz, W, _, (Fwd.same (e1.trans e2)).trans f2, r2, q2⟩
end
end PD
namespace PD
open PySem PySem.Spec PyProof.Rows L2
theorem exob_0 (kvs : List (Key × D)) (r : Ro) (R : List (Key × D) → Prop) : (∃ ys, (some (Sl.ob (.dk kvs)) :: r)[0]? = some (some (Sl.ob (.dk ys))) ∧ R ys) = R kvs := by
  apply propext
  constructor
  · rintro ⟨_, e, q⟩
    have e' : some (some (Sl.ob (.dk kvs))) = some (some (Sl.ob (.dk _))) := e
    cases e'
    exact q
  · intro q; exact ⟨kvs, rfl, q⟩
theorem exob_S (n : Nat) (x : Option Sl) (r : Ro) (R : List (Key × D) → Prop) : (∃ ys, (x :: r)[n + 1]? = some (some (Sl.ob (.dk ys))) ∧ R ys) = (∃ ys, r[n]? = some (some (Sl.ob (.dk ys))) ∧ R ys) := rfl
theorem seq_lst (t : Bool) (xs : List D) (R : List D → Prop) : (∃ k ds, seqD (.lst t xs) = some (k, ds) ∧ R ds) = R xs := by
  apply propext
  constructor
  · rintro ⟨_, _, e, q⟩; cases e; exact q
  · intro q; exact ⟨_, _, rfl, q⟩
theorem allT_bl (b : Bool) : allT (.bl b) = true := by rw [allT] <;> (intros; contradiction)
theorem allT_int (b : Int) : allT (.int b) = true := by rw [allT] <;> (intros; contradiction)
theorem allT_non : allT .non = true := by rw [allT] <;> (intros; contradiction)
/-- any item of a list written out -/
theorem at_any {ds : List D} {k : Int} {Q : D → Prop} (h0 : 0 ≤ k) (h1 : k < ds.length) (h : ∀ d ∈ ds, Q d) : ∃ d, atI ds k = some d ∧ Q d := by
  have e : k = ((k.toNat : Nat) : Int) := by omega
  have hl : k.toNat < ds.length := by omega
  refine ⟨ds[k.toNat], ?_, h _ (List.getElem_mem hl)⟩
  have q : atI ds ((k.toNat : Nat) : Int) = some ds[k.toNat] := atI_nat (by simp)
  rw [← e] at q
  exact q
/-- a comprehension whose parts are known item by item -/
theorem comp_map {α : Type} {wi : DA} {js : List Nat} {tc : DT} {te : DE} {ρ : Ro} {Q : D → Prop} (xs : List α) (f : α → D) (c : α → Bool) (g : α → D) (hw : ∀ R : List D → Prop, R (xs.map f) → wi ρ R) (hz : xs.length ≤ sizeLine)
    (hc : ∀ x ∈ xs, ∀ K : Bool → Prop, K (c x) → tc (some (.val (f x)) :: js.map (getV ρ)) K) (he : ∀ x ∈ xs, c x = true → ∀ K : D → Prop, K (g x) → te (some (.val (f x)) :: js.map (getV ρ)) K) (q : Q (.lst true ((xs.filter c).map g))) : dComp wi js tc te ρ Q := by
  refine hw _ ⟨by rw [List.length_map]; exact hz, fun j out => out = ((xs.take j).filter c).map g, by simp, fun j d out hd ho => ?_, fun out ho => ?_⟩
  · rw [List.getElem?_map] at hd
    cases ex : xs[j]? with
    | none => rw [ex] at hd; cases hd
    | some x =>
      rw [ex] at hd
      cases hd
      have hm : x ∈ xs := List.mem_of_getElem? ex
      have ht : xs.take (j + 1) = xs.take j ++ [x] := by rw [List.take_succ, ex]; rfl
      refine hc x hm _ ?_
      by_cases z : c x = true
      · rw [if_pos z]
        refine he x hm z _ ?_
        show _ = List.map g (List.filter c (List.take (j + 1) xs))
        rw [ht, ho, List.filter_append, List.map_append]
        simp [z]
      · rw [if_neg z]
        show _ = List.map g (List.filter c (List.take (j + 1) xs))
        rw [ht, ho, List.filter_append]
        simp [z]
  · rw [List.length_map, List.take_of_length_le (Nat.le_refl _)] at ho
    rw [ho]; exact q
/-- a loop over a known list: the word by the part that is done -/
theorem for_map {α : Type} {wi : DA} {g : DG} {tb : DS} {E : DEnds} {ρ : Ro} (xs : List α) (f : α → D) (Pv : List α → Ro → Prop) (hw : ∀ R : List D → Prop, R (xs.map f) → wi ρ R) (p0 : Pv [] ρ)
    (turn : ∀ (done : List α) (x : α) (ρ' : Ro), x ∈ xs → done.length < xs.length → Pv done ρ' → g (f x) ρ' fun ρ2 => tb { E with nx := Pv (done ++ [x]), ct := Pv (done ++ [x]), bk := E.nx } ρ2) (fin : ∀ ρ', Pv xs ρ' → E.nx ρ') : dFor wi g tb E ρ := by
  refine hw _ ⟨fun j => Pv (xs.take j), by simpa using p0, fun j d ρ' hd hp => ?_, fun ρ' hp => fin ρ' (by rw [List.length_map, List.take_of_length_le (Nat.le_refl _)] at hp; exact hp)⟩
  rw [List.getElem?_map] at hd
  cases ex : xs[j]? with
  | none => rw [ex] at hd; cases hd
  | some x =>
    rw [ex] at hd
    cases hd
    have hj := (List.getElem?_eq_some_iff.mp ex).1
    have ht : xs.take (j + 1) = xs.take j ++ [x] := by rw [List.take_succ, ex]; rfl
    show g (f x) ρ' fun ρ2 => tb { E with nx := Pv (xs.take (j + 1)), ct := Pv (xs.take (j + 1)), bk := E.nx } ρ2
    rw [ht]
    exact turn (xs.take j) x ρ' (List.mem_of_getElem? ex) (by rw [List.length_take]; omega) hp
end PD

namespace PD
open PySem PySem.Spec PyProof.Rows L2

/-! ## Data that may be compared -/
structure OkN (n : Nat) (d : D) : Prop where
  pl : plD d = true
  lay : (pyD d).canLay0 = true
  dp : (pyD d).depth ≤ n
structure OkNs (n : Nat) (ds : List D) : Prop where
  pl : plDs ds = true
  lay : PyData.canLayAll0 (pyDs ds) = true
  dp : PyData.depthAll (pyDs ds) ≤ n
theorem OkN.ok {n : Nat} {d : D} (h : OkN n d) (hn : n ≤ 64 := by decide) : okD d := ⟨h.pl, by
  unfold SeqAt.shaped
  rw [h.lay, decide_eq_true (Nat.le_trans h.dp hn)]
  rfl⟩
theorem OkN.int (n : Nat) (i : Int) : OkN n (.int i) := ⟨by rw [plD] <;> (intros; contradiction), by rw [pyD, PyData.canLay0], by rw [pyD, PyData.depth]; exact Nat.zero_le _⟩
theorem OkN.bl (n : Nat) (i : Bool) : OkN n (.bl i) := ⟨by rw [plD] <;> (intros; contradiction), by rw [pyD, PyData.canLay0], by rw [pyD, PyData.depth]; exact Nat.zero_le _⟩
theorem OkN.non (n : Nat) : OkN n .non := ⟨by rw [plD] <;> (intros; contradiction), by rw [pyD, PyData.canLay0], by rw [pyD, PyData.depth]; exact Nat.zero_le _⟩
theorem OkNs.nil (n : Nat) : OkNs n [] := ⟨by rw [plDs], by rw [pyDs, PyData.canLayAll0], by rw [pyDs, PyData.depthAll]; exact Nat.zero_le _⟩
theorem OkNs.cons {n : Nat} {d : D} {ds : List D} (h : OkN n d) (h' : OkNs n ds) : OkNs n (d :: ds) := ⟨by rw [plDs, h.pl, h'.pl]; rfl, by rw [pyDs, PyData.canLayAll0, h.lay, h'.lay]; rfl, by
  rw [pyDs, PyData.depthAll]
  exact Nat.max_le.mpr ⟨h.dp, h'.dp⟩⟩
theorem OkNs.of {n : Nat} : ∀ {ds : List D}, (∀ d ∈ ds, OkN n d) → OkNs n ds
  | [], _ => .nil n
  | d :: r, h => .cons (h d List.mem_cons_self) (OkNs.of fun x hx => h x (List.mem_cons_of_mem _ hx))
theorem OkN.tup {n : Nat} {ds : List D} (h : OkNs n ds) : OkN (n + 1) (.tup ds) := ⟨by rw [plD]; exact h.pl, by rw [pyD, PyData.canLay0]; exact h.lay, by rw [pyD, PyData.depth]; exact Nat.succ_le_succ h.dp⟩
theorem OkN.lst {n : Nat} {t : Bool} {ds : List D} (h : OkNs n ds) : OkN (n + 1) (.lst t ds) := ⟨by rw [plD]; exact h.pl, by rw [pyD, PyData.canLay0]; exact h.lay, by rw [pyD, PyData.depth]; exact Nat.succ_le_succ h.dp⟩
theorem OkN.map {α : Type} {n : Nat} {t : Bool} {f : α → D} {xs : List α} (h : ∀ x, OkN n (f x)) : OkN (n + 1) (.lst t (xs.map f)) := OkN.lst (OkNs.of fun d hd => by
  obtain ⟨x, _, rfl⟩ := List.mem_map.mp hd
  exact h x)
def eqDs (xs ys : List D) : Bool := PyData.eqvAll (pyDs xs) (pyDs ys)
theorem eqD_lst (t u : Bool) (xs ys : List D) : eqD (.lst t xs) (.lst u ys) = eqDs xs ys := by unfold eqD eqDs; rw [pyD, pyD, PyData.eqv]
theorem eqD_tup (xs ys : List D) : eqD (.tup xs) (.tup ys) = eqDs xs ys := by unfold eqD eqDs; rw [pyD, pyD, PyData.eqv]
theorem eqDs_nil : eqDs [] [] = true := by unfold eqDs; rw [pyDs, PyData.eqvAll]
theorem eqDs_cons (x y : D) (xs ys : List D) : eqDs (x :: xs) (y :: ys) = (eqD x y && eqDs xs ys) := by unfold eqDs eqD; rw [pyDs, pyDs, PyData.eqvAll]
theorem eqD_str (x y : Str) : eqD (.str x) (.str y) = (x == y) := by unfold eqD; rw [pyD, pyD, PyData.eqv]
theorem eqD_non : eqD .non .non = true := by unfold eqD; rw [pyD, PyData.eqv]
mutual
theorem eqD_refl : ∀ d : D, eqD d d = true
  | .non => eqD_non
  | .bl b => by rw [eqD_bl]; simp
  | .int i => by rw [eqD_int]; simp
  | .str x => by rw [eqD_str]; simp
  | .exc _ => by unfold eqD; rw [pyD, PyData.eqv]
  | .tup ds => by rw [eqD_tup]; exact eqDs_refl ds
  | .lst t ds => by rw [eqD_lst]; exact eqDs_refl ds
theorem eqDs_refl : ∀ ds : List D, eqDs ds ds = true
  | [] => eqDs_nil
  | d :: r => by rw [eqDs_cons, eqD_refl d, eqDs_refl r]; rfl
end
theorem eqD_lst_self (t u : Bool) (xs : List D) : eqD (.lst t xs) (.lst u xs) = true := by rw [eqD_lst]; exact eqDs_refl xs
end PD

namespace PD
open PySem PySem.Spec PyProof.Rows L2
section
variable {X : Cx} {a b c : Expr} {ta tb tc : DE} {pos : Pos}
/-! ## a <= b <= c -/
/-! ## all([..]) of bools -/
theorem allB {prog : Program} {w : World} {A : Around} {E : Value → Shared → Prop} {s : Shared} {l : Addr} {vs : List Value} {bs : List Bool} {Q : Value → Shared → Prop} (hh : A.handled = none) (hl : s.heap.IsList l vs.toArray) (hb : LSm.BoolsAre vs bs)
    (h : ∀ h' tk, (∀ b o, s.heap.get? b = some o → h'.get? b = some o) → Q (.bool (bs.all id)) { s with heap := h', toks := tk }) : wpAny (model prog w) A (call (.builtin "all") [.ref l]) Q E s := by
  have lt : l < s.heap.objs.size := by
    obtain ⟨_, e, _⟩ := hl
    exact Heap.lt_size e
  refine call_all_walk (wpAny_pyIter_list hl ?_)
  refine ⟨s.heap.objs.size, [s.heap.objs.size, l], [s.heap.objs.size], vs.toArray.size, _, _, fun i => (bs[i]?).getD true, rfl, Walks.list (A := A.in1) hh _ l (Nat.ne_of_lt lt) vs.toArray, ⟨⟨_, Heap.get?_push_size _ rfl, rfl, rfl⟩, hl.push _⟩, (fun i v s1 Q1 E1 hP hQ => ?_), (fun h1 tk hk => ?_)⟩
  · obtain ⟨k, e, ek⟩ := hb.get i v (by simpa using hP)
    subst ek
    simp only [e, Option.getD_some] at hQ
    exact wpAny_truthy_bool hQ
  · have e : ((List.range vs.toArray.size).all fun i => (bs[i]?).getD true) = bs.all id := by
      rw [List.size_toArray, hb.length]
      exact LSm.range_all bs
    rw [e]
    exact h h1 tk (LSm.kept_iter hk)
theorem bools_of {K : PySem.W.Frag} {P : Bool → Addr → Prop} {H : Hp} : ∀ {bs : List Bool} {vs : List V} {us : List Value}, Dens K P H (bs.map D.bl) vs → Vals vs us → LSm.BoolsAre us bs
  | [], _, _, h, r => by
    simp only [List.map_nil, Dens] at h
    subst h
    cases r
    exact .nil
  | b :: q, _, _, h, r => by
    simp only [List.map_cons, Dens] at h
    obtain ⟨v, w, e, h1, h2⟩ := h
    subst e
    have := h1.bl_
    subst this
    cases r with
    | cons ra rb =>
      cases ra
      exact .cons b (bools_of h2 rb)
theorem cd_all (hc : X.calm = true) : CallD X (.builtin "all") (fun ds Q => ∃ (t : Bool) (bs : List Bool), ds = [.lst t (bs.map D.bl)] ∧ Q (.bl (bs.all id))) := by
  intro pins s σ H W ds vs us Q I tr r hd q
  obtain ⟨t, bs, e, q⟩ := q
  subst e
  obtain ⟨v, rfl, h1⟩ := dens1 hd
  obtain ⟨p, ws, ev, _, hq, hw⟩ := h1.lst_
  subst ev
  cases r with
  | cons r1 rr =>
    cases rr
    cases r1
    obtain ⟨its, rv, pl, _⟩ := I.list hq
    exact allB (I.ok.hd hc) pl.isList (bools_of hw rv) fun h' tk kp => ⟨.bl _, H, _, I.kept kp, rfl, Same.refl H, Den.bl _, q⟩
/-! ## for x in a tuple -/
def dIterT (ti : DE) : DA := fun ρ R => ti ρ fun d => ∃ ds, d = .tup ds ∧ R ds
theorem id_tup {tg iter : Expr} {ti : DE} (h : PED X iter ti) : PID X tg iter (dIterT ti) := by
  refine PID.of (pi_tup h.pe) fun σ H W ρ R r hw => ⟨W, ρ, _, r, hw, fun v H1 d e1 hd q => ?_⟩
  obtain ⟨ds, rfl, q⟩ := q
  obtain ⟨p, vs, rfl, hq, hds⟩ := hd.tup_
  refine ⟨p, rfl, ⟨vs, hq⟩, e1, ds, ?_, q⟩
  intro P' H' hT hL hX i
  have hq' := hT p vs hq
  have hl := hds.len
  refine ⟨fun hi => ?_, fun x H3 y hi => ?_, fun hi => ⟨vs, hq', by omega⟩⟩
  · obtain ⟨v, hv, _⟩ := hds.get (i := i) (d := ds[i]) (by simp [hi])
    exact ⟨vs, v, hq', hv⟩
  · obtain ⟨e3, y⟩ := y
    subst e3
    obtain ⟨d, h1, h2⟩ := hds.getV (y vs hq')
    exact ⟨Same.refl _, d, h1, Den.map hT hL hX d _ h2⟩
theorem it_tup (xs : List D) (R : List D → Prop) : (∃ ds, D.tup xs = .tup ds ∧ R ds) = R xs := by
  apply propext
  constructor
  · rintro ⟨_, e, q⟩; cases e; exact q
  · intro q; exact ⟨xs, rfl, q⟩
/-! ## a tuple's slice -/
variable {e : Expr} {te : DE} {lo hi : Option Expr} {tl th : DO} {p2 : Pos}
theorem de_slT (he : PED X e te) (hl : PDO X lo tl) (hh : PDO X hi th) : PED X (.Subscript e (.Slice lo hi none p2) pos) (dSlT te tl th) := by
  intro pins s σ H W ρ Q I r h
  refine slice_wp (st := none) (ts := dNoPart) (R := fun d l u k => k = none ∧ ∃ ds, d = .tup ds ∧ ¬ (HT.sIx ds.length 0 l = 0 ∧ HT.sIx ds.length ds.length u = ds.length) ∧ Q (.tup (PD.cutD ds l u))) he hl hh do_none I r ?_ ?_ (fun _ _ => ⟨_, rfl⟩)
  · have e1 : (fun d => tl ρ fun l => th ρ fun u => dNoPart ρ fun k => k = none ∧ ∃ ds, d = D.tup ds ∧ ¬ (HT.sIx ds.length 0 l = 0 ∧ HT.sIx ds.length ds.length u = ds.length) ∧ Q (.tup (PD.cutD ds l u))) = fun d => tl ρ fun l => th ρ fun u => ∃ ds, d = D.tup ds ∧ ¬ (HT.sIx ds.length 0 l = 0 ∧ HT.sIx ds.length ds.length u = ds.length) ∧ Q (.tup (PD.cutD ds l u)) := by
      funext d
      congr 1
      funext l
      congr 1
      funext u
      exact propext ⟨fun z => z.2, fun z => ⟨rfl, z⟩⟩
    rw [e1]
    exact h
  · intro v vv vl vu vk l u k d sl H' s' I' sm rv hd hs pl pu pk hR
    obtain ⟨ek, ds, ed, hw, q⟩ := hR
    subst ek ed
    cases pk
    obtain ⟨p, vs, ev, hq, hds⟩ := hd.tup_
    subst ev
    obtain ⟨T, id, h1, h2, h3⟩ := sl_tup pins s' σ H' (.ref p) vv vl vu l u sl (fun v' H'' => Same H' H'' ∧ ∃ d', Den X.K W.bad H'' d' v' ∧ Q d') I' rv hs pl pu ⟨p, vs, rfl, hq, by rw [hds.len]; exact hw, fun q' hp => ⟨Same.upd hp, _, Den.tup (SqT.of upd_same) ((hds.cut l u).same (Same.upd hp)), q⟩⟩
    exact ⟨T, id, h1, h2, thn h3 fun _ s2 ⟨w', H2, I2, r2, e2, d', hd', q'⟩ => ⟨w', H2, d', I2, r2, sm.trans e2, hd', q'⟩⟩
theorem binds_full {K : PySem.W.Frag} {fd : FuncData} {ps : List Str} (h : ∀ (s : Shared) (us : List Value), K.In s.heap → us.length = ps.length → BindsTo s fd ⟨us, []⟩ (ps.zip us)) : Binds K fd ps [] := fun s us kin hl => by
  rw [List.append_nil] at hl ⊢
  exact h s us kin hl
theorem binds_dflt {K : PySem.W.Frag} {fd : FuncData} {ps : List Str} (n : Nat) (hp : ps.length = n + 1) (h : ∀ (s : Shared) (us : List Value), K.In s.heap → us.length = n → BindsTo s fd ⟨us, []⟩ (ps.zip (us ++ [.none]))) : Binds K fd ps [.none] := fun s us kin hl => h s us kin (by
  rw [List.length_append, hp] at hl
  simpa using hl)
theorem kbinds_one {K : PySem.W.Frag} {fd : FuncData} {ps : List Str} {kn : Str} (n : Nat) (hp : ps.length = n + 1) (h : ∀ (s : Shared) (us : List Value) (w : Value), K.In s.heap → us.length = n → BindsTo s fd ⟨us, [(kn, w)]⟩ (ps.zip (us ++ [w]))) : KBinds K fd ps [kn] kwG kwG := ⟨fun s us ws kin hl => by
  cases ws with
  | nil =>
    have hl' : 0 = ps.length := hl
    omega
  | cons w r =>
    cases r with
    | nil =>
      have hl' : (us ++ [w]).length = ps.length := hl
      rw [List.length_append, hp] at hl'
      exact h s us w kin (by simpa using hl')
    | cons _ _ =>
      have hl' : 0 = ps.length := hl
      omega, kwG_rel⟩
end
section
variable {X : Cx} {pos : Pos}
end
end PD

namespace PD
open PySem PySem.Spec PyProof.Rows L2

/-! ## A list of one's own that holds lists of one's own -/
section
variable {K : PySem.W.Frag} {P : Bool → Addr → Prop} {H : Hp} {B : Nat → Option Addr}
theorem LDens.len : ∀ {k : Nat} {xs : List LI} {vs : List V}, LDens K P H B k xs vs → vs.length = xs.length
  | _, [], _, h => by simp only [LDens] at h; subst h; rfl
  | k, .own ds :: r, _, h => by
    simp only [LDens] at h
    obtain ⟨b, us, u, rfl, _, _, _, h4⟩ := h
    simp [LDens.len h4]
  | k, .val d :: r, _, h => by
    simp only [LDens] at h
    obtain ⟨v, u, rfl, _, h2⟩ := h
    simp [LDens.len h2]
end

section
variable {X : Cx} {pos : Pos}
/-- expressions that make lists, for the thing at slot i, from its k-th on -/
def PFL (X : Cx) (i : Nat) (es : List Expr) (t : Ro → (List (List D) → Prop) → Prop) : Prop :=
  ∀ (pos : Pos) (pins : List (Addr × Obj)) (s : Shared) (σ : St) (H : Hp) (W : Own) (ρ : Ro) (k : Nat) (Q : List (List D) → Prop), Inv X pins σ H s → Rel X W H σ ρ → i < σ.length → ρ[i]? = some none → t ρ Q →
    wpAny (model X.prog X.w) X.A (spliced (backTo pos (starEach es X.env))) (fun us s' => ∃ vs H' W' xss, Inv X pins σ H' s' ∧ Vals vs us ∧ Same H H' ∧ Rel X W' H' σ ρ ∧ Fwd W H W' H' ∧ LDens X.K W'.bad H' (W'.sub σ.length i) k (xss.map LI.own) vs ∧ (∀ l, l < k → W'.sub σ.length i l = W.sub σ.length i l) ∧ Q xss) X.xe s
/-! ### read for a while as a datum -/
variable {e : Expr} {te : DE} {tt : DT} {ta : DA}
/-! ### one of its lists is changed -/
end
end PD

namespace PD
open PySem PySem.Spec PyProof.Rows L2

/-! ## A lambda: made, called -/
section
variable {X : Cx} {pins : List (Addr × Obj)} {σ : St} {H : Hp} {s : Shared} {sc : Scope} {ns : List Str} {js : List Nat} {x : Str}
end

/-! ### min(xs, key=lambda ..) -/
section
variable {X : Cx} {pins : List (Addr × Obj)} {σ : St} {H : Hp}
/-- the loop's own things, each apart -/
structure MinAt (X : Cx) (pins : List (Addr × Obj)) (H : Hp) (s : Shared) (l f S I : Addr) (fo : Obj) (j : Nat) (vb : Value) (k : Int) : Prop where
  fo : s.heap.get? f = some fo
  ff : FpOk X pins H f
  so : ∃ tb n, s.heap.get? S = some (seqObj "list" #[vb, .int k tb] n)
  sf : FpOk X pins H S
  io : s.heap.IsListIter I l j
  jf : FpOk X pins H I
  fS : f ≠ S
  fI : f ≠ I
  SI : S ≠ I
  lI : l ≠ I
end

section
variable {X : Cx} {sc : Scope} {ns : List Str} {js : List Nat} {x : Str} {pos : Pos}
end

/-! ### the head, where the top has left an empty table -/
end PD

namespace PD
open PySem PySem.Spec PyProof.Rows L2
/-! ## x.extend(e), x a list of one's own -/
section
variable {X : Cx} {pos : Pos}
def dExtend (i : Nat) (te : DE) : DS := fun E ρ => ∃ ds, ρ[i]? = some (some (.own ds)) ∧ te ρ fun d => ∃ xs, d = .lst true xs ∧ ds.length + xs.length ≤ sizeLine ∧ E.nx (ρ.set i (some (.own (ds ++ xs))))
theorem ds_extend {x : Str} {e : Expr} {te : DE} {px apos cpos : Pos} (i : Nat) (he : PED X e te) (hi : X.N[i]? = some x := by rfl) (hv : Vis X.env.scope x := by first | exact Or.inl rfl | exact Or.inr (Or.inl rfl) | exact Or.inr (Or.inr rfl))
    (hd : (x == ("__debug__" : Str)) = false := by decide) (hcd : (x == ("__classdict__" : Str)) = false := by decide)
    (hbase : attributeBase (.Name x px) "extend" X.env (eval (.Name x px) X.env) = eval (.Name x px) X.env := by rfl)
    (hfew : ((backTo cpos (starEach [e] X.env)).all (fun x => !x.1) && (backToKw cpos (keywordEach [] X.env)).all (fun x => x.1.isSome) && decide ([e].length + ([] : List Keyword).length + (if ([] : List Keyword).isEmpty then 0 else 1) < 30)) = true := by rfl)
    (hline : (apos.endLine == cpos.line) = true := by rfl) (hst : starEach [e] X.env = (false, eval e X.env) :: starEach [] X.env := by rfl) (hplain : (backTo cpos (starEach [] X.env)).any (·.1) = false := by rfl)
    (hs : swapsWith (.Call (.Attribute (.Name x px) "extend" apos) [e] [] cpos) none pos.line X.env = pure false := by rfl) :
    PSD X (.Expr (.Call (.Attribute (.Name x px) "extend" apos) [e] [] cpos) pos) (dExtend i te) := by
  have P0 := ps_expr (pos := pos) (pe_bm PySem.F.plainAttrs_list PySem.F.slot_list_extend PySem.F.type_list_extend mt_extend (pe_var hi hv hd hcd) (pa_cons he.pe pa_nil hst) hbase hfew hline hst hplain) hs
  refine PSD.of P0 fun σ H W ρ E r hl h => ?_
  obtain ⟨ds, eo, h⟩ := h
  obtain ⟨a, vs, oa, sa, ha, hds⟩ := r.ownL i ds eo
  refine ⟨.ref a, sa, .inl ⟨rfl, _, SqL.of ha⟩, W, ρ, _, r, h, fun v H' d e1 hd' q => ?_⟩
  obtain ⟨xs, rfl, z, q⟩ := q
  obtain ⟨b, us, rfl, _, hb, hxs⟩ : ∃ b us, v = .ref b ∧ ¬ W.bad true b ∧ SqG X.K H' true b us ∧ Dens X.K W.bad H' xs us := by simpa only [Den] using hd'
  have ha' := e1 _ _ ha
  have r' := r.same e1
  have hds' := hds.same e1
  refine ⟨a, b, vs, us, rfl, rfl, ha', (hb.2 rfl).1, by rw [hds'.len, hxs.len]; exact z, ?_⟩
  obtain ⟨r2, f2⟩ := r'.mut (vs' := vs ++ us) eo oa sa ha' (hds'.append hxs)
  exact ⟨W, _, (Fwd.same e1).trans f2, r2, q⟩
end

/-! ## dicts of one's own whose keys are tuples -/
section
variable {prog : Program} {w : World} {A : Around} {E : Value → Shared → Prop} {s : Shared}
end
section
variable {X : Cx} {pos : Pos}
theorem Rel.ownT {W : Own} {H : Hp} {σ : St} {ρ : Ro} (r : Rel X W H σ ρ) {i : Nat} {kvs : List (List Key × D)} (h : ρ[i]? = some (some (.ob (.dt kvs)))) : ∃ a kws, W.O i = some a ∧ σ[i]? = some (some (.ref a)) ∧ H a = some (.dT kws) ∧ kws.map (·.1) = kvs.map (·.1) ∧ Dens X.K W.bad H (kvs.map (·.2)) (kws.map (·.2)) := by
  obtain ⟨a, o, h1, h2, h3, h4⟩ := r.own i _ h
  cases h4 with
  | dt e h5 => exact ⟨a, _, h1, h2, h3, e, h5⟩
/-- an expression that gives a tuple just made -/
def PEK (X : Cx) (e : Expr) (t : DE) : Prop :=
  ∀ (pins : List (Addr × Obj)) (s : Shared) (σ : St) (H : Hp) (W : Own) (ρ : Ro) (Q : D → Prop), Inv X pins σ H s → Rel X W H σ ρ → t ρ Q →
    wpAny (model X.prog X.w) X.A (eval e X.env) (fun u s' => ∃ b vs H' ds, u = .ref b ∧ Inv X pins σ H' s' ∧ Same H H' ∧ H' b = some (.tup vs) ∧ Dens X.K W.bad H' ds vs ∧ Q (.tup ds)) X.xe s
def liftK (X : Cx) (t : DE) : TE := fun σ H Q => ∃ W ρ Qd, Rel X W H σ ρ ∧ t ρ Qd ∧ ∀ b vs H' ds, Same H H' → H' b = some (.tup vs) → Dens X.K W.bad H' ds vs → Qd (.tup ds) → Q (.ref b) H'
theorem PEK.pe {e : Expr} {t : DE} (h : PEK X e t) : PE X e (liftK X t) := by
  intro pins s σ H Q I q
  obtain ⟨W, ρ, Qd, r, ht, k⟩ := q
  exact thn (h pins s σ H W ρ Qd I r ht) fun u s1 ⟨b, vs, H', ds, eu, I1, e1, hb, hd, qd⟩ => by
    subst eu
    exact ⟨.ref b, H', I1, rfl, k b vs H' ds e1 hb hd qd⟩
end
theorem exdt_0 (kvs : List (List Key × D)) (r : Ro) (R : List (List Key × D) → Prop) : (∃ ys, (some (Sl.ob (.dt kvs)) :: r)[0]? = some (some (Sl.ob (.dt ys))) ∧ R ys) = R kvs := by
  apply propext
  constructor
  · rintro ⟨ys, e, q⟩
    simp only [List.getElem?_cons_zero, Option.some.injEq, Sl.ob.injEq, OS.dt.injEq] at e
    subst e
    exact q
  · intro q; exact ⟨kvs, rfl, q⟩
theorem exdt_S (n : Nat) (x : Option Sl) (r : Ro) (R : List (List Key × D) → Prop) : (∃ ys, (x :: r)[n + 1]? = some (some (Sl.ob (.dt ys))) ∧ R ys) = (∃ ys, r[n]? = some (some (Sl.ob (.dt ys))) ∧ R ys) := rfl
theorem exl_t (ys : List D) (R : List D → Prop) : (∃ xs, D.lst true ys = .lst true xs ∧ R xs) = R ys := by
  apply propext
  constructor
  · rintro ⟨xs, e, q⟩
    cases e
    exact q
  · intro q; exact ⟨ys, rfl, q⟩
/-- for, by the index -/
theorem for_mapI {α : Type} {wi : DA} {g : DG} {tb : DS} {E : DEnds} {ρ : Ro} (xs : List α) (f : α → D) (Pv : Nat → Ro → Prop) (hw : ∀ R : List D → Prop, R (xs.map f) → wi ρ R) (p0 : Pv 0 ρ)
    (turn : ∀ (j : Nat) (x : α) (ρ' : Ro), xs[j]? = some x → Pv j ρ' → g (f x) ρ' fun ρ2 => tb { E with nx := Pv (j + 1), ct := Pv (j + 1), bk := E.nx } ρ2) (fin : ∀ ρ', Pv xs.length ρ' → E.nx ρ') : dFor wi g tb E ρ := by
  refine hw _ ⟨Pv, p0, fun j d ρ' hd hp => ?_, fun ρ' hp => fin ρ' (by rw [List.length_map] at hp; exact hp)⟩
  rw [List.getElem?_map] at hd
  cases ex : xs[j]? with
  | none => rw [ex] at hd; cases hd
  | some x =>
    rw [ex] at hd
    cases hd
    exact turn j x ρ' ex hp
end PD

namespace PD
open PySem PySem.Spec PyProof.Rows L2
/-! ## the values of a dict, whatever its keys -/
/-- the dict at d, by its values alone -/
def RawAt (h : Heap) (d : Addr) (us : List Value) (ep : Nat) : Prop := ∃ o es, h.get? d = some o ∧ o.data = .dict es ep ∧ es.toList.map (·.val) = us
theorem RawAt.of {h h' : Heap} {d : Addr} {us : List Value} {ep : Nat} (x : RawAt h d us ep) (k : ∀ o, h.get? d = some o → h'.get? d = some o) : RawAt h' d us ep := let ⟨o, es, e, r⟩ := x; ⟨o, es, k o e, r⟩
theorem RawAt.lt {h : Heap} {d : Addr} {us : List Value} {ep : Nat} (x : RawAt h d us ep) : d < h.objs.size := let ⟨_, _, e, _⟩ := x; Heap.lt_size e
theorem RawAt.size {us : List Value} {es : Array DictEntry} (e : es.toList.map (·.val) = us) : es.size = us.length := by rw [← e]; simp
section
variable {prog : Program} {w : World} {A : Around} {E : Value → Shared → Prop} {s : Shared} {d v it : Addr} {us : List Value} {ep i : Nat}
theorem call_values_raw {Q : Value → Shared → Prop} (hd : (d == sysModules) = false) (hT : s.TypeIs (.ref d) "dict") (h : Q (.ref s.heap.objs.size) { s with heap := s.heap.push { cls := .type "dict_values", data := .fields #[.ref d] } }) :
    wpAny (model prog w) A (call (.builtin "dict.values") [.ref d]) Q E s := by
  have ml : MeetsIn prog w (Builtin.«dict.values» ⟨[.ref d], []⟩) (fun _ R s => s.TypeIs (.ref d) "dict" ∧ R (.ok (.ret (.ref s.heap.objs.size))) { s with heap := s.heap.push { cls := .type "dict_values", data := .fields #[.ref d] } }) := .of_wp fun A R s ⟨t, h⟩ => by
    refine wpAny_bind ?_; unfold Builtin.Dict.noArgs; refine wpAny_bind (wpAny_notOrdered_dict t ?_); show wpAny _ _ (pure d) _ _ s
    refine wpAny_pure ?_; show wpAny _ _ (Builtin.Dict.showsAll d >>= _) _ _ s; unfold Builtin.Dict.showsAll; rw [if_neg (by rw [hd]; exact Bool.false_ne_true)]
    exact wpAny_bind (wpAny_pure (wpAny_bind (wpAny_newObj_type (wpAny_pure ⟨_, rfl, h⟩))))
  exact call_meetsIn F.slot_dict_values hT F.entry_dict_values (F.args_dict_values_1 _) ml ⟨hT, h⟩
theorem iter_raw {Q : Value → Shared → Prop} (hv : s.heap.IsValuesView v d) (hm : RawAt s.heap d us ep) (hQ : Q (.ref s.heap.objs.size) { s with heap := s.heap.push { cls := .type "dict_valueiterator", data := .fields #[.ref d, .int 0 0, .int us.length 0, .int ep 0] } }) :
    wpAny (model prog w) A (pyIter (.ref v)) Q E s := by
  obtain ⟨ov, hov, hcv, hdv⟩ := id hv
  obtain ⟨o, es, ho, hdat, he⟩ := hm
  have hsz := RawAt.size he
  refine wpAny_pyIter_slot hv.typeIs F.slot_dict_values_iter (wpAny_call_entry F.slot_dict_values_iter hv.typeIs F.entry_dict_values_iter ?_ (F.args_dict_values_iter_1 _))
  unfold Builtin.«dict_values.__iter__»; refine wpAny_bind (wpAny_pure (wpAny_bind ?_))
  unfold Builtin.Dict_items.dictOf; refine wpAny_bind (wpAny_field hov hdv (x := .ref d) rfl (wpAny_pure (wpAny_bind ?_)))
  unfold Builtin.Dict_items.newIterator; refine wpAny_bind (wpAny_dictEntries ho hdat (wpAny_bind (wpAny_dictEpoch ho hdat ?_)))
  simp only [show Builtin.Dict_items.ownsTuple "dict_valueiterator" = false by decide, Bool.false_eq_true, if_false]
  exact wpAny_newObj_type (wpAny_pure ⟨_, rfl, "dict_valueiterator", _, ⟨_, Heap.get?_push_size _ rfl, rfl⟩, F.slot_dict_valueiterator_next.lookup, by simpa [rawInt, hsz] using hQ⟩)
theorem next_raw {x : Value} {Q : Option Value → Shared → Prop} (hit : s.heap.IsValIter it d i us.length ep) (hm : RawAt s.heap d us ep) (hx : us[i]? = some x)
    (hQ : ∀ h', h'.IsValIter it d (i + 1) us.length ep → Heap.SameBut it s.heap h' → Q (some x) { s with heap := h' }) : wpAny (model prog w) A (pyNext (.ref it)) Q E s := by
  obtain ⟨o, ho, hc, hd⟩ := id hit
  obtain ⟨od, es, hod, hdd, he⟩ := hm
  have hsz := RawAt.size he
  obtain ⟨hlt, _⟩ := List.getElem?_eq_some_iff.mp hx
  have hlt' : i < es.size := by rw [hsz]; exact hlt
  have hval : es[i].val = x := by
    have z : (es.toList.map (·.val))[i]? = some x := by rw [he]; exact hx
    simpa [hlt'] using z
  have two : wpAny (model prog w) A (pyNext (.ref it)) Q E s := by
    unfold pyNext; refine wpAny_bind (wpAny_attempt (wpAny_callSpecial?_slot (name := Str.ofString "__next__") hit.typeIs F.slot_dict_valueiterator_next (wpAny_call_entry F.slot_dict_valueiterator_next hit.typeIs F.entry_dict_valueiterator_next ?_ (F.args_dict_valueiterator_next_1 _))))
    refine wpAny_bind (wpAny_pure (wpAny_bind (wpAny_bind ?_))); (first | refine wpAny_bind (wpAny_typeNameOfWhole_valiter hit.typeIs (wpAny_pure ?_)) | refine wpAny_bind (wpAny_typeNameOf_valiter hit.typeIs (wpAny_pure ?_)))
    refine wpAny_bind (wpAny_fieldsOf ho hd ?_); simp only [show Builtin.Dict_items.ownsTuple "dict_valueiterator" = false by decide, Bool.false_eq_true, if_false]
    show wpAny _ _ (if (Value.ref d == Value.none) = true then _ else _) _ _ s; rw [if_neg (show ¬ ((Value.ref d == Value.none) = true) from Bool.false_ne_true)]
    refine wpAny_bind (wpAny_pure (wpAny_bind (wpAny_dictEntries hod hdd ?_))); rw [if_neg (by rw [hsz]; simp)]
    refine wpAny_bind (wpAny_pure (wpAny_bind (wpAny_dictEpoch hod hdd ?_))); rw [if_neg (by simp)]; refine wpAny_pure ?_
    simp only [show ¬ ((i : Int) < 0) from by omega, if_false, Int.toNat_natCast, Array.getElem?_eq_getElem hlt']; refine wpAny_bind ?_
    (first | refine wpAny_bind (wpAny_typeNameOfWhole_valiter hit.typeIs (wpAny_pure ?_)) | refine wpAny_bind (wpAny_typeNameOf_valiter hit.typeIs (wpAny_pure ?_))); refine wpAny_bind (wpAny_isOneOf_valiter hit.typeIs ?_)
    show wpAny _ _ (setField (.ref it) 1 (rawInt ((i : Int) + 1)) >>= _) _ _ s; refine wpAny_bind (wpAny_setField ho hd (by simp) ?_)
    have hit' : (s.heap.update it (Obj.mapFields (·.setIfInBounds 1 (rawInt ((i : Int) + 1))))).IsValIter it d (i + 1) us.length ep := ⟨_, Heap.get?_update_self _ ho (Obj.isFreed_of_fields (Obj.data_mapFields hd _)), (Obj.cls_mapFields ..).trans hc, by rw [Obj.data_mapFields hd]; simp [rawInt]⟩
    refine wpAny_bind (wpAny_holding (wpAny_bind (wpAny_isOneOf_valiter (s := { s with heap := s.heap.update it (Obj.mapFields (·.setIfInBounds 1 (rawInt ((i : Int) + 1)))) }) hit'.typeIs ?_)))
    refine wpAny_bind (wpAny_isOneOf_valiter (s := { s with heap := s.heap.update it (Obj.mapFields (·.setIfInBounds 1 (rawInt ((i : Int) + 1)))) }) hit'.typeIs ?_); show wpAny _ _ (pure es[i].val) _ _ _
    exact wpAny_pure (wpAny_pure ⟨_, rfl, wpAny_pure (hval ▸ hQ _ hit' (Heap.SameBut.update ..))⟩)
  exact two
theorem stop_raw {Q : Option Value → Shared → Prop} (hh : A.handled = none) (hit : s.heap.IsValIter it d us.length us.length ep) (hm : RawAt s.heap d us ep) (hQ : ∀ h', Heap.ExtBut it s.heap h' → Q none { s with heap := h' }) : wpAny (model prog w) A (pyNext (.ref it)) Q E s := by
  obtain ⟨o, ho, hc, hd⟩ := id hit
  obtain ⟨od, es, hod, hdd, he⟩ := hm
  have hsz := RawAt.size he
  unfold pyNext; refine wpAny_bind (wpAny_attempt (wpAny_callSpecial?_slot (name := Str.ofString "__next__") hit.typeIs F.slot_dict_valueiterator_next (wpAny_call_entry F.slot_dict_valueiterator_next hit.typeIs F.entry_dict_valueiterator_next ?_ (F.args_dict_valueiterator_next_1 _))))
  refine wpAny_bind (wpAny_pure (wpAny_bind (wpAny_bind ?_))); (first | refine wpAny_bind (wpAny_typeNameOfWhole_valiter hit.typeIs (wpAny_pure ?_)) | refine wpAny_bind (wpAny_typeNameOf_valiter hit.typeIs (wpAny_pure ?_)))
  refine wpAny_bind (wpAny_fieldsOf ho hd ?_); simp only [show Builtin.Dict_items.ownsTuple "dict_valueiterator" = false by decide, Bool.false_eq_true, if_false]
  show wpAny _ _ (if (Value.ref d == Value.none) = true then _ else _) _ _ s; rw [if_neg (show ¬ ((Value.ref d == Value.none) = true) from Bool.false_ne_true)]
  refine wpAny_bind (wpAny_pure (wpAny_bind (wpAny_dictEntries hod hdd ?_))); rw [if_neg (by rw [hsz]; simp)]
  refine wpAny_bind (wpAny_pure (wpAny_bind (wpAny_dictEpoch hod hdd ?_))); rw [if_neg (by simp)]; refine wpAny_pure ?_
  simp only [show ¬ ((us.length : Int) < 0) from by omega, if_false, Int.toNat_natCast, Array.getElem?_eq_none (show es.size ≤ us.length by omega)]; refine wpAny_bind ?_
  (first | refine wpAny_bind (wpAny_typeNameOfWhole_valiter hit.typeIs (wpAny_pure ?_)) | refine wpAny_bind (wpAny_typeNameOf_valiter hit.typeIs (wpAny_pure ?_))); show wpAny _ _ (setField (.ref it) 0 .none >>= _) _ _ s; refine wpAny_bind (wpAny_setField ho hd (by simp) ?_)
  show wpAny _ _ (newExc (.type "StopIteration") [] >>= _) _ _ _; refine wpAny_bind ?_; simp only [newExc, newTuple]; refine wpAny_bind (wpAny_newObj_type ?_ (by size_fits))
  refine wpAny_bind (m := firstArgMember _ _) (wpAny_of_eq (a := Value.none) (by first | rfl | (simp only [firstArgMember]; rfl)) ?_); refine wpAny_newObj_type ?_ (by size_fits); simp only [raiseNew]; refine wpAny_bind (wpAny_handled ?_)
  rw [show A.in1.handled = none from hh]; refine wpAny_bind (wpAny_pure (wpAny_throw ?_)); refine wpAny_bind (wpAny_isInstance (T := "StopIteration") (b := true) ⟨_, Heap.get?_push_size _ rfl, rfl⟩ isSubtype_stop ?_)
  exact wpAny_pure (hQ _ (((Heap.SameBut.update ..).extBut.push _).push _))
theorem walks_raw (hh : A.handled = none) (I d : Addr) (hne : d ≠ I) (us : List Value) (ep : Nat) : Walks prog w A I [I, d] [I] us.length (fun i v => us[i]? = some v) (fun i h => h.IsValIter I d i us.length ep ∧ RawAt h d us ep) where
  sub := fun b hb => by simp at hb; simp [hb]
  frame := fun _ _ _ st hk => ⟨let ⟨o, ho, r⟩ := st.1; ⟨o, hk I (by simp) o ho, r⟩, st.2.of fun o e => hk d (by simp) o e⟩
  item := fun i s Q E hi st hQ => by
    have hx : us[i]? = some us[i] := by simp [hi]
    exact next_raw st.1 st.2 hx fun h' hit' hs' => hQ _ h' s.toks hx ⟨hit', st.2.of fun o e => hs'.extBut d o hne e⟩ fun b o hb e => hs'.extBut b o (fun h => hb (by simp [h])) e
  done := fun s Q E st hQ => stop_raw hh st.1 st.2 fun h' he' => hQ h' s.toks fun b o hb e => he' b o (fun h => hb (by simp [h])) e
  self := fun _ _ _ _ st hQ => wpAny_pyIter_valiter st.1 hQ
theorem src_raw : PySem.W.KdlSrc prog w "dict_values" v d us.length (fun i x => us[i]? = some x) (fun h => h.IsValuesView v d ∧ RawAt h d us ep) where
  type := fun _ hm => hm.1.typeIs
  there := fun _ hm => ⟨let ⟨_, ho, _⟩ := hm.1; Heap.lt_size ho, hm.2.lt⟩
  keep := fun _ _ hm hk => ⟨let ⟨o, ho, x⟩ := hm.1; ⟨o, hk v (.inl rfl) o ho, x⟩, hm.2.of fun o e => hk d (.inr rfl) o e⟩
  notList := by decide
  notTuple := by decide
  hint := fun _ _ _ _ hm hq => PySem.W.kdl_hint_values hm.1.typeIs hq
  iter := fun _ _ hh hm => ⟨_, _, (fun _ _ hq => iter_raw hm.1 hm.2 hq), walks_raw hh _ d (Nat.ne_of_lt hm.2.lt) us ep, ⟨⟨_, Heap.get?_push_size _ rfl, rfl, rfl⟩, hm.2.of fun o e => Heap.get?_push_of_some _ e⟩⟩
end
end PD
namespace PD
open PySem PySem.Spec PyProof.Rows L2
/-! ## list(d.values()), d a dict of one's own with tuples as keys -/
section
variable {X : Cx} {pos : Pos}
def vwO (d p : Addr) : HO := .ext fun h => h.IsValuesView p d
theorem mt_values : MtR X "dict.values" (fun x xs H Q => ∃ a kvs, x = .ref a ∧ xs = [] ∧ H a = some (.dT kvs) ∧ ∀ p, H p = none → Q (.ref p) (L2.upd H p (vwO a p))) := by
  intro pins s σ H x xs v us Q I rx rs h
  obtain ⟨a, kvs, rfl, rfl, ha, q⟩ := h
  cases rx
  cases rs
  obtain ⟨z, hd, ys, rel, dd⟩ := dt_of I.hok ha
  refine call_values_raw hd dd.typeIs ⟨.ref s.heap.objs.size, _, I.laid (t' := s.toks) (o := vwO a s.heap.objs.size) (fun b u e => Heap.get?_push_of_some _ e) (Nat.le_refl _) ?_, rfl, q _ (I.hok.fresh (Nat.le_refl _))⟩
  exact ⟨⟨_, Heap.get?_push_size _ rfl, rfl, rfl⟩, ⟨_, Heap.get?_push_size _ rfl⟩, fun h1 h2 ⟨o, ho, r⟩ k => ⟨o, k o ho, r⟩⟩
theorem kt_vals {H : Hp} : ∀ {kvs : List (List Key × V)} {xs : List (List Key × Addr × Value)}, KT H kvs xs → Vals (kvs.map (·.2)) (xs.map (·.2.2))
  | _, _, .nil => .nil
  | _, _, .cons h t => .cons h.2.2 (kt_vals t)
theorem call_list_view (hc : X.calm = true) : CallR X (.type "list") (fun xs H Q => ∃ p d kvs, xs = [.ref p] ∧ H p = some (vwO d p) ∧ H d = some (.dT kvs) ∧ ∀ l, H l = none → Q (.ref l) (L2.upd H l (.lst (kvs.map (·.2))))) := by
  intro pins s σ H xs us Q I r h
  obtain ⟨p, d, kvs, rfl, hp, hd, q⟩ := h
  obtain ⟨u, rfl, rx⟩ := vals1 r
  cases rx
  obtain ⟨z, _, ys, rel, o, es, ep, h1, h2, h3, h4, _⟩ := dt_of I.hok hd
  have lk : ys.length = kvs.length := (Paired.length rel).symm
  have raw : RawAt s.heap d (ys.map (·.2.2)) ep := ⟨o, es, h1, h3, by rw [h4, List.map_map]; rfl⟩
  have vw : s.heap.IsValuesView p d := (show ObjOk X.prog X.w H s.heap p (vwO d p) from I.hok p _ hp).1
  refine PySem.W.kdl_call (src_raw (ep := ep) (us := ys.map (·.2.2))) (I.ok.hd hc) ⟨vw, raw⟩ (by rw [List.length_map, lk]; exact z) fun h' tk acc c kp hS hi => ?_
  have ea : acc.toList = ys.map (·.2.2) := by
    apply List.ext_getElem?
    intro j
    cases e : acc.toList[j]? with
    | some y => exact (hi.2 j y (by rw [← Array.getElem?_toList]; exact e)).symm
    | none =>
      have l1 := List.getElem?_eq_none_iff.mp e
      rw [Array.length_toList, hi.1] at l1
      exact (List.getElem?_eq_none_iff.mpr l1).symm
  have hv := kt_vals rel
  rw [← ea] at hv
  exact ⟨.ref s.heap.objs.size, _, I.laid (t' := tk) kp (Nat.le_refl _) (show ObjOk X.prog X.w _ h' _ (.lst (kvs.map (·.2))) from ⟨by rw [List.length_map]; exact z, acc.toList, c, hv, by simpa using hS⟩), rfl, q _ (I.hok.fresh (Nat.le_refl _))⟩
def dVals (i : Nat) : DA := fun ρ Q => ∃ kvs, ρ[i]? = some (some (.ob (.dt kvs))) ∧ Q (kvs.map (·.2))
theorem df_values {x : Str} {p px apos cpos : Pos} (i : Nat) (hc : X.calm = true) (hg : Gl X "list") (hm : X.mg "list" = none) (hN : X.N[i]? = some x := by rfl) (hv : Vis X.env.scope x := by first | exact Or.inl rfl | exact Or.inr (Or.inl rfl) | exact Or.inr (Or.inr rfl)) (hd : (x == ("__debug__" : Str)) = false := by decide)
    (hcd : (x == ("__classdict__" : Str)) = false := by decide) (hbase : attributeBase (.Name x px) "values" X.env (eval (.Name x px) X.env) = eval (.Name x px) X.env := by rfl) (hline : (apos.endLine == cpos.line) = true := by rfl)
    (hst : starEach [.Call (.Attribute (.Name x px) "values" apos) [] [] cpos] X.env = (false, eval (.Call (.Attribute (.Name x px) "values" apos) [] [] cpos) X.env) :: starEach [] X.env := by rfl) (hpl : (backTo pos (starEach [] X.env)).any (·.1) = false := by rfl) :
    PEF X (.Call (.Name "list" p) [.Call (.Attribute (.Name x px) "values" apos) [] [] cpos] [] pos) (dVals i) := by
  refine PEF.of (pe_callTy (call_list_view hc) hg hm boot_list (pa_cons (pe_bm0 PySem.F.plainAttrs_dict PySem.F.slot_dict_values PySem.F.type_dict_values mt_values (pe_var hN hv hd hcd) hbase hline) pa_nil hst) (by decide) (by decide) hst hpl) (fun σ H W ρ Q r h => ?_) fun _ _ _ _ _ _ I h => Inv.kno I h
  obtain ⟨kvs, eo, q⟩ := h
  obtain ⟨a, kws, oa, sa, ha, ek, hden⟩ := r.ownT eo
  refine ⟨.ref a, sa, .inr (.inr (.inl ⟨rfl, .inr ⟨kws, ha⟩⟩)), a, kws, rfl, rfl, ha, fun b hb => ?_⟩
  have sm : Same H (L2.upd H b (vwO a b)) := Same.upd hb
  exact ⟨b, a, kws, rfl, upd_same, sm _ _ ha, fun l hl => ⟨l, _, _, _, rfl, sm, hl, rfl, hden.same sm, q⟩⟩
end
/-! ## a tuple that is read, as a key -/
section
variable {X : Cx} {pos : Pos}
theorem key_sq {pins : List (Addr × Obj)} {σ : St} {H : Hp} {s : Shared} {a : Addr} {ks : List Key} (I : Inv X pins σ H s) (h : SqT X.K H a (ks.map kV)) : (tupleKind (mixKind X.prog X.w)).is s.heap ks a := by
  obtain ⟨its, r, ⟨o, e, hc, n, hd⟩, _⟩ := I.tuple h
  exact ⟨o, its.toArray, n, e, hc, hd, by simpa using items_are r⟩
def dDinT (i : Nat) (ta : DE) : DE := fun ρ Q => ∃ kvs, ρ[i]? = some (some (.ob (.dt kvs))) ∧ ta ρ fun k => ∃ ks : List Key, k = .tup (ks.map keyD) ∧ Q (.bl (lookD kvs ks).isSome)
theorem dt_dinT {x : Str} {px : Pos} {e : Expr} {ta : DE} (i : Nat) (hu : X.A.units + 1 < cLine) (he : PED X e ta) (hN : X.N[i]? = some x := by rfl) (hv : Vis X.env.scope x := by first | exact Or.inl rfl | exact Or.inr (Or.inl rfl) | exact Or.inr (Or.inr rfl)) (hd : (x == ("__debug__" : Str)) = false := by decide)
    (hcd : (x == ("__classdict__" : Str)) = false := by decide) (hm : behindInMarks .In (.Name x px) = false := by rfl) : PTD X (.Compare e [.In] [.Name x px] pos) (dB (dDinT i ta)) := by
  intro pins s σ H W ρ Q I r h
  obtain ⟨kvs, eo, h⟩ := h
  refine wpAny_isTrue_Compare1 (thn (he pins s σ H W ρ _ I r h) fun vv s1 ⟨v, H1, k, I1, rv, e1, hk, ks, ek, kk, ekk', q⟩ => ?_) hm
  subst ek
  cases ekk'
  obtain ⟨b, vs, ev, hq, hds⟩ := hk.tup_
  subst ev
  cases rv
  have := dens_keys hds
  subst this
  obtain ⟨a, kws, oa, sa, ha, ekk, hden⟩ := (r.same e1).ownT eo
  refine thn (pe_var hN hv hd hcd pins s1 σ H1 (fun v H' => v = .ref a ∧ H' = H1) I1 ⟨.ref a, sa, rfl, rfl⟩) fun u s2 ⟨y, H2, I2, ry, ey, eH⟩ => ?_
  subst ey eH
  cases ry
  obtain ⟨z, hsm, xs, rel, dd⟩ := dt_of I2.hok ha
  refine wpAny_in_heap (tupleKind_room_in1 hu) (key_sq I2 hq) hsm dd ?_
  have q1 := (rel.val ks).isSome_eq
  rw [Option.isSome_map] at q1
  rw [← q1, some_den ekk hden]
  refine wpAny_truthy_bool ?_
  exact ⟨H2, I2.tok _, e1, q⟩
/-- d[k] += e, k there -/
def dDAugT (i : Nat) (tk te : DE) : DS := fun E ρ => ∃ kvs, ρ[i]? = some (some (.ob (.dt kvs))) ∧ tk ρ fun k => ∃ (ks : List Key) (n : Int), k = .tup (ks.map keyD) ∧ lookD kvs ks = some (.int n) ∧ te ρ fun d => ∃ m, d = .int m ∧ E.nx (ρ.set i (some (.ob (.dt (putD kvs ks (.int (n + m)))))))
theorem ds_daugT {x : Str} {px tpos : Pos} {b e : Expr} {tb te : DE} (i : Nat) (hu : X.A.units + 1 < cLine) (hb : PED X b tb) (he : PED X e te) (hN : X.N[i]? = some x := by rfl) (hv : Vis X.env.scope x := by first | exact Or.inl rfl | exact Or.inr (Or.inl rfl) | exact Or.inr (Or.inr rfl)) (hd : (x == ("__debug__" : Str)) = false := by decide)
    (hcd : (x == ("__classdict__" : Str)) = false := by decide) (ha : ∀ ov iv new, augStore b ov iv new = (do holding [new, ov, iv] (setItem ov iv new); release [new, ov, iv] []; pure .next) := by intros; rfl) : PSD X (.AugAssign (.Subscript (.Name x px) b tpos) .Add e pos) (dDAugT i tb te) := by
  intro pins s σ H W ρ E I r h
  obtain ⟨kvs, eo, h⟩ := h
  obtain ⟨a, kws, oa, sa, hda, ek, hden⟩ := r.ownT eo
  refine wpAny_AugAssign_SubscriptAny (thn (pe_var hN hv hd hcd pins s σ H (fun v H' => v = .ref a ∧ H' = H) I ⟨.ref a, sa, rfl, rfl⟩) fun u s1 ⟨y, H0, I1, ry, ey, eH⟩ => ?_) ha
  subst ey eH
  cases ry
  refine thn (hb pins s1 σ H0 W ρ _ I1 r h) fun iv s2 ⟨kv, H1, k, I2, rk, e1, hk, ks, n, eks, l, q⟩ => ?_
  subst eks
  obtain ⟨bb, vs, ev, hq, hds⟩ := hk.tup_
  subst ev
  cases rk
  have := dens_keys hds
  subst this
  obtain ⟨v', l', hv'⟩ := get_den ek hden l
  have := hv'.int_
  subst this
  have hd1 := e1 _ _ hda
  obtain ⟨z, hsm, xs, rel, dd⟩ := dt_of I2.hok hd1
  obtain ⟨w', hw, rw'⟩ := RelO.some_of (v := .int n) (o := (atKey xs ks).map (·.2)) (by rw [← l']; exact rel.val ks)
  obtain ⟨p, hp, hp2⟩ := Option.map_eq_some_iff.mp hw
  refine wpAny_getItem_heap (tupleKind_room_in1 hu) (key_sq I2 hq) dd hp ?_
  rw [hp2]
  refine thn (he pins _ σ H1 W ρ _ (I2.tok _) (r.same e1) q) fun w2 s4 ⟨y2, H3, d2, I4, ry2, e3, hd2, m, ed, q3⟩ => ?_
  subst ed
  have := hd2.int_
  subst this
  refine thn (in_add pins s4 σ H3 (.int n) (.int m) w' w2 (fun v H' => v = .int (n + m) ∧ H' = H3) I4 rw' ry2 ⟨n, m, rfl, rfl, rfl, rfl⟩) fun w3 s5 ⟨zz, H4, I5, rz, ez, eH4⟩ => ?_
  subst ez eH4
  have e13 := e1.trans e3
  have hd3 := e13 _ _ hda
  obtain ⟨z3, hsm3, xs3, rel3, dd3⟩ := dt_of I5.hok hd3
  have hz : xs3.length ≤ sizeLine := by rw [← Paired.length rel3]; exact z3
  have hsome : (kws.any fun kv => decide (kv.1 = ks)) = true := by rw [valV_any, l']; rfl
  have hsome3 : (atKey xs3 ks).isSome = true := by
    have q := (rel3.val ks).isSome_eq
    rw [Option.isSome_map] at q
    rw [← q, l']
    rfl
  have ep : putK kws ks (.int (n + m)) = kws.map fun kv => if kv.1 = ks then (kv.1, .int (n + m)) else kv := by unfold putK; rw [if_pos hsome]
  have hl : (putK kws ks (V.int (n + m))).length ≤ sizeLine := by rw [ep, List.length_map]; exact z3
  refine wpAny_setItem_heap (hsz := hz) (tupleKind_room_in1 hu) (key_sq I5 (SqT.same e3 hq)) dd3 fun h' dd' hs => ?_
  obtain ⟨q', es, ep', hq', h2, h3, h4, _, h5⟩ := dd'
  have relp : KT H4 (putK kws ks (.int (n + m))) (storedH xs3 ks bb w3) := by
    rw [ep]
    unfold storedH
    rw [if_pos hsome3]
    exact rel3.repl ks rz
  have I6 := d_write (t' := s5.toks + (tupleKind (mixKind X.prog X.w)).draws ks) I5 (by rw [hd3]; exact True.intro) hs ⟨q', hq'⟩ (show ObjOk X.prog X.w (L2.upd H4 a (.dT (putK kws ks (.int (n + m))))) h' a (.dT (putK kws ks (.int (n + m)))) from ⟨hl, hsm3, _, relp.keeps fun c ys ec => by rw [upd_ne (ne_of ec hd3 (fun z => nomatch z))]; exact ec, q', es, ep', hq', h2, h3, h4, h5⟩)
  obtain ⟨p1, p2⟩ := put_den (k := ks) ek (hden.same e13) (Den.int (n + m))
  obtain ⟨r2, f2⟩ := (r.same e13).mutG eo oa sa hd3 True.intro (.dt p1 p2)
  exact ⟨W, σ, _, I6, (Fwd.same e13).trans f2, _, r2, q3⟩
end
end PD
namespace PD
open PySem PySem.Spec PyProof.Rows L2
/-! ## x = {(..): n, ..} -/
inductive KPs (K : PySem.W.Frag) (P : Bool → Addr → Prop) (H : Hp) : List (List D × D) → List (Value × Value) → Prop
  | nil : KPs K P H [] []
  | cons {b : Addr} {vs : List V} {ks : List D} {d : D} {x : V} {u : Value} {ds : List (List D × D)} {ws : List (Value × Value)} (hb : H b = some (.tup vs)) (hk : Dens K P H ks vs) (hd : Den K P H d x) (r : RelV x u) (t : KPs K P H ds ws) : KPs K P H ((ks, d) :: ds) ((.ref b, u) :: ws)
/-- the pairs of a display, keys tuples just made -/
def PPK (X : Cx) (pos : Pos) (keys : List (Option Expr)) (values : List Expr) (t : Ro → (List (List D × D) → Prop) → Prop) : Prop :=
  ∀ (pins : List (Addr × Obj)) (s : Shared) (σ : St) (H : Hp) (W : Own) (ρ : Ro) (Q : List (List D × D) → Prop), Inv X pins σ H s → Rel X W H σ ρ → t ρ Q →
    wpAny (model X.prog X.w) X.A (evalPairs (pairTrees keys values X.env pos)) (fun ws s' => ∃ H' ds, Inv X pins σ H' s' ∧ Same H H' ∧ KPs X.K W.bad H' ds ws ∧ Q ds) X.xe s
section
variable {X : Cx} {pos : Pos}
def dkNil : Ro → (List (List D × D) → Prop) → Prop := fun _ Q => Q []
def dkCons (tk tv : DE) (t : Ro → (List (List D × D) → Prop) → Prop) : Ro → (List (List D × D) → Prop) → Prop := fun ρ Q => tk ρ fun k => ∃ ks, k = .tup ks ∧ tv ρ fun v => t ρ fun r => Q ((ks, v) :: r)
theorem dk_nil : PPK X pos [] [] dkNil := fun pins s σ H W ρ Q I r h => pairTrees_nil_walk ⟨H, [], I, Same.refl H, .nil, h⟩
theorem dk_cons {k v : Expr} {ks : List (Option Expr)} {vs : List Expr} {tk tv : DE} {t : Ro → (List (List D × D) → Prop) → Prop} (hk : PEK X k tk) (hv : PED X v tv) (hr : PPK X pos ks vs t) : PPK X pos (some k :: ks) (v :: vs) (dkCons tk tv t) := by
  intro pins s σ H W ρ Q I r h
  refine pairTrees_cons_walk (thn (hk pins s σ H W ρ _ I r h) fun u s1 ⟨b, ws, H1, dk, eu, I1, e1, hb, hd, kk, ek, q1⟩ => thn (hv pins s1 σ H1 W ρ _ I1 (r.same e1) q1) fun w2 s2 ⟨y, H2, dy, I2, ry, e2, hy, q2⟩ =>
    thn (hr pins s2 σ H2 W ρ _ I2 ((r.same e1).same e2) q2) fun ws s3 ⟨H3, ds, I3, e3, kp, q3⟩ => ?_)
  cases ek
  subst eu
  exact ⟨H3, _, I3, e1.trans (e2.trans e3), .cons (e3 _ _ (e2 _ _ hb)) (hd.same (e2.trans e3)) (hy.same e3) ry kp, q3⟩
theorem dk_tup {es : List Expr} {t : DA} {x1} (h : PAD X es t) : PEK X (.Tuple es x1 pos) (dTup t) := by
  intro pins s σ H W ρ Q I rr hq
  refine wpAny_Tuple_spliced (thn (h pos pins s σ H W ρ _ I rr hq) fun us s1 ⟨vs, H1, ds, I1, r, e1, hd, z, q⟩ => ?_)
  rw [← hd.len] at z
  have hf : H1 s1.heap.objs.size = none := I1.hok.fresh (Nat.le_refl _)
  exact ⟨by rw [← r.length]; exact z, s1.heap.objs.size, vs, L2.upd H1 s1.heap.objs.size (.tup vs), ds, rfl, I1.laid (t' := s1.toks) (fun b u e => Heap.get?_push_of_some _ e) (Nat.le_refl _) ⟨z, us, r, ⟨_, Heap.get?_push_size _ rfl, rfl, _, rfl⟩⟩, e1.trans (Same.upd hf), upd_same, hd.same (Same.upd hf), q⟩
/-- pairs of tuples of keys and ints -/
inductive KPi (H : Hp) : List (List Key × Int) → List (Value × Value) → Prop
  | nil : KPi H [] []
  | cons {b : Addr} {k : List Key} {n : Int} {u : Value} {ds : List (List Key × Int)} {ws : List (Value × Value)} (hb : H b = some (.tup (k.map kV))) (r : RelV (.int n) u) (t : KPi H ds ws) : KPi H ((k, n) :: ds) ((.ref b, u) :: ws)
theorem KPs.ints {K : PySem.W.Frag} {P : Bool → Addr → Prop} {H : Hp} : ∀ {kns : List (List Key × Int)} {ws : List (Value × Value)}, KPs K P H (kns.map fun kn => (kn.1.map keyD, D.int kn.2)) ws → KPi H kns ws
  | [], _, h => by rw [List.map_nil] at h; cases h; exact .nil
  | kn :: r, _, h => by
    rw [List.map_cons] at h
    cases h with
    | cons hb hk hd ru t =>
      have e := dens_keys hk
      subst e
      have e2 := hd.int_
      subst e2
      exact .cons hb ru t.ints
theorem KPi.keep {H : Hp} {a : Addr} {kws kws' : List (List Key × V)} (ha : H a = some (.dT kws)) : ∀ {kns : List (List Key × Int)} {ws : List (Value × Value)}, KPi H kns ws → KPi (L2.upd H a (.dT kws')) kns ws
  | _, _, .nil => .nil
  | _, _, .cons hb r t => .cons (by rw [upd_ne (ne_of hb ha (fun z => nomatch z))]; exact hb) r (t.keep ha)
def mergeT (kws : List (List Key × V)) (kns : List (List Key × Int)) : List (List Key × V) := kns.foldl (fun acc kn => putK acc kn.1 (.int kn.2)) kws
theorem storeAll_own {pins : List (Addr × Obj)} {σ : St} {a : Addr} {A : Around} {E : Value → Shared → Prop} (hu : A.units < cLine) : ∀ (kns : List (List Key × Int)) (ws : List (Value × Value)) (kws : List (List Key × V)) (H : Hp) (s : Shared) (Q : PUnit → Shared → Prop), Inv X pins σ H s → H a = some (.dT kws) → KPi H kns ws → kws.length + kns.length ≤ sizeLine →
    (∀ s', Inv X pins σ (L2.upd H a (.dT (mergeT kws kns))) s' → Q PUnit.unit s') → wpAny (model X.prog X.w) A (storeAll a ws) Q E s
  | [], _, kws, H, s, Q, I, ha, kp, _, q => by
    cases kp
    unfold storeAll
    rw [List.forIn_nil]
    have e : L2.upd H a (.dT (mergeT kws [])) = H := by
      funext b
      unfold L2.upd
      split
      · rename_i e; subst e; exact ha.symm
      · rfl
    rw [e] at q
    exact wpAny_pure (q s I)
  | (k, n) :: r, _, kws, H, s, Q, I, ha, kp, hz, q => by
    cases kp with
    | cons hb ru t =>
      rw [List.length_cons] at hz
      unfold storeAll
      rw [List.forIn_cons]
      obtain ⟨z, hsm, xs, rel, dd⟩ := dt_of I.hok ha
      have hxz : xs.length ≤ sizeLine := by rw [← Paired.length rel]; exact z
      have hl : (putK kws k (V.int n)).length ≤ kws.length + 1 := length_putK _ _ _
      refine wpAny_bind (wpAny_bind (wpAny_dictSet_heap (hsz := hxz) (knd := tupleKind (mixKind X.prog X.w)) hu (key_of I.hok hb) dd fun h' dd' hs => wpAny_pure ?_))
      obtain ⟨q', es, ep', hq', h2, h3, h4, _, h5⟩ := dd'
      have I6 := d_write (t' := s.toks + (tupleKind (mixKind X.prog X.w)).draws k) I (by rw [ha]; exact True.intro) hs ⟨q', hq'⟩ (show ObjOk X.prog X.w (L2.upd H a (.dT (putK kws k (.int n)))) h' a (.dT (putK kws k (.int n))) from ⟨by omega, hsm, _, (rel.put k hb ru).keeps fun c ys ec => by rw [upd_ne (ne_of ec ha (fun z => nomatch z))]; exact ec, q', es, ep', hq', h2, h3, h4, h5⟩)
      refine storeAll_own hu r _ _ _ _ Q I6 upd_same (t.keep ha) (by omega) fun s' I' => q s' ?_
      rw [upd_upd] at I'
      exact I'
theorem mergeT_nil {more : List (List Key × Int)} : ∀ {kws : List (List Key × V)}, (kws.map (·.1) ++ more.map (·.1)).Nodup → mergeT kws more = kws ++ more.map fun kn => (kn.1, V.int kn.2) := by
  induction more with
  | nil => intro kws _; show kws = kws ++ []; rw [List.append_nil]
  | cons p r ih =>
    intro kws h
    show mergeT (putK kws p.1 (.int p.2)) r = _
    have hn : (kws.any fun kv => decide (kv.1 = p.1)) = false := by
      rw [List.any_eq_false]
      intro kv hm he
      exact (List.nodup_append.mp h).2.2 kv.1 (List.mem_map_of_mem hm) p.1 (by simp) (of_decide_eq_true he)
    have e : putK kws p.1 (V.int p.2) = kws ++ [(p.1, .int p.2)] := by unfold putK; rw [hn]; rfl
    rw [e, ih (by rw [List.map_append]; simpa using h)]
    simp
theorem dens_ints_of {K : PySem.W.Frag} {P : Bool → Addr → Prop} {H : Hp} : ∀ kns : List (List Key × Int), Dens K P H ((kns.map fun kn => (kn.1, D.int kn.2)).map (·.2)) ((kns.map fun kn => (kn.1, V.int kn.2)).map (·.2))
  | [] => Dens.nil
  | _ :: r => Dens.cons (Den.int _) (dens_ints_of r)
def dOwnDtL (i : Nat) (t : Ro → (List (List D × D) → Prop) → Prop) : DS := fun E ρ => t ρ fun ps => ∃ kns : List (List Key × Int), ps = kns.map (fun kn => (kn.1.map keyD, D.int kn.2)) ∧ kns.length ≤ 15 ∧ (kns.map (·.1)).Nodup ∧ E.nx (ρ.set i (some (.ob (.dt (kns.map fun kn => (kn.1, D.int kn.2))))))
theorem ds_ownDtL {x : Str} {pos' dpos : Pos} {keys : List (Option Expr)} {values : List Expr} {t : Ro → (List (List D × D) → Prop) → Prop} (i : Nat) (hu : X.A.units + 1 < cLine) (hN : X.N.Nodup) (h : PPK X dpos keys values t) (hi : X.N[i]? = some x := by rfl) (hall : keys.all (·.isSome) = true := by rfl) (hl : keys.length = values.length := by rfl) (h0 : keys ≠ [] := by simp)
    (h15 : keys.length ≤ 15 := by decide) (hx : Loc X.env.scope x := by first | exact Or.inl rfl | exact Or.inr rfl) (hs : swapsWith (.Dict keys values dpos) (some (.Name x pos')) pos.line X.env = pure false := by rfl)
    (hf : X.fn x = true ∨ X.env.scope.names.lookup x = some .local := by first | exact .inl rfl | exact .inr rfl | assumption) : PSD X (.Assign [.Name x pos'] (.Dict keys values dpos) pos) (dOwnDtL i t) := by
  intro pins s σ H W ρ E I r hq
  have hn := I.hok.fresh (Nat.le_refl s.heap.objs.size)
  have hkn := Inv.kfresh I
  have I1 := I.laid (a := s.heap.objs.size) (o := .dT []) (h' := s.heap.push { cls := .type "dict", data := .dict #[] }) (t' := s.toks) (fun _ _ q => Heap.get?_push_of_some _ q) (Nat.le_refl _) (dt_empty s.heap I.big)
  refine wpAny_Assign_Name (wpAny_Dict_any hall hl h0 h15 (thn (h pins _ σ _ W ρ _ I1 (r.same (Same.upd hn)) hq) fun ws s2 ⟨H2, ds, I2, sm, kp, kns, ed, lk, nd, q⟩ => ?_)) hs
  subst ed
  have e := sm _ _ (upd_same (H := H) (a := s.heap.objs.size) (o := .dT []))
  have em : mergeT [] kns = kns.map fun kn => (kn.1, V.int kn.2) := by rw [mergeT_nil (by simpa using nd)]; rfl
  refine storeAll_own (by omega) kns ws [] H2 s2 _ I2 e kp.ints (by rw [sizeLine_eq]; simp; omega) fun s3 I3 => ?_
  rw [em] at I3
  have rp := r.putG (x := .dt (kns.map fun kn => (kn.1, D.int kn.2))) (Inv.ilt I2 hi) (H' := L2.upd H2 s.heap.objs.size (.dT (kns.map fun kn => (kn.1, V.int kn.2)))) (((Same.upd hn).trans sm).ins hn e True.intro True.intro) hn hkn upd_same (.dt (by simp [List.map_map, Function.comp_def]) (dens_ints_of kns))
  exact store_ok (v := .ref s.heap.objs.size) I3 hN hi hx rfl (fun s3 I4 => ⟨_, _, _, I4, rp.2, _, rp.1, q⟩) hf
end
/-! ## max(list of ints); is False -/
section
variable {X : Cx} {pos : Pos}
theorem cd_maxL (hc : X.calm = true) : CallD X (.builtin "max") (fun ds Q => (∃ i j : Int, ds = [.int i, .int j] ∧ Q (.int (max i j))) ∨ ∃ (t : Bool) (ns : List Int), ds = [.lst t (ns.map D.int)] ∧ 0 < ns.length ∧ ∀ m, m ∈ ns → (∀ n ∈ ns, n ≤ m) → Q (.int m)) := by
  intro pins s σ H W ds vs us Q I tr r hd q
  rcases q with ⟨i, j, e, q⟩ | ⟨t, ns, e, hne, q⟩
  · exact cd_max hc pins s σ H W ds vs us Q I tr r hd ⟨i, j, e, q⟩
  subst e
  obtain ⟨v, rfl, h1⟩ := dens1 hd
  obtain ⟨a, ws, ev, _, hq, hw⟩ := h1.lst_
  subst ev
  cases r with
  | cons r1 rr =>
    cases rr
    cases r1
    obtain ⟨its, rv, pl, _⟩ := I.list hq
    rw [dens_map_int hw] at rv
    have ia := intsAre_of rv
    obtain ⟨xs, ex⟩ := ia.allInts.items
    have hl : s.heap.IsList a (intItems xs) := by rw [← ex]; exact pl.isList
    have hns : ns = xs.toList.map (·.1) := by rw [← ia.numsOf, ← nums_intItems, ← ex]
    have hsz : 0 < xs.size := by rw [hns, List.length_map, Array.length_toList] at hne; exact hne
    refine max_intList (I.ok.hd hc) hl hsz fun y h' tk hy kp => ?_
    obtain ⟨tt, rfl⟩ := intItems_at hy
    obtain ⟨g1, g2⟩ := argBest_gt (numAt xs) (xs.size - 1)
    have at_ : ∀ j, j < xs.size → xs.toList.map (·.1) ≠ [] → numAt xs j ∈ ns := fun j hj _ => by
      rw [hns, numAt_eq]
      have : (xs.toList.map (·.1))[j]? = some ((xs.toList.map (·.1)).getD j 0) := by simp [hj]
      exact List.mem_of_getElem? this
    refine ⟨.int _, H, _, I.kept kp, ⟨_, rfl⟩, Same.refl H, Den.int _, q _ (at_ _ (by omega) (by rw [← hns]; exact List.ne_nil_of_length_pos hne)) fun n hn => ?_⟩
    rw [hns] at hn
    obtain ⟨j, hj, ej⟩ := List.getElem_of_mem hn
    have : numAt xs j = n := by rw [numAt_eq, ← ej]; simp only [List.getD_eq_getElem?_getD, List.getElem?_eq_getElem hj, Option.getD_some]
    rw [← this]
    rw [List.length_map, Array.length_toList] at hj
    exact g2 j (by omega)
end
end PD
namespace PD
open PySem PySem.Spec PyProof.Rows L2
section
variable {X : Cx} {pos : Pos}
def isFl : D → Bool
  | .bl false => true
  | _ => false
theorem op_isF : OpR X (compareOp .Is) (fun x y H Q => y = .bl false ∧ Q (.bl (decide (x = .bl false))) H) := by
  intro pins s σ H x y v u Q I rx ry h
  obtain ⟨rfl, q⟩ := h
  cases ry
  have fin : ∀ b : Bool, b = decide (x = .bl false) → EP X pins σ Q (.bool b) s := fun b e => by subst e; exact ⟨.bl (decide (x = .bl false)), H, I, rfl, q⟩
  cases x with
  | bl b => cases rx; refine wpAny_is_plain rfl (fin _ ?_); cases b <;> rfl
  | non => cases rx; exact wpAny_is_plain rfl (fin _ rfl)
  | ref a => cases rx; exact wpAny_is_plain rfl (fin _ rfl)
  | ty a => cases rx; exact wpAny_is_plain rfl (fin _ rfl)
  | int a => obtain ⟨t, rfl⟩ := rx; exact wpAny_is_plain rfl (fin _ rfl)
  | str a => obtain ⟨t, rfl⟩ := rx; exact wpAny_is_plain rfl (fin _ rfl)
  | byt a => obtain ⟨t, rfl⟩ := rx; exact wpAny_is_plain rfl (fin _ rfl)
  | flt a => obtain ⟨t, rfl⟩ := rx; exact wpAny_is_plain rfl (fin _ rfl)
theorem den_isFl {K : PySem.W.Frag} {P : Bool → Addr → Prop} {H : Hp} {d : D} {v : V} (h : Den K P H d v) : decide (v = .bl false) = isFl d := by
  cases d with
  | non => have := h.non_; subst this; rfl
  | bl b => have := h.bl_; subst this; cases b <;> rfl
  | int i => have := h.int_; subst this; rfl
  | str i => have := h.str_; subst this; rfl
  | tup ds => obtain ⟨a, vs, rfl, _⟩ := h.tup_; rfl
  | lst t ds => obtain ⟨a, vs, rfl, _⟩ := h.lst_; rfl
  | exc c => obtain ⟨a, e, _⟩ := h.exc_; subst e; rfl
theorem od_isF : OpD X (compareOp .Is) (fun x y Q => y = .bl false ∧ Q (.bl (isFl x))) := OpD.of op_isF fun P H x y v u Q hx hy ⟨e, q⟩ => by
  subst e
  refine ⟨hy.bl_, Same.refl H, _, Den.bl _, ?_⟩
  rw [den_isFl hx]
  exact q
end
end PD

namespace PZ
open PySem PySem.Spec PyProof.Rows
/-! ## zip of three lists of one length -/
abbrev IsTri (h : Heap) (T : Addr) (a b c : Value) : Prop := h.get? T = some { cls := .type "tuple", data := .seq #[a, b, c] }
theorem args_init4 (a b c d : Value) : argsOk "object.__init__" ⟨[a, b, c, d], []⟩ := by
  unfold argsOk; rw [signature?_of (id := "object.__init__") (n := ['_', '_', 't', 'i', 'n', 'i', '_', '_']) (o := ['t', 'c', 'e', 'j', 'b', 'o']) (by kernel_rfl) F.owner_object]; kernel_rfl
theorem typeCall3 (a b c : Value) : checkTypeCall "zip" ⟨[a, b, c], []⟩ = pure () := by kernel_rfl
theorem newCall3 (a b c : Value) : checkBuiltinCall "zip.__new__" ⟨[.type "zip", a, b, c], []⟩ = pure () := by kernel_rfl
structure Ap3 (z TI TO i1 i2 i3 : Addr) : Prop where
  a1 : TI ≠ z
  a2 : TO ≠ z
  a3 : i1 ≠ z
  a4 : i2 ≠ z
  a5 : i3 ≠ z
  b1 : TI ≠ TO
  b2 : TI ≠ i1
  b3 : TI ≠ i2
  b4 : TI ≠ i3
  c1 : TO ≠ i1
  c2 : TO ≠ i2
  c3 : TO ≠ i3
  d1 : i1 ≠ i2
  d2 : i1 ≠ i3
  d3 : i2 ≠ i3
structure Out3 (z TO i1 i2 i3 l : Addr) : Prop where
  c1 : l ≠ z
  c2 : l ≠ TO
  c3 : l ≠ i1
  c4 : l ≠ i2
  c5 : l ≠ i3
structure ZSt3 (z TI TO i1 i2 i3 l1 l2 l3 : Addr) (i : Nat) (h : Heap) : Prop where
  z : IsZip h z TI TO .none
  ti : IsTri h TI (.ref i1) (.ref i2) (.ref i3)
  to : ∃ a b c, IsTri h TO a b c
  s1 : SIt true h i1 l1 i
  s2 : SIt true h i2 l2 i
  s3 : SIt true h i3 l3 i
section
variable {prog : Program} {w : World} {A : Around} {E : Value → Shared → Prop} {s : Shared} {z TI TO i1 i2 i3 l1 l2 l3 : Addr} {i : Nat} {xs ys zs : Array Value}
theorem updTri {T : Addr} {a b c x : Value} {k : Nat} {Q : Unit → Shared → Prop} (hT : IsTri s.heap T a b c) (h : ∀ h', h'.get? T = some { cls := .type "tuple", data := .seq ((#[a, b, c] : Array Value).setIfInBounds k x) } → Heap.SameBut T s.heap h' → Q () { s with heap := h' }) :
    wpAny (model prog w) A (updateSeq T (·.setIfInBounds k x)) Q E s := wpAny_updateSeq hT rfl (h _ (by rw [Heap.get?_update_self _ hT rfl]; simp [Obj.mapSeq]) (Heap.SameBut.update ..))
theorem zNext3 {x y u : Value} {Q : Option Value → Shared → Prop} (D : Ap3 z TI TO i1 i2 i3) (D1 : Out3 z TO i1 i2 i3 l1) (D2 : Out3 z TO i1 i2 i3 l2) (D3 : Out3 z TO i1 i2 i3 l3) (Z : ZSt3 z TI TO i1 i2 i3 l1 l2 l3 i s.heap) (q1 : SSq true s.heap l1 xs) (q2 : SSq true s.heap l2 ys) (q3 : SSq true s.heap l3 zs) (hx : xs[i]? = some x) (hy : ys[i]? = some y) (hu : zs[i]? = some u)
    (hQ : ∀ h', IsZip h' z TI TO (rawInt s.heap.objs.size) → IsTri h' TI (.ref i1) (.ref i2) (.ref i3) → IsTri h' TO x y u → SIt true h' i1 l1 (i + 1) → SIt true h' i2 l2 (i + 1) → SIt true h' i3 l3 (i + 1) → IsTri h' s.heap.objs.size x y u →
      (∀ c o, c ≠ z → c ≠ TO → c ≠ i1 → c ≠ i2 → c ≠ i3 → s.heap.get? c = some o → h'.get? c = some o) → Q (some (.ref s.heap.objs.size)) { s with heap := h' }) : wpAny (model prog w) A (pyNext (.ref z)) Q E s := by
  obtain ⟨hz, hTI, ⟨a, b, c0, hTO⟩, h1, h2, h3⟩ := Z
  have hT : s.TypeIs (.ref z) "zip" := ⟨_, hz, rfl⟩
  unfold pyNext
  refine wpAny_bind (wpAny_attempt (wpAny_callSpecial?_slot (name := Str.ofString "__next__") hT F.slot_zip_next (wpAny_call_entry F.slot_zip_next hT F.entry_zip_next ?_ (F.args_zip_next_1 _))))
  show wpAny _ _ (field (.ref z) 2 >>= _) _ _ _; refine wpAny_bind (wpAny_field hz rfl (x := .bool false) rfl ?_)
  show wpAny _ _ (field (.ref z) 3 >>= _) _ _ _; refine wpAny_bind (wpAny_field hz rfl (x := .ref TI) rfl (wpAny_bind (wpAny_seqItems hTI rfl ?_)))
  show wpAny _ _ (Builtin.SmallTypes.ownedTupleIsFree (.ref z) >>= _) _ _ _; refine wpAny_bind ?_; unfold Builtin.SmallTypes.ownedTupleIsFree
  refine wpAny_bind (wpAny_field hz rfl (x := .none) rfl (wpAny_pure ?_)); simp only [if_true]; refine wpAny_bind (wpAny_rule (wpAny_bind (wpAny_field hz rfl (x := .ref TO) rfl ?_)))
  refine wpAny_bind (wpAny_setField_rec hz (by simp) fun g1 (z1 : IsZip g1 z TI TO .ellipsis) b1 => wpAny_bind ?_)
  simp only [List.zipIdx_cons, List.zipIdx_nil, List.forIn_cons, List.forIn_nil]
  have k1' : ∀ c o, c ≠ z → s.heap.get? c = some o → g1.get? c = some o := fun c o n e => b1.extBut c o n e
  refine wpAny_bind (wpAny_bind (wpAny_onRaise ?_)); show wpAny _ _ (Builtin.SmallTypes.nextOf (.ref i1) >>= _) _ _ _
  refine wpAny_bind (next1 (s := { s with heap := g1 }) (h1.of fun o e => k1' _ o D.a3 e) (q1.of fun o e => k1' _ o D1.c1 e) hx fun g2 n2 b2 => wpAny_pure ?_)
  have t2 : IsTri g2 TO a b c0 := b2.extBut _ _ D.c1 (k1' _ _ D.a2 hTO)
  refine wpAny_bind (wpAny_seqItems t2 rfl (wpAny_bind (updTri t2 fun g3 (t3 : IsTri g3 TO x b c0) b3 => wpAny_bind (wpAny_letGo (wpAny_pure ?_)))))
  have k3 : ∀ c o, c ≠ z → c ≠ TO → c ≠ i1 → s.heap.get? c = some o → g3.get? c = some o := fun c o n1 n2 n3 e => b3.extBut c o n2 (b2.extBut c o n3 (k1' c o n1 e))
  refine wpAny_bind (wpAny_bind (wpAny_onRaise ?_)); show wpAny _ _ (Builtin.SmallTypes.nextOf (.ref i2) >>= _) _ _ _
  refine wpAny_bind (next1 (s := { s with heap := g3 }) (h2.of fun o e => k3 _ o D.a4 (Ne.symm D.c2) (Ne.symm D.d1) e) (q2.of fun o e => k3 _ o D2.c1 D2.c2 D2.c3 e) hy fun g4 n4 b4 => wpAny_pure ?_)
  have t4 : IsTri g4 TO x b c0 := b4.extBut _ _ D.c2 t3
  refine wpAny_bind (wpAny_seqItems t4 rfl (wpAny_bind (updTri t4 fun g5 (t5 : IsTri g5 TO x y c0) b5 => wpAny_bind (wpAny_letGo (wpAny_pure ?_)))))
  have k5 : ∀ c o, c ≠ z → c ≠ TO → c ≠ i1 → c ≠ i2 → s.heap.get? c = some o → g5.get? c = some o := fun c o n1 n2 n3 n4 e => b5.extBut c o n2 (b4.extBut c o n4 (k3 c o n1 n2 n3 e))
  refine wpAny_bind (wpAny_bind (wpAny_onRaise ?_)); show wpAny _ _ (Builtin.SmallTypes.nextOf (.ref i3) >>= _) _ _ _
  refine wpAny_bind (next1 (s := { s with heap := g5 }) (h3.of fun o e => k5 _ o D.a5 (Ne.symm D.c3) (Ne.symm D.d2) (Ne.symm D.d3) e) (q3.of fun o e => k5 _ o D3.c1 D3.c2 D3.c3 D3.c4 e) hu fun g6 n6 b6 => wpAny_pure ?_)
  have t6 : IsTri g6 TO x y c0 := b6.extBut _ _ D.c3 t5
  refine wpAny_bind (wpAny_seqItems t6 rfl (wpAny_bind (updTri t6 fun g7 (t7 : IsTri g7 TO x y u) b7 => wpAny_bind (wpAny_letGo (wpAny_pure (wpAny_pure ?_))))))
  refine wpAny_bind (wpAny_seqItems t7 rfl (wpAny_bind (wpAny_newTuple ?_)))
  have sz : g7.objs.size = s.heap.objs.size := by rw [b7.1, b6.1, b5.1, b4.1, b3.1, b2.1, b1.1]
  have k7 : ∀ c o, c ≠ z → c ≠ TO → c ≠ i1 → c ≠ i2 → c ≠ i3 → s.heap.get? c = some o → g7.get? c = some o := fun c o n1 n2 n3 n4 n5 e => b7.extBut c o n2 (b6.extBut c o n5 (k5 c o n1 n2 n3 n4 e))
  have z7 : IsZip g7 z TI TO .ellipsis := b7.extBut _ _ (Ne.symm D.a2) (b6.extBut _ _ (Ne.symm D.a5) (b5.extBut _ _ (Ne.symm D.a2) (b4.extBut _ _ (Ne.symm D.a4) (b3.extBut _ _ (Ne.symm D.a2) (b2.extBut _ _ (Ne.symm D.a3) z1)))))
  have s17 : SIt true g7 i1 l1 (i + 1) := n2.of fun o e => b7.extBut _ o (Ne.symm D.c1) (b6.extBut _ o D.d2 (b5.extBut _ o (Ne.symm D.c1) (b4.extBut _ o D.d1 (b3.extBut _ o (Ne.symm D.c1) e))))
  have s27 : SIt true g7 i2 l2 (i + 1) := n4.of fun o e => b7.extBut _ o (Ne.symm D.c2) (b6.extBut _ o D.d3 (b5.extBut _ o (Ne.symm D.c2) e))
  have s37 : SIt true g7 i3 l3 (i + 1) := n6.of fun o e => b7.extBut _ o (Ne.symm D.c3) e
  have zl : z < g7.objs.size := Heap.lt_size z7
  show wpAny _ _ (Builtin.SmallTypes.ownedTupleHandOut (.ref z) (.ref g7.objs.size) >>= _) _ _ _; refine wpAny_bind ?_; unfold Builtin.SmallTypes.ownedTupleHandOut
  have z8 : IsZip (g7.push { cls := .type "tuple", data := .seq #[x, y, u] }) z TI TO .ellipsis := Heap.get?_push_of_some _ z7
  refine wpAny_bind (wpAny_setField_rec z8 (by simp) fun g9 (z9 : IsZip g9 z TI TO (rawInt g7.objs.size)) b9 => wpAny_setField_rec z9 (by simp) fun g10 (z10 : IsZip g10 z TI TO (rawInt g7.objs.size)) b10 => wpAny_pure ?_)
  have up : ∀ c o, c ≠ z → g7.get? c = some o → g10.get? c = some o := fun c o n e => b10.extBut c o n (b9.extBut c o n (Heap.get?_push_of_some _ e))
  have p10 : IsTri g10 g7.objs.size x y u := b10.extBut _ _ (Nat.ne_of_gt zl) (b9.extBut _ _ (Nat.ne_of_gt zl) (Heap.get?_push_size _ rfl))
  refine ⟨_, rfl, ?_⟩
  rw [sz] at z10 p10
  refine wpAny_pure ?_
  show Q (some (.ref g7.objs.size)) _
  rw [sz]
  exact hQ g10 z10 (up _ _ D.a1 (k7 _ _ D.a1 D.b1 D.b2 D.b3 D.b4 hTI)) (up _ _ D.a2 t7) (s17.of fun o e => up _ o D.a3 e) (s27.of fun o e => up _ o D.a4 e) (s37.of fun o e => up _ o D.a5 e) p10 fun c o n1 n2 n3 n4 n5 e => up c o n1 (k7 c o n1 n2 n3 n4 n5 e)
theorem zStop3 {Q : Option Value → Shared → Prop} (hh : A.handled = none) (D : Ap3 z TI TO i1 i2 i3) (D1 : Out3 z TO i1 i2 i3 l1) (Z : ZSt3 z TI TO i1 i2 i3 l1 l2 l3 i s.heap) (q1 : SSq true s.heap l1 xs) (hx : xs[i]? = none)
    (hQ : ∀ h', (∀ c o, c ≠ z → c ≠ i1 → s.heap.get? c = some o → h'.get? c = some o) → Q none { s with heap := h' }) : wpAny (model prog w) A (pyNext (.ref z)) Q E s := by
  obtain ⟨hz, hTI, ⟨a, b, c0, hTO⟩, h1, h2, h3⟩ := Z
  have hT : s.TypeIs (.ref z) "zip" := ⟨_, hz, rfl⟩
  unfold pyNext
  refine wpAny_bind (wpAny_attempt (wpAny_callSpecial?_slot (name := Str.ofString "__next__") hT F.slot_zip_next (wpAny_call_entry F.slot_zip_next hT F.entry_zip_next ?_ (F.args_zip_next_1 _))))
  show wpAny _ _ (field (.ref z) 2 >>= _) _ _ _; refine wpAny_bind (wpAny_field hz rfl (x := .bool false) rfl ?_)
  show wpAny _ _ (field (.ref z) 3 >>= _) _ _ _; refine wpAny_bind (wpAny_field hz rfl (x := .ref TI) rfl (wpAny_bind (wpAny_seqItems hTI rfl ?_)))
  show wpAny _ _ (Builtin.SmallTypes.ownedTupleIsFree (.ref z) >>= _) _ _ _; refine wpAny_bind ?_; unfold Builtin.SmallTypes.ownedTupleIsFree
  refine wpAny_bind (wpAny_field hz rfl (x := .none) rfl (wpAny_pure ?_)); simp only [if_true]; refine wpAny_bind (wpAny_rule (wpAny_bind (wpAny_field hz rfl (x := .ref TO) rfl ?_)))
  refine wpAny_bind (wpAny_setField_rec hz (by simp) fun g1 (z1 : IsZip g1 z TI TO .ellipsis) b1 => wpAny_bind ?_)
  simp only [List.zipIdx_cons, List.zipIdx_nil, List.forIn_cons, List.forIn_nil]
  have k1' : ∀ c o, c ≠ z → s.heap.get? c = some o → g1.get? c = some o := fun c o n e => b1.extBut c o n e
  refine wpAny_bind (wpAny_bind (wpAny_onRaise ?_)); show wpAny _ _ (Builtin.SmallTypes.nextOf (.ref i1) >>= _) _ _ _
  refine wpAny_bind (next0 (s := { s with heap := g1 }) hh (h1.of fun o e => k1' _ o D.a3 e) (q1.of fun o e => k1' _ o D1.c1 e) hx fun g2 e b2 he => ?_)
  obtain ⟨oe, ho, hc⟩ := he
  have z2 : IsZip g2 z TI TO .ellipsis := b2 _ _ (Ne.symm D.a3) z1
  have nz : e ≠ z := fun q => by subst q; rw [z2] at ho; cases ho; simp at hc
  refine wpAny_setField_rec z2 (by simp) fun g3 _ b3 => wpAny_bind (wpAny_isInstance (T := "StopIteration") (b := true) ⟨oe, b3.extBut _ _ nz ho, hc⟩ isSubtype_stop ?_)
  exact wpAny_pure (hQ g3 fun c o n1 n3 q => b3.extBut c o n1 (b2 c o n3 (k1' c o n1 q)))
end
abbrev zq1 (h : Heap) (l1 : Addr) : Heap := h.push { cls := .type "list_iterator", data := .fields #[.ref l1, .int 0 0] }
abbrev zq2 (h : Heap) (l1 l2 : Addr) : Heap := (zq1 h l1).push { cls := .type "list_iterator", data := .fields #[.ref l2, .int 0 0] }
abbrev zq3 (h : Heap) (l1 l2 l3 : Addr) : Heap := (zq2 h l1 l2).push { cls := .type "list_iterator", data := .fields #[.ref l3, .int 0 0] }
abbrev zq4 (h : Heap) (l1 l2 l3 : Addr) : Heap := (zq3 h l1 l2 l3).push { cls := .type "tuple", data := .seq #[.ref h.objs.size, .ref (zq1 h l1).objs.size, .ref (zq2 h l1 l2).objs.size] }
abbrev zq5 (h : Heap) (l1 l2 l3 : Addr) : Heap := (zq4 h l1 l2 l3).push { cls := .type "tuple", data := .seq #[.none, .none, .none] }
abbrev zq6 (h : Heap) (l1 l2 l3 : Addr) : Heap := (zq5 h l1 l2 l3).push { cls := .type "zip", data := .fields #[.none, .bool false, .bool false, .ref (zq3 h l1 l2 l3).objs.size, .ref (zq4 h l1 l2 l3).objs.size] }
theorem zNew3 (l1 l2 l3 : Addr) (xs ys zs : Array Value) : Meets (Builtin.«zip.__new__» ⟨[.type "zip", .ref l1, .ref l2, .ref l3], []⟩) (fun _ R s => s.heap.IsList l1 xs ∧ s.heap.IsList l2 ys ∧ s.heap.IsList l3 zs ∧ R (.ok (.ret (.ref (zq5 s.heap l1 l2 l3).objs.size))) { s with heap := zq6 s.heap l1 l2 l3 }) :=
  .of_wp fun prog w A R s h => by
    obtain ⟨hp, g, d, tk, os⟩ := s; obtain ⟨q1, q2, q3, h⟩ := h; have hsub := sub_zip
    have p1 : Heap.IsList (Shared.heap ⟨hp, g, d, tk, os⟩) l1 xs := q1
    have p2 : Heap.IsList (Shared.heap ⟨hp.push { cls := .type "list_iterator", data := .fields #[.ref l1, .int 0 0] }, g, d, tk, os⟩) l2 ys := q2.push _
    have p3 : Heap.IsList (Shared.heap ⟨(hp.push { cls := .type "list_iterator", data := .fields #[.ref l1, .int 0 0] }).push { cls := .type "list_iterator", data := .fields #[.ref l2, .int 0 0] }, g, d, tk, os⟩) l3 zs := (q3.push _).push _
    wp_walk using wpAny_pyIter_list p1, wpAny_pyIter_list p2, wpAny_pyIter_list p3
    exact ⟨_, rfl, h⟩
section
variable {prog : Program} {w : World} {A : Around} {E : Value → Shared → Prop} {s : Shared} {l1 l2 l3 : Addr} {xs ys zs : Array Value}
theorem zMade3 {Q : Value → Shared → Prop} (q1 : s.heap.IsList l1 xs) (q2 : s.heap.IsList l2 ys) (q3 : s.heap.IsList l3 zs)
    (hQ : ∀ h', ZSt3 (s.heap.objs.size + 5) (s.heap.objs.size + 3) (s.heap.objs.size + 4) s.heap.objs.size (s.heap.objs.size + 1) (s.heap.objs.size + 2) l1 l2 l3 0 h' → (∀ c o, s.heap.get? c = some o → h'.get? c = some o) → Q (.ref (s.heap.objs.size + 5)) { s with heap := h' }) :
    wpAny (model prog w) A (call (.type "zip") [.ref l1, .ref l2, .ref l3]) Q E s := by
  refine callType_new F.called_zip (by decide) (typeCall3 _ _ _) (newCall3 _ _ _) (fun obj => args_init4 obj _ _ _) F.entry_zip_new (zNew3 l1 l2 l3 xs ys zs) ⟨q1, q2, q3, ?_⟩
  have n1 : (zq1 s.heap l1).objs.size = s.heap.objs.size + 1 := Heap.size_push ..
  have n2 : (zq2 s.heap l1 l2).objs.size = s.heap.objs.size + 2 := by rw [Heap.size_push, n1]
  have n3 : (zq3 s.heap l1 l2 l3).objs.size = s.heap.objs.size + 3 := by rw [Heap.size_push, n2]
  have n4 : (zq4 s.heap l1 l2 l3).objs.size = s.heap.objs.size + 4 := by rw [Heap.size_push, n3]
  have n5 : (zq5 s.heap l1 l2 l3).objs.size = s.heap.objs.size + 5 := by rw [Heap.size_push, n4]
  have up6 : ∀ c o, (zq5 s.heap l1 l2 l3).get? c = some o → (zq6 s.heap l1 l2 l3).get? c = some o := fun c o e => Heap.get?_push_of_some _ e
  have up5 : ∀ c o, (zq4 s.heap l1 l2 l3).get? c = some o → (zq6 s.heap l1 l2 l3).get? c = some o := fun c o e => up6 c o (Heap.get?_push_of_some _ e)
  have up4 : ∀ c o, (zq3 s.heap l1 l2 l3).get? c = some o → (zq6 s.heap l1 l2 l3).get? c = some o := fun c o e => up5 c o (Heap.get?_push_of_some _ e)
  have up3 : ∀ c o, (zq2 s.heap l1 l2).get? c = some o → (zq6 s.heap l1 l2 l3).get? c = some o := fun c o e => up4 c o (Heap.get?_push_of_some _ e)
  have up2 : ∀ c o, (zq1 s.heap l1).get? c = some o → (zq6 s.heap l1 l2 l3).get? c = some o := fun c o e => up3 c o (Heap.get?_push_of_some _ e)
  have g6 : (zq6 s.heap l1 l2 l3).get? (zq5 s.heap l1 l2 l3).objs.size = some _ := Heap.get?_push_size _ rfl
  have g5 := up6 _ _ (Heap.get?_push_size (zq4 s.heap l1 l2 l3) (o := { cls := .type "tuple", data := .seq #[.none, .none, .none] }) rfl)
  have g4 := up5 _ _ (Heap.get?_push_size (zq3 s.heap l1 l2 l3) (o := { cls := .type "tuple", data := .seq #[.ref s.heap.objs.size, .ref (zq1 s.heap l1).objs.size, .ref (zq2 s.heap l1 l2).objs.size] }) rfl)
  have g3 := up4 _ _ (Heap.get?_push_size (zq2 s.heap l1 l2) (o := { cls := .type "list_iterator", data := .fields #[.ref l3, .int 0 0] }) rfl)
  have g2 := up3 _ _ (Heap.get?_push_size (zq1 s.heap l1) (o := { cls := .type "list_iterator", data := .fields #[.ref l2, .int 0 0] }) rfl)
  have g1 := up2 _ _ (Heap.get?_push_size s.heap (o := { cls := .type "list_iterator", data := .fields #[.ref l1, .int 0 0] }) rfl)
  have hQ' := hQ (zq6 s.heap l1 l2 l3)
  rw [n3, n4, n5] at g6; rw [n4] at g5; rw [n1, n2, n3] at g4; rw [n2] at g3; rw [n1] at g2
  show _ ∧ _
  rw [n5]
  exact ⟨⟨_, g6, rfl⟩, hQ' ⟨g6, g4, ⟨_, _, _, g5⟩, ⟨_, g1, rfl, rfl⟩, ⟨_, g2, rfl, rfl⟩, ⟨_, g3, rfl, rfl⟩⟩ fun c o e => up2 c o (Heap.get?_push_of_some _ e)⟩
end
end PZ

namespace PD
open PySem PySem.Spec PyProof.Rows L2 PZ
/-! ## for a, b, c in zip(x, y, z), lists of one length -/
def Itz3 (K : PySem.W.Frag) (a b c : Addr) : It :=
  ⟨fun i H => ∃ xs ys zs x y u, SqK K true H a xs ∧ SqK K true H b ys ∧ SqK K true H c zs ∧ xs[i]? = some x ∧ ys[i]? = some y ∧ zs[i]? = some u,
   fun i H v H' => ∃ T x y u, v = .ref T ∧ H T = none ∧ H' = L2.upd H T (.tup [x, y, u]) ∧ (∀ xs, SqK K true H a xs → xs[i]? = some x) ∧ (∀ ys, SqK K true H b ys → ys[i]? = some y) ∧ ∀ zs, SqK K true H c zs → zs[i]? = some u,
   fun i H => ∃ xs, SqK K true H a xs ∧ xs[i]? = none⟩
theorem turn_zip3 {P : Program} {w : World} {K : PySem.W.Frag} {es : List Expr} {kt : Nat} {tp : Pos} (a b l3 z TI TO i1 i2 i3 : Addr) (D : Ap3 z TI TO i1 i2 i3) :
    Turn P w K (.Tuple es kt tp) (Itz3 K a b l3) [z, TI, TO, i1, i2, i3] z (fun i h => ZSt3 z TI TO i1 i2 i3 a b l3 i h) where
  mem := by simp
  obj := fun i h st c hc => by
    obtain ⟨hz, hTI, ⟨x, y, u, hTO⟩, s1, s2, s3⟩ := st
    simp only [List.mem_cons, List.not_mem_nil, or_false] at hc
    rcases hc with e | e | e | e | e | e <;> subst e
    · exact ⟨_, hz, fun v q => by cases q⟩
    · exact ⟨_, hTI, fun v q => by cases q⟩
    · exact ⟨_, hTO, fun v q => by cases q⟩
    · obtain ⟨o, q1, _, q2⟩ := s1.obj
      exact ⟨o, q1, fun v q => by rw [q2] at q; cases q⟩
    · obtain ⟨o, q1, _, q2⟩ := s2.obj
      exact ⟨o, q1, fun v q => by rw [q2] at q; cases q⟩
    · obtain ⟨o, q1, _, q2⟩ := s3.obj
      exact ⟨o, q1, fun v q => by rw [q2] at q; cases q⟩
  keep := fun i h h' st kp => by
    obtain ⟨hz, hTI, ⟨x, y, u, hTO⟩, s1, s2, s3⟩ := st
    exact ⟨kp z (by simp) _ hz, kp TI (by simp) _ hTI, ⟨x, y, u, kp TO (by simp) _ hTO⟩, s1.of fun o e => kp i1 (by simp) o e, s2.of fun o e => kp i2 (by simp) o e, s3.of fun o e => kp i3 (by simp) o e⟩
  item := by
    intro X hP hw hK hc i pins s σ H E I hf st hg
    subst hP hw hK
    obtain ⟨xs, ys, zs, x, y, x3, q1, q2, q3, hx, hy, hx3⟩ := hg
    obtain ⟨us, r1, p1⟩ := q1.list I
    obtain ⟨ws, r2, p2⟩ := q2.list I
    obtain ⟨ws3, r3, p3⟩ := q3.list I
    obtain ⟨u, hu, ru⟩ := r1.get hx
    obtain ⟨v, hv, rv⟩ := r2.get hy
    obtain ⟨v3, hv3, rv3⟩ := r3.get hx3
    have out : ∀ {k : Bool} {l : Addr} {zs : List V}, SqK X.K k H l zs → Out3 z TO i1 i2 i3 l := fun q => ⟨q.ne I (hf z (by simp)), q.ne I (hf TO (by simp)), q.ne I (hf i1 (by simp)), q.ne I (hf i2 (by simp)), q.ne I (hf i3 (by simp))⟩
    refine zNext3 D (out q1) (out q2) (out q3) st p1 p2 p3 (x := u) (y := v) (u := v3) (by simpa using hu) (by simpa using hv) (by simpa using hv3) fun h' z1 ti to s1 s2 s3 pr kp => ⟨_, rfl, wpAny_letOwnedTupleGo_zip z1 fun h'' z2 sb => ?_⟩
    have sz : s.heap.objs.size ≤ s.heap.objs.size := Nat.le_refl _
    have nz : s.heap.objs.size ≠ z := Nat.ne_of_gt (Heap.lt_size st.z)
    have nT : H s.heap.objs.size = none := I.hok.fresh sz
    have kp2 : ∀ c o, c ∉ [z, TI, TO, i1, i2, i3] → s.heap.get? c = some o → h''.get? c = some o := fun c o n e => by
      simp only [List.mem_cons, List.not_mem_nil, or_false, not_or] at n
      exact sb.extBut c o n.1 (kp c o n.1 n.2.2.1 n.2.2.2.1 n.2.2.2.2.1 n.2.2.2.2.2 e)
    have st2 : ZSt3 z TI TO i1 i2 i3 a b l3 (i + 1) h'' := ⟨z2, sb.extBut _ _ D.a1 ti, ⟨_, _, _, sb.extBut _ _ D.a2 to⟩, s1.of fun o e => sb.extBut _ o D.a3 e, s2.of fun o e => sb.extBut _ o D.a4 e, s3.of fun o e => sb.extBut _ o D.a5 e⟩
    have pr2 : IsTri h'' s.heap.objs.size u v v3 := sb.extBut _ _ nz pr
    have lo : ∀ c ∈ [z, TI, TO, i1, i2, i3], c ≠ s.heap.objs.size := fun c hc e => by
      have hlt : c < s.heap.objs.size := by
        obtain ⟨hz, hTI, ⟨x', y', u', hTO⟩, t1, t2, t3⟩ := st
        simp only [List.mem_cons, List.not_mem_nil, or_false] at hc
        rcases hc with q | q | q | q | q | q <;> subst q
        · exact Heap.lt_size hz
        · exact Heap.lt_size hTI
        · exact Heap.lt_size hTO
        · obtain ⟨o, q1, _⟩ := t1.obj; exact Heap.lt_size q1
        · obtain ⟨o, q1, _⟩ := t2.obj; exact Heap.lt_size q1
        · obtain ⟨o, q1, _⟩ := t3.obj; exact Heap.lt_size q1
      rw [e] at hlt
      exact Nat.lt_irrefl _ hlt
    refine ⟨.ref s.heap.objs.size, L2.upd H s.heap.objs.size (.tup [x, y, x3]), ?_, rfl, ⟨_, x, y, x3, rfl, nT, rfl, fun xs' q => by rw [q.inj I q1]; exact hx, fun ys' q => by rw [q.inj I q2]; exact hy, fun ys' q => by rw [q.inj I q3]; exact hx3⟩, st2, fun c hc => by rw [upd_ne (lo c hc)]; exact (hf c hc).1⟩
    have nch : ∀ c o, H c = some o → c ∉ [z, TI, TO, i1, i2, i3] := fun c o e hc => by
      have := (hf c hc).1
      rw [e] at this
      cases this
    refine L2.Inv.step (s := s) (h' := h'') (g' := s.gens) (d' := s.drawn) (t' := s.toks) (ch := [z, TI, TO, i1, i2, i3]) I (fun c hc => ?_) (fun c o _ _ n e _ => kp2 c o n e) (fun c o _ _ n e _ => ⟨o.slots, kp2 c o n e⟩) (fun c o _ e n => by rw [upd_ne (Nat.ne_of_lt (Heap.lt_size e))]; exact n) (fun c o n e => ⟨o, kp2 c o n e⟩)
      (fun c ls e => by rw [upd_ne (ne_of_none e nT)]; exact e) (fun c o ls e => by rw [upd_ne (ne_of_none e nT)]; exact e) (fun c ps e => ⟨#[], by rw [upd_ne (ne_of_none e nT), e]; simp⟩) (fun m hm => ?_) (fun c o e => ?_) I.bare
    · obtain ⟨f0, f1, f2, f3, f4, f5⟩ := hf c hc
      exact ⟨f3, f1, f4, f5⟩
    · obtain ⟨o, es', ep, ho, r⟩ := hm
      exact ⟨o, es', ep, kp2 _ o (fun q => (hf _ q).2.1 rfl) ho, r⟩
    · by_cases hcT : c = s.heap.objs.size
      · subst hcT
        rw [upd_same] at e
        cases e
        exact ⟨by rw [sizeLine_eq]; show 3 ≤ 16777216; decide, [u, v, v3], .cons ru (.cons rv (.cons rv3 .nil)), ⟨_, pr2, rfl, _, rfl⟩⟩
      · rw [upd_ne hcT] at e
        refine (I.hok c o e).stay (fun d' o' hd q => kp2 d' o' ?_ q) (fun d' q => by rw [upd_ne (ne_of_none q nT)]; exact q) fun d' ls q => by rw [upd_ne (ne_of_none q nT)]; exact q
        rcases hd with q' | q'
        · rw [q']; exact nch c o e
        · exact nch d' _ q'
  done := by
    intro X hP hw hK hc i pins s σ H E I hf st hg
    subst hP hw hK
    obtain ⟨xs, q1, hend⟩ := hg
    obtain ⟨us, r1, p1⟩ := q1.list I
    have out : ∀ {k : Bool} {l : Addr} {zs : List V}, SqK X.K k H l zs → Out3 z TO i1 i2 i3 l := fun q => ⟨q.ne I (hf z (by simp)), q.ne I (hf TO (by simp)), q.ne I (hf i1 (by simp)), q.ne I (hf i2 (by simp)), q.ne I (hf i3 (by simp))⟩
    refine zStop3 (I.ok.hd hc) D (out q1) st p1 (by simpa using r1.none_of hend) fun h' kp => ⟨rfl, ?_⟩
    have kp2 : ∀ c o, c ∉ [z, TI, TO, i1, i2, i3] → s.heap.get? c = some o → h'.get? c = some o := fun c o n e => by
      simp only [List.mem_cons, List.not_mem_nil, or_false, not_or] at n
      exact kp c o n.1 n.2.2.2.1 e
    have nch : ∀ c o, H c = some o → c ∉ [z, TI, TO, i1, i2, i3] := fun c o e hc => by
      have := (hf c hc).1
      rw [e] at this
      cases this
    refine L2.Inv.step (s := s) (h' := h') (g' := s.gens) (d' := s.drawn) (t' := s.toks) (ch := [z, TI, TO, i1, i2, i3]) I (fun c hc => ?_) (fun c o _ _ n e _ => kp2 c o n e) (fun c o _ _ n e _ => ⟨o.slots, kp2 c o n e⟩) (fun _ _ _ _ n => n) (fun c o n e => ⟨o, kp2 c o n e⟩) (fun _ _ e => e) (fun _ _ _ e => e) (fun c ps e => ⟨#[], by rw [e]; simp⟩) (fun m hm => ?_) (fun c o e => ?_) I.bare
    · obtain ⟨f0, f1, f2, f3, f4, f5⟩ := hf c hc
      exact ⟨f3, f1, f4, f5⟩
    · obtain ⟨o, es', ep, ho, r⟩ := hm
      exact ⟨o, es', ep, kp2 _ o (fun q => (hf _ q).2.1 rfl) ho, r⟩
    · refine (I.hok c o e).stay (fun d' o' hd q => kp2 d' o' ?_ q) (fun _ q => q) fun _ _ q => q
      rcases hd with q' | q'
      · rw [q']; exact nch c o e
      · exact nch d' _ q'
  self := fun _ _ _ _ _ st h => wpAny_pyIter_zip st.z h
section
variable {X : Cx}
theorem dens3 {K : PySem.W.Frag} {P : Bool → Addr → Prop} {H : Hp} {x y z : D} {vs : List V} (h : Dens K P H [x, y, z] vs) : ∃ a b c, vs = [a, b, c] ∧ Den K P H x a ∧ Den K P H y b ∧ Den K P H z c := by
  simp only [Dens] at h
  obtain ⟨v, u, rfl, h1, v', u', rfl, h2, v3, u3, rfl, h3, rfl⟩ := h
  exact ⟨_, _, _, rfl, h1, h2, h3⟩
def tri (xs ys zs : List D) : List D := List.zipWith (fun f z => f z) (List.zipWith (fun x y z => D.tup [x, y, z]) xs ys) zs
def dZip3 (ta : DA) : DA := fun ρ R => ta ρ fun ds => ∃ t1 t2 t3 xs ys zs, ds = [.lst t1 xs, .lst t2 ys, .lst t3 zs] ∧ ys.length = xs.length ∧ zs.length = xs.length ∧ R (tri xs ys zs)
theorem id_zip3 {es : List Expr} {kt : Nat} {tp : Pos} {a b c : Expr} {ta : DA} {p pos : Pos} (hg : Gl X "zip") (hm : X.mg "zip" = none) (ha : PAD X [a, b, c] ta) (hs : starEach [a, b, c] X.env = (false, eval a X.env) :: starEach [b, c] X.env := by rfl) (hs2 : (backTo pos (starEach [b, c] X.env)).any (·.1) = false := by rfl) :
    PID X (.Tuple es kt tp) (.Call (.Name "zip" p) [a, b, c] [] pos) (dZip3 ta) := by
  intro pins s σ H W ρ R I r h
  refine Call_ (ld_blt I hg hm boot_zip (PyProof.Rows.callWith_type1 (thn (ha pos pins s σ H W ρ _ I r h) fun us s1 ⟨vs, H1, ds, I1, r1, e1, hd, q1⟩ => ?_) hs hs2))
  obtain ⟨t1, t2, t3, xs, ys, zs, e, le2, le3, q⟩ := q1
  subst e
  obtain ⟨v1, v2, v3, rfl, hd1, hd2, hd3⟩ := dens3 hd
  obtain ⟨l1, ws1, e2, sq1, dn1, up1⟩ := hd1.seq (k := true) rfl
  obtain ⟨l2, ws2, e3, sq2, dn2, up2⟩ := hd2.seq (k := true) rfl
  obtain ⟨l3, ws3, e4, sq3, dn3, up3⟩ := hd3.seq (k := true) rfl
  subst e2 e3 e4
  cases r1 with
  | cons ra rr =>
    cases rr with
    | cons rb rr =>
      cases rr with
      | cons rc rr =>
        cases rr
        cases ra
        cases rb
        cases rc
        obtain ⟨us1, _, p1⟩ := sq1.list I1
        obtain ⟨us2, _, p2⟩ := sq2.list I1
        obtain ⟨us3, _, p3⟩ := sq3.list I1
        have nn : ∀ j : Nat, s1.heap.objs.size ≤ s1.heap.objs.size + j := fun j => Nat.le_add_right _ j
        refine zMade3 p1 p2 p3 fun h' Z kp => ?_
        refine wpAny_pyIter_zip Z.z ?_
        have Dz : Ap3 (s1.heap.objs.size + 5) (s1.heap.objs.size + 3) (s1.heap.objs.size + 4) s1.heap.objs.size (s1.heap.objs.size + 1) (s1.heap.objs.size + 2) := by constructor <;> simp
        refine ⟨s1.heap.objs.size + 5, [s1.heap.objs.size + 5, s1.heap.objs.size + 3, s1.heap.objs.size + 4, s1.heap.objs.size, s1.heap.objs.size + 1, s1.heap.objs.size + 2], _, _, H1, _, rfl, I1.kept (t' := s1.toks) kp, e1, turn_zip3 l1 l2 l3 _ _ _ _ _ _ Dz, Z, fun c hc => ?_, ?_, q⟩
        · have hc' : s1.heap.objs.size ≤ c := by
            simp only [List.mem_cons, List.not_mem_nil, or_false] at hc
            rcases hc with q | q | q | q | q | q <;> subst q <;> first | exact nn _ | exact Nat.le_refl _
          exact I1.fpOk hc' (I1.hok.fresh hc')
        · intro P' H' hT hL hX i
          have k1' := up1 P' H' hT hL
          have k2' := up2 P' H' hT hL
          have k3' := up3 P' H' hT hL
          have n1 := dn1.len
          have n2 := dn2.len
          have n3 := dn3.len
          have hlen : (tri xs ys zs).length = xs.length := by unfold tri; rw [List.length_zipWith, List.length_zipWith]; omega
          refine ⟨fun hi => ?_, fun v H3 y hi => ?_, fun hi => ⟨ws1, k1', ?_⟩⟩
          · obtain ⟨x, hx, _⟩ := dn1.get (i := i) (d := xs[i]'(by omega)) (by simp)
            obtain ⟨y, hy, _⟩ := dn2.get (i := i) (d := ys[i]'(by omega)) (by simp)
            obtain ⟨z, hz, _⟩ := dn3.get (i := i) (d := zs[i]'(by omega)) (by simp)
            exact ⟨ws1, ws2, ws3, x, y, z, k1', k2', k3', hx, hy, hz⟩
          · obtain ⟨T, x, y', z', e, nT, eH, hx, hy, hz⟩ := y
            subst e eH
            obtain ⟨dx, g1', hx'⟩ := dn1.getV (hx ws1 k1')
            obtain ⟨dy, g2', hy'⟩ := dn2.getV (hy ws2 k2')
            obtain ⟨dz, g3', hz'⟩ := dn3.getV (hz ws3 k3')
            have sm : Same H' (L2.upd H' T (.tup [x, y', z'])) := Same.upd nT
            refine ⟨sm, .tup [dx, dy, dz], by unfold tri; simp [List.getElem?_zipWith, g1', g2', g3'], Den.tup (SqT.of upd_same) (Dens.cons ((Den.map hT hL hX dx x hx').same sm) (Dens.cons ((Den.map hT hL hX dy y' hy').same sm) (Dens.one ((Den.map hT hL hX dz z' hz').same sm))))⟩
          · exact List.getElem?_eq_none (by omega)
end
end PD

namespace PD
open PySem PySem.Spec PyProof.Rows L2
/-! ## a loop over a list of one's own, whose body only asks: for w in x: if test: .., the test never true -/
section
variable {X : Cx} {pos : Pos}
def liftT (X : Cx) (t : DT) : TT := fun σ H Q => ∃ W ρ Qd, Rel X W H σ ρ ∧ t ρ Qd ∧ ∀ k H', Same H H' → Qd k → Q k H'
theorem PTD.pt {e : Expr} {t : DT} (h : PTD X e t) : PT X e (liftT X t) := by
  intro pins s σ H Q I q
  obtain ⟨W, ρ, Qd, r, ht, k⟩ := q
  exact thn (h pins s σ H W ρ Qd I r ht) fun u s1 ⟨H', I1, e1, qd⟩ => ⟨H', I1, k u H' e1 qd⟩
def dForAsk (i iw : Nat) (tt : DT) : DS := fun E ρ => ∃ ds, ρ[i]? = some (some (.own ds)) ∧ ds ≠ [] ∧ (∀ d ∈ ds, tt (ρ.set iw (some (.val d))) fun k => k = false) ∧ ∀ d ∈ ds, E.nx (ρ.set iw (some (.val d)))
theorem ds_forAsk {x w : Str} {px pw p1 : Pos} {test : Expr} {body : List Stmt} {tt : DT} (i iw : Nat) (hp : PassesOwn (model X.prog X.w) X.A X.env X.xe) (hc : X.calm = true) (hN : X.N.Nodup) (ht : PTD X test tt) (hi : X.N[i]? = some x := by rfl) (hw : X.N[iw]? = some w := by rfl)
    (hv : Vis X.env.scope x := by first | exact Or.inl rfl | exact Or.inr (Or.inl rfl) | exact Or.inr (Or.inr rfl)) (hd : (x == ("__debug__" : Str)) = false := by decide) (hcd : (x == ("__classdict__" : Str)) = false := by decide)
    (hx : Loc X.env.scope w := by first | exact Or.inl rfl | exact Or.inr rfl) (hf : X.fn w = true ∨ X.env.scope.names.lookup w = some .local := by first | exact .inl rfl | exact .inr rfl | assumption)
    (hs : ∀ y, foldedSetIterable (.Name x px) X.env y = pure y := by intro _; rfl) : PSD X (.For (.Name w pw) (.Name x px) [.If test body [] p1] [] pos) (dForAsk i iw tt) := by
  refine PSD.of (ps_for hp hc (pi_list (pe_var hi hv hd hcd)) (pg_name hN hw hx hf) (pss_one (ps_if ht.pt pss_never pss_nil)) hs) fun σ H W ρ E r hl h => ?_
  obtain ⟨ds, eo, hne, hask, hfin⟩ := h
  obtain ⟨a, vs, oa, sa, ha, hds⟩ := r.ownL i ds eo
  have hlw : iw < σ.length := by rw [hl]; exact (List.getElem?_eq_some_iff.mp hw).1
  have n1 := hds.len
  refine ⟨.ref a, sa, a, rfl, ⟨vs, SqL.of ha⟩, fun j m σ' H' => m = ds.length - j ∧ j ≤ ds.length ∧ Same H H' ∧ ((j = 0 ∧ σ' = σ) ∨ ∃ v d, 0 < j ∧ d ∈ ds ∧ Den X.K W.bad H' d v ∧ σ' = σ.set iw (some v)), ⟨ds.length, rfl, Nat.zero_le _, Same.refl H, .inl ⟨rfl, rfl⟩⟩, ?_⟩
  rintro j m σ' H' ⟨em, hj, sm, st⟩
  have ha' : H' a = some (.lst vs) := sm _ _ ha
  by_cases hlt : j < ds.length
  · right
    obtain ⟨v, hv', _⟩ := hds.get (i := j) (d := ds[j]) (by simp [hlt])
    refine ⟨⟨vs, v, SqL.of ha', hv'⟩, fun σ'' H'' => Same H H'' ∧ ∃ v d, d ∈ ds ∧ Den X.K W.bad H'' d v ∧ σ'' = σ.set iw (some v), fun σ'' H'' ⟨q1, v', d', q2, q3, q4⟩ => ⟨ds.length - (j + 1), by omega, rfl, hlt, q1, .inr ⟨v', d', by omega, q2, q3, q4⟩⟩, fun y H3 yy => ?_⟩
    obtain ⟨e3, yy⟩ := yy
    subst e3
    obtain ⟨d, h1, h2⟩ := hds.getV (yy vs (SqL.of ha'))
    have hm : d ∈ ds := List.mem_of_getElem? h1
    have es : σ'.set iw (some y) = σ.set iw (some y) := by
      rcases st with ⟨_, e⟩ | ⟨v', d', _, _, _, e⟩
      · rw [e]
      · rw [e, List.set_set]
    show tIfS _ _ _ _ (σ'.set iw (some y)) H3
    rw [es]
    refine ⟨W.drop iw, ρ.set iw (some (.val d)), _, (r.same sm).put hlw (h2.same sm), hask d hm, fun k H4 e4 ek => ?_⟩
    subst ek
    exact ⟨sm.trans e4, y, d, hm, h2.same (sm.trans e4), rfl⟩
  · left
    refine ⟨⟨vs, SqL.of ha', by omega⟩, ?_⟩
    rcases st with ⟨e0, _⟩ | ⟨v', d', _, hm, hd', e⟩
    · exact absurd (List.eq_nil_of_length_eq_zero (by omega)) hne
    · subst e
      exact ⟨W.drop iw, _, (Fwd.same sm).trans (Fwd.drop W H' iw), (r.same sm).put hlw hd', hfin d' hm⟩
end
end PD

namespace LW
open PySem PySem.Spec PyProof.Rows L2 PD
seal PD.PSDs PD.PSD PD.PED PD.PTD PD.PWD PD.PAD PD.PID PD.PGD PD.PGDs PD.TsD PD.PEF PD.PKD PD.PPD PD.PDO PD.PFL PD.PPK PD.PEK
def top (i : Nat) : Stmt := PySem.Challenge.pw_halvecut_k23_whole_quarters.main.body.getD i (.Pass ⟨0, 0, 0, 0⟩)
abbrev s_sign : Stmt := top 4
abbrev s_common_divisor : Stmt := top 5
abbrev s_reduced : Stmt := top 6
abbrev s_picks : Stmt := top 7
abbrev s_value : Stmt := top 9
abbrev s_side : Stmt := top 10
abbrev s_is_level : Stmt := top 11
abbrev s_crossed : Stmt := top 12
abbrev s_line : Stmt := top 13
abbrev s_place_of : Stmt := top 15
abbrev s_spot_of : Stmt := top 17
abbrev s_of_colour : Stmt := top 18
abbrev s_total : Stmt := top 19
abbrev s_weighed : Stmt := top 20
abbrev s_on_two_spots : Stmt := top 22
abbrev s_spot_pairs : Stmt := top 23
abbrev s_pair_line : Stmt := top 24
abbrev s_is_even : Stmt := top 25
abbrev s_is_fair : Stmt := top 27
abbrev s_first_fair : Stmt := top 28
abbrev s_quarters : Stmt := top 29
abbrev s_first_quartering : Stmt := top 30
abbrev s_quartered : Stmt := top 31
abbrev s_law_whole : Stmt := top 33
abbrev s_law_cell_at : Stmt := top 34
abbrev s_law_stream : Stmt := top 35
abbrev s_law_spot : Stmt := top 36
abbrev s_law_dots : Stmt := top 37
abbrev s_law_pairs : Stmt := top 38
abbrev s_law_gauge : Stmt := top 39
abbrev s_law_sides : Stmt := top 40
abbrev s_law_weight : Stmt := top 41
abbrev s_law_four : Stmt := top 42
abbrev s_law_due : Stmt := top 43
abbrev s_law_is : Stmt := top 44
abbrev s_law_counted : Stmt := top 45
abbrev s_law_drawn : Stmt := top 46
abbrev s_law : Stmt := top 47
theorem sc_sign : FnScope ["number"] ["number"] (defScope s_sign) := ⟨rfl, rfl, rfl, by decide +kernel, rfl, by decide +kernel, by decide +kernel⟩
theorem sc_common_divisor : FnScope ["one", "other", "rest"] ["one", "other"] (defScope s_common_divisor) := ⟨rfl, rfl, rfl, by decide +kernel, rfl, by decide +kernel, by decide +kernel⟩
theorem sc_reduced : FnScope ["triple", "lead", "divisor"] ["triple", "lead"] (defScope s_reduced) := ⟨rfl, rfl, rfl, by decide +kernel, rfl, by decide +kernel, by decide +kernel⟩
theorem sc_picks : FnScope ["count", "size", "found", "length", "longer", "pick", "first"] ["count", "size"] (defScope s_picks) := ⟨rfl, rfl, rfl, by decide +kernel, rfl, by decide +kernel, by decide +kernel⟩
theorem sc_value : FnScope ["gauge", "place"] ["gauge", "place"] (defScope s_value) := ⟨rfl, rfl, rfl, by decide +kernel, rfl, by decide +kernel, by decide +kernel⟩
theorem sc_side : FnScope ["gauge", "place"] ["gauge", "place"] (defScope s_side) := ⟨rfl, rfl, rfl, by decide +kernel, rfl, by decide +kernel, by decide +kernel⟩
theorem sc_is_level : FnScope ["gauge"] ["gauge"] (defScope s_is_level) := ⟨rfl, rfl, rfl, by decide +kernel, rfl, by decide +kernel, by decide +kernel⟩
theorem sc_crossed : FnScope ["one", "other"] ["one", "other"] (defScope s_crossed) := ⟨rfl, rfl, rfl, by decide +kernel, rfl, by decide +kernel, by decide +kernel⟩
theorem sc_line : FnScope ["one", "other", "gauge"] ["one", "other"] (defScope s_line) := ⟨rfl, rfl, rfl, by decide +kernel, rfl, by decide +kernel, by decide +kernel⟩
theorem sc_place_of : FnScope ["spot"] ["spot"] (defScope s_place_of) := ⟨rfl, rfl, rfl, by decide +kernel, rfl, by decide +kernel, by decide +kernel⟩
theorem sc_spot_of : FnScope ["dot"] ["dot"] (defScope s_spot_of) := ⟨rfl, rfl, rfl, by decide +kernel, rfl, by decide +kernel, by decide +kernel⟩
theorem sc_of_colour : FnScope ["dots", "colour"] ["dots", "colour"] (defScope s_of_colour) := ⟨rfl, rfl, rfl, by decide +kernel, rfl, by decide +kernel, by decide +kernel⟩
theorem sc_total : FnScope ["dots", "colour"] ["dots", "colour"] (defScope s_total) := ⟨rfl, rfl, rfl, by decide +kernel, rfl, by decide +kernel, by decide +kernel⟩
theorem sc_weighed : FnScope ["dots", "gauge", "colour", "weights", "dot"] ["dots", "gauge", "colour"] (defScope s_weighed) := ⟨rfl, rfl, rfl, by decide +kernel, rfl, by decide +kernel, by decide +kernel⟩
theorem sc_on_two_spots : FnScope ["dots", "pair"] ["dots", "pair"] (defScope s_on_two_spots) := ⟨rfl, rfl, rfl, by decide +kernel, rfl, by decide +kernel, by decide +kernel⟩
theorem sc_spot_pairs : FnScope ["dots", "pairs"] ["dots"] (defScope s_spot_pairs) := ⟨rfl, rfl, rfl, by decide +kernel, rfl, by decide +kernel, by decide +kernel⟩
theorem sc_pair_line : FnScope ["dots", "pair"] ["dots", "pair"] (defScope s_pair_line) := ⟨rfl, rfl, rfl, by decide +kernel, rfl, by decide +kernel, by decide +kernel⟩
theorem sc_is_even : FnScope ["under", "over", "whole"] ["under", "over", "whole"] (defScope s_is_even) := ⟨rfl, rfl, rfl, by decide +kernel, rfl, by decide +kernel, by decide +kernel⟩
theorem sc_is_fair : FnScope ["dots", "gauge", "colour", "split"] ["dots", "gauge", "colour"] (defScope s_is_fair) := ⟨rfl, rfl, rfl, by decide +kernel, rfl, by decide +kernel, by decide +kernel⟩
theorem sc_first_fair : FnScope ["dots", "pairs", "colours", "pair", "gauge"] ["dots", "pairs", "colours"] (defScope s_first_fair) := ⟨rfl, rfl, rfl, by decide +kernel, rfl, by decide +kernel, by decide +kernel⟩
theorem sc_quarters : FnScope ["dots", "gauge", "other", "weights", "dot", "spot", "sides"] ["dots", "gauge", "other"] (defScope s_quarters) := ⟨rfl, rfl, rfl, by decide +kernel, rfl, by decide +kernel, by decide +kernel⟩
theorem sc_first_quartering : FnScope ["dots", "pairs", "gauge", "whole", "pair"] ["dots", "pairs", "gauge"] (defScope s_first_quartering) := ⟨rfl, rfl, rfl, by decide +kernel, rfl, by decide +kernel, by decide +kernel⟩
theorem sc_quartered : FnScope ["dots", "pairs", "first"] ["dots"] (defScope s_quartered) := ⟨rfl, rfl, rfl, by decide +kernel, rfl, by decide +kernel, by decide +kernel⟩
theorem sc_law_whole : FnScope ["_law_found"] ["_law_found"] (defScope s_law_whole) := ⟨rfl, rfl, rfl, by decide +kernel, rfl, by decide +kernel, by decide +kernel⟩
theorem sc_law_cell_at : FnScope ["_law_script", "_law_k"] ["_law_script", "_law_k"] (defScope s_law_cell_at) := ⟨rfl, rfl, rfl, by decide +kernel, rfl, by decide +kernel, by decide +kernel⟩
theorem sc_law_stream : FnScope ["_law_cell", "_law_many", "_law_found", "_law_rest", "_law_k", "_law_number", "_law_other"] ["_law_cell", "_law_many"] (defScope s_law_stream) := ⟨rfl, rfl, rfl, by decide +kernel, rfl, by decide +kernel, by decide +kernel⟩
theorem sc_law_spot : FnScope ["_law_kind", "_law_xs", "_law_way", "_law_far", "_law_step"] ["_law_kind", "_law_xs", "_law_way"] (defScope s_law_spot) := ⟨rfl, rfl, rfl, by decide +kernel, rfl, by decide +kernel, by decide +kernel⟩
theorem sc_law_dots : FnScope ["_law_first", "_law_cells", "_law_most", "_law_way", "_law_dots_here", "_law_cell", "_law_xs", "_law_weight_here", "_law_x", "_law_y"] ["_law_first", "_law_cells", "_law_most"] (defScope s_law_dots) := ⟨rfl, rfl, rfl, by decide +kernel, rfl, by decide +kernel, by decide +kernel⟩
theorem sc_law_pairs : FnScope ["_law_dots_here", "_law_found", "_law_i", "_law_j"] ["_law_dots_here"] (defScope s_law_pairs) := ⟨rfl, rfl, rfl, by decide +kernel, rfl, by decide +kernel, by decide +kernel⟩
theorem sc_law_gauge : FnScope ["_law_dots_here", "_law_pair", "_law_by", "_law_one", "_law_two", "_law_a", "_law_b"] ["_law_dots_here", "_law_pair", "_law_by"] (defScope s_law_gauge) := ⟨rfl, rfl, rfl, by decide +kernel, rfl, by decide +kernel, by decide +kernel⟩
theorem sc_law_sides : FnScope ["_law_dots_here", "_law_gauge_here", "_law_found", "_law_dot", "_law_here"] ["_law_dots_here", "_law_gauge_here"] (defScope s_law_sides) := ⟨rfl, rfl, rfl, by decide +kernel, rfl, by decide +kernel, by decide +kernel⟩
theorem sc_law_weight : FnScope ["_law_dots_here", "_law_sides_here", "_law_others", "_law_one", "_law_other", "_law_found", "_law_dot", "_law_here", "_law_there"] ["_law_dots_here", "_law_sides_here", "_law_others", "_law_one", "_law_other"] (defScope s_law_weight) := ⟨rfl, rfl, rfl, by decide +kernel, rfl, by decide +kernel, by decide +kernel⟩
theorem sc_law_four : FnScope ["_law_dots_here", "_law_sides_here", "_law_others", "_law_found", "_law_one", "_law_other"] ["_law_dots_here", "_law_sides_here", "_law_others"] (defScope s_law_four) := ⟨rfl, rfl, rfl, by decide +kernel, rfl, by decide +kernel, by decide +kernel⟩
theorem sc_law_due : FnScope ["_law_dots_here", "_law_whole_here", "_law_pairs_here", "_law_sides_here", "_law_k", "_law_both", "_law_j"] ["_law_dots_here"] (defScope s_law_due) := ⟨rfl, rfl, rfl, by decide +kernel, rfl, by decide +kernel, by decide +kernel⟩
theorem sc_law_is : FnScope ["_law_found", "_law_due_here", "_law_pair"] ["_law_found", "_law_due_here"] (defScope s_law_is) := ⟨rfl, rfl, rfl, by decide +kernel, rfl, by decide +kernel, by decide +kernel⟩
theorem sc_law_counted : FnScope ["_law_dots_here", "_law_one", "_law_other", "_law_due_here", "_law_found", "_law_weight_here", "_law_swapped"] ["_law_dots_here", "_law_one", "_law_other"] (defScope s_law_counted) := ⟨rfl, rfl, rfl, by decide +kernel, rfl, by decide +kernel, by decide +kernel⟩
theorem sc_law_drawn : FnScope ["_law_cell", "_law_xs"] ["_law_cell"] (defScope s_law_drawn) := ⟨rfl, rfl, rfl, by decide +kernel, rfl, by decide +kernel, by decide +kernel⟩
theorem sc_law : FnScope ["_law_script", "_law_first", "_law_dots_here", "_law_due_here", "_law_handed", "_law_found", "_law_one"] ["_law_script"] (defScope s_law) := ⟨rfl, rfl, rfl, by decide +kernel, rfl, by decide +kernel, by decide +kernel⟩
structure Cls where
  PlaneError : Addr
  NoLine : Addr
structure COk (K : PySem.W.Frag) (mg : Str → Option Value) (κ : Cls) : Prop where
  mg_PlaneError : mg "PlaneError" = some (.ref κ.PlaneError)
  mg_NoLine : mg "NoLine" = some (.ref κ.NoLine)

abbrev Dt := Int × Int × Int × Int
def dtD (p : Dt) : D := .tup [.int p.1, .int p.2.1, .int p.2.2.1, .int p.2.2.2]
theorem dtD_inj {p q : Dt} (h : dtD p = dtD q) : p = q := by
  unfold dtD at h
  simp only [D.tup.injEq, List.cons.injEq, D.int.injEq, and_true] at h
  obtain ⟨h1, h2, h3, h4⟩ := h
  exact Prod.ext h1 (Prod.ext h2 (Prod.ext h3 h4))
theorem map_inj {α : Type} {f : α → D} (hf : ∀ {p q}, f p = f q → p = q) : ∀ {ps qs : List α}, ps.map f = qs.map f → ps = qs
  | [], [], _ => rfl
  | [], _ :: _, h => by simp at h
  | _ :: _, [], h => by simp at h
  | p :: ps, q :: qs, h => by
    simp only [List.map_cons, List.cons.injEq] at h
    rw [hf h.1, map_inj hf h.2]
theorem dts_inj {ps qs : List Dt} (h : ps.map dtD = qs.map dtD) : ps = qs := map_inj dtD_inj h
theorem untag_dot (p : Dt) : untag (dtD p) = dtD p := by unfold dtD; simp only [untag_tup, untags_cons, untags_nil, untag_int]
theorem untags_dots (ps : List Dt) : untags (ps.map dtD) = ps.map dtD := untags_map dtD untag_dot ps
theorem okN_dot (p : Dt) : OkN 1 (dtD p) := OkN.tup (.cons (.int _ _) (.cons (.int _ _) (.cons (.int _ _) (.cons (.int _ _) (.nil _)))))
structure GD (p : Dt) : Prop where
  x : Bd 60 p.1
  y : Bd 60 p.2.1
  c0 : 0 ≤ p.2.2.1
  c2 : p.2.2.1 ≤ 2
def ColOk (col : D) (cs : Int → Bool) : Prop := (col = .non ∧ cs = fun _ => true) ∨ ∃ k : Int, col = .int k ∧ cs = fun c => decide (c = k)
theorem ColOk.unt {col : D} {cs : Int → Bool} (h : ColOk col cs) : untag col = col := by
  rcases h with ⟨rfl, _⟩ | ⟨k, rfl, _⟩
  · exact untag_non
  · exact untag_int _
def gv (g0 g1 g2 : Int) (p : Dt) : Int := g0 + g1 * p.1 + g2 * p.2.1
def w3 (g0 g1 g2 s : Int) (ps : List Dt) : Int := (ps.map fun p => if sg (gv g0 g1 g2 p) = s then p.2.2.2 else 0).sum
def wt (cs : Int → Bool) (g0 g1 g2 s : Int) (ps : List Dt) : Int := w3 g0 g1 g2 s (ps.filter fun p => cs p.2.2.1)
def tot (cs : Int → Bool) (ps : List Dt) : Int := ((ps.filter fun p => cs p.2.2.1).map fun p => p.2.2.2).sum
theorem w3_snoc (g0 g1 g2 s : Int) (ps : List Dt) (p : Dt) : w3 g0 g1 g2 s (ps ++ [p]) = w3 g0 g1 g2 s ps + if sg (gv g0 g1 g2 p) = s then p.2.2.2 else 0 := by
  unfold w3
  rw [List.map_append, List.sum_append]
  simp
theorem sg3 (n : Int) : sg n = -1 ∨ sg n = 0 ∨ sg n = 1 := by
  unfold sg
  split
  · exact .inr (.inr rfl)
  · split
    · exact .inl rfl
    · exact .inr (.inl rfl)
def cutL {α : Type} (xs : List α) (lo hi : Option Int) : List α := (xs.drop (HT.sIx xs.length 0 lo)).take (HT.sIx xs.length xs.length hi - HT.sIx xs.length 0 lo)
theorem cut_map {α : Type} (f : α → D) (xs : List α) (lo hi : Option Int) : PD.cutD (xs.map f) lo hi = (cutL xs lo hi).map f := by
  unfold PD.cutD cutL
  rw [List.length_map, List.map_take, List.map_drop]
theorem getInt {xs : List Int} {j : Nat} {d : D} (h : (xs.map D.int)[j]? = some d) : ∃ n : Int, d = .int n ∧ n ∈ xs ∧ j < xs.length := by
  rw [List.getElem?_map] at h
  cases e : xs[j]? with
  | none => rw [e] at h; cases h
  | some n =>
    rw [e] at h
    cases h
    exact ⟨n, rfl, List.mem_of_getElem? e, (List.getElem?_eq_some_iff.mp e).1⟩
theorem four {xs : List Int} (h : xs.length = 4) : ∃ x y z u : Int, xs = [x, y, z, u] := by
  match xs, h with
  | [x, y, z, u], _ => exact ⟨x, y, z, u, rfl⟩
theorem cutL_len {α : Type} (xs : List α) (lo hi : Option Int) : (cutL xs lo hi).length ≤ xs.length := by
  unfold cutL
  rw [List.length_take, List.length_drop]
  omega
theorem put3a (a b c x : D) : putD (κ := Key) [(.inl (-1), a), (.inl 0, b), (.inl 1, c)] (.inl (-1)) x = [(.inl (-1), x), (.inl 0, b), (.inl 1, c)] := rfl
theorem put3b (a b c x : D) : putD (κ := Key) [(.inl (-1), a), (.inl 0, b), (.inl 1, c)] (.inl 0) x = [(.inl (-1), a), (.inl 0, x), (.inl 1, c)] := rfl
theorem put3c (a b c x : D) : putD (κ := Key) [(.inl (-1), a), (.inl 0, b), (.inl 1, c)] (.inl 1) x = [(.inl (-1), a), (.inl 0, b), (.inl 1, x)] := rfl
theorem fm {a b : Int} (hb : 0 < b) : 0 ≤ a.fmod b ∧ a.fmod b < b := ⟨Int.fmod_nonneg_of_pos a hb, Int.fmod_lt_of_pos a hb⟩
theorem bdl {n : Nat} {x : Int} (m : Nat) (h : x.natAbs < m) (hm : m ≤ 2 ^ n) : Bd n x := Nat.lt_of_lt_of_le h hm
theorem p12 : ((10 : Int) ^ (12 : Int).toNat) = 1000000000000 := by decide
theorem p9 : ((10 : Int) ^ (9 : Int).toNat) = 1000000000 := by decide
theorem cp12 : CPow 10 12 := ⟨by decide, by decide, by decide⟩
theorem cp9 : CPow 10 9 := ⟨by decide, by decide, by decide⟩
theorem bd_fdiv {n : Nat} {t g : Int} (hg : g ≠ 0) (hd : g ∣ t) (h : Bd n t) : Bd n (t.fdiv g) := Nat.lt_of_le_of_lt (PM.fdiv_abs_le hg hd) h
theorem bd_dv3 {n : Nat} {x y z l : Int} (h : ¬ (x = 0 ∧ y = 0 ∧ z = 0)) (hx : Bd n x) (hy : Bd n y) (hz : Bd n z) : Bd n (PM.dv3 x y z l) := by
  unfold Bd at *
  rw [PM.dv3_abs]
  have d1 := Int.natAbs_dvd_natAbs.mpr (PM.g3_1 x y z)
  have d2 := Int.natAbs_dvd_natAbs.mpr (PM.g3_2 x y z)
  have d3 := Int.natAbs_dvd_natAbs.mpr (PM.g3_3 x y z)
  simp only [Int.natAbs_natCast] at d1 d2 d3
  by_cases h1 : x = 0
  · by_cases h2 : y = 0
    · have h3 : z ≠ 0 := fun e => h ⟨h1, h2, e⟩
      have := Nat.le_of_dvd (by omega) d3
      omega
    · have := Nat.le_of_dvd (by omega) d2
      omega
  · have := Nat.le_of_dvd (by omega) d1
    omega
theorem bd_cross {a b c d : Int} (ha : Bd 200 a) (hb : Bd 200 b) (hc : Bd 200 c) (hd : Bd 200 d) : Bd 1000 (a * b - c * d) := ((ha.mul hb).sub (hc.mul hd)).mono (by decide)
theorem rngN1 (lo hi : Int) : rngN lo hi 1 = (hi - lo).toNat := by
  unfold rngN Builtin.Range.rangeSize
  rw [if_pos (by decide)]
  by_cases h : lo < hi
  · rw [if_pos h, Int.ediv_one]
    omega
  · rw [if_neg h]
    omega
/-! ## two colours are halved by one line -/
theorem sel {α : Type} (lt : α → α → Prop) (P : α → Prop) (tr : ∀ a b c, P a → P b → P c → lt a b → lt b c → lt a c) (ir : ∀ a, P a → ¬ lt a a) :
    ∀ l : List α, (∃ x ∈ l, P x) → ∃ e ∈ l, P e ∧ ∀ f ∈ l, P f → ¬ lt f e
  | [], h => by obtain ⟨x, hx, _⟩ := h; cases hx
  | a :: r, h => by
    by_cases hr : ∃ x ∈ r, P x
    · obtain ⟨e, he, pe, me⟩ := sel lt P tr ir r hr
      by_cases ha : P a ∧ lt a e
      · refine ⟨a, List.mem_cons_self, ha.1, fun f hf pf z => ?_⟩
        rcases List.mem_cons.mp hf with q | q
        · subst q; exact ir _ pf z
        · exact me f q pf (tr _ _ _ pf ha.1 pe z ha.2)
      · refine ⟨e, List.mem_cons_of_mem _ he, pe, fun f hf pf z => ?_⟩
        rcases List.mem_cons.mp hf with q | q
        · subst q; exact ha ⟨pf, z⟩
        · exact me f q pf z
    · obtain ⟨x, hx, px⟩ := h
      rcases List.mem_cons.mp hx with q | q
      · subst q
        refine ⟨x, List.mem_cons_self, px, fun f hf pf z => ?_⟩
        rcases List.mem_cons.mp hf with q | q
        · subst q; exact ir _ pf z
        · exact hr ⟨f, q, pf⟩
      · exact absurd ⟨x, q, px⟩ hr
/-- the weight of those that pass -/
def wq (f : Dt → Bool) : List Dt → Int
  | [] => 0
  | p :: r => (if f p = true then p.2.2.2 else 0) + wq f r
def Pos (qs : List Dt) : Prop := ∀ p ∈ qs, 0 < p.2.2.2
theorem Pos.tail {p : Dt} {qs : List Dt} (h : Pos (p :: qs)) : Pos qs := fun q hq => h q (List.mem_cons_of_mem _ hq)
theorem wq_mono {f g : Dt → Bool} : ∀ {qs : List Dt}, Pos qs → (∀ p ∈ qs, f p = true → g p = true) → wq f qs ≤ wq g qs
  | [], _, _ => Int.le_refl _
  | p :: r, hp, h => by
    have ih := wq_mono hp.tail fun q hq => h q (List.mem_cons_of_mem _ hq)
    have h1 := h p List.mem_cons_self
    have h2 := hp p List.mem_cons_self
    unfold wq
    by_cases hf : f p = true
    · rw [if_pos hf, if_pos (h1 hf)]; omega
    · rw [if_neg hf]; split <;> omega
theorem wq_congr {f g : Dt → Bool} : ∀ {qs : List Dt}, (∀ p ∈ qs, f p = g p) → wq f qs = wq g qs
  | [], _ => rfl
  | p :: r, h => by
    unfold wq
    rw [h p List.mem_cons_self, wq_congr fun q hq => h q (List.mem_cons_of_mem _ hq)]
theorem wq_none {f : Dt → Bool} {qs : List Dt} (h : ∀ p ∈ qs, f p = false) : wq f qs = 0 := by
  induction qs with
  | nil => rfl
  | cons p r ih =>
    unfold wq
    rw [h p List.mem_cons_self, ih fun q hq => h q (List.mem_cons_of_mem _ hq)]
    simp
theorem wq_nonneg {f : Dt → Bool} {qs : List Dt} (hp : Pos qs) : 0 ≤ wq f qs := by
  have := wq_mono (f := fun _ => false) (g := f) hp (fun _ _ z => by cases z)
  rw [wq_none (f := fun _ => false) fun _ _ => rfl] at this
  exact this
theorem wq_two {f g k : Dt → Bool} : ∀ {qs : List Dt}, Pos qs → (∀ p ∈ qs, f p = true → g p = true → False) → (∀ p ∈ qs, f p = true → k p = true) → (∀ p ∈ qs, g p = true → k p = true) → wq f qs + wq g qs ≤ wq k qs
  | [], _, _, _, _ => by simp [wq]
  | p :: r, hp, h1, h2, h3 => by
    have ih := wq_two (f := f) (g := g) (k := k) hp.tail (fun q hq => h1 q (List.mem_cons_of_mem _ hq)) (fun q hq => h2 q (List.mem_cons_of_mem _ hq)) (fun q hq => h3 q (List.mem_cons_of_mem _ hq))
    have e1 := h1 p List.mem_cons_self
    have e2 := h2 p List.mem_cons_self
    have e3 := h3 p List.mem_cons_self
    have e4 := hp p List.mem_cons_self
    unfold wq
    by_cases a : f p = true
    · rw [if_pos a, if_pos (e2 a), if_neg fun b => e1 a b]; omega
    · rw [if_neg a]
      by_cases b : g p = true
      · rw [if_pos b, if_pos (e3 b)]; omega
      · rw [if_neg b]; split <;> omega
/-- a strict order of the spots -/
structure Or (lt : Dt → Dt → Bool) : Prop where
  ir : ∀ p, lt p p = false
  tr : ∀ p q r, lt p q = true → lt q r = true → lt p r = true
  /-- behind or level with -/
  nt : ∀ p q r, lt p q = true → lt r q = false → lt p r = true
def blw (lt : Dt → Dt → Bool) (A : Dt → Bool) (qs : List Dt) (p : Dt) : Int := wq (fun z => A z && lt z p) qs
def abv (lt : Dt → Dt → Bool) (A : Dt → Bool) (qs : List Dt) (p : Dt) : Int := wq (fun z => A z && lt p z) qs
def Med (lt : Dt → Dt → Bool) (A : Dt → Bool) (qs : List Dt) (p : Dt) : Prop := 2 * blw lt A qs p ≤ wq A qs ∧ 2 * abv lt A qs p ≤ wq A qs
section
variable {lt : Dt → Dt → Bool} {A B : Dt → Bool} {qs : List Dt}
theorem blw_le (O : Or lt) (hp : Pos qs) {p q : Dt} (h : lt q p = false) : blw lt A qs p ≤ blw lt A qs q := by
  refine wq_mono hp fun z _ hz => ?_
  simp only [Bool.and_eq_true] at hz ⊢
  exact ⟨hz.1, O.nt _ _ _ hz.2 h⟩
theorem abv_le (O : Or lt) (hp : Pos qs) {p q : Dt} (h : lt q p = false) : abv lt A qs q ≤ abv lt A qs p := by
  refine wq_mono hp fun z _ hz => ?_
  simp only [Bool.and_eq_true] at hz ⊢
  refine ⟨hz.1, ?_⟩
  cases e : lt p z with
  | true => rfl
  | false =>
    have := O.nt _ _ _ hz.2 e
    rw [h] at this
    cases this
theorem med_mid (O : Or lt) (hp : Pos qs) {p q r : Dt} (h1 : Med lt A qs p) (h2 : Med lt A qs q) (a : lt r p = false) (b : lt q r = false) : Med lt A qs r := by
  have e1 := blw_le (A := A) O hp b
  have e2 := abv_le (A := A) O hp a
  have := h1.2
  have := h2.1
  exact ⟨by omega, by omega⟩
theorem med_ex (O : Or lt) (hp : Pos qs) (h : ∃ p ∈ qs, A p = true) : ∃ p ∈ qs, A p = true ∧ Med lt A qs p := by
  have t0 : 0 ≤ wq A qs := wq_nonneg hp
  obtain ⟨m, hm, am, mm⟩ := sel (fun a b => lt a b = true) (fun p => A p = true) (fun a b c _ _ _ => O.tr a b c) (fun a _ z => by rw [O.ir] at z; cases z) qs h
  have cm : 2 * blw lt A qs m ≤ wq A qs := by
    have : blw lt A qs m = 0 := wq_none fun z hz => by
      cases e : A z with
      | false => rfl
      | true =>
        cases e' : lt z m with
        | false => rfl
        | true => exact absurd e' (mm z hz e)
    omega
  obtain ⟨p, hpq, ⟨ap, bp⟩, mp⟩ := sel (fun a b => lt b a = true) (fun p => A p = true ∧ 2 * blw lt A qs p ≤ wq A qs) (fun a b c _ _ _ x y => O.tr c b a y x) (fun a _ z => by rw [O.ir] at z; cases z) qs ⟨m, hm, am, cm⟩
  refine ⟨p, hpq, ap, bp, ?_⟩
  by_cases hc : 2 * abv lt A qs p ≤ wq A qs
  · exact hc
  · exfalso
    have ne : ∃ z ∈ qs, A z = true ∧ lt p z = true := by
      by_cases ne : ∃ z ∈ qs, A z = true ∧ lt p z = true
      · exact ne
      · have : abv lt A qs p = 0 := wq_none fun z hz => by
          cases e : A z with
          | false => rfl
          | true =>
            cases e' : lt p z with
            | false => rfl
            | true => exact absurd ⟨z, hz, e, e'⟩ ne
        omega
    obtain ⟨q, hq, ⟨aq, lq⟩, mq⟩ := sel (fun a b => lt a b = true) (fun z => A z = true ∧ lt p z = true) (fun a b c _ _ _ => O.tr a b c) (fun a _ z => by rw [O.ir] at z; cases z) qs ne
    have two : blw lt A qs q + abv lt A qs p ≤ wq A qs := by
      refine wq_two hp (fun z hz x y => ?_) (fun z _ x => (Bool.and_eq_true _ _ ▸ x).1) (fun z _ x => (Bool.and_eq_true _ _ ▸ x).1)
      simp only [Bool.and_eq_true] at x y
      exact mq z hz ⟨x.1, y.2⟩ x.2
    exact mp q hq ⟨aq, by omega⟩ lq
end
/-! ### the orders -/
abbrev Vc := Int × Int
def dt2 (d e : Vc) : Int := d.1 * e.2 - d.2 * e.1
def Lp (d : Vc) : Prop := 0 < d.1 ∨ (d.1 = 0 ∧ 0 < d.2)
def hh (d : Vc) (z : Dt) : Int := d.1 * z.2.1 - d.2 * z.1
def rk (p q : Dt) : Bool := decide (p.1 < q.1 ∨ (p.1 = q.1 ∧ p.2.1 < q.2.1))
def om (d : Vc) (p q : Dt) : Bool := decide (hh d p < hh d q) || (decide (hh d p = hh d q) && rk p q)
def op (d : Vc) (p q : Dt) : Bool := decide (hh d p < hh d q) || (decide (hh d p = hh d q) && rk q p)
theorem or_rk : Or rk := by
  refine ⟨fun p => ?_, fun p q r => ?_, fun p q r => ?_⟩ <;> simp only [rk, decide_eq_true_eq, decide_eq_false_iff_not] <;> omega
theorem om_iff {d : Vc} {p q : Dt} : om d p q = true ↔ (hh d p < hh d q ∨ (hh d p = hh d q ∧ (p.1 < q.1 ∨ (p.1 = q.1 ∧ p.2.1 < q.2.1)))) := by
  simp [om, rk]
theorem op_iff {d : Vc} {p q : Dt} : op d p q = true ↔ (hh d p < hh d q ∨ (hh d p = hh d q ∧ (q.1 < p.1 ∨ (q.1 = p.1 ∧ q.2.1 < p.2.1)))) := by
  simp [op, rk]
theorem or_om (d : Vc) : Or (om d) := by
  refine ⟨fun p => ?_, fun p q r => ?_, fun p q r => ?_⟩
  · rw [← Bool.not_eq_true, om_iff]; omega
  · rw [om_iff, om_iff, om_iff]; omega
  · rw [← Bool.not_eq_true, om_iff, om_iff, om_iff]; omega
theorem or_op (d : Vc) : Or (op d) := by
  refine ⟨fun p => ?_, fun p q r => ?_, fun p q r => ?_⟩
  · rw [← Bool.not_eq_true, op_iff]; omega
  · rw [op_iff, op_iff, op_iff]; omega
  · rw [← Bool.not_eq_true, op_iff, op_iff, op_iff]; omega
/-- the line through r with direction d halves A -/
def Lev (d : Vc) (A : Dt → Bool) (qs : List Dt) (r : Dt) : Prop := 2 * wq (fun z => A z && decide (hh d z < hh d r)) qs ≤ wq A qs ∧ 2 * wq (fun z => A z && decide (hh d r < hh d z)) qs ≤ wq A qs
section
variable {A B : Dt → Bool} {qs : List Dt} {d : Vc}
theorem wq_sub (hp : Pos qs) {P R : Dt → Bool} (h : ∀ z, P z = true → R z = true) : wq (fun z => A z && P z) qs ≤ wq (fun z => A z && R z) qs :=
  wq_mono hp fun z _ hz => by
    simp only [Bool.and_eq_true] at hz ⊢
    exact ⟨hz.1, h z hz.2⟩
theorem lev_om (hp : Pos qs) {r : Dt} (h : Med (om d) A qs r) : Lev d A qs r := by
  have e1 := wq_sub (A := A) hp (P := fun z => decide (hh d z < hh d r)) (R := fun z => om d z r) fun z hz => by simp only [decide_eq_true_eq] at hz; rw [om_iff]; exact .inl hz
  have e2 := wq_sub (A := A) hp (P := fun z => decide (hh d r < hh d z)) (R := fun z => om d r z) fun z hz => by simp only [decide_eq_true_eq] at hz; rw [om_iff]; exact .inl hz
  have := h.1
  have := h.2
  unfold blw abv at *
  exact ⟨by omega, by omega⟩
theorem lev_op (hp : Pos qs) {r : Dt} (h : Med (op d) A qs r) : Lev d A qs r := by
  have e1 := wq_sub (A := A) hp (P := fun z => decide (hh d z < hh d r)) (R := fun z => op d z r) fun z hz => by simp only [decide_eq_true_eq] at hz; rw [op_iff]; exact .inl hz
  have e2 := wq_sub (A := A) hp (P := fun z => decide (hh d r < hh d z)) (R := fun z => op d r z) fun z hz => by simp only [decide_eq_true_eq] at hz; rw [op_iff]; exact .inl hz
  have := h.1
  have := h.2
  unfold blw abv at *
  exact ⟨by omega, by omega⟩
theorem lev_rk (hp : Pos qs) {r : Dt} (h : Med rk A qs r) : Lev (0, 1) A qs r := by
  have e1 := wq_sub (A := A) hp (P := fun z => decide (hh (0, 1) z < hh (0, 1) r)) (R := fun z => rk r z) fun z hz => by simp only [hh, rk, decide_eq_true_eq, Int.zero_mul, Int.one_mul] at hz ⊢; omega
  have e2 := wq_sub (A := A) hp (P := fun z => decide (hh (0, 1) r < hh (0, 1) z)) (R := fun z => rk z r) fun z hz => by simp only [hh, rk, decide_eq_true_eq, Int.zero_mul, Int.one_mul] at hz ⊢; omega
  have := h.1
  have := h.2
  unfold blw abv at *
  exact ⟨by omega, by omega⟩
theorem lev_mid (hp : Pos qs) {p q r : Dt} (h1 : Lev d A qs p) (h2 : Lev d A qs q) (a : hh d p ≤ hh d r) (b : hh d r ≤ hh d q) : Lev d A qs r := by
  have e1 := wq_sub (A := A) hp (P := fun z => decide (hh d z < hh d r)) (R := fun z => decide (hh d z < hh d q)) fun z hz => by simp only [decide_eq_true_eq] at hz ⊢; omega
  have e2 := wq_sub (A := A) hp (P := fun z => decide (hh d r < hh d z)) (R := fun z => decide (hh d p < hh d z)) fun z hz => by simp only [decide_eq_true_eq] at hz ⊢; omega
  have := h1.2
  have := h2.1
  exact ⟨by omega, by omega⟩
end
def Sg (lt : Dt → Dt → Bool) (A B : Dt → Bool) (qs : List Dt) : Prop := ∃ p ∈ qs, Med lt A qs p ∧ wq B qs < 2 * abv lt B qs p
theorem Sg.congr {lt lt' : Dt → Dt → Bool} {A B : Dt → Bool} {qs : List Dt} (h : ∀ p ∈ qs, ∀ q ∈ qs, lt p q = lt' p q) (s : Sg lt A B qs) : Sg lt' A B qs := by
  obtain ⟨p, hp, ⟨m1, m2⟩, m3⟩ := s
  have e : ∀ C : Dt → Bool, blw lt C qs p = blw lt' C qs p ∧ abv lt C qs p = abv lt' C qs p := fun C => ⟨wq_congr fun z hz => by rw [h z hz p hp], wq_congr fun z hz => by rw [h p hp z hz]⟩
  exact ⟨p, hp, ⟨by rw [← (e A).1]; exact m1, by rw [← (e A).2]; exact m2⟩, by rw [← (e B).2]; exact m3⟩
section
variable {A B : Dt → Bool} {qs : List Dt}
theorem Sg.rev (hp : Pos qs) (hb : ∃ p ∈ qs, B p = true) (N : ∀ r ∈ qs, ¬ (Med rk A qs r ∧ Med rk B qs r)) (s : Sg rk A B qs) : ¬ Sg (fun p q => rk q p) A B qs := by
  rintro ⟨p', hp', m', t'⟩
  obtain ⟨p, hpq, m, t⟩ := s
  obtain ⟨b, hbq, _, mb⟩ := med_ex or_rk hp hb
  refine N b hbq ⟨?_, mb⟩
  have m2 : Med rk A qs p' := ⟨m'.2, m'.1⟩
  have t2 : wq B qs < 2 * blw rk B qs p' := t'
  refine med_mid or_rk hp m m2 ?_ ?_
  · cases e : rk b p with
    | false => rfl
    | true =>
      have := abv_le (A := B) or_rk hp (p := b) (q := p) (by
        cases e' : rk p b with
        | false => rfl
        | true => have := or_rk.tr _ _ _ e e'; rw [or_rk.ir] at this; cases this)
      have := mb.2
      omega
  · cases e : rk p' b with
    | false => rfl
    | true =>
      have := blw_le (A := B) or_rk hp (p := p') (q := b) (by
        cases e' : rk b p' with
        | false => rfl
        | true => have := or_rk.tr _ _ _ e e'; rw [or_rk.ir] at this; cases this)
      have := mb.1
      omega
theorem Sg.over (hp : Pos qs) (ha : ∃ p ∈ qs, A p = true) (hb : ∃ p ∈ qs, B p = true) {d : Vc} (N : ∀ r ∈ qs, ¬ (Lev d A qs r ∧ Lev d B qs r)) (s : Sg (om d) A B qs) : Sg (op d) A B qs := by
  obtain ⟨p, hpq, m, t⟩ := s
  obtain ⟨b, hbq, _, mb⟩ := med_ex (or_om d) hp hb
  obtain ⟨p', hp', _, m'⟩ := med_ex (or_op d) hp ha
  obtain ⟨b', hb', _, mb'⟩ := med_ex (or_op d) hp hb
  by_cases t' : wq B qs < 2 * abv (op d) B qs p'
  · exact ⟨p', hp', m', t'⟩
  · exfalso
    have l1 := lev_om hp m
    have l2 := lev_op hp m'
    have l3 := lev_om hp mb
    have l4 := lev_op hp mb'
    have k1 : hh d p ≤ hh d b := by
      cases e : om d b p with
      | false =>
        have z := Bool.eq_false_iff.mp e
        rw [Ne, om_iff] at z
        omega
      | true =>
        have z1 := abv_le (A := B) (or_om d) hp (p := b) (q := p) (by
          cases e' : om d p b with
          | false => rfl
          | true => have := (or_om d).tr _ _ _ e e'; rw [(or_om d).ir] at this; cases this)
        have := mb.2
        omega
    have k2 : hh d b' ≤ hh d p' := by
      have nb : wq B qs < 2 * blw (op d) B qs p' := by
        have : ¬ Med (op d) B qs p' := fun z => N p' hp' ⟨l2, lev_op hp z⟩
        unfold Med at this
        omega
      cases e : op d p' b' with
      | false =>
        have z := Bool.eq_false_iff.mp e
        rw [Ne, op_iff] at z
        omega
      | true =>
        have z1 := blw_le (A := B) (or_op d) hp (p := p') (q := b') (by
          cases e' : op d b' p' with
          | false => rfl
          | true => have := (or_op d).tr _ _ _ e e'; rw [(or_op d).ir] at this; cases this)
        have := mb'.1
        omega
    by_cases k : hh d b ≤ hh d p'
    · exact N b hbq ⟨lev_mid hp l1 l2 k1 k, l3⟩
    · exact N p' hp' ⟨l2, lev_mid hp l4 l3 k2 (by omega)⟩
end
/-! ### slopes -/
theorem dt2_id (e d f : Vc) : dt2 e f * d.1 = dt2 d f * e.1 + dt2 e d * f.1 ∧ dt2 e f * d.2 = dt2 d f * e.2 + dt2 e d * f.2 := by
  obtain ⟨e1, e2⟩ := e
  obtain ⟨d1, d2⟩ := d
  obtain ⟨f1, f2⟩ := f
  simp only [dt2, Int.sub_mul]
  constructor
  · rw [show e1 * f2 * d1 = d1 * f2 * e1 by rw [Int.mul_right_comm, Int.mul_comm e1 d1, Int.mul_right_comm], show d2 * f1 * e1 = e1 * d2 * f1 by rw [Int.mul_right_comm, Int.mul_comm d2 e1], show e2 * d1 * f1 = e2 * f1 * d1 by rw [Int.mul_right_comm]]
    omega
  · rw [show e1 * f2 * d2 = e1 * d2 * f2 by rw [Int.mul_right_comm], show d1 * f2 * e2 = e2 * d1 * f2 by rw [Int.mul_right_comm, Int.mul_comm d1 e2], show d2 * f1 * e2 = e2 * f1 * d2 by rw [Int.mul_right_comm, Int.mul_comm d2 e2, Int.mul_right_comm]]
    omega
theorem dt2_neg (d e : Vc) : dt2 d e = - dt2 e d := by
  simp only [dt2]
  rw [Int.mul_comm d.1, Int.mul_comm d.2]
  omega
/-- e < d ≤ f: e < f -/
theorem sl_tr {e d f : Vc} (he : Lp e) (hd : Lp d) (hf : Lp f) (h1 : 0 < dt2 e d) (h2 : 0 ≤ dt2 d f) : 0 < dt2 e f := by
  obtain ⟨i1, i2⟩ := dt2_id e d f
  generalize dt2 e f = x at *
  generalize dt2 d f = y at *
  generalize dt2 e d = z at *
  obtain ⟨e1, e2⟩ := e
  obtain ⟨d1, d2⟩ := d
  obtain ⟨f1, f2⟩ := f
  simp only [Lp] at he hd hf i1 i2
  have ye1 : 0 ≤ y * e1 := Int.mul_nonneg h2 (by omega)
  have zf1 : 0 ≤ z * f1 := Int.mul_nonneg (by omega) (by omega)
  by_cases hx : 0 < x
  · exact hx
  · exfalso
    have xd : x * d1 ≤ 0 := by
      have := Int.mul_nonneg (show 0 ≤ -x by omega) (show 0 ≤ d1 by omega)
      rw [Int.neg_mul] at this
      omega
    have f0 : f1 = 0 := by
      by_cases q : f1 = 0
      · exact q
      · have := Int.mul_pos h1 (show 0 < f1 by omega)
        omega
    have d0 : x = 0 ∨ d1 = 0 := Int.mul_eq_zero.mp (by omega)
    have f2p : 0 < z * f2 := Int.mul_pos h1 (by omega)
    have ye0 : y = 0 ∨ e1 = 0 := Int.mul_eq_zero.mp (by omega)
    have ye2 : 0 ≤ y * e2 := by
      rcases ye0 with q | q
      · rw [q]; simp
      · exact Int.mul_nonneg h2 (by omega)
    rcases d0 with q | q
    · rw [q] at i2
      omega
    · have := Int.mul_nonneg (show 0 ≤ -x by omega) (show 0 ≤ d2 by omega)
      rw [Int.neg_mul] at this
      omega
def vec (p q : Dt) : Vc := (q.1 - p.1, q.2.1 - p.2.1)
theorem vec_lp {p q : Dt} (h : rk p q = true) : Lp (vec p q) := by
  simp only [rk, decide_eq_true_eq] at h
  simp only [Lp, vec]
  omega
theorem hh_vec (d : Vc) (p q : Dt) : hh d q - hh d p = dt2 d (vec p q) := by
  simp only [hh, dt2, vec, Int.mul_sub]
  omega
/-- in the order just below d: by the slopes -/
theorem om_vec {d : Vc} {p q : Dt} (h : rk p q = true) : om d p q = decide (0 ≤ dt2 d (vec p q)) ∧ om d q p = decide (dt2 d (vec p q) < 0) ∧ op d p q = decide (0 < dt2 d (vec p q)) ∧ op d q p = decide (dt2 d (vec p q) ≤ 0) := by
  have e := hh_vec d p q
  generalize dt2 d (vec p q) = x at e ⊢
  simp only [rk, decide_eq_true_eq] at h
  refine ⟨?_, ?_, ?_, ?_⟩ <;> rw [Bool.eq_iff_iff, decide_eq_true_eq] <;> simp only [om_iff, op_iff] <;> omega
theorem om_same {d : Vc} {p q : Dt} (h : rk p q = false) (h' : rk q p = false) : om d p q = false ∧ op d p q = false := by
  simp only [rk, decide_eq_false_iff_not] at h h'
  have e1 : p.1 = q.1 := by omega
  have e2 : p.2.1 = q.2.1 := by omega
  have e : hh d p = hh d q := by simp only [hh, e1, e2]
  constructor <;> rw [← Bool.not_eq_true] <;> simp only [om_iff, op_iff] <;> omega
/-- two orders agree where they agree on each pair in rank order -/
theorem agree {lt lt' : Dt → Dt → Bool} {qs : List Dt} (h0 : ∀ p q, rk p q = false → rk q p = false → lt p q = lt' p q) (h : ∀ p ∈ qs, ∀ q ∈ qs, rk p q = true → lt p q = lt' p q ∧ lt q p = lt' q p) : ∀ p ∈ qs, ∀ q ∈ qs, lt p q = lt' p q := by
  intro p hp q hq
  cases e : rk p q with
  | true => exact (h p hp q hq e).1
  | false =>
    cases e' : rk q p with
    | true => exact (h q hq p hp e').2
    | false => exact h0 p q e e'
def slopes (qs : List Dt) : List Vc := qs.flatMap fun p => (qs.filter fun q => rk p q).map fun q => vec p q
theorem mem_slopes {qs : List Dt} {d : Vc} : d ∈ slopes qs ↔ ∃ p ∈ qs, ∃ q ∈ qs, rk p q = true ∧ d = vec p q := by
  unfold slopes
  simp only [List.mem_flatMap, List.mem_map, List.mem_filter]
  constructor
  · rintro ⟨p, hp, q, ⟨hq, r⟩, rfl⟩; exact ⟨p, hp, q, hq, r, rfl⟩
  · rintro ⟨p, hp, q, hq, r, rfl⟩; exact ⟨p, hp, q, ⟨hq, r⟩, rfl⟩
theorem slopes_lp {qs : List Dt} {d : Vc} (h : d ∈ slopes qs) : Lp d := by
  obtain ⟨p, _, q, _, r, rfl⟩ := mem_slopes.mp h
  exact vec_lp r
section
variable {A B : Dt → Bool} {qs : List Dt}
theorem sweep (hp : Pos qs) (ha : ∃ p ∈ qs, A p = true) (hb : ∃ p ∈ qs, B p = true) (two : ∃ p ∈ qs, ∃ q ∈ qs, rk p q = true) (N : ∀ d, Lp d → ∀ r ∈ qs, ¬ (Lev d A qs r ∧ Lev d B qs r)) : ¬ Sg rk A B qs := by
  intro s
  have all : ∀ d ∈ slopes qs, Sg (om d) A B qs := by
    refine Classical.byContradiction fun hno => ?_
    have : ∃ d ∈ slopes qs, Lp d ∧ ¬ Sg (om d) A B qs := by
      refine Classical.byContradiction fun h => hno fun d hd => Classical.byContradiction fun hs => h ⟨d, hd, slopes_lp hd, hs⟩
    obtain ⟨d, hd, ⟨ld, nd⟩, md⟩ := sel (fun a b => 0 < dt2 a b) (fun d : Vc => Lp d ∧ ¬ Sg (om d) A B qs) (fun a b c x y z u v => sl_tr x.1 y.1 z.1 u (by omega)) (fun a _ z => by have := dt2_neg a a; omega) (slopes qs) this
    by_cases hm : ∃ e ∈ slopes qs, Lp e ∧ 0 < dt2 e d
    · obtain ⟨e, he, ⟨le, ed⟩, me⟩ := sel (fun a b => 0 < dt2 b a) (fun e : Vc => Lp e ∧ 0 < dt2 e d) (fun a b c x y z u v => sl_tr z.1 y.1 x.1 v (by omega)) (fun a _ z => by have := dt2_neg a a; omega) (slopes qs) hm
      have se : Sg (om e) A B qs := Classical.byContradiction fun h => md e he ⟨le, h⟩ ed
      refine nd (Sg.congr (agree (fun p q h1 h2 => by rw [(om_same h1 h2).1, (om_same h1 h2).2]) fun p hpq q hq r => ?_) (Sg.over hp ha hb (N e le) se))
      have lf := vec_lp r
      have ff : vec p q ∈ slopes qs := mem_slopes.mpr ⟨p, hpq, q, hq, r, rfl⟩
      rw [(om_vec r).1, (om_vec r).2.1, (om_vec r).2.2.1, (om_vec r).2.2.2]
      generalize vec p q = f at lf ff ⊢
      have n1 := dt2_neg d f
      have key : 0 < dt2 e f ↔ 0 ≤ dt2 d f := by
        constructor
        · intro z
          have := me f ff
          by_cases q : 0 < dt2 f d
          · exact absurd z (this ⟨lf, q⟩)
          · omega
        · intro z
          exact sl_tr le ld lf ed z
      exact ⟨by rw [Bool.eq_iff_iff, decide_eq_true_eq, decide_eq_true_eq]; omega, by rw [Bool.eq_iff_iff, decide_eq_true_eq, decide_eq_true_eq]; omega⟩
    · refine nd (Sg.congr (agree (fun p q h1 h2 => by rw [(om_same h1 h2).1, h1]) fun p hpq q hq r => ?_) s)
      have lf := vec_lp r
      have ff : vec p q ∈ slopes qs := mem_slopes.mpr ⟨p, hpq, q, hq, r, rfl⟩
      rw [(om_vec r).1, (om_vec r).2.1, r]
      have r' : rk q p = false := by
        cases e : rk q p with
        | false => rfl
        | true => have := or_rk.tr _ _ _ r e; rw [or_rk.ir] at this; cases this
      rw [r']
      have n1 := dt2_neg d (vec p q)
      have : ¬ 0 < dt2 (vec p q) d := fun z => hm ⟨_, ff, lf, z⟩
      constructor
      · symm; rw [decide_eq_true_eq]; omega
      · symm; rw [decide_eq_false_iff_not]; omega
  obtain ⟨p0, hp0, q0, hq0, r0⟩ := two
  obtain ⟨d, hd, ld, md⟩ := sel (fun a b => 0 < dt2 b a) (fun d : Vc => Lp d) (fun a b c x y z u v => sl_tr z y x v (by omega)) (fun a _ z => by have := dt2_neg a a; omega) (slopes qs) ⟨_, mem_slopes.mpr ⟨p0, hp0, q0, hq0, r0, rfl⟩, vec_lp r0⟩
  refine Sg.rev hp hb (fun r hr z => N (0, 1) (.inr ⟨rfl, by decide⟩) r hr ⟨lev_rk hp z.1, lev_rk hp z.2⟩) s (Sg.congr (agree (fun p q h1 h2 => by rw [(om_same h1 h2).2, h2]) fun p hpq q hq r => ?_) (Sg.over hp ha hb (N d ld) (all d hd)))
  have lf := vec_lp r
  have ff : vec p q ∈ slopes qs := mem_slopes.mpr ⟨p, hpq, q, hq, r, rfl⟩
  have z := md _ ff lf
  have r' : rk q p = false := by
    cases e : rk q p with
    | false => rfl
    | true => have := or_rk.tr _ _ _ r e; rw [or_rk.ir] at this; cases this
  rw [(om_vec r).2.2.1, (om_vec r).2.2.2, r, r']
  constructor
  · rw [decide_eq_false_iff_not]; omega
  · rw [decide_eq_true_eq]; omega
theorem lev_ex (hp : Pos qs) (hAB : ∀ p ∈ qs, A p = true ∨ B p = true) (two : ∃ p ∈ qs, ∃ q ∈ qs, rk p q = true) : ∃ d, Lp d ∧ ∃ r ∈ qs, Lev d A qs r ∧ Lev d B qs r := by
  refine Classical.byContradiction fun hno => ?_
  have N : ∀ d, Lp d → ∀ r ∈ qs, ¬ (Lev d A qs r ∧ Lev d B qs r) := fun d hd r hr z => hno ⟨d, hd, r, hr, z⟩
  have l01 : Lp (0, 1) := .inr ⟨rfl, by decide⟩
  have none_lev : ∀ (C : Dt → Bool), (¬ ∃ p ∈ qs, C p = true) → ∀ r, Med rk C qs r := fun C hC r => by
    have z : ∀ P : Dt → Bool, wq (fun x => C x && P x) qs = 0 := fun P => wq_none fun x hx => by
      cases e : C x with
      | false => rfl
      | true => exact absurd ⟨x, hx, e⟩ hC
    have := wq_nonneg (f := C) hp
    unfold Med blw abv
    rw [z, z]
    omega
  have ha : ∃ p ∈ qs, A p = true := by
    refine Classical.byContradiction fun hA => ?_
    obtain ⟨p0, hp0, _⟩ := two
    have : ∃ p ∈ qs, B p = true := ⟨p0, hp0, (hAB p0 hp0).resolve_left fun z => hA ⟨p0, hp0, z⟩⟩
    obtain ⟨b, hb, _, mb⟩ := med_ex or_rk hp this
    exact N _ l01 b hb ⟨lev_rk hp (none_lev A hA b), lev_rk hp mb⟩
  have hb : ∃ p ∈ qs, B p = true := by
    refine Classical.byContradiction fun hB => ?_
    obtain ⟨b, hb, _, mb⟩ := med_ex or_rk hp ha
    exact N _ l01 b hb ⟨lev_rk hp mb, lev_rk hp (none_lev B hB b)⟩
  obtain ⟨p, hpq, _, mp⟩ := med_ex or_rk hp ha
  obtain ⟨b, hbq, _, mb⟩ := med_ex or_rk hp hb
  by_cases t : wq B qs < 2 * abv rk B qs p
  · exact sweep hp ha hb two N ⟨p, hpq, mp, t⟩
  · refine sweep hp hb ha two (fun d hd r hr z => N d hd r hr ⟨z.2, z.1⟩) ⟨b, hbq, mb, ?_⟩
    have nb : ¬ Med rk B qs p := fun z => N _ l01 p hpq ⟨lev_rk hp mp, lev_rk hp z⟩
    have na : ¬ Med rk A qs b := fun z => N _ l01 b hbq ⟨lev_rk hp z, lev_rk hp mb⟩
    unfold Med at nb na
    have tb : wq B qs < 2 * blw rk B qs p := by omega
    have bp : rk p b = false := by
      cases e : rk p b with
      | false => rfl
      | true =>
        have := blw_le (A := B) or_rk hp (p := p) (q := b) (by
          cases e' : rk b p with
          | false => rfl
          | true => have := or_rk.tr _ _ _ e e'; rw [or_rk.ir] at this; cases this)
        have := mb.1
        omega
    have := blw_le (A := A) or_rk hp (p := b) (q := p) bp
    have := mp.1
    omega
end
/-! ### from a halving line to one through two dots -/
def tq (p q z : Dt) : Int := (q.1 - p.1) * (z.2.1 - p.2.1) - (q.2.1 - p.2.1) * (z.1 - p.1)
def Fair (A : Dt → Bool) (qs : List Dt) (p q : Dt) : Prop := 2 * wq (fun z => A z && decide (0 < tq p q z)) qs ≤ wq A qs ∧ 2 * wq (fun z => A z && decide (tq p q z < 0)) qs ≤ wq A qs
theorem tq_vec (p q z : Dt) : tq p q z = dt2 (vec p q) (vec p z) := rfl
theorem fair_of {A : Dt → Bool} {qs : List Dt} {d : Vc} {r q : Dt} (hp : Pos qs) (h : Lev d A qs r)
    (k : (∀ z ∈ qs, (0 < tq r q z → 0 < dt2 d (vec r z)) ∧ (tq r q z < 0 → dt2 d (vec r z) < 0)) ∨ ∀ z ∈ qs, (0 < tq r q z → dt2 d (vec r z) < 0) ∧ (tq r q z < 0 → 0 < dt2 d (vec r z))) : Fair A qs r q := by
  have hz : ∀ z, dt2 d (vec r z) = hh d z - hh d r := fun z => (hh_vec d r z).symm
  obtain ⟨l1, l2⟩ := h
  rcases k with k | k
  · have e1 : wq (fun z => A z && decide (0 < tq r q z)) qs ≤ wq (fun z => A z && decide (hh d r < hh d z)) qs := wq_mono hp fun z hm x => by
      simp only [Bool.and_eq_true, decide_eq_true_eq] at x ⊢
      have := (k z hm).1 x.2
      rw [hz] at this
      exact ⟨x.1, by omega⟩
    have e2 : wq (fun z => A z && decide (tq r q z < 0)) qs ≤ wq (fun z => A z && decide (hh d z < hh d r)) qs := wq_mono hp fun z hm x => by
      simp only [Bool.and_eq_true, decide_eq_true_eq] at x ⊢
      have := (k z hm).2 x.2
      rw [hz] at this
      exact ⟨x.1, by omega⟩
    exact ⟨by omega, by omega⟩
  · have e1 : wq (fun z => A z && decide (0 < tq r q z)) qs ≤ wq (fun z => A z && decide (hh d z < hh d r)) qs := wq_mono hp fun z hm x => by
      simp only [Bool.and_eq_true, decide_eq_true_eq] at x ⊢
      have := (k z hm).1 x.2
      rw [hz] at this
      exact ⟨x.1, by omega⟩
    have e2 : wq (fun z => A z && decide (tq r q z < 0)) qs ≤ wq (fun z => A z && decide (hh d r < hh d z)) qs := wq_mono hp fun z hm x => by
      simp only [Bool.and_eq_true, decide_eq_true_eq] at x ⊢
      have := (k z hm).2 x.2
      rw [hz] at this
      exact ⟨x.1, by omega⟩
    exact ⟨by omega, by omega⟩
def sp2 (p : Dt) : Int × Int := (p.1, p.2.1)
theorem rk_of_ne {p q : Dt} (h : sp2 p ≠ sp2 q) : rk p q = true ∨ rk q p = true := by
  simp only [rk, decide_eq_true_eq]
  have : ¬ (p.1 = q.1 ∧ p.2.1 = q.2.1) := fun z => h (by unfold sp2; rw [z.1, z.2])
  omega
theorem mul_pos_iff {a b : Int} (h : 0 < a * b) (hb : 0 < b) : 0 < a := by
  by_cases q : 0 < a
  · exact q
  · have := Int.mul_nonneg (show 0 ≤ -a by omega) (show 0 ≤ b by omega)
    rw [Int.neg_mul] at this
    omega
theorem same_sign {X Y a b : Int} (ha : 0 < a) (hb : 0 < b) (e : X * a = Y * b) : (0 < X → 0 < Y) ∧ (X < 0 → Y < 0) := by
  constructor
  · intro h
    have := Int.mul_pos h ha
    exact mul_pos_iff (b := b) (by omega) hb
  · intro h
    have := Int.mul_pos (show 0 < -X by omega) ha
    rw [Int.neg_mul] at this
    have := mul_pos_iff (a := -Y) (b := b) (by rw [Int.neg_mul]; omega) hb
    omega
theorem par_sign {d v : Vc} {X Y : Int} (ld : Lp d) (lv : Lp v) (e0 : d.1 * v.2 - d.2 * v.1 = 0) (h1 : X * d.1 = Y * v.1) (h2 : X * d.2 = Y * v.2) : (0 < X → 0 < Y) ∧ (X < 0 → Y < 0) := by
  obtain ⟨d1, d2⟩ := d
  obtain ⟨v1, v2⟩ := v
  simp only [Lp] at ld lv e0 h1 h2
  rcases ld with ld | ⟨rfl, ld⟩
  · by_cases q : v1 = 0
    · subst q
      have := Int.mul_pos ld (show 0 < v2 by omega)
      omega
    · exact same_sign ld (show 0 < v1 by omega) h1
  · by_cases q : v1 = 0
    · subst q
      exact same_sign ld (show 0 < v2 by omega) h2
    · have := Int.mul_pos ld (show 0 < v1 by omega)
      omega
/-- signed to the left of d -/
def lft (d e : Vc) : Vc := if 0 < dt2 d e then e else (-e.1, -e.2)
theorem dt2_negr (d e : Vc) : dt2 d (-e.1, -e.2) = - dt2 d e := by simp only [dt2, Int.mul_neg]; omega
theorem dt2_negl (d e : Vc) : dt2 (-e.1, -e.2) d = - dt2 e d := by simp only [dt2, Int.neg_mul]; omega
theorem lft_pos {d e : Vc} (h : dt2 d e ≠ 0) : 0 < dt2 d (lft d e) := by
  unfold lft
  split
  · assumption
  · rw [dt2_negr]; omega
/-- a turn within the half plane left of d -/
theorem half_tr {d e f g : Vc} (he : 0 < dt2 d e) (hf : 0 < dt2 d f) (hg : 0 < dt2 d g) (h1 : 0 < dt2 e f) (h2 : 0 < dt2 f g) : 0 < dt2 e g := by
  have i : dt2 e g * dt2 d f = dt2 f g * dt2 d e + dt2 e f * dt2 d g := by
    obtain ⟨i1, i2⟩ := dt2_id e f g
    have a : dt2 e g * dt2 d f = d.1 * (dt2 e g * f.2) - d.2 * (dt2 e g * f.1) := by
      show dt2 e g * (d.1 * f.2 - d.2 * f.1) = _
      rw [Int.mul_sub, Int.mul_left_comm, Int.mul_left_comm (dt2 e g) d.2]
    rw [a, i1, i2, Int.mul_add, Int.mul_add]
    show _ = dt2 f g * (d.1 * e.2 - d.2 * e.1) + dt2 e f * (d.1 * g.2 - d.2 * g.1)
    rw [Int.mul_sub, Int.mul_sub, Int.mul_left_comm (dt2 f g) d.1, Int.mul_left_comm (dt2 f g) d.2, Int.mul_left_comm (dt2 e f) d.1, Int.mul_left_comm (dt2 e f) d.2]
    omega
  have := Int.mul_pos h2 he
  have := Int.mul_pos h1 hg
  exact mul_pos_iff (b := dt2 d f) (by omega) hf
theorem ham {A B : Dt → Bool} {qs : List Dt} (hp : Pos qs) (hAB : ∀ p ∈ qs, A p = true ∨ B p = true) (two : ∃ p ∈ qs, ∃ q ∈ qs, sp2 p ≠ sp2 q) : ∃ p ∈ qs, ∃ q ∈ qs, sp2 p ≠ sp2 q ∧ Fair A qs p q ∧ Fair B qs p q := by
  have two' : ∃ p ∈ qs, ∃ q ∈ qs, rk p q = true := by
    obtain ⟨p, h1, q, h2, h⟩ := two
    rcases rk_of_ne h with r | r
    · exact ⟨p, h1, q, h2, r⟩
    · exact ⟨q, h2, p, h1, r⟩
  obtain ⟨d, ld, r, hr, la, lb⟩ := lev_ex hp hAB two'
  suffices h : ∃ q ∈ qs, sp2 r ≠ sp2 q ∧ ((∀ z ∈ qs, (0 < tq r q z → 0 < dt2 d (vec r z)) ∧ (tq r q z < 0 → dt2 d (vec r z) < 0)) ∨ ∀ z ∈ qs, (0 < tq r q z → dt2 d (vec r z) < 0) ∧ (tq r q z < 0 → 0 < dt2 d (vec r z))) by
    obtain ⟨q, hq, ne, k⟩ := h
    exact ⟨r, hr, q, hq, ne, fair_of hp la k, fair_of hp lb k⟩
  have off : ∃ q ∈ qs, sp2 r ≠ sp2 q := by
    obtain ⟨p, h1, q, h2, h⟩ := two
    by_cases e : sp2 r = sp2 p
    · exact ⟨q, h2, by rw [e]; exact h⟩
    · exact ⟨p, h1, e⟩
  by_cases on : ∃ q ∈ qs, sp2 r ≠ sp2 q ∧ dt2 d (vec r q) = 0
  · obtain ⟨q, hq, ne, e0⟩ := on
    refine ⟨q, hq, ne, ?_⟩
    -- along d, or against it
    have par : ∀ z, dt2 (vec r q) (vec r z) * d.1 = dt2 d (vec r z) * (vec r q).1 ∧ dt2 (vec r q) (vec r z) * d.2 = dt2 d (vec r z) * (vec r q).2 := fun z => by
      obtain ⟨i1, i2⟩ := dt2_id (vec r q) d (vec r z)
      have := dt2_neg (vec r q) d
      have e : dt2 (vec r q) d = 0 := by omega
      rw [e] at i1 i2
      exact ⟨by omega, by omega⟩
    have nz : dt2 d (vec r q) = d.1 * (vec r q).2 - d.2 * (vec r q).1 := rfl
    rcases rk_of_ne ne with k | k
    · left
      intro z _
      rw [tq_vec]
      exact par_sign ld (vec_lp k) (by omega) (par z).1 (par z).2
    · right
      intro z _
      rw [tq_vec]
      have lv := vec_lp k
      have v1 : (vec q r).1 = -(vec r q).1 := by simp only [vec]; omega
      have v2 : (vec q r).2 = -(vec r q).2 := by simp only [vec]; omega
      have := par_sign (X := -dt2 (vec r q) (vec r z)) (Y := dt2 d (vec r z)) ld lv (by rw [v1, v2, Int.mul_neg, Int.mul_neg]; omega) (by rw [v1, Int.neg_mul, Int.mul_neg, (par z).1]) (by rw [v2, Int.neg_mul, Int.mul_neg, (par z).2])
      constructor
      · intro x; exact this.2 (by omega)
      · intro x; exact this.1 (by omega)
  · have on' : ∀ q ∈ qs, sp2 r ≠ sp2 q → dt2 d (vec r q) ≠ 0 := fun q hq ne z => on ⟨q, hq, ne, z⟩
    obtain ⟨q, hq, nq, mq⟩ := sel (fun a b => 0 < dt2 (lft d (vec r a)) (lft d (vec r b))) (fun q : Dt => q ∈ qs ∧ sp2 r ≠ sp2 q) (fun a b c x y z => half_tr (lft_pos (on' a x.1 x.2)) (lft_pos (on' b y.1 y.2)) (lft_pos (on' c z.1 z.2))) (fun a _ z => by have := dt2_neg (lft d (vec r a)) (lft d (vec r a)); omega) qs (by obtain ⟨q, h1, h2⟩ := off; exact ⟨q, h1, h1, h2⟩)
    refine ⟨q, hq, nq.2, ?_⟩
    have side : ∀ z ∈ qs, (0 < dt2 (lft d (vec r q)) (vec r z) → 0 < dt2 d (vec r z)) ∧ (dt2 (lft d (vec r q)) (vec r z) < 0 → dt2 d (vec r z) < 0) := fun z hz => by
      by_cases e : sp2 r = sp2 z
      · have : vec r z = (0, 0) := by
          unfold sp2 at e
          simp only [Prod.mk.injEq] at e
          simp only [vec, Prod.mk.injEq]
          omega
        rw [this]
        simp only [dt2, Int.mul_zero]
        omega
      · have n1 := on' z hz e
        have n2 := mq z hz ⟨hz, e⟩
        have n3 := dt2_neg (lft d (vec r z)) (lft d (vec r q))
        by_cases h : 0 < dt2 d (vec r z)
        · have : lft d (vec r z) = vec r z := by unfold lft; rw [if_pos h]
          rw [this] at n2 n3
          omega
        · have : lft d (vec r z) = (-(vec r z).1, -(vec r z).2) := by unfold lft; rw [if_neg h]
          rw [this, dt2_negr] at n3
          rw [this] at n2
          omega
    by_cases h : 0 < dt2 d (vec r q)
    · left
      have e : lft d (vec r q) = vec r q := by unfold lft; rw [if_pos h]
      rw [e] at side
      exact side
    · right
      have e : lft d (vec r q) = (-(vec r q).1, -(vec r q).2) := by unfold lft; rw [if_neg h]
      rw [e] at side
      intro z hz
      have := side z hz
      rw [dt2_negl] at this
      rw [tq_vec]
      constructor
      · intro x; exact this.2 (by omega)
      · intro x; exact this.1 (by omega)

/-! ## pairs in their order -/
theorem wq_snoc (f : Dt → Bool) (p : Dt) : ∀ qs : List Dt, wq f (qs ++ [p]) = wq f qs + if f p = true then p.2.2.2 else 0
  | [] => by simp [wq]
  | q :: r => by
    rw [List.cons_append]
    unfold wq
    rw [wq_snoc f p r]
    omega
theorem wq_wt (cs : Int → Bool) (g0 g1 g2 s : Int) : ∀ ps : List Dt, wt cs g0 g1 g2 s ps = wq (fun z => cs z.2.2.1 && decide (sg (gv g0 g1 g2 z) = s)) ps
  | [] => rfl
  | p :: r => by
    have ih := wq_wt cs g0 g1 g2 s r
    unfold wt w3 at ih ⊢
    unfold wq
    rw [← ih]
    by_cases hc : cs p.2.2.1 = true
    · rw [List.filter_cons_of_pos (by simpa using hc), List.map_cons, List.sum_cons]
      simp [hc]
    · rw [List.filter_cons_of_neg (by simpa using hc)]
      simp [hc]
theorem wq_tot (cs : Int → Bool) : ∀ ps : List Dt, tot cs ps = wq (fun z => cs z.2.2.1) ps
  | [] => rfl
  | p :: r => by
    have ih := wq_tot cs r
    unfold tot at ih ⊢
    unfold wq
    rw [← ih]
    by_cases hc : cs p.2.2.1 = true
    · rw [List.filter_cons_of_pos (by simpa using hc), List.map_cons, List.sum_cons]
      simp [hc]
    · rw [List.filter_cons_of_neg (by simpa using hc)]
      simp [hc]
theorem sg_of {x y m : Int} (hm : 0 < m) (e : x * m = y) : (sg x = 1 ↔ 0 < y) ∧ (sg x = -1 ↔ y < 0) := by
  subst e
  unfold sg
  by_cases h : 0 < x
  · have := Int.mul_pos h hm
    rw [if_pos h]
    omega
  · rw [if_neg h]
    by_cases h' : x < 0
    · have := Int.mul_pos (show 0 < -x by omega) hm
      rw [Int.neg_mul] at this
      rw [if_pos h']
      omega
    · have : x = 0 := by omega
      subst this
      simp
def prs (n : Nat) : List (Nat × Nat) := (List.range' 0 n).flatMap fun i => (List.range' (i + 1) (n - (i + 1))).map fun k => (i, k)
def prD (ij : Nat × Nat) : D := .tup [.int ij.1, .int ij.2]
theorem prD_inj {a b : Nat × Nat} (h : prD a = prD b) : a = b := by
  unfold prD at h
  simp only [D.tup.injEq, List.cons.injEq, D.int.injEq, and_true] at h
  obtain ⟨h1, h2⟩ := h
  exact Prod.ext (by omega) (by omega)
theorem prs_inj {a b : List (Nat × Nat)} (h : a.map prD = b.map prD) : a = b := map_inj prD_inj h
theorem untag_pr (a : Nat × Nat) : untag (prD a) = prD a := by unfold prD; simp only [untag_tup, untags_cons, untags_nil, untag_int]
theorem untags_prs (ps : List (Nat × Nat)) : untags (ps.map prD) = ps.map prD := untags_map prD untag_pr ps
def prO : Option (Nat × Nat) → D
  | none => .non
  | some ij => prD ij
theorem untag_prO (o : Option (Nat × Nat)) : untag (prO o) = prO o := by
  cases o with
  | none => exact untag_non
  | some a => exact untag_pr a
def fstOf (pk : List Nat) : Nat := match pk.getLast? with
  | none => 0
  | some l => l + 1
def nxt (n : Nat) (pk : List Nat) : List (List Nat) := (List.range' (fstOf pk) (n - fstOf pk)).map fun k => pk ++ [k]
def lev (n : Nat) : Nat → List (List Nat)
  | 0 => [[]]
  | j + 1 => (lev n j).flatMap (nxt n)
def pkD (pk : List Nat) : D := .lst true (pk.map fun (k : Nat) => D.int (k : Int))
theorem lev_mem {n : Nat} : ∀ {j : Nat} {pk : List Nat}, pk ∈ lev n j → pk.length = j ∧ ∀ k ∈ pk, k < n
  | 0, pk, h => by
    simp only [lev, List.mem_singleton] at h
    subst h
    simp
  | j + 1, pk, h => by
    simp only [lev, List.mem_flatMap] at h
    obtain ⟨q, hq, h⟩ := h
    obtain ⟨h1, h2⟩ := lev_mem hq
    unfold nxt at h
    obtain ⟨k, hk, rfl⟩ := List.mem_map.mp h
    rw [List.mem_range'_1] at hk
    refine ⟨by simp [h1], fun x hx => ?_⟩
    rcases List.mem_append.mp hx with z | z
    · exact h2 x z
    · simp at z; subst z; omega
theorem lev_len (n : Nat) : ∀ j : Nat, (lev n j).length ≤ n ^ j
  | 0 => by simp [lev]
  | j + 1 => by
    have ih := lev_len n j
    simp only [lev]
    have : ∀ l : List (List Nat), (l.flatMap (nxt n)).length ≤ l.length * n := by
      intro l
      induction l with
      | nil => simp
      | cons a r ih =>
        rw [List.flatMap_cons, List.length_append, List.length_cons, Nat.add_mul]
        have : (nxt n a).length ≤ n := by unfold nxt; rw [List.length_map, List.length_range']; omega
        omega
    refine Nat.le_trans (this _) ?_
    rw [Nat.pow_succ]
    exact Nat.mul_le_mul_right _ ih
theorem lev2 (n : Nat) : lev n 2 = (prs n).map fun ij => [ij.1, ij.2] := by
  have e1 : lev n 1 = (List.range' 0 n).map fun i => [i] := by
    simp [lev, nxt, fstOf]
  have e2 : lev n 2 = (lev n 1).flatMap (nxt n) := rfl
  rw [e2, e1, List.flatMap_map, prs, List.map_flatMap]
  congr 1
  funext i
  rw [List.map_map]
  rfl
theorem rng_nat (a b : Nat) : rngD (a : Int) 1 (rngN a b 1) = (List.range' a (b - a)).map fun (k : Nat) => D.int (k : Int) := by
  unfold rngD
  rw [rngN1, show ((b : Int) - (a : Int)).toNat = b - a by omega, List.range'_eq_map_range, List.map_map]
  apply List.map_congr_left
  intro k _
  simp
theorem mem_prs {n i j : Nat} : (i, j) ∈ prs n ↔ i < j ∧ j < n := by
  unfold prs
  simp only [List.mem_flatMap, List.mem_map, List.mem_range'_1, Prod.mk.injEq]
  constructor
  · rintro ⟨a, ha, k, hk, rfl, rfl⟩; omega
  · intro h; exact ⟨i, by omega, j, by omega, rfl, rfl⟩
def gp (ps : List Dt) (i : Nat) : Dt := ps.getD i (0, 0, 0, 0)
theorem gp_get {ps : List Dt} {i : Nat} (h : i < ps.length) : ps[i]? = some (gp ps i) := by unfold gp; simp [h]
theorem gp_mem {ps : List Dt} {i : Nat} (h : i < ps.length) : gp ps i ∈ ps := List.mem_of_getElem? (gp_get h)
theorem gp_at {ps : List Dt} {i : Nat} (h : i < ps.length) {Q : D → Prop} (q : Q (dtD (gp ps i))) : ∃ d, atI (ps.map dtD) (i : Int) = some d ∧ Q d := by
  refine ⟨_, ?_, q⟩
  unfold atI ixN
  rw [List.length_map, if_pos (by omega), if_pos (by omega)]
  simp [gp_get h]
def inc (a b : Int) (p : Dt) : Bool := decide (p.2.2.1 = a) || decide (p.2.2.1 = b)
theorem tq_rev (p q z : Dt) : tq q p z = - tq p q z := by
  have e1 : tq q p z = dt2 (vec q p) (vec q z) := rfl
  have e2 : vec q p = (-(vec p q).1, -(vec p q).2) := by simp only [vec, Prod.mk.injEq]; omega
  have e3 : dt2 (vec p q) (vec q z) = dt2 (vec p q) (vec p z) := by
    have : ∀ d : Vc, dt2 d (vec q z) = dt2 d (vec p z) - dt2 d (vec p q) := fun d => by rw [← hh_vec, ← hh_vec, ← hh_vec]; omega
    rw [this]
    have := dt2_neg (vec p q) (vec p q)
    omega
  rw [e1, e2, dt2_negl, e3]
  rfl
theorem wq_filter {f g : Dt → Bool} (h : ∀ z, f z = true → g z = true) : ∀ qs : List Dt, wq f (qs.filter g) = wq f qs
  | [] => rfl
  | p :: r => by
    have ih := wq_filter h r
    by_cases hg : g p = true
    · rw [List.filter_cons_of_pos hg]
      unfold wq
      rw [ih]
    · rw [List.filter_cons_of_neg hg, ih]
      show _ = (if f p = true then p.2.2.2 else 0) + wq f r
      rw [if_neg fun z => hg (h p z)]
      omega
def Two (a b : Int) (ps : List Dt) : Prop := ∃ p ∈ ps, ∃ q ∈ ps, inc a b p = true ∧ inc a b q = true ∧ sp2 p ≠ sp2 q
theorem flat_len (n : Nat) : ∀ l : List (List Nat), (l.flatMap (nxt n)).length ≤ l.length * n
  | [] => by simp
  | a :: r => by
    rw [List.flatMap_cons, List.length_append, List.length_cons, Nat.add_mul]
    have := flat_len n r
    have : (nxt n a).length ≤ n := by unfold nxt; rw [List.length_map, List.length_range']; omega
    omega
theorem at_last {pk : List Nat} (h : pk ≠ []) {Q : D → Prop} (q : Q (.int ((fstOf pk : Nat) - 1 : Int))) : ∃ d, atI (pk.map fun (k : Nat) => D.int (k : Int)) (-1) = some d ∧ Q d := by
  obtain ⟨r, l, rfl⟩ : ∃ r l, pk = r ++ [l] := ⟨pk.dropLast, pk.getLast h, (List.dropLast_concat_getLast h).symm⟩
  refine ⟨.int l, ?_, ?_⟩
  · unfold atI ixN
    rw [List.length_map, List.length_append]
    have e : (-1 + ((r.length : Int) + 1)).toNat = r.length := by omega
    have l : (1 : Int) ≤ (r.length : Int) + 1 := by omega
    simp [e, l]
  · have : ((fstOf (r ++ [l]) : Nat) : Int) - 1 = l := by
      unfold fstOf
      simp
    rw [← this]
    exact q
theorem rng0 (n : Nat) : rngD 0 1 (rngN 0 (n : Int) 1) = (List.range' 0 n).map fun (k : Nat) => D.int (k : Int) := rng_nat 0 n
theorem find_at {α : Type} {p : α → Bool} : ∀ {xs : List α} {j : Nat} {x : α}, xs[j]? = some x → (∀ y ∈ xs.take j, p y = false) → p x = true → xs.find? p = some x
  | [], _, _, h, _, _ => by simp at h
  | a :: r, 0, x, h, _, px => by
    simp at h
    subst h
    rw [List.find?_cons, px]
  | a :: r, j + 1, x, h, hn, px => by
    rw [List.find?_cons, hn a (by simp)]
    exact find_at (by simpa using h) (fun y hy => hn y (by simp [hy])) px
theorem take_snoc {α : Type} {xs : List α} {j : Nat} {x y : α} (h : xs[j]? = some x) (hy : y ∈ xs.take (j + 1)) : y ∈ xs.take j ∨ y = x := by
  rw [List.take_succ, h] at hy
  rcases List.mem_append.mp hy with z | z
  · exact .inl z
  · simp at z; exact .inr z
def kp (p : Dt) : List Key := [.inl p.1, .inl p.2.1]
theorem cutM {α : Type} (xs : List α) {m : Int} (h : 0 ≤ m) : (cutL xs none (some m)).length ≤ m.toNat := by
  unfold cutL
  rw [List.length_take]
  have : HT.sIx xs.length xs.length (some m) ≤ m.toNat := by
    unfold HT.sIx
    simp only
    split
    · omega
    · omega
  omega
theorem eqD_p2 (a b c d : Int) : eqD (.tup [.int a, .int b]) (.tup [.int c, .int d]) = decide (a = c ∧ b = d) := by
  rw [eqD_tup, eqDs_cons, eqDs_cons, eqDs_nil, eqD_int, eqD_int]
  by_cases h : a = c <;> by_cases h' : b = d <;> simp [h, h']
theorem okN_p2 (a b : Int) : OkN 1 (.tup [.int a, .int b]) := OkN.tup (.cons (.int _ _) (.cons (.int _ _) (.nil _)))
theorem ne_sp2 (p q : Dt) : (!eqD (.tup [.int p.1, .int p.2.1]) (.tup [.int q.1, .int q.2.1])) = decide (sp2 p ≠ sp2 q) := by
  rw [eqD_p2]
  unfold sp2
  by_cases h : p.1 = q.1 <;> by_cases h' : p.2.1 = q.2.1 <;> simp [h, h']

theorem p13 : ((10 : Int) ^ (13 : Int).toNat) = 10000000000000 := by decide
theorem cp13 : CPow 10 13 := ⟨by decide, by decide, by decide⟩
def hv (p : Dt) : Dt := (p.1, p.2.1, p.2.2.1, 9 * p.2.2.2)
/-! ## quarters -/
def qf (f h : Dt → Int) (a b : Int) (ps : List Dt) : Int := wq (fun z => decide (sg (f z) = a) && decide (sg (h z) = b)) ps
def WA (ps : List Dt) : Int := wq (fun _ => true) ps
def fours (f h : Dt → Int) (ps : List Dt) : List Int := [qf f h (-1) (-1) ps, qf f h (-1) 1 ps, qf f h 1 (-1) ps, qf f h 1 1 ps]
def fairF (f : Dt → Int) (ps : List Dt) : Bool := decide (2 * qf f f (-1) (-1) ps ≤ WA ps ∧ 2 * qf f f 1 1 ps ≤ WA ps)
def quB (f h : Dt → Int) (ps : List Dt) : Bool := decide (4 * qf f h (-1) (-1) ps ≤ WA ps ∧ 4 * qf f h (-1) 1 ps ≤ WA ps ∧ 4 * qf f h 1 (-1) ps ≤ WA ps ∧ 4 * qf f h 1 1 ps ≤ WA ps)
theorem sgPs {x : Int} : sg x = 1 ↔ 0 < x := by unfold sg; split <;> (try split) <;> omega
theorem sgNg {x : Int} : sg x = -1 ↔ x < 0 := by unfold sg; split <;> (try split) <;> omega
theorem sgm_pos {x y m : Int} (hm : 0 < m) (e : x * m = y) : sg x = sg y := by
  obtain ⟨h1, h2⟩ := sg_of hm e
  by_cases p : 0 < y
  · rw [h1.mpr p, sgPs.mpr p]
  · by_cases q : y < 0
    · rw [h2.mpr q, sgNg.mpr q]
    · have y0 : y = 0 := by omega
      have x0 : x = 0 := by
        rw [y0] at e
        rcases Int.mul_eq_zero.mp e with z | z
        · exact z
        · omega
      rw [x0, y0]
theorem sgm_neg {x y m : Int} (hm : m < 0) (e : x * m = y) : sg x = - sg y := by
  have h := sgm_pos (x := x) (y := -y) (m := -m) (by omega) (by rw [Int.mul_neg, e])
  rw [h]
  unfold sg
  split <;> split <;> (try split) <;> (try split) <;> omega
theorem qf_same {f h f' h' : Dt → Int} (h1 : ∀ z, sg (f z) = sg (f' z)) (h2 : ∀ z, sg (h z) = sg (h' z)) (a b : Int) (ps : List Dt) : qf f h a b ps = qf f' h' a b ps := wq_congr fun z _ => by rw [h1 z, h2 z]
theorem qf_n1 {f h f' : Dt → Int} (h1 : ∀ z, sg (f z) = - sg (f' z)) (a b : Int) (ps : List Dt) : qf f h a b ps = qf f' h (-a) b ps := wq_congr fun z _ => by
  rw [h1 z, show decide (-sg (f' z) = a) = decide (sg (f' z) = -a) from decide_eq_decide.mpr (by omega)]
theorem qf_n2 {f h h' : Dt → Int} (h1 : ∀ z, sg (h z) = - sg (h' z)) (a b : Int) (ps : List Dt) : qf f h a b ps = qf f h' a (-b) ps := wq_congr fun z _ => by
  rw [h1 z, show decide (-sg (h' z) = b) = decide (sg (h' z) = -b) from decide_eq_decide.mpr (by omega)]
theorem qf_swap (f h : Dt → Int) (a b : Int) (ps : List Dt) : qf f h a b ps = qf h f b a ps := wq_congr fun z _ => Bool.and_comm _ _
theorem quB_1 {f h f' : Dt → Int} {m : Int} (hm : m ≠ 0) (e : ∀ z, f z * m = f' z) (ps : List Dt) : quB f h ps = quB f' h ps := by
  by_cases p : 0 < m
  · have s := fun z => sgm_pos p (e z)
    unfold quB
    rw [qf_same s (fun _ => rfl), qf_same s (fun _ => rfl), qf_same s (fun _ => rfl), qf_same s (fun _ => rfl)]
  · have s := fun z => sgm_neg (show m < 0 by omega) (e z)
    unfold quB
    rw [qf_n1 s (-1) (-1), qf_n1 s (-1) 1, qf_n1 s 1 (-1), qf_n1 s 1 1]
    apply decide_eq_decide.mpr
    simp only [Int.neg_neg]
    constructor
    · rintro ⟨a, b, c, d⟩; exact ⟨c, d, a, b⟩
    · rintro ⟨a, b, c, d⟩; exact ⟨c, d, a, b⟩
theorem quB_2 {f h h' : Dt → Int} {m : Int} (hm : m ≠ 0) (e : ∀ z, h z * m = h' z) (ps : List Dt) : quB f h ps = quB f h' ps := by
  by_cases p : 0 < m
  · have s := fun z => sgm_pos p (e z)
    unfold quB
    rw [qf_same (fun _ => rfl) s, qf_same (fun _ => rfl) s, qf_same (fun _ => rfl) s, qf_same (fun _ => rfl) s]
  · have s := fun z => sgm_neg (show m < 0 by omega) (e z)
    unfold quB
    rw [qf_n2 s (-1) (-1), qf_n2 s (-1) 1, qf_n2 s 1 (-1), qf_n2 s 1 1]
    apply decide_eq_decide.mpr
    simp only [Int.neg_neg]
    constructor
    · rintro ⟨a, b, c, d⟩; exact ⟨b, a, d, c⟩
    · rintro ⟨a, b, c, d⟩; exact ⟨b, a, d, c⟩
theorem fairF_s {f f' : Dt → Int} {m : Int} (hm : m ≠ 0) (e : ∀ z, f z * m = f' z) (ps : List Dt) : fairF f ps = fairF f' ps := by
  by_cases p : 0 < m
  · have s := fun z => sgm_pos p (e z)
    unfold fairF
    rw [qf_same s s, qf_same s s]
  · have s := fun z => sgm_neg (show m < 0 by omega) (e z)
    unfold fairF
    rw [qf_n1 s (-1) (-1), qf_n1 s 1 1, qf_n2 s _ (-1), qf_n2 s _ 1]
    apply decide_eq_decide.mpr
    simp only [Int.neg_neg]
    exact and_comm
theorem qf_pp (f : Dt → Int) (ps : List Dt) : qf f f 1 1 ps = wq (fun z => decide (0 < f z)) ps := wq_congr fun z _ => by
  rw [Bool.and_self]
  exact decide_eq_decide.mpr sgPs
theorem qf_nn (f : Dt → Int) (ps : List Dt) : qf f f (-1) (-1) ps = wq (fun z => decide (f z < 0)) ps := wq_congr fun z _ => by
  rw [Bool.and_self]
  exact decide_eq_decide.mpr sgNg
theorem qf_pn {f : Dt → Int} {a b : Int} (h : a ≠ b) (ps : List Dt) : qf f f a b ps = 0 := wq_none fun z _ => by
  by_cases e : sg (f z) = a
  · have : sg (f z) ≠ b := fun q => h (e.symm.trans q)
    simp [this]
  · simp [e]
theorem is_even_F (g0 g1 g2 : Int) (ps : List Dt) : decide (2 * max (wt (fun _ => true) g0 g1 g2 (-1) ps) (wt (fun _ => true) g0 g1 g2 1 ps) ≤ tot (fun _ => true) ps) = fairF (gv g0 g1 g2) ps := by
  have e : ∀ s, wt (fun _ => true) g0 g1 g2 s ps = qf (gv g0 g1 g2) (gv g0 g1 g2) s s ps := fun s => by
    rw [wq_wt]
    exact wq_congr fun z _ => by simp
  have et : tot (fun _ => true) ps = WA ps := wq_tot _ _
  unfold fairF
  rw [e, e, et]
  apply decide_eq_decide.mpr
  omega
def tqf (ps : List Dt) (ij : Nat × Nat) : Dt → Int := tq (gp ps ij.1) (gp ps ij.2)
def sps (ps : List Dt) : List (Nat × Nat) := (prs ps.length).filter fun ij => decide (sp2 (gp ps ij.1) ≠ sp2 (gp ps ij.2))
theorem mem_sps {ps : List Dt} {ij : Nat × Nat} : ij ∈ sps ps ↔ ij.1 < ij.2 ∧ ij.2 < ps.length ∧ sp2 (gp ps ij.1) ≠ sp2 (gp ps ij.2) := by
  unfold sps
  rw [List.mem_filter, decide_eq_true_eq]
  have := mem_prs (n := ps.length) (i := ij.1) (j := ij.2)
  constructor
  · rintro ⟨a, b⟩; exact ⟨(this.mp a).1, (this.mp a).2, b⟩
  · rintro ⟨a, b, c⟩; exact ⟨this.mpr ⟨a, b⟩, c⟩
def firstA (ps : List Dt) : Option (Nat × Nat) := (sps ps).find? fun ij => fairF (tqf ps ij) ps
def secondA (ps : List Dt) (ij : Nat × Nat) : Option (Nat × Nat) := (sps ps).find? fun kl => quB (tqf ps ij) (tqf ps kl) ps
def quO (ps : List Dt) : D := match firstA ps with
  | none => .non
  | some ij => match secondA ps ij with
    | none => .bl false
    | some kl => .tup [prD ij, prD kl]
/-- a pair for two dots of two spots -/
theorem pair_of {ps : List Dt} {p q : Dt} (hp : p ∈ ps) (hq : q ∈ ps) (ne : sp2 p ≠ sp2 q) : ∃ kl ∈ sps ps, ∃ m : Int, m ≠ 0 ∧ ∀ z, tq p q z * m = tqf ps kl z := by
  obtain ⟨i, hi, ei⟩ := List.getElem_of_mem hp
  obtain ⟨j, hj, ej⟩ := List.getElem_of_mem hq
  have gi : gp ps i = p := by unfold gp; simp [hi, ei]
  have gj : gp ps j = q := by unfold gp; simp [hj, ej]
  have ij : i ≠ j := fun z => by subst z; rw [gi] at gj; subst gj; exact ne rfl
  by_cases l : i < j
  · refine ⟨(i, j), mem_sps.mpr ⟨l, hj, by rw [gi, gj]; exact ne⟩, 1, by decide, fun z => ?_⟩
    unfold tqf
    rw [gi, gj, Int.mul_one]
  · refine ⟨(j, i), mem_sps.mpr ⟨by omega, hi, by rw [gi, gj]; exact Ne.symm ne⟩, -1, by decide, fun z => ?_⟩
    unfold tqf
    rw [gi, gj, tq_rev p q z]
    omega
theorem ex1 {ps : List Dt} (hp : Pos ps) (h : sps ps ≠ []) : ∃ ij, firstA ps = some ij := by
  obtain ⟨ab, hab⟩ := List.exists_mem_of_ne_nil _ h
  obtain ⟨a1, a2, a3⟩ := mem_sps.mp hab
  obtain ⟨p, hpm, q, hqm, ne, fa, _⟩ := ham (A := fun _ => true) (B := fun _ => true) hp (fun _ _ => .inl rfl) ⟨_, gp_mem (Nat.lt_trans a1 a2), _, gp_mem a2, a3⟩
  obtain ⟨kl, hk, m, hm, e⟩ := pair_of hpm hqm ne
  have ff : fairF (tqf ps kl) ps = true := by
    rw [← fairF_s hm e]
    unfold fairF
    rw [qf_pp, qf_nn]
    unfold Fair at fa
    simp only [Bool.true_and] at fa
    exact decide_eq_true ⟨fa.2, fa.1⟩
  have : (firstA ps).isSome = true := by
    unfold firstA
    rw [List.find?_isSome]
    exact ⟨kl, hk, ff⟩
  exact Option.isSome_iff_exists.mp this
theorem tq_spot {p q z z' : Dt} (h : sp2 z = sp2 z') : tq p q z = tq p q z' := by
  unfold sp2 at h
  simp only [Prod.mk.injEq] at h
  unfold tq
  rw [h.1, h.2]
theorem tq_self (p q : Dt) : tq p q p = 0 := by unfold tq; simp
theorem qf_none {f h : Dt → Int} {a b : Int} {ps : List Dt} (hh : ∀ z ∈ ps, f z = 0 ∨ h z = 0) (ha : a ≠ 0) (hb : b ≠ 0) : qf f h a b ps = 0 := wq_none fun z hz => by
  rcases hh z hz with e | e
  · have : ¬ (0 = a) := fun q => ha q.symm
    rw [e, show sg 0 = 0 from rfl]
    simp [this]
  · have : ¬ (0 = b) := fun q => hb q.symm
    rw [e, show sg 0 = 0 from rfl]
    simp [this]
theorem ex2 {ps : List Dt} {ij : Nat × Nat} (hp : Pos ps) (hf : firstA ps = some ij) : ∃ kl, secondA ps ij = some kl := by
  have w0 : 0 ≤ WA ps := wq_nonneg hp
  have fair := List.find?_some hf
  obtain ⟨i1, i2, i3⟩ := mem_sps.mp (List.mem_of_find?_eq_some hf)
  have done : ∀ kl ∈ sps ps, quB (tqf ps ij) (tqf ps kl) ps = true → ∃ kl, secondA ps ij = some kl := fun kl hk hq => by
    have : (secondA ps ij).isSome = true := by
      unfold secondA
      rw [List.find?_isSome]
      exact ⟨kl, hk, hq⟩
    exact Option.isSome_iff_exists.mp this
  have zero : ∀ kl ∈ sps ps, (∀ z ∈ ps, tqf ps ij z = 0 ∨ tqf ps kl z = 0) → ∃ kl, secondA ps ij = some kl := fun kl hk hz => by
    refine done kl hk ?_
    unfold quB
    rw [qf_none hz (by decide) (by decide), qf_none hz (by decide) (by decide), qf_none hz (by decide) (by decide), qf_none hz (by decide) (by decide)]
    exact decide_eq_true ⟨by omega, by omega, by omega, by omega⟩
  generalize hF : tqf ps ij = f at *
  by_cases two : ∃ p ∈ ps.filter (fun z => decide (f z ≠ 0)), ∃ q ∈ ps.filter (fun z => decide (f z ≠ 0)), sp2 p ≠ sp2 q
  · have hq : Pos (ps.filter fun z => decide (f z ≠ 0)) := fun p hm => hp p (List.mem_filter.mp hm).1
    obtain ⟨p, hpm, q, hqm, ne, fa, fb⟩ := ham (A := fun z => decide (0 < f z)) (B := fun z => decide (f z < 0)) hq (fun p hm => by
      have := (List.mem_filter.mp hm).2
      simp only [decide_eq_true_eq] at this ⊢
      omega) two
    obtain ⟨kl, hk, m, hm, e⟩ := pair_of (List.mem_filter.mp hpm).1 (List.mem_filter.mp hqm).1 ne
    refine done kl hk ?_
    rw [← quB_2 hm e]
    have subA : ∀ z, decide (0 < f z) = true → decide (f z ≠ 0) = true := fun z hz => by simp only [decide_eq_true_eq] at hz ⊢; omega
    have subB : ∀ z, decide (f z < 0) = true → decide (f z ≠ 0) = true := fun z hz => by simp only [decide_eq_true_eq] at hz ⊢; omega
    have subA2 : ∀ P : Dt → Bool, ∀ z, (decide (0 < f z) && P z) = true → decide (f z ≠ 0) = true := fun P z hz => subA z (by simp only [Bool.and_eq_true] at hz; exact hz.1)
    have subB2 : ∀ P : Dt → Bool, ∀ z, (decide (f z < 0) && P z) = true → decide (f z ≠ 0) = true := fun P z hz => subB z (by simp only [Bool.and_eq_true] at hz; exact hz.1)
    unfold Fair at fa fb
    rw [wq_filter (subA2 fun z => decide (0 < tq p q z)), wq_filter (subA2 fun z => decide (tq p q z < 0)), wq_filter subA] at fa
    rw [wq_filter (subB2 fun z => decide (0 < tq p q z)), wq_filter (subB2 fun z => decide (tq p q z < 0)), wq_filter subB] at fb
    have fr := of_decide_eq_true fair
    rw [qf_pp, qf_nn] at fr
    have c : ∀ (a b : Int) (P R : Dt → Bool), (∀ z, decide (sg (f z) = a) = P z) → (∀ z, decide (sg (tq p q z) = b) = R z) → qf f (tq p q) a b ps = wq (fun z => P z && R z) ps := fun a b P R h1 h2 => wq_congr fun z _ => by rw [h1 z, h2 z]
    have pP : ∀ (h : Dt → Int) z, decide (sg (h z) = 1) = decide (0 < h z) := fun h z => decide_eq_decide.mpr sgPs
    have pN : ∀ (h : Dt → Int) z, decide (sg (h z) = -1) = decide (h z < 0) := fun h z => decide_eq_decide.mpr sgNg
    unfold quB
    rw [c _ _ _ _ (pN f) (pN (tq p q)), c _ _ _ _ (pN f) (pP (tq p q)), c _ _ _ _ (pP f) (pN (tq p q)), c _ _ _ _ (pP f) (pP (tq p q))]
    exact decide_eq_true ⟨by omega, by omega, by omega, by omega⟩
  · by_cases off : ∃ z ∈ ps, f z ≠ 0
    · obtain ⟨z0, hz0, hz⟩ := off
      have f1 : f (gp ps ij.1) = 0 := by rw [← hF]; exact tq_self _ _
      have ne : sp2 z0 ≠ sp2 (gp ps ij.1) := fun e => hz (by rw [← f1, ← hF]; exact tq_spot e)
      obtain ⟨kl, hk, m, hm, e⟩ := pair_of hz0 (gp_mem (Nat.lt_trans i1 i2)) ne
      refine zero kl hk fun z hzm => ?_
      by_cases fz : f z = 0
      · exact .inl fz
      · right
        have same : sp2 z = sp2 z0 := Classical.byContradiction fun n => two ⟨z, List.mem_filter.mpr ⟨hzm, decide_eq_true fz⟩, z0, List.mem_filter.mpr ⟨hz0, decide_eq_true hz⟩, n⟩
        rw [← e z, tq_spot same, tq_self]
        simp
    · have all0 : ∀ z ∈ ps, f z = 0 := fun z hz => Classical.byContradiction fun n => off ⟨z, hz, n⟩
      exact zero ij (List.mem_of_find?_eq_some hf) fun z hz => .inl (all0 z hz)
theorem quO_cases {ps : List Dt} (hp : Pos ps) : (sps ps = [] ∧ firstA ps = none ∧ quO ps = .non) ∨ ∃ ij kl, sps ps ≠ [] ∧ ij ∈ sps ps ∧ kl ∈ sps ps ∧ firstA ps = some ij ∧ secondA ps ij = some kl ∧ quO ps = .tup [prD ij, prD kl] := by
  by_cases e : sps ps = []
  · have f : firstA ps = none := by unfold firstA; rw [e]; rfl
    exact .inl ⟨e, f, by unfold quO; rw [f]⟩
  · obtain ⟨ij, h1⟩ := ex1 hp e
    obtain ⟨kl, h2⟩ := ex2 hp h1
    exact .inr ⟨ij, kl, e, List.mem_of_find?_eq_some h1, List.mem_of_find?_eq_some h2, h1, h2, by unfold quO; rw [h1]; simp only [h2]⟩

theorem max4 {f h : Dt → Int} {ps : List Dt} {m : Int} (h1 : m ∈ fours f h ps) (h2 : ∀ n ∈ fours f h ps, n ≤ m) : decide (4 * m ≤ WA ps) = quB f h ps := by
  unfold quB fours at *
  simp only [List.mem_cons, List.not_mem_nil, or_false] at h1
  have a := h2 _ (List.mem_cons_self ..)
  have b := h2 (qf f h (-1) 1 ps) (by simp)
  have c := h2 (qf f h 1 (-1) ps) (by simp)
  have d := h2 (qf f h 1 1 ps) (by simp)
  apply decide_eq_decide.mpr
  rcases h1 with e | e | e | e <;> omega
theorem max2 {f : Dt → Int} {ps : List Dt} {m : Int} (hp : Pos ps) (h1 : m ∈ fours f f ps) (h2 : ∀ n ∈ fours f f ps, n ≤ m) : decide (2 * m ≤ WA ps) = fairF f ps := by
  have w0 : 0 ≤ WA ps := wq_nonneg hp
  unfold fairF
  unfold fours at *
  simp only [List.mem_cons, List.not_mem_nil, or_false] at h1
  have a := h2 _ (List.mem_cons_self ..)
  have d := h2 (qf f f 1 1 ps) (by simp)
  rw [qf_pn (show (-1 : Int) ≠ 1 by decide), qf_pn (show (1 : Int) ≠ -1 by decide)] at h1
  apply decide_eq_decide.mpr
  rcases h1 with e | e | e | e <;> omega
def dT4 (a b c d : Int) : List (List Key × D) := [([.inl (-1), .inl (-1)], .int a), ([.inl (-1), .inl 1], .int b), ([.inl 1, .inl (-1)], .int c), ([.inl 1, .inl 1], .int d)]
theorem pu1 (a b c d x : Int) : putD (dT4 a b c d) [Sum.inl (-1), Sum.inl (-1)] (.int x) = dT4 x b c d := rfl
theorem pu2 (a b c d x : Int) : putD (dT4 a b c d) [Sum.inl (-1), Sum.inl 1] (.int x) = dT4 a x c d := rfl
theorem pu3 (a b c d x : Int) : putD (dT4 a b c d) [Sum.inl 1, Sum.inl (-1)] (.int x) = dT4 a b x d := rfl
theorem pu4 (a b c d x : Int) : putD (dT4 a b c d) [Sum.inl 1, Sum.inl 1] (.int x) = dT4 a b c x := rfl
theorem tri_map {α : Type} (f g h : α → D) : ∀ ps : List α, tri (ps.map f) (ps.map g) (ps.map h) = ps.map fun z => .tup [f z, g z, h z]
  | [] => rfl
  | _ :: r => by
    have ih := tri_map f g h r
    unfold tri at ih ⊢
    simp only [List.map_cons, List.zipWith_cons_cons]
    rw [ih]
theorem gd3t (g1 g2 g3 : DG) (a b c : D) (ρ : Ro) (Q : Ro → Prop) : gdSeq 3 (gdCons g1 (gdCons g2 (gdCons g3 gdNil))) (.tup [a, b, c]) ρ Q = g1 a ρ fun ρ1 => g2 b ρ1 fun ρ2 => g3 c ρ2 Q := by
  rw [gdNt 3 _ _ rfl]
  simp only [gdc, gdn]
theorem at_map {α : Type} {xs : List α} {j : Nat} {x : α} (h : xs[j]? = some x) (F : α → D) {Q : D → Prop} (q : Q (F x)) : ∃ d, atI (xs.map F) (j : Int) = some d ∧ Q d := by
  obtain ⟨hj, _⟩ := List.getElem?_eq_some_iff.mp h
  refine ⟨_, ?_, q⟩
  unfold atI ixN
  rw [List.length_map, if_pos (by omega), if_pos (by omega)]
  simp [h]
theorem nol_ints : ∀ ns : List Int, nolDs (ns.map D.int) = true
  | [] => rfl
  | n :: r => by
    have ih := nol_ints r
    rw [List.map_cons, nolDs, ih, nolD] <;> first | rfl | (intros; contradiction)
theorem eqD_tup_self (xs : List D) : eqD (.tup xs) (.tup xs) = true := by rw [eqD_tup]; exact eqDs_refl xs
theorem okN_pr (ij : Nat × Nat) : OkN 1 (prD ij) := okN_p2 _ _
theorem untag_quO {ps : List Dt} (hp : Pos ps) : untag (quO ps) = quO ps := by
  rcases quO_cases hp with ⟨e, f, qe⟩ | ⟨ij, kl, ne, m1, m2, f1, f2, qe⟩
  · rw [qe]; exact untag_non
  · rw [qe]; simp only [untag_tup, untags_cons, untags_nil, untag_pr]
theorem allT_quO {ps : List Dt} (hp : Pos ps) : allT (quO ps) = true := by
  rcases quO_cases hp with ⟨e, f, qe⟩ | ⟨ij, kl, ne, m1, m2, f1, f2, qe⟩
  · rw [qe]; exact allT_non
  · rw [qe]; unfold prD; simp [allT, allTs]
theorem isFl_quO {ps : List Dt} (hp : Pos ps) : isFl (quO ps) = false := by
  rcases quO_cases hp with ⟨e, f, qe⟩ | ⟨ij, kl, ne, m1, m2, f1, f2, qe⟩
  · rw [qe]; rfl
  · rw [qe]; rfl
theorem isNon_quO {ps : List Dt} (hp : Pos ps) : isNon (quO ps) = eqD (.lst true ((sps ps).map prD)) (.lst true []) := by
  rcases quO_cases hp with ⟨e, f, qe⟩ | ⟨ij, kl, ne, m1, m2, f1, f2, qe⟩
  · rw [qe, e]; exact isNon_non.trans (eqD_lst_self _ _ _).symm
  · rw [qe]
    cases hs : sps ps with
    | nil => exact absurd hs ne
    | cons a r =>
      rw [List.map_cons, eqD_lst]
      unfold eqDs
      rw [pyDs, pyDs]
      exact (isNon_tup _).trans (by rw [PyData.eqvAll] <;> (intros; contradiction))
theorem cut_sub {α : Type} {xs : List α} {lo hi : Option Int} {x : α} (h : x ∈ cutL xs lo hi) : x ∈ xs := by
  unfold cutL at h
  exact List.mem_of_mem_drop (List.mem_of_mem_take h)
theorem ite_both {c A B : Prop} [Decidable c] (hB : B) (hA : c → B → A) : if c then A else B := by
  by_cases h : c
  · rw [if_pos h]; exact hA h hB
  · rw [if_neg h]; exact hB
theorem prs_len (n : Nat) : ∀ l : List Nat, (l.flatMap fun i => (List.range' (i + 1) (n - (i + 1))).map fun k => (i, k)).length ≤ l.length * n
  | [] => by simp
  | a :: r => by
    rw [List.flatMap_cons, List.length_append, List.length_cons, Nat.add_mul, List.length_map, List.length_range']
    have := prs_len n r
    omega
theorem sps_len (ps : List Dt) (h : ps.length ≤ 60) : (sps ps).length ≤ 3600 := by
  unfold sps
  refine Nat.le_trans (List.length_filter_le _ _) ?_
  unfold prs
  refine Nat.le_trans (prs_len _ _) ?_
  rw [List.length_range']
  exact Nat.le_trans (Nat.mul_le_mul h h) (by decide)
theorem wq_sum : ∀ ps : List Dt, (ps.map fun p => p.2.2.2).sum = WA ps
  | [] => rfl
  | p :: r => by
    have ih := wq_sum r
    unfold WA at ih ⊢
    rw [List.map_cons, List.sum_cons, ih]
    simp [wq]

theorem lenOf1 {α : Type} {us : List α} (h : us.length = 1) : ∃ u0 : α, us = [u0] := by
  match us, h with
  | [u0], _ => exact ⟨u0, rfl⟩
theorem lenOf2 {α : Type} {us : List α} (h : us.length = 2) : ∃ u0 u1 : α, us = [u0, u1] := by
  match us, h with
  | [u0, u1], _ => exact ⟨u0, u1, rfl⟩
theorem lenOf3 {α : Type} {us : List α} (h : us.length = 3) : ∃ u0 u1 u2 : α, us = [u0, u1, u2] := by
  match us, h with
  | [u0, u1, u2], _ => exact ⟨u0, u1, u2, rfl⟩
theorem lenOf5 {α : Type} {us : List α} (h : us.length = 5) : ∃ u0 u1 u2 u3 u4 : α, us = [u0, u1, u2, u3, u4] := by
  match us, h with
  | [u0, u1, u2, u3, u4], _ => exact ⟨u0, u1, u2, u3, u4, rfl⟩
def sp_sign (κ : Cls) : DSp := fun ds Q Ed => ∃ (n : Int), ds = [.int n] ∧ (Q (.int (sg n)))
theorem sp_sign_eq (κ : Cls) (n : Int) (Q : D → Prop) (Ed : Value → Prop) : sp_sign κ [.int n] Q Ed = (Q (.int (sg n))) := by
  apply propext
  constructor
  · rintro ⟨x0, e, q⟩
    simp only [T3, List.cons.injEq, D.int.injEq, D.tup.injEq, D.lst.injEq, and_true, true_and] at e
    obtain rfl := e
    exact q
  · intro q; exact ⟨_, rfl, q⟩
def sp_value (κ : Cls) : DSp := fun ds Q Ed => ∃ (g0 g1 g2 : Int) (p0 p1 p2 : Int), ds = [T3 g0 g1 g2, T3 p0 p1 p2] ∧ (Bd 1000 g0 ∧ Bd 1000 g1 ∧ Bd 1000 g2 ∧ Bd 1000 p0 ∧ Bd 1000 p1 ∧ Bd 1000 p2 ∧ Q (.int (g0 * p0 + g1 * p1 + g2 * p2)))
theorem sp_value_eq (κ : Cls) (g0 g1 g2 : Int) (p0 p1 p2 : Int) (Q : D → Prop) (Ed : Value → Prop) : sp_value κ [T3 g0 g1 g2, T3 p0 p1 p2] Q Ed = (Bd 1000 g0 ∧ Bd 1000 g1 ∧ Bd 1000 g2 ∧ Bd 1000 p0 ∧ Bd 1000 p1 ∧ Bd 1000 p2 ∧ Q (.int (g0 * p0 + g1 * p1 + g2 * p2))) := by
  apply propext
  constructor
  · rintro ⟨x0, x1, x2, x3, x4, x5, e, q⟩
    simp only [T3, List.cons.injEq, D.int.injEq, D.tup.injEq, D.lst.injEq, and_true, true_and] at e
    obtain ⟨⟨rfl, rfl, rfl⟩, ⟨rfl, rfl, rfl⟩⟩ := e
    exact q
  · intro q; exact ⟨_, _, _, _, _, _, rfl, q⟩
def sp_side (κ : Cls) : DSp := fun ds Q Ed => ∃ (g0 g1 g2 : Int) (p0 p1 p2 : Int), ds = [T3 g0 g1 g2, T3 p0 p1 p2] ∧ (Bd 1000 g0 ∧ Bd 1000 g1 ∧ Bd 1000 g2 ∧ Bd 1000 p0 ∧ Bd 1000 p1 ∧ Bd 1000 p2 ∧ Q (.int (sg (g0 * p0 + g1 * p1 + g2 * p2))))
theorem sp_side_eq (κ : Cls) (g0 g1 g2 : Int) (p0 p1 p2 : Int) (Q : D → Prop) (Ed : Value → Prop) : sp_side κ [T3 g0 g1 g2, T3 p0 p1 p2] Q Ed = (Bd 1000 g0 ∧ Bd 1000 g1 ∧ Bd 1000 g2 ∧ Bd 1000 p0 ∧ Bd 1000 p1 ∧ Bd 1000 p2 ∧ Q (.int (sg (g0 * p0 + g1 * p1 + g2 * p2)))) := by
  apply propext
  constructor
  · rintro ⟨x0, x1, x2, x3, x4, x5, e, q⟩
    simp only [T3, List.cons.injEq, D.int.injEq, D.tup.injEq, D.lst.injEq, and_true, true_and] at e
    obtain ⟨⟨rfl, rfl, rfl⟩, ⟨rfl, rfl, rfl⟩⟩ := e
    exact q
  · intro q; exact ⟨_, _, _, _, _, _, rfl, q⟩
def sp_place_of (κ : Cls) : DSp := fun ds Q Ed => ∃ (a b : Int), ds = [.tup [.int a, .int b]] ∧ (Q (T3 1 a b))
theorem sp_place_of_eq (κ : Cls) (a b : Int) (Q : D → Prop) (Ed : Value → Prop) : sp_place_of κ [.tup [.int a, .int b]] Q Ed = (Q (T3 1 a b)) := by
  apply propext
  constructor
  · rintro ⟨x0, x1, e, q⟩
    simp only [T3, List.cons.injEq, D.int.injEq, D.tup.injEq, D.lst.injEq, and_true, true_and] at e
    obtain ⟨rfl, rfl⟩ := e
    exact q
  · intro q; exact ⟨_, _, rfl, q⟩
def sp_spot_of (κ : Cls) : DSp := fun ds Q Ed => ∃ (p : Dt), ds = [dtD p] ∧ (Q (.tup [.int p.1, .int p.2.1]))
theorem sp_spot_of_eq (κ : Cls) (p : Dt) (Q : D → Prop) (Ed : Value → Prop) : sp_spot_of κ [dtD p] Q Ed = (Q (.tup [.int p.1, .int p.2.1])) := by
  apply propext
  constructor
  · rintro ⟨x0, e, q⟩
    simp only [T3, List.cons.injEq, D.int.injEq, D.tup.injEq, D.lst.injEq, and_true, true_and] at e
    have e_p := e
    have f_p := dtD_inj e_p
    subst f_p
    exact q
  · intro q; exact ⟨_, rfl, q⟩
def sp_of_colour (κ : Cls) : DSp := fun ds Q Ed => ∃ (ps : List Dt) (col : D), ds = [.lst false (ps.map dtD), col] ∧ (∃ cs : Int → Bool, ColOk col cs ∧ ps.length ≤ 60 ∧ Q (.lst true ((ps.filter fun p => cs p.2.2.1).map dtD)))
theorem sp_of_colour_eq (κ : Cls) (ps : List Dt) (col : D) (Q : D → Prop) (Ed : Value → Prop) : sp_of_colour κ [.lst false (ps.map dtD), col] Q Ed = (∃ cs : Int → Bool, ColOk col cs ∧ ps.length ≤ 60 ∧ Q (.lst true ((ps.filter fun p => cs p.2.2.1).map dtD))) := by
  apply propext
  constructor
  · rintro ⟨x0, x1, e, q⟩
    simp only [T3, List.cons.injEq, D.int.injEq, D.tup.injEq, D.lst.injEq, and_true, true_and] at e
    obtain ⟨e_ps, rfl⟩ := e
    have f_ps := dts_inj e_ps
    subst f_ps
    exact q
  · intro q; exact ⟨_, _, rfl, q⟩
def sp_total (κ : Cls) : DSp := fun ds Q Ed => ∃ (ps : List Dt) (col : D), ds = [.lst false (ps.map dtD), col] ∧ (∃ cs : Int → Bool, ColOk col cs ∧ ps.length ≤ 60 ∧ Q (.int (tot cs ps)))
theorem sp_total_eq (κ : Cls) (ps : List Dt) (col : D) (Q : D → Prop) (Ed : Value → Prop) : sp_total κ [.lst false (ps.map dtD), col] Q Ed = (∃ cs : Int → Bool, ColOk col cs ∧ ps.length ≤ 60 ∧ Q (.int (tot cs ps))) := by
  apply propext
  constructor
  · rintro ⟨x0, x1, e, q⟩
    simp only [T3, List.cons.injEq, D.int.injEq, D.tup.injEq, D.lst.injEq, and_true, true_and] at e
    obtain ⟨e_ps, rfl⟩ := e
    have f_ps := dts_inj e_ps
    subst f_ps
    exact q
  · intro q; exact ⟨_, _, rfl, q⟩
def sp_weighed (κ : Cls) : DSp := fun ds Q Ed => ∃ (ps : List Dt) (g0 g1 g2 : Int) (col : D), ds = [.lst false (ps.map dtD), T3 g0 g1 g2, col] ∧ (∃ cs : Int → Bool, ColOk col cs ∧ ps.length ≤ 60 ∧ Bd 1000 g0 ∧ Bd 1000 g1 ∧ Bd 1000 g2 ∧ (∀ p ∈ ps, GD p) ∧ Q (.tup [.int (wt cs g0 g1 g2 (-1) ps), .int (wt cs g0 g1 g2 0 ps), .int (wt cs g0 g1 g2 1 ps)]))
theorem sp_weighed_eq (κ : Cls) (ps : List Dt) (g0 g1 g2 : Int) (col : D) (Q : D → Prop) (Ed : Value → Prop) : sp_weighed κ [.lst false (ps.map dtD), T3 g0 g1 g2, col] Q Ed = (∃ cs : Int → Bool, ColOk col cs ∧ ps.length ≤ 60 ∧ Bd 1000 g0 ∧ Bd 1000 g1 ∧ Bd 1000 g2 ∧ (∀ p ∈ ps, GD p) ∧ Q (.tup [.int (wt cs g0 g1 g2 (-1) ps), .int (wt cs g0 g1 g2 0 ps), .int (wt cs g0 g1 g2 1 ps)])) := by
  apply propext
  constructor
  · rintro ⟨x0, x1, x2, x3, x4, e, q⟩
    simp only [T3, List.cons.injEq, D.int.injEq, D.tup.injEq, D.lst.injEq, and_true, true_and] at e
    obtain ⟨e_ps, ⟨rfl, rfl, rfl⟩, rfl⟩ := e
    have f_ps := dts_inj e_ps
    subst f_ps
    exact q
  · intro q; exact ⟨_, _, _, _, _, rfl, q⟩
def sp_law_whole (κ : Cls) : DSp := fun ds Q Ed => ∃ (a : Int), ds = [.int a] ∧ (Q (.bl true))
theorem sp_law_whole_eq (κ : Cls) (a : Int) (Q : D → Prop) (Ed : Value → Prop) : sp_law_whole κ [.int a] Q Ed = (Q (.bl true)) := by
  apply propext
  constructor
  · rintro ⟨x0, e, q⟩
    simp only [T3, List.cons.injEq, D.int.injEq, D.tup.injEq, D.lst.injEq, and_true, true_and] at e
    obtain rfl := e
    exact q
  · intro q; exact ⟨_, rfl, q⟩
def sp_law_cell_at (κ : Cls) : DSp := fun ds Q Ed => ∃ (ns : List Int) (k : Int), ds = [.lst false (ns.map D.int), .int k] ∧ (0 ≤ k ∧ ns.length ≤ 63 ∧ ∀ v : Int, Q (.int v))
theorem sp_law_cell_at_eq (κ : Cls) (ns : List Int) (k : Int) (Q : D → Prop) (Ed : Value → Prop) : sp_law_cell_at κ [.lst false (ns.map D.int), .int k] Q Ed = (0 ≤ k ∧ ns.length ≤ 63 ∧ ∀ v : Int, Q (.int v)) := by
  apply propext
  constructor
  · rintro ⟨x0, x1, e, q⟩
    simp only [T3, List.cons.injEq, D.int.injEq, D.tup.injEq, D.lst.injEq, and_true, true_and] at e
    obtain ⟨e_ns, rfl⟩ := e
    have f_ns := map_int_inj e_ns
    subst f_ns
    exact q
  · intro q; exact ⟨_, _, rfl, q⟩
def sp_common_divisor (κ : Cls) : DSp := fun ds Q Ed => ∃ (a : Int) (b : Int), ds = [.int a, .int b] ∧ (Q (.int (Int.gcd a b : Int)))
theorem sp_common_divisor_eq (κ : Cls) (a : Int) (b : Int) (Q : D → Prop) (Ed : Value → Prop) : sp_common_divisor κ [.int a, .int b] Q Ed = (Q (.int (Int.gcd a b : Int))) := by
  apply propext
  constructor
  · rintro ⟨x0, x1, e, q⟩
    simp only [T3, List.cons.injEq, D.int.injEq, D.tup.injEq, D.lst.injEq, and_true, true_and] at e
    obtain ⟨rfl, rfl⟩ := e
    exact q
  · intro q; exact ⟨_, _, rfl, q⟩
def sp_reduced (κ : Cls) : DSp := fun ds Q Ed => ∃ (x y z : Int) (l : Int), ds = [T3 x y z, .int l] ∧ (¬ (x = 0 ∧ y = 0 ∧ z = 0) ∧ Bd 4000 x ∧ Bd 4000 y ∧ Bd 4000 z ∧ Q (T3 (x.fdiv (PM.dv3 x y z l)) (y.fdiv (PM.dv3 x y z l)) (z.fdiv (PM.dv3 x y z l))))
theorem sp_reduced_eq (κ : Cls) (x y z : Int) (l : Int) (Q : D → Prop) (Ed : Value → Prop) : sp_reduced κ [T3 x y z, .int l] Q Ed = (¬ (x = 0 ∧ y = 0 ∧ z = 0) ∧ Bd 4000 x ∧ Bd 4000 y ∧ Bd 4000 z ∧ Q (T3 (x.fdiv (PM.dv3 x y z l)) (y.fdiv (PM.dv3 x y z l)) (z.fdiv (PM.dv3 x y z l)))) := by
  apply propext
  constructor
  · rintro ⟨x0, x1, x2, x3, e, q⟩
    simp only [T3, List.cons.injEq, D.int.injEq, D.tup.injEq, D.lst.injEq, and_true, true_and] at e
    obtain ⟨⟨rfl, rfl, rfl⟩, rfl⟩ := e
    exact q
  · intro q; exact ⟨_, _, _, _, rfl, q⟩
def sp_is_level (κ : Cls) : DSp := fun ds Q Ed => ∃ (g0 g1 g2 : Int), ds = [T3 g0 g1 g2] ∧ (Q (.bl (decide (g1 = 0 ∧ g2 = 0))))
theorem sp_is_level_eq (κ : Cls) (g0 g1 g2 : Int) (Q : D → Prop) (Ed : Value → Prop) : sp_is_level κ [T3 g0 g1 g2] Q Ed = (Q (.bl (decide (g1 = 0 ∧ g2 = 0)))) := by
  apply propext
  constructor
  · rintro ⟨x0, x1, x2, e, q⟩
    simp only [T3, List.cons.injEq, D.int.injEq, D.tup.injEq, D.lst.injEq, and_true, true_and] at e
    obtain ⟨rfl, rfl, rfl⟩ := e
    exact q
  · intro q; exact ⟨_, _, _, rfl, q⟩
def sp_crossed (κ : Cls) : DSp := fun ds Q Ed => ∃ (a0 a1 a2 : Int) (b0 b1 b2 : Int), ds = [T3 a0 a1 a2, T3 b0 b1 b2] ∧ (Bd 200 a0 ∧ Bd 200 a1 ∧ Bd 200 a2 ∧ Bd 200 b0 ∧ Bd 200 b1 ∧ Bd 200 b2 ∧ Q (T3 (a1 * b2 - b1 * a2) (a2 * b0 - b2 * a0) (a0 * b1 - b0 * a1)))
theorem sp_crossed_eq (κ : Cls) (a0 a1 a2 : Int) (b0 b1 b2 : Int) (Q : D → Prop) (Ed : Value → Prop) : sp_crossed κ [T3 a0 a1 a2, T3 b0 b1 b2] Q Ed = (Bd 200 a0 ∧ Bd 200 a1 ∧ Bd 200 a2 ∧ Bd 200 b0 ∧ Bd 200 b1 ∧ Bd 200 b2 ∧ Q (T3 (a1 * b2 - b1 * a2) (a2 * b0 - b2 * a0) (a0 * b1 - b0 * a1))) := by
  apply propext
  constructor
  · rintro ⟨x0, x1, x2, x3, x4, x5, e, q⟩
    simp only [T3, List.cons.injEq, D.int.injEq, D.tup.injEq, D.lst.injEq, and_true, true_and] at e
    obtain ⟨⟨rfl, rfl, rfl⟩, ⟨rfl, rfl, rfl⟩⟩ := e
    exact q
  · intro q; exact ⟨_, _, _, _, _, _, rfl, q⟩
def sp_picks (κ : Cls) : DSp := fun ds Q Ed => ∃ (n : Int) (s : Int), ds = [.int n, .int s] ∧ (∃ m t : Nat, n = (m : Int) ∧ s = (t : Int) ∧ m ≤ 60 ∧ t ≤ 3 ∧ Q (.lst true ((lev m t).map pkD)))
theorem sp_picks_eq (κ : Cls) (n : Int) (s : Int) (Q : D → Prop) (Ed : Value → Prop) : sp_picks κ [.int n, .int s] Q Ed = (∃ m t : Nat, n = (m : Int) ∧ s = (t : Int) ∧ m ≤ 60 ∧ t ≤ 3 ∧ Q (.lst true ((lev m t).map pkD))) := by
  apply propext
  constructor
  · rintro ⟨x0, x1, e, q⟩
    simp only [T3, List.cons.injEq, D.int.injEq, D.tup.injEq, D.lst.injEq, and_true, true_and] at e
    obtain ⟨rfl, rfl⟩ := e
    exact q
  · intro q; exact ⟨_, _, rfl, q⟩
def sp_line (κ : Cls) : DSp := fun ds Q Ed => ∃ (a0 a1 a2 : Int) (b0 b1 b2 : Int), ds = [T3 a0 a1 a2, T3 b0 b1 b2] ∧ (Bd 200 a0 ∧ Bd 200 a1 ∧ Bd 200 a2 ∧ Bd 200 b0 ∧ Bd 200 b1 ∧ Bd 200 b2 ∧ ¬ (a2 * b0 - b2 * a0 = 0 ∧ a0 * b1 - b0 * a1 = 0) ∧ ∀ g0 g1 g2 m : Int, Bd 1000 g0 → Bd 1000 g1 → Bd 1000 g2 → m ≠ 0 → g0 * m = a1 * b2 - b1 * a2 → g1 * m = a2 * b0 - b2 * a0 → g2 * m = a0 * b1 - b0 * a1 → Q (T3 g0 g1 g2))
theorem sp_line_eq (κ : Cls) (a0 a1 a2 : Int) (b0 b1 b2 : Int) (Q : D → Prop) (Ed : Value → Prop) : sp_line κ [T3 a0 a1 a2, T3 b0 b1 b2] Q Ed = (Bd 200 a0 ∧ Bd 200 a1 ∧ Bd 200 a2 ∧ Bd 200 b0 ∧ Bd 200 b1 ∧ Bd 200 b2 ∧ ¬ (a2 * b0 - b2 * a0 = 0 ∧ a0 * b1 - b0 * a1 = 0) ∧ ∀ g0 g1 g2 m : Int, Bd 1000 g0 → Bd 1000 g1 → Bd 1000 g2 → m ≠ 0 → g0 * m = a1 * b2 - b1 * a2 → g1 * m = a2 * b0 - b2 * a0 → g2 * m = a0 * b1 - b0 * a1 → Q (T3 g0 g1 g2)) := by
  apply propext
  constructor
  · rintro ⟨x0, x1, x2, x3, x4, x5, e, q⟩
    simp only [T3, List.cons.injEq, D.int.injEq, D.tup.injEq, D.lst.injEq, and_true, true_and] at e
    obtain ⟨⟨rfl, rfl, rfl⟩, ⟨rfl, rfl, rfl⟩⟩ := e
    exact q
  · intro q; exact ⟨_, _, _, _, _, _, rfl, q⟩
def sp_on_two_spots (κ : Cls) : DSp := fun ds Q Ed => ∃ (ps : List Dt) (ij : (Nat × Nat)), ds = [.lst false (ps.map dtD), prD ij] ∧ (ij.1 < ps.length ∧ ij.2 < ps.length ∧ Q (.bl (decide (sp2 (gp ps ij.1) ≠ sp2 (gp ps ij.2)))))
theorem sp_on_two_spots_eq (κ : Cls) (ps : List Dt) (ij : (Nat × Nat)) (Q : D → Prop) (Ed : Value → Prop) : sp_on_two_spots κ [.lst false (ps.map dtD), prD ij] Q Ed = (ij.1 < ps.length ∧ ij.2 < ps.length ∧ Q (.bl (decide (sp2 (gp ps ij.1) ≠ sp2 (gp ps ij.2))))) := by
  apply propext
  constructor
  · rintro ⟨x0, x1, e, q⟩
    simp only [T3, List.cons.injEq, D.int.injEq, D.tup.injEq, D.lst.injEq, and_true, true_and] at e
    obtain ⟨e_ps, e_ij⟩ := e
    have f_ps := dts_inj e_ps
    subst f_ps
    have f_ij := prD_inj e_ij
    subst f_ij
    exact q
  · intro q; exact ⟨_, _, rfl, q⟩
def sp_spot_pairs (κ : Cls) : DSp := fun ds Q Ed => ∃ (ps : List Dt), ds = [.lst false (ps.map dtD)] ∧ (ps.length ≤ 60 ∧ Q (.lst true (((prs ps.length).filter fun ij => decide (sp2 (gp ps ij.1) ≠ sp2 (gp ps ij.2))).map prD)))
theorem sp_spot_pairs_eq (κ : Cls) (ps : List Dt) (Q : D → Prop) (Ed : Value → Prop) : sp_spot_pairs κ [.lst false (ps.map dtD)] Q Ed = (ps.length ≤ 60 ∧ Q (.lst true (((prs ps.length).filter fun ij => decide (sp2 (gp ps ij.1) ≠ sp2 (gp ps ij.2))).map prD))) := by
  apply propext
  constructor
  · rintro ⟨x0, e, q⟩
    simp only [T3, List.cons.injEq, D.int.injEq, D.tup.injEq, D.lst.injEq, and_true, true_and] at e
    have e_ps := e
    have f_ps := dts_inj e_ps
    subst f_ps
    exact q
  · intro q; exact ⟨_, rfl, q⟩
def sp_pair_line (κ : Cls) : DSp := fun ds Q Ed => ∃ (ps : List Dt) (ij : (Nat × Nat)), ds = [.lst false (ps.map dtD), prD ij] ∧ (ij.1 < ps.length ∧ ij.2 < ps.length ∧ (∀ p ∈ ps, GD p) ∧ sp2 (gp ps ij.1) ≠ sp2 (gp ps ij.2) ∧ ∀ g0 g1 g2 m : Int, Bd 1000 g0 → Bd 1000 g1 → Bd 1000 g2 → m ≠ 0 → (∀ z, gv g0 g1 g2 z * m = tq (gp ps ij.1) (gp ps ij.2) z) → Q (T3 g0 g1 g2))
theorem sp_pair_line_eq (κ : Cls) (ps : List Dt) (ij : (Nat × Nat)) (Q : D → Prop) (Ed : Value → Prop) : sp_pair_line κ [.lst false (ps.map dtD), prD ij] Q Ed = (ij.1 < ps.length ∧ ij.2 < ps.length ∧ (∀ p ∈ ps, GD p) ∧ sp2 (gp ps ij.1) ≠ sp2 (gp ps ij.2) ∧ ∀ g0 g1 g2 m : Int, Bd 1000 g0 → Bd 1000 g1 → Bd 1000 g2 → m ≠ 0 → (∀ z, gv g0 g1 g2 z * m = tq (gp ps ij.1) (gp ps ij.2) z) → Q (T3 g0 g1 g2)) := by
  apply propext
  constructor
  · rintro ⟨x0, x1, e, q⟩
    simp only [T3, List.cons.injEq, D.int.injEq, D.tup.injEq, D.lst.injEq, and_true, true_and] at e
    obtain ⟨e_ps, e_ij⟩ := e
    have f_ps := dts_inj e_ps
    subst f_ps
    have f_ij := prD_inj e_ij
    subst f_ij
    exact q
  · intro q; exact ⟨_, _, rfl, q⟩
def sp_is_even (κ : Cls) : DSp := fun ds Q Ed => ∃ (u : Int) (o : Int) (w : Int), ds = [.int u, .int o, .int w] ∧ (Q (.bl (decide (2 * max u o ≤ w))))
theorem sp_is_even_eq (κ : Cls) (u : Int) (o : Int) (w : Int) (Q : D → Prop) (Ed : Value → Prop) : sp_is_even κ [.int u, .int o, .int w] Q Ed = (Q (.bl (decide (2 * max u o ≤ w)))) := by
  apply propext
  constructor
  · rintro ⟨x0, x1, x2, e, q⟩
    simp only [T3, List.cons.injEq, D.int.injEq, D.tup.injEq, D.lst.injEq, and_true, true_and] at e
    obtain ⟨rfl, rfl, rfl⟩ := e
    exact q
  · intro q; exact ⟨_, _, _, rfl, q⟩
def sp_law_stream (κ : Cls) : DSp := fun ds Q Ed => ∃ (c : Int) (m : Int), ds = [.int c, .int m] ∧ (0 ≤ m ∧ m < 1000 ∧ ∀ xs : List Int, xs.length = m.toNat → (∀ x ∈ xs, 0 ≤ x ∧ x < 10000000000000) → Q (.lst true (xs.map D.int)))
theorem sp_law_stream_eq (κ : Cls) (c : Int) (m : Int) (Q : D → Prop) (Ed : Value → Prop) : sp_law_stream κ [.int c, .int m] Q Ed = (0 ≤ m ∧ m < 1000 ∧ ∀ xs : List Int, xs.length = m.toNat → (∀ x ∈ xs, 0 ≤ x ∧ x < 10000000000000) → Q (.lst true (xs.map D.int))) := by
  apply propext
  constructor
  · rintro ⟨x0, x1, e, q⟩
    simp only [T3, List.cons.injEq, D.int.injEq, D.tup.injEq, D.lst.injEq, and_true, true_and] at e
    obtain ⟨rfl, rfl⟩ := e
    exact q
  · intro q; exact ⟨_, _, rfl, q⟩
def sp_law_spot (κ : Cls) : DSp := fun ds Q Ed => ∃ (k : Int) (xs : List Int) (w0 w1 w2 : Int), ds = [.int k, .lst false (xs.map D.int), T3 w0 w1 w2] ∧ (xs.length = 4 ∧ (∀ x ∈ xs, 0 ≤ x ∧ x < 10000000000000) ∧ Bd 8 w0 ∧ Bd 8 w1 ∧ Bd 8 w2 ∧ ∀ a b : Int, Bd 60 a → Bd 60 b → Q (.tup [.int a, .int b]))
theorem sp_law_spot_eq (κ : Cls) (k : Int) (xs : List Int) (w0 w1 w2 : Int) (Q : D → Prop) (Ed : Value → Prop) : sp_law_spot κ [.int k, .lst false (xs.map D.int), T3 w0 w1 w2] Q Ed = (xs.length = 4 ∧ (∀ x ∈ xs, 0 ≤ x ∧ x < 10000000000000) ∧ Bd 8 w0 ∧ Bd 8 w1 ∧ Bd 8 w2 ∧ ∀ a b : Int, Bd 60 a → Bd 60 b → Q (.tup [.int a, .int b])) := by
  apply propext
  constructor
  · rintro ⟨x0, x1, x2, x3, x4, e, q⟩
    simp only [T3, List.cons.injEq, D.int.injEq, D.tup.injEq, D.lst.injEq, and_true, true_and] at e
    obtain ⟨rfl, e_xs, ⟨rfl, rfl, rfl⟩⟩ := e
    have f_xs := map_int_inj e_xs
    subst f_xs
    exact q
  · intro q; exact ⟨_, _, _, _, _, rfl, q⟩
def sp_is_fair (κ : Cls) : DSp := fun ds Q Ed => ∃ (ps : List Dt) (g0 g1 g2 : Int) (col : D), ds = [.lst false (ps.map dtD), T3 g0 g1 g2, col] ∧ (col = .non ∧ ps.length ≤ 60 ∧ Bd 1000 g0 ∧ Bd 1000 g1 ∧ Bd 1000 g2 ∧ (∀ p ∈ ps, GD p) ∧ Q (.bl (fairF (gv g0 g1 g2) ps)))
theorem sp_is_fair_eq (κ : Cls) (ps : List Dt) (g0 g1 g2 : Int) (col : D) (Q : D → Prop) (Ed : Value → Prop) : sp_is_fair κ [.lst false (ps.map dtD), T3 g0 g1 g2, col] Q Ed = (col = .non ∧ ps.length ≤ 60 ∧ Bd 1000 g0 ∧ Bd 1000 g1 ∧ Bd 1000 g2 ∧ (∀ p ∈ ps, GD p) ∧ Q (.bl (fairF (gv g0 g1 g2) ps))) := by
  apply propext
  constructor
  · rintro ⟨x0, x1, x2, x3, x4, e, q⟩
    simp only [T3, List.cons.injEq, D.int.injEq, D.tup.injEq, D.lst.injEq, and_true, true_and] at e
    obtain ⟨e_ps, ⟨rfl, rfl, rfl⟩, rfl⟩ := e
    have f_ps := dts_inj e_ps
    subst f_ps
    exact q
  · intro q; exact ⟨_, _, _, _, _, rfl, q⟩
def sp_first_fair (κ : Cls) : DSp := fun ds Q Ed => ∃ (ps : List Dt) (rs : List (Nat × Nat)) (cs : D), ds = [.lst false (ps.map dtD), .lst false (rs.map prD), cs] ∧ (cs = .tup [.non] ∧ ps.length ≤ 60 ∧ (∀ p ∈ ps, GD p) ∧ (∀ ij ∈ rs, ij.1 < ps.length ∧ ij.2 < ps.length ∧ sp2 (gp ps ij.1) ≠ sp2 (gp ps ij.2)) ∧ Q (prO (rs.find? fun ij => fairF (tqf ps ij) ps)))
theorem sp_first_fair_eq (κ : Cls) (ps : List Dt) (rs : List (Nat × Nat)) (cs : D) (Q : D → Prop) (Ed : Value → Prop) : sp_first_fair κ [.lst false (ps.map dtD), .lst false (rs.map prD), cs] Q Ed = (cs = .tup [.non] ∧ ps.length ≤ 60 ∧ (∀ p ∈ ps, GD p) ∧ (∀ ij ∈ rs, ij.1 < ps.length ∧ ij.2 < ps.length ∧ sp2 (gp ps ij.1) ≠ sp2 (gp ps ij.2)) ∧ Q (prO (rs.find? fun ij => fairF (tqf ps ij) ps))) := by
  apply propext
  constructor
  · rintro ⟨x0, x1, x2, e, q⟩
    simp only [T3, List.cons.injEq, D.int.injEq, D.tup.injEq, D.lst.injEq, and_true, true_and] at e
    obtain ⟨e_ps, e_rs, rfl⟩ := e
    have f_ps := dts_inj e_ps
    subst f_ps
    have f_rs := prs_inj e_rs
    subst f_rs
    exact q
  · intro q; exact ⟨_, _, _, rfl, q⟩
def sp_quarters (κ : Cls) : DSp := fun ds Q Ed => ∃ (ps : List Dt) (g0 g1 g2 : Int) (o0 o1 o2 : Int), ds = [.lst false (ps.map dtD), T3 g0 g1 g2, T3 o0 o1 o2] ∧ (Bd 1000 g0 ∧ Bd 1000 g1 ∧ Bd 1000 g2 ∧ Bd 1000 o0 ∧ Bd 1000 o1 ∧ Bd 1000 o2 ∧ ps.length ≤ 60 ∧ (∀ p ∈ ps, GD p) ∧ Q (.lst true ((fours (gv g0 g1 g2) (gv o0 o1 o2) ps).map D.int)))
theorem sp_quarters_eq (κ : Cls) (ps : List Dt) (g0 g1 g2 : Int) (o0 o1 o2 : Int) (Q : D → Prop) (Ed : Value → Prop) : sp_quarters κ [.lst false (ps.map dtD), T3 g0 g1 g2, T3 o0 o1 o2] Q Ed = (Bd 1000 g0 ∧ Bd 1000 g1 ∧ Bd 1000 g2 ∧ Bd 1000 o0 ∧ Bd 1000 o1 ∧ Bd 1000 o2 ∧ ps.length ≤ 60 ∧ (∀ p ∈ ps, GD p) ∧ Q (.lst true ((fours (gv g0 g1 g2) (gv o0 o1 o2) ps).map D.int))) := by
  apply propext
  constructor
  · rintro ⟨x0, x1, x2, x3, x4, x5, x6, e, q⟩
    simp only [T3, List.cons.injEq, D.int.injEq, D.tup.injEq, D.lst.injEq, and_true, true_and] at e
    obtain ⟨e_ps, ⟨rfl, rfl, rfl⟩, ⟨rfl, rfl, rfl⟩⟩ := e
    have f_ps := dts_inj e_ps
    subst f_ps
    exact q
  · intro q; exact ⟨_, _, _, _, _, _, _, rfl, q⟩
def sp_first_quartering (κ : Cls) : DSp := fun ds Q Ed => ∃ (ps : List Dt) (rs : List (Nat × Nat)) (g0 g1 g2 : Int), ds = [.lst false (ps.map dtD), .lst false (rs.map prD), T3 g0 g1 g2] ∧ (ps.length ≤ 60 ∧ Bd 1000 g0 ∧ Bd 1000 g1 ∧ Bd 1000 g2 ∧ (∀ p ∈ ps, GD p) ∧ (∀ ij ∈ rs, ij.1 < ps.length ∧ ij.2 < ps.length ∧ sp2 (gp ps ij.1) ≠ sp2 (gp ps ij.2)) ∧ Q (prO (rs.find? fun ij => quB (gv g0 g1 g2) (tqf ps ij) ps)))
theorem sp_first_quartering_eq (κ : Cls) (ps : List Dt) (rs : List (Nat × Nat)) (g0 g1 g2 : Int) (Q : D → Prop) (Ed : Value → Prop) : sp_first_quartering κ [.lst false (ps.map dtD), .lst false (rs.map prD), T3 g0 g1 g2] Q Ed = (ps.length ≤ 60 ∧ Bd 1000 g0 ∧ Bd 1000 g1 ∧ Bd 1000 g2 ∧ (∀ p ∈ ps, GD p) ∧ (∀ ij ∈ rs, ij.1 < ps.length ∧ ij.2 < ps.length ∧ sp2 (gp ps ij.1) ≠ sp2 (gp ps ij.2)) ∧ Q (prO (rs.find? fun ij => quB (gv g0 g1 g2) (tqf ps ij) ps))) := by
  apply propext
  constructor
  · rintro ⟨x0, x1, x2, x3, x4, e, q⟩
    simp only [T3, List.cons.injEq, D.int.injEq, D.tup.injEq, D.lst.injEq, and_true, true_and] at e
    obtain ⟨e_ps, e_rs, ⟨rfl, rfl, rfl⟩⟩ := e
    have f_ps := dts_inj e_ps
    subst f_ps
    have f_rs := prs_inj e_rs
    subst f_rs
    exact q
  · intro q; exact ⟨_, _, _, _, _, rfl, q⟩
def sp_quartered (κ : Cls) : DSp := fun ds Q Ed => ∃ (ps : List Dt), ds = [.lst false (ps.map dtD)] ∧ (ps.length ≤ 60 ∧ (∀ p ∈ ps, GD p) ∧ Pos ps ∧ Q (quO ps))
theorem sp_quartered_eq (κ : Cls) (ps : List Dt) (Q : D → Prop) (Ed : Value → Prop) : sp_quartered κ [.lst false (ps.map dtD)] Q Ed = (ps.length ≤ 60 ∧ (∀ p ∈ ps, GD p) ∧ Pos ps ∧ Q (quO ps)) := by
  apply propext
  constructor
  · rintro ⟨x0, e, q⟩
    simp only [T3, List.cons.injEq, D.int.injEq, D.tup.injEq, D.lst.injEq, and_true, true_and] at e
    have e_ps := e
    have f_ps := dts_inj e_ps
    subst f_ps
    exact q
  · intro q; exact ⟨_, rfl, q⟩
def sp_law_dots (κ : Cls) : DSp := fun ds Q Ed => ∃ (f : Int) (cs : List Int) (m : Int), ds = [.int f, .lst false (cs.map D.int), .int m] ∧ (cs.length ≤ 63 ∧ 0 ≤ m ∧ m ≤ 30 ∧ ∀ ps : List Dt, ps.length ≤ 30 → (∀ p ∈ ps, GD p) → Pos ps → Q (.lst true (ps.map dtD)))
theorem sp_law_dots_eq (κ : Cls) (f : Int) (cs : List Int) (m : Int) (Q : D → Prop) (Ed : Value → Prop) : sp_law_dots κ [.int f, .lst false (cs.map D.int), .int m] Q Ed = (cs.length ≤ 63 ∧ 0 ≤ m ∧ m ≤ 30 ∧ ∀ ps : List Dt, ps.length ≤ 30 → (∀ p ∈ ps, GD p) → Pos ps → Q (.lst true (ps.map dtD))) := by
  apply propext
  constructor
  · rintro ⟨x0, x1, x2, e, q⟩
    simp only [T3, List.cons.injEq, D.int.injEq, D.tup.injEq, D.lst.injEq, and_true, true_and] at e
    obtain ⟨rfl, e_cs, rfl⟩ := e
    have f_cs := map_int_inj e_cs
    subst f_cs
    exact q
  · intro q; exact ⟨_, _, _, rfl, q⟩
def sp_law_pairs (κ : Cls) : DSp := fun ds Q Ed => ∃ (ps : List Dt), ds = [.lst false (ps.map dtD)] ∧ (ps.length ≤ 60 ∧ Q (.lst true ((sps ps).map prD)))
theorem sp_law_pairs_eq (κ : Cls) (ps : List Dt) (Q : D → Prop) (Ed : Value → Prop) : sp_law_pairs κ [.lst false (ps.map dtD)] Q Ed = (ps.length ≤ 60 ∧ Q (.lst true ((sps ps).map prD))) := by
  apply propext
  constructor
  · rintro ⟨x0, e, q⟩
    simp only [T3, List.cons.injEq, D.int.injEq, D.tup.injEq, D.lst.injEq, and_true, true_and] at e
    have e_ps := e
    have f_ps := dts_inj e_ps
    subst f_ps
    exact q
  · intro q; exact ⟨_, rfl, q⟩
def sp_law_gauge (κ : Cls) : DSp := fun ds Q Ed => ∃ (ps : List Dt) (ij : (Nat × Nat)) (b : Int), ds = [.lst false (ps.map dtD), prD ij, .int b] ∧ (ij.1 < ps.length ∧ ij.2 < ps.length ∧ (∀ p ∈ ps, GD p) ∧ Bd 8 b ∧ ∀ c0 c1 c2 : Int, Bd 1000 c0 → Bd 1000 c1 → Bd 1000 c2 → (∀ z, gv c0 c1 c2 z = b * tqf ps ij z) → Q (T3 c0 c1 c2))
theorem sp_law_gauge_eq (κ : Cls) (ps : List Dt) (ij : (Nat × Nat)) (b : Int) (Q : D → Prop) (Ed : Value → Prop) : sp_law_gauge κ [.lst false (ps.map dtD), prD ij, .int b] Q Ed = (ij.1 < ps.length ∧ ij.2 < ps.length ∧ (∀ p ∈ ps, GD p) ∧ Bd 8 b ∧ ∀ c0 c1 c2 : Int, Bd 1000 c0 → Bd 1000 c1 → Bd 1000 c2 → (∀ z, gv c0 c1 c2 z = b * tqf ps ij z) → Q (T3 c0 c1 c2)) := by
  apply propext
  constructor
  · rintro ⟨x0, x1, x2, e, q⟩
    simp only [T3, List.cons.injEq, D.int.injEq, D.tup.injEq, D.lst.injEq, and_true, true_and] at e
    obtain ⟨e_ps, e_ij, rfl⟩ := e
    have f_ps := dts_inj e_ps
    subst f_ps
    have f_ij := prD_inj e_ij
    subst f_ij
    exact q
  · intro q; exact ⟨_, _, _, rfl, q⟩
def sp_law_sides (κ : Cls) : DSp := fun ds Q Ed => ∃ (ps : List Dt) (g0 g1 g2 : Int), ds = [.lst false (ps.map dtD), T3 g0 g1 g2] ∧ (Bd 1000 g0 ∧ Bd 1000 g1 ∧ Bd 1000 g2 ∧ ps.length ≤ 60 ∧ (∀ p ∈ ps, GD p) ∧ Q (.lst true ((ps.map fun z => sg (gv g0 g1 g2 z)).map D.int)))
theorem sp_law_sides_eq (κ : Cls) (ps : List Dt) (g0 g1 g2 : Int) (Q : D → Prop) (Ed : Value → Prop) : sp_law_sides κ [.lst false (ps.map dtD), T3 g0 g1 g2] Q Ed = (Bd 1000 g0 ∧ Bd 1000 g1 ∧ Bd 1000 g2 ∧ ps.length ≤ 60 ∧ (∀ p ∈ ps, GD p) ∧ Q (.lst true ((ps.map fun z => sg (gv g0 g1 g2 z)).map D.int))) := by
  apply propext
  constructor
  · rintro ⟨x0, x1, x2, x3, e, q⟩
    simp only [T3, List.cons.injEq, D.int.injEq, D.tup.injEq, D.lst.injEq, and_true, true_and] at e
    obtain ⟨e_ps, ⟨rfl, rfl, rfl⟩⟩ := e
    have f_ps := dts_inj e_ps
    subst f_ps
    exact q
  · intro q; exact ⟨_, _, _, _, rfl, q⟩
def sp_law_weight (κ : Cls) : DSp := fun ds Q Ed => ∃ (ps : List Dt) (ss : List Int) (os : List Int) (a : Int) (b : Int), ds = [.lst false (ps.map dtD), .lst false (ss.map D.int), .lst false (os.map D.int), .int a, .int b] ∧ (∃ f g : Dt → Int, ss = ps.map (fun z => sg (f z)) ∧ os = ps.map (fun z => sg (g z)) ∧ Q (.int (qf f g a b ps)))
theorem sp_law_weight_eq (κ : Cls) (ps : List Dt) (ss : List Int) (os : List Int) (a : Int) (b : Int) (Q : D → Prop) (Ed : Value → Prop) : sp_law_weight κ [.lst false (ps.map dtD), .lst false (ss.map D.int), .lst false (os.map D.int), .int a, .int b] Q Ed = (∃ f g : Dt → Int, ss = ps.map (fun z => sg (f z)) ∧ os = ps.map (fun z => sg (g z)) ∧ Q (.int (qf f g a b ps))) := by
  apply propext
  constructor
  · rintro ⟨x0, x1, x2, x3, x4, e, q⟩
    simp only [T3, List.cons.injEq, D.int.injEq, D.tup.injEq, D.lst.injEq, and_true, true_and] at e
    obtain ⟨e_ps, e_ss, e_os, rfl, rfl⟩ := e
    have f_ps := dts_inj e_ps
    subst f_ps
    have f_ss := map_int_inj e_ss
    subst f_ss
    have f_os := map_int_inj e_os
    subst f_os
    exact q
  · intro q; exact ⟨_, _, _, _, _, rfl, q⟩
def sp_law_four (κ : Cls) : DSp := fun ds Q Ed => ∃ (ps : List Dt) (ss : List Int) (os : List Int), ds = [.lst false (ps.map dtD), .lst false (ss.map D.int), .lst false (os.map D.int)] ∧ (∃ f g : Dt → Int, ss = ps.map (fun z => sg (f z)) ∧ os = ps.map (fun z => sg (g z)) ∧ Q (.lst true ((fours f g ps).map D.int)))
theorem sp_law_four_eq (κ : Cls) (ps : List Dt) (ss : List Int) (os : List Int) (Q : D → Prop) (Ed : Value → Prop) : sp_law_four κ [.lst false (ps.map dtD), .lst false (ss.map D.int), .lst false (os.map D.int)] Q Ed = (∃ f g : Dt → Int, ss = ps.map (fun z => sg (f z)) ∧ os = ps.map (fun z => sg (g z)) ∧ Q (.lst true ((fours f g ps).map D.int))) := by
  apply propext
  constructor
  · rintro ⟨x0, x1, x2, e, q⟩
    simp only [T3, List.cons.injEq, D.int.injEq, D.tup.injEq, D.lst.injEq, and_true, true_and] at e
    obtain ⟨e_ps, e_ss, e_os⟩ := e
    have f_ps := dts_inj e_ps
    subst f_ps
    have f_ss := map_int_inj e_ss
    subst f_ss
    have f_os := map_int_inj e_os
    subst f_os
    exact q
  · intro q; exact ⟨_, _, _, rfl, q⟩
def sp_law_due (κ : Cls) : DSp := fun ds Q Ed => ∃ (ps : List Dt), ds = [.lst false (ps.map dtD)] ∧ (ps.length ≤ 60 ∧ (∀ p ∈ ps, GD p) ∧ Pos ps ∧ Q (quO ps))
theorem sp_law_due_eq (κ : Cls) (ps : List Dt) (Q : D → Prop) (Ed : Value → Prop) : sp_law_due κ [.lst false (ps.map dtD)] Q Ed = (ps.length ≤ 60 ∧ (∀ p ∈ ps, GD p) ∧ Pos ps ∧ Q (quO ps)) := by
  apply propext
  constructor
  · rintro ⟨x0, e, q⟩
    simp only [T3, List.cons.injEq, D.int.injEq, D.tup.injEq, D.lst.injEq, and_true, true_and] at e
    have e_ps := e
    have f_ps := dts_inj e_ps
    subst f_ps
    exact q
  · intro q; exact ⟨_, rfl, q⟩
def sp_law_is (κ : Cls) : DSp := fun ds Q Ed => ∃ (found : D) (due : D), ds = [found, due] ∧ (∃ ps, Pos ps ∧ found = quO ps ∧ due = quO ps ∧ Q (.bl true))
theorem sp_law_is_eq (κ : Cls) (found : D) (due : D) (Q : D → Prop) (Ed : Value → Prop) : sp_law_is κ [found, due] Q Ed = (∃ ps, Pos ps ∧ found = quO ps ∧ due = quO ps ∧ Q (.bl true)) := by
  apply propext
  constructor
  · rintro ⟨x0, x1, e, q⟩
    simp only [T3, List.cons.injEq, D.int.injEq, D.tup.injEq, D.lst.injEq, and_true, true_and] at e
    obtain ⟨rfl, rfl⟩ := e
    exact q
  · intro q; exact ⟨_, _, rfl, q⟩
def sp_law_counted (κ : Cls) : DSp := fun ds Q Ed => ∃ (ps : List Dt) (g0 g1 g2 : Int) (o0 o1 o2 : Int), ds = [.lst false (ps.map dtD), T3 g0 g1 g2, T3 o0 o1 o2] ∧ (Bd 1000 g0 ∧ Bd 1000 g1 ∧ Bd 1000 g2 ∧ Bd 1000 o0 ∧ Bd 1000 o1 ∧ Bd 1000 o2 ∧ ps.length ≤ 60 ∧ (∀ p ∈ ps, GD p) ∧ Q (.bl true))
theorem sp_law_counted_eq (κ : Cls) (ps : List Dt) (g0 g1 g2 : Int) (o0 o1 o2 : Int) (Q : D → Prop) (Ed : Value → Prop) : sp_law_counted κ [.lst false (ps.map dtD), T3 g0 g1 g2, T3 o0 o1 o2] Q Ed = (Bd 1000 g0 ∧ Bd 1000 g1 ∧ Bd 1000 g2 ∧ Bd 1000 o0 ∧ Bd 1000 o1 ∧ Bd 1000 o2 ∧ ps.length ≤ 60 ∧ (∀ p ∈ ps, GD p) ∧ Q (.bl true)) := by
  apply propext
  constructor
  · rintro ⟨x0, x1, x2, x3, x4, x5, x6, e, q⟩
    simp only [T3, List.cons.injEq, D.int.injEq, D.tup.injEq, D.lst.injEq, and_true, true_and] at e
    obtain ⟨e_ps, ⟨rfl, rfl, rfl⟩, ⟨rfl, rfl, rfl⟩⟩ := e
    have f_ps := dts_inj e_ps
    subst f_ps
    exact q
  · intro q; exact ⟨_, _, _, _, _, _, _, rfl, q⟩
def sp_law_drawn (κ : Cls) : DSp := fun ds Q Ed => ∃ (c : Int), ds = [.int c] ∧ (∀ a b d : Int, Bd 1000 a → Bd 1000 b → Bd 1000 d → Q (T3 a b d))
theorem sp_law_drawn_eq (κ : Cls) (c : Int) (Q : D → Prop) (Ed : Value → Prop) : sp_law_drawn κ [.int c] Q Ed = (∀ a b d : Int, Bd 1000 a → Bd 1000 b → Bd 1000 d → Q (T3 a b d)) := by
  apply propext
  constructor
  · rintro ⟨x0, e, q⟩
    simp only [T3, List.cons.injEq, D.int.injEq, D.tup.injEq, D.lst.injEq, and_true, true_and] at e
    obtain rfl := e
    exact q
  · intro q; exact ⟨_, rfl, q⟩
section
variable {P : Program} {w : World} {K : PySem.W.Frag} {mg : Str → Option Value} {base : Heap} {κ : Cls}
local macro_rules | `(tactic| walk_at "rd") => `(tactic| try simp only [dSeq, dNext, dSet, dRet, dIfS, dOp, dB, dAnd, dOr, dNot, dAndV, dNotV, dIf, dNeg, dC, dCons, dNil, dTup, dLst, dCall, dCB, dIs, dVar_0, dVar_S, set_0, set_S, rdI_int, rdI0_int, rdEq, rdNe, int_bl, okD_int', okD_bl', okD_non', eqD_int, eqD_bl, it_lst, dIter, dOwn, dAppend, dFreeze, exown_0, exown_S, dComp, dAll, getV_0, getV_n, getV_S, List.map_cons, List.map_nil, gd2t, untag_int, untag_bl, untag_non, untag_tup, untag_lst, untags_nil, untags_cons, untags_ints, rdIx_tup, rdIx_lst, ex_bl, ex_int, ex_some, at0, at1, at2, at3, List.append_nil, List.cons_append, List.nil_append, len_lst, len_tup, isT_tup, isT_lst, isT_lst_t, isT_int, isT_bool_i, isNon_non, isNon_tup, true_and, false_and, and_false, false_or, or_false, exists_false, dFor, dRng2, dRng1, rng2_eq, rng1_eq, gdName, dAsg, Bool.false_eq_true, Bool.true_eq_false, if_false, if_true, decide_eq_true_eq, Bool.not_eq_eq_eq_not, Bool.not_true, Bool.not_false, decide_eq_false_iff_not, ite_not, add_ii, add_ll, dDix, dDAug, dOwnDk, dpCons, dpNil, dSoft, dSoftT, dNew, dSlL, dSeqs, dPart, dNoPart, dCallF, dOwnF, dOwnM, exob_0, exob_S, seq_lst, allT_bl, allT_int, allT_non, dIterT, it_tup, dSlT, List.set_cons_zero, List.set_cons_succ, dExtend, exdt_0, exdt_S, exl_t, dDinT, dDAugT, dVals, dOwnDtL, dkCons, dkNil, dZip3, dForAsk, sp_sign_eq, sp_value_eq, sp_side_eq, sp_place_of_eq, sp_spot_of_eq, sp_of_colour_eq, sp_total_eq, sp_weighed_eq, sp_law_whole_eq, sp_law_cell_at_eq, sp_common_divisor_eq, sp_reduced_eq, sp_is_level_eq, sp_crossed_eq, sp_picks_eq, sp_line_eq, sp_on_two_spots_eq, sp_spot_pairs_eq, sp_pair_line_eq, sp_is_even_eq, sp_law_stream_eq, sp_law_spot_eq, sp_is_fair_eq, sp_first_fair_eq, sp_quarters_eq, sp_first_quartering_eq, sp_quartered_eq, sp_law_dots_eq, sp_law_pairs_eq, sp_law_gauge_eq, sp_law_sides_eq, sp_law_weight_eq, sp_law_four_eq, sp_law_due_eq, sp_law_is_eq, sp_law_counted_eq, sp_law_drawn_eq, untags_dots, untag_dot, untag_pr, untags_prs, untag_prO, gd3t])
local macro_rules | `(tactic| walk_at "rx") => `(tactic| try simp only [dSeq, dNext, dSet, dRet, dIfS, dOp, dB, dAnd, dOr, dNot, dAndV, dNotV, dIf, dNeg, dC, dCons, dNil, dTup, dLst, dCall, dCB, dIs, dVar_0, dVar_S, set_0, set_S, rdI_int, rdI0_int, rdEq, rdNe, int_bl, okD_int', okD_bl', okD_non', eqD_int, eqD_bl, it_lst, dIter, dOwn, dAppend, dFreeze, exown_0, exown_S, dAll, getV_0, getV_n, getV_S, List.map_cons, List.map_nil, gd2t, untag_int, untag_bl, untag_non, untag_tup, untag_lst, untags_nil, untags_cons, untags_ints, rdIx_tup, rdIx_lst, ex_bl, ex_int, ex_some, at0, at1, at2, at3, List.append_nil, List.cons_append, List.nil_append, len_lst, len_tup, isT_tup, isT_lst, isT_lst_t, isT_int, isT_bool_i, isNon_non, isNon_tup, true_and, false_and, and_false, false_or, or_false, exists_false, dRng2, dRng1, rng2_eq, rng1_eq, gdName, dAsg, Bool.false_eq_true, Bool.true_eq_false, if_false, if_true, decide_eq_true_eq, Bool.not_eq_eq_eq_not, Bool.not_true, Bool.not_false, decide_eq_false_iff_not, ite_not, add_ii, add_ll, dDix, dDAug, dOwnDk, dpCons, dpNil, dSoft, dSoftT, dNew, dSlL, dSeqs, dPart, dNoPart, dCallF, dOwnF, dOwnM, exob_0, exob_S, seq_lst, allT_bl, allT_int, allT_non, dIterT, it_tup, dSlT, List.set_cons_zero, List.set_cons_succ, dExtend, exdt_0, exdt_S, exl_t, dDinT, dDAugT, dVals, dOwnDtL, dkCons, dkNil, dZip3, dForAsk, sp_sign_eq, sp_value_eq, sp_side_eq, sp_place_of_eq, sp_spot_of_eq, sp_of_colour_eq, sp_total_eq, sp_weighed_eq, sp_law_whole_eq, sp_law_cell_at_eq, sp_common_divisor_eq, sp_reduced_eq, sp_is_level_eq, sp_crossed_eq, sp_picks_eq, sp_line_eq, sp_on_two_spots_eq, sp_spot_pairs_eq, sp_pair_line_eq, sp_is_even_eq, sp_law_stream_eq, sp_law_spot_eq, sp_is_fair_eq, sp_first_fair_eq, sp_quarters_eq, sp_first_quartering_eq, sp_quartered_eq, sp_law_dots_eq, sp_law_pairs_eq, sp_law_gauge_eq, sp_law_sides_eq, sp_law_weight_eq, sp_law_four_eq, sp_law_due_eq, sp_law_is_eq, sp_law_counted_eq, sp_law_drawn_eq, untags_dots, untag_dot, untag_pr, untags_prs, untag_prO, gd3t])
theorem ok_sign {f : Addr} {fd : FuncData} (F : FunD K "sign" "sign" s_sign f fd) (C : COk K mg κ)   : FnOk P w K mg base (CX1 P w) 1 f fd ["number"] (spOf K (sp_sign κ)) := by
  refine FunD.okN F sc_sign (fun ds Q E h => by obtain ⟨_, rfl, _⟩ := h; rfl) fun cdv A outer s H E hr => ⟨_, (dss_cons (ds_if (dt_cmp od_gt (dv 0) de_int) (dss_one (ds_ret de_int)) dss_nil) (dss_cons (ds_if (dt_cmp od_lt (dv 0) de_int) (dss_one (ds_ret (de_neg de_int))) dss_nil) (dss_one (ds_ret de_int)))), ?_⟩
  rintro ds Q Ed ⟨n, rfl, h⟩
  have e0 : startD ["number"] [.int n] = ([some (.val (.int n))] : Ro) := rfl
  rw [e0]; clear e0
  walk_at "rd"
  unfold sg at h
  split
  · rename_i h0; rw [if_pos h0] at h; exact h
  · rename_i h0
    rw [if_neg h0] at h
    split
    · rename_i h1; rw [if_pos h1] at h; exact h
    · rename_i h1; rw [if_neg h1] at h; exact h
theorem ok_value {f : Addr} {fd : FuncData} (F : FunD K "value" "value" s_value f fd) (C : COk K mg κ)   : FnOk P w K mg base (CX1 P w) 1 f fd ["gauge", "place"] (spOf K (sp_value κ)) := by
  refine FunD.okN F sc_value (fun ds Q E h => by obtain ⟨_, _, _, _, _, _, rfl, _⟩ := h; rfl) fun cdv A outer s H E hr => ⟨_, (dss_one (ds_ret (de_op od_plus (de_op od_plus (de_op od_mul (de_ix (dv 0) de_int) (de_ix (dv 1) de_int)) (de_op od_mul (de_ix (dv 0) de_int) (de_ix (dv 1) de_int))) (de_op od_mul (de_ix (dv 0) de_int) (de_ix (dv 1) de_int))))), ?_⟩
  rintro ds Q Ed ⟨g0, g1, g2, p0, p1, p2, rfl, h⟩
  have e0 : startD ["gauge", "place"] [T3 g0 g1 g2, T3 p0 p1 p2] = ([some (.val (T3 g0 g1 g2)), some (.val (T3 p0 p1 p2))] : Ro) := rfl
  rw [e0]; clear e0
  obtain ⟨h0, h1, h2, k0, k1, k2, h⟩ := h
  have cm : ∀ {x y : Int}, Bd 1000 x → Bd 1000 y → CM x y := fun hx hy => .inr (.inr ⟨hx.mono (by decide), hy.mono (by decide)⟩)
  walk_at "rd"
  exact ⟨cm h0 k0, cm h1 k1, cm h2 k2, h⟩
theorem ok_side {f : Addr} {fd : FuncData} (F : FunD K "side" "side" s_side f fd) (C : COk K mg κ) (h_sign : Has P w K mg base "sign" 1 ["number"] (sp_sign κ)) (h_value : Has P w K mg base "value" 1 ["gauge", "place"] (sp_value κ))  : FnOk P w K mg base (CX1 P w) 2 f fd ["gauge", "place"] (spOf K (sp_side κ)) := by
  refine FunD.okN F sc_side (fun ds Q E h => by obtain ⟨_, _, _, _, _, _, rfl, _⟩ := h; rfl) fun cdv A outer s H E hr => ⟨_, (dss_one (ds_ret (de_call h_sign (hr.mono (by decide)) (da_cons (de_call h_value (hr.mono (by decide)) (da_cons (dv 0) (da_cons (dv 1) da_nil))) da_nil)))), ?_⟩
  rintro ds Q Ed ⟨g0, g1, g2, p0, p1, p2, rfl, h⟩
  have e0 : startD ["gauge", "place"] [T3 g0 g1 g2, T3 p0 p1 p2] = ([some (.val (T3 g0 g1 g2)), some (.val (T3 p0 p1 p2))] : Ro) := rfl
  rw [e0]; clear e0
  obtain ⟨h0, h1, h2, k0, k1, k2, h⟩ := h
  walk_at "rd"
  exact ⟨h0, h1, h2, k0, k1, k2, h⟩
theorem ok_place_of {f : Addr} {fd : FuncData} (F : FunD K "place_of" "place_of" s_place_of f fd) (C : COk K mg κ)   : FnOk P w K mg base (CX1 P w) 1 f fd ["spot"] (spOf K (sp_place_of κ)) := by
  refine FunD.okN F sc_place_of (fun ds Q E h => by obtain ⟨_, _, rfl, _⟩ := h; rfl) fun cdv A outer s H E hr => ⟨_, (dss_one (ds_ret (de_tup (da_cons de_int (da_cons (de_ix (dv 0) de_int) (da_cons (de_ix (dv 0) de_int) da_nil)))))), ?_⟩
  rintro ds Q Ed ⟨a, b, rfl, h⟩
  have e0 : startD ["spot"] [.tup [.int a, .int b]] = ([some (.val (.tup [.int a, .int b]))] : Ro) := rfl
  rw [e0]; clear e0
  walk_at "rd"
  exact ⟨sz3 _ _ _, h⟩
theorem ok_spot_of {f : Addr} {fd : FuncData} (F : FunD K "spot_of" "spot_of" s_spot_of f fd) (C : COk K mg κ)   : FnOk P w K mg base (CX1 P w) 1 f fd ["dot"] (spOf K (sp_spot_of κ)) := by
  refine FunD.okN F sc_spot_of (fun ds Q E h => by obtain ⟨_, rfl, _⟩ := h; rfl) fun cdv A outer s H E hr => ⟨_, (dss_one (ds_ret (de_tup (da_cons (de_ix (dv 0) de_int) (da_cons (de_ix (dv 0) de_int) da_nil))))), ?_⟩
  rintro ds Q Ed ⟨p, rfl, h⟩
  have e0 : startD ["dot"] [dtD p] = ([some (.val (dtD p))] : Ro) := rfl
  rw [e0]; clear e0
  unfold dtD
  walk_at "rd"
  exact ⟨sz2 _ _, h⟩
theorem ok_of_colour {f : Addr} {fd : FuncData} (F : FunD K "of_colour" "of_colour" s_of_colour f fd) (C : COk K mg κ)   : FnOk P w K mg base (CX1 P w) 1 f fd ["dots", "colour"] (spOf K (sp_of_colour κ)) := by
  refine FunD.okN F sc_of_colour (fun ds Q E h => by obtain ⟨_, _, rfl, _⟩ := h; rfl) fun cdv A outer s H E hr => ⟨_, (dss_one (ds_ret (de_comp (by rfl) (by exact csc_dec (osc := defScope s_of_colour) (xs := ["dot"]) (ns := ["colour"]) (by decide +kernel)) (Caps.cons 1 Caps.nil) (id_list (dv 0)) (fun _ _ _ _ _ => (ts_one (dw_or (dt_cmp od_isN (dv 1) de_non) (dw_or1 (dt_cmp (od_eq (by exact hr.units)) (de_ix (dv 0) de_int) (dv 1)))).pt)) (fun _ _ _ _ _ => (dv 0))))), ?_⟩
  rintro ds Q Ed ⟨ps, col, rfl, h⟩
  have e0 : startD ["dots", "colour"] [.lst false (ps.map dtD), col] = ([some (.val (.lst false (ps.map dtD))), some (.val (col))] : Ro) := rfl
  rw [e0]; clear e0
  obtain ⟨cs, hc, hl, h⟩ := h
  walk_at "rx"
  refine PD.comp_map ps dtD (fun p => cs p.2.2.1) dtD (fun R q => ?_) (by rw [sizeLine_eq]; omega) (fun p hp K hk => ?_) (fun p hp _ K hk => ?_) h
  · walk_at "rd"
    exact q
  · unfold dtD
    rcases hc with ⟨rfl, rfl⟩ | ⟨k, rfl, rfl⟩
    · walk_at "rd"
      exact hk
    · walk_at "rd"
      exact hk
  · walk_at "rd"
    exact hk
theorem ok_total {f : Addr} {fd : FuncData} (F : FunD K "total" "total" s_total f fd) (C : COk K mg κ) (h_of_colour : Has P w K mg base "of_colour" 1 ["dots", "colour"] (sp_of_colour κ)) (z_sum : mg "sum" = none) : FnOk P w K mg base (CX1 P w) 2 f fd ["dots", "colour"] (spOf K (sp_total κ)) := by
  refine FunD.okN F sc_total (fun ds Q E h => by obtain ⟨_, _, rfl, _⟩ := h; rfl) fun cdv A outer s H E hr => ⟨_, (dss_one (ds_ret (de_callB (cd_sum rfl) (by rfl) z_sum boot_sum (da_cons (de_comp (by rfl) (by exact csc_dec (osc := defScope s_total) (xs := ["dot"]) (ns := []) (by decide +kernel)) Caps.nil (id_list (de_call h_of_colour (hr.mono (by decide)) (da_cons (dv 0) (da_cons (dv 1) da_nil)))) (fun _ _ _ _ _ => ts_nil) (fun _ _ _ _ _ => (de_ix (dv 0) de_int))) da_nil)))), ?_⟩
  rintro ds Q Ed ⟨ps, col, rfl, h⟩
  have e0 : startD ["dots", "colour"] [.lst false (ps.map dtD), col] = ([some (.val (.lst false (ps.map dtD))), some (.val (col))] : Ro) := rfl
  rw [e0]; clear e0
  obtain ⟨cs, hc, hl, h⟩ := h
  have hu := hc.unt
  unfold tot at h
  walk_at "rx"
  refine PD.comp_map (ps.filter fun p => cs p.2.2.1) dtD (fun _ => true) (fun p => .int p.2.2.2) (fun R q => ?_) (by have := List.length_filter_le (fun p : Dt => cs p.2.2.1) ps; rw [sizeLine_eq]; omega) (fun p hp K hk => ?_) (fun p hp _ K hk => ?_) ⟨true, (ps.filter fun p => cs p.2.2.1).map fun p => p.2.2.2, by simp [List.map_map, Function.comp_def], h⟩
  · walk_at "rd"
    simp only [hu]
    exact ⟨cs, hc, hl, q⟩
  · walk_at "rd"
    exact hk
  · unfold dtD
    walk_at "rd"
    exact hk
theorem ok_weighed {f : Addr} {fd : FuncData} (F : FunD K "weighed" "weighed" s_weighed f fd) (C : COk K mg κ) (h_of_colour : Has P w K mg base "of_colour" 1 ["dots", "colour"] (sp_of_colour κ)) (h_place_of : Has P w K mg base "place_of" 1 ["spot"] (sp_place_of κ)) (h_side : Has P w K mg base "side" 2 ["gauge", "place"] (sp_side κ)) (h_spot_of : Has P w K mg base "spot_of" 1 ["dot"] (sp_spot_of κ))  : FnOk P w K mg base (CX1 P w) 3 f fd ["dots", "gauge", "colour"] (spOf K (sp_weighed κ)) := by
  refine FunD.okN F sc_weighed (fun ds Q E h => by obtain ⟨_, _, _, _, _, rfl, _⟩ := h; rfl) fun cdv A outer s H E hr => ⟨_, (dss_cons (ds_ownDk 3 sc_weighed.nd (dp_cons (de_neg de_int) de_int (dp_cons de_int de_int (dp_cons de_int de_int dp_nil)))) (dss_cons (ds_for PassesOwn.never rfl (id_list (de_call h_of_colour (hr.mono (by decide)) (da_cons (dv 0) (da_cons (dv 2) da_nil)))) (gd_name 4 sc_weighed.nd) (dss_one (ds_daug 3 (by exact hu_of hr) (de_call h_side (hr.mono (by decide)) (da_cons (dv 1) (da_cons (de_call h_place_of (hr.mono (by decide)) (da_cons (de_call h_spot_of (hr.mono (by decide)) (da_cons (dv 4) da_nil)) da_nil)) da_nil))) (de_ix (dv 4) de_int)))) (dss_one (ds_ret (de_tup (da_cons (de_dix 3 (by exact hu_of hr) (de_neg de_int)) (da_cons (de_dix 3 (by exact hu_of hr) de_int) (da_cons (de_dix 3 (by exact hu_of hr) de_int) da_nil)))))))), ?_⟩
  rintro ds Q Ed ⟨ps, g0, g1, g2, col, rfl, h⟩
  have e0 : startD ["dots", "gauge", "colour", "weights", "dot"] [.lst false (ps.map dtD), T3 g0 g1 g2, col] = ([some (.val (.lst false (ps.map dtD))), some (.val (T3 g0 g1 g2)), some (.val (col)), none, none] : Ro) := rfl
  rw [e0]; clear e0
  obtain ⟨cs, hc, hl, h0, h1, h2, hg, h⟩ := h
  have hu := hc.unt
  walk_at "rx"
  refine ⟨[(.inl (-1), .int 0), (.inl 0, .int 0), (.inl 1, .int 0)], rfl, by decide, by decide, ?_⟩
  refine PD.for_map (ps.filter fun p => cs p.2.2.1) dtD (fun done ρ => ∃ v, ρ = [some (.val (.lst false (ps.map dtD))), some (.val (T3 g0 g1 g2)), some (.val col), some (.ob (.dk [(.inl (-1), .int (w3 g0 g1 g2 (-1) done)), (.inl 0, .int (w3 g0 g1 g2 0 done)), (.inl 1, .int (w3 g0 g1 g2 1 done))])), v]) (fun R q => ?_) ⟨none, rfl⟩ ?_ ?_
  · walk_at "rd"
    simp only [hu]
    exact ⟨cs, hc, hl, q⟩
  · rintro done p ρ' hp hlt ⟨v, rfl⟩
    have G := hg p (List.mem_filter.mp hp).1
    have e : g0 * 1 + g1 * p.1 + g2 * p.2.1 = gv g0 g1 g2 p := by unfold gv; omega
    walk_at "rd"
    refine ⟨h0, h1, h2, Bd.mono (m := 2) (by unfold Bd; decide) (by decide), G.x.mono (by decide), G.y.mono (by decide), ?_⟩
    rw [e]
    have sn := w3_snoc g0 g1 g2
    rcases sg3 (gv g0 g1 g2 p) with z | z | z
    · refine ⟨.inl (-1), _, by rw [z]; rfl, rfl, ?_⟩
      unfold dtD
      walk_at "rd"
      refine ⟨by rw [sizeLine_eq]; show 3 < 16777216; decide, some (.val (.tup [.int p.1, .int p.2.1, .int p.2.2.1, .int p.2.2.2])), ?_⟩
      rw [put3a, sn, sn, sn, z]
      simp
    · refine ⟨.inl 0, _, by rw [z]; rfl, rfl, ?_⟩
      unfold dtD
      walk_at "rd"
      refine ⟨by rw [sizeLine_eq]; show 3 < 16777216; decide, some (.val (.tup [.int p.1, .int p.2.1, .int p.2.2.1, .int p.2.2.2])), ?_⟩
      rw [put3b, sn, sn, sn, z]
      simp
    · refine ⟨.inl 1, _, by rw [z]; rfl, rfl, ?_⟩
      unfold dtD
      walk_at "rd"
      refine ⟨by rw [sizeLine_eq]; show 3 < 16777216; decide, some (.val (.tup [.int p.1, .int p.2.1, .int p.2.2.1, .int p.2.2.2])), ?_⟩
      rw [put3c, sn, sn, sn, z]
      simp
  · rintro ρ' ⟨v, rfl⟩
    walk_at "rd"
    exact ⟨.inl (-1), _, rfl, rfl, .inl 0, _, rfl, rfl, .inl 1, _, rfl, rfl, sz3 _ _ _, h⟩
theorem ok_law_whole {f : Addr} {fd : FuncData} (F : FunD K "_law_whole" "_law_whole" s_law_whole f fd) (C : COk K mg κ)  (z_bool : mg "bool" = none) (z_int : mg "int" = none) (z_isinstance : mg "isinstance" = none) : FnOk P w K mg base (CX1 P w) 1 f fd ["_law_found"] (spOf K (sp_law_whole κ)) := by
  refine FunD.okN F sc_law_whole (fun ds Q E h => by obtain ⟨_, rfl, _⟩ := h; rfl) fun cdv A outer s H E hr => ⟨_, (dss_one (ds_ret (de_and (de_isinst (by rfl) z_isinstance (by rfl) z_int boot_int (.inl rfl) (dv 0)) (de_one (de_not (de_isinst (by rfl) z_isinstance (by rfl) z_bool boot_bool (.inr (.inl rfl)) (dv 0))))))), ?_⟩
  rintro ds Q Ed ⟨a, rfl, h⟩
  have e0 : startD ["_law_found"] [.int a] = ([some (.val (.int a))] : Ro) := rfl
  rw [e0]; clear e0
  walk_at "rd"
  exact h
theorem ok_law_cell_at {f : Addr} {fd : FuncData} (F : FunD K "_law_cell_at" "_law_cell_at" s_law_cell_at f fd) (C : COk K mg κ)  (z_len : mg "len" = none) : FnOk P w K mg base (CX1 P w) 1 f fd ["_law_script", "_law_k"] (spOf K (sp_law_cell_at κ)) := by
  refine FunD.okN F sc_law_cell_at (fun ds Q E h => by obtain ⟨_, _, rfl, _⟩ := h; rfl) fun cdv A outer s H E hr => ⟨_, (dss_cons (ds_if (dt_cmp od_lt (dv 1) (de_callB cd_len (by rfl) z_len boot_len (da_cons (dv 0) da_nil))) (dss_one (ds_ret (de_ix (dv 0) (dv 1)))) dss_nil) (dss_one (ds_ret de_int))), ?_⟩
  rintro ds Q Ed ⟨ns, k, rfl, h⟩
  have e0 : startD ["_law_script", "_law_k"] [.lst false (ns.map D.int), .int k] = ([some (.val (.lst false (ns.map D.int))), some (.val (.int k))] : Ro) := rfl
  rw [e0]; clear e0
  obtain ⟨hk, hn, h⟩ := h
  walk_at "rd"
  by_cases hl : k < ((ns.map D.int).length : Int)
  · rw [if_pos (by simpa using hl)]
    rw [List.length_map] at hl
    exact ⟨_, atI_ints hk hl, h _⟩
  · rw [if_neg (by simpa using hl)]
    exact h 0
theorem ok_common_divisor {f : Addr} {fd : FuncData} (F : FunD K "common_divisor" "common_divisor" s_common_divisor f fd) (C : COk K mg κ)  (z_abs : mg "abs" = none) : FnOk P w K mg base (CX1 P w) 1 f fd ["one", "other"] (spOf K (sp_common_divisor κ)) := by
  refine FunD.okN F sc_common_divisor (fun ds Q E h => by obtain ⟨_, _, rfl, _⟩ := h; rfl) fun cdv A outer s H E hr => ⟨_, (dss_cons (ds_while PassesOwn.never (dt_cmp od_neI (dv 1) de_int) (dss_cons (ds_set 2 sc_common_divisor.nd (de_op od_mod (dv 0) (dv 1))) (dss_cons (ds_set 0 sc_common_divisor.nd (dv 1)) (dss_one (ds_set 1 sc_common_divisor.nd (dv 2)))))) (dss_one (ds_ret (de_callB cd_abs (by rfl) z_abs boot_abs (da_cons (dv 0) da_nil))))), ?_⟩
  rintro ds Q Ed ⟨a, b, rfl, h⟩
  have e0 : startD ["one", "other", "rest"] [.int a, .int b] = ([some (.val (.int a)), some (.val (.int b)), none] : Ro) := rfl
  rw [e0]; clear e0
  refine ⟨fun m ρ => ∃ (x y : Int) (r : Option Sl), ρ = [some (.val (.int x)), some (.val (.int y)), r] ∧ Int.gcd x y = Int.gcd a b ∧ m = y.natAbs, ⟨_, a, b, none, rfl, rfl, rfl⟩, ?_⟩
  rintro m ρ ⟨x, y, r, rfl, hg, rfl⟩
  walk_at "rd"
  by_cases hy : y = 0
  · subst hy
    rw [PM.gcd_zero'] at hg
    rw [if_pos rfl, hg]
    exact h
  · rw [if_neg hy]
    exact ⟨hy, _, PM.fmod_less x hy, y, x.fmod y, _, rfl, (PM.gcd_step x y).trans hg, rfl⟩
theorem ok_reduced {f : Addr} {fd : FuncData} (F : FunD K "reduced" "reduced" s_reduced f fd) (C : COk K mg κ) (h_common_divisor : Has P w K mg base "common_divisor" 1 ["one", "other"] (sp_common_divisor κ))  : FnOk P w K mg base (CX1 P w) 2 f fd ["triple", "lead"] (spOf K (sp_reduced κ)) := by
  refine FunD.okN F sc_reduced (fun ds Q E h => by obtain ⟨_, _, _, _, rfl, _⟩ := h; rfl) fun cdv A outer s H E hr => ⟨_, (dss_cons (ds_set 2 sc_reduced.nd (de_call h_common_divisor (hr.mono (by decide)) (da_cons (de_call h_common_divisor (hr.mono (by decide)) (da_cons (de_ix (dv 0) de_int) (da_cons (de_ix (dv 0) de_int) da_nil))) (da_cons (de_ix (dv 0) de_int) da_nil)))) (dss_cons (ds_if (dt_cmp od_lt (dv 1) de_int) (dss_one (ds_set 2 sc_reduced.nd (de_neg (dv 2)))) dss_nil) (dss_one (ds_ret (de_tup (da_cons (de_op od_fdiv (de_ix (dv 0) de_int) (dv 2)) (da_cons (de_op od_fdiv (de_ix (dv 0) de_int) (dv 2)) (da_cons (de_op od_fdiv (de_ix (dv 0) de_int) (dv 2)) da_nil)))))))), ?_⟩
  rintro ds Q Ed ⟨x, y, z, l, rfl, h⟩
  have e0 : startD ["triple", "lead", "divisor"] [T3 x y z, .int l] = ([some (.val (T3 x y z)), some (.val (.int l)), none] : Ro) := rfl
  rw [e0]; clear e0
  obtain ⟨hz, bx, by', bz, h⟩ := h
  have hne := PM.dv3_ne (l := l) hz
  have hbd := (bd_dv3 (l := l) hz bx by' bz).mono (show 4000 ≤ 8000 by decide)
  walk_at "rd"
  have eg : ((Int.gcd (Int.gcd x y : Int) z : Nat) : Int) = (PM.g3 x y z : Int) := rfl
  rw [eg]
  have fin : ∀ g : Int, g = PM.dv3 x y z l → CD x g ∧ CD y g ∧ CD z g ∧ ([D.int (x.fdiv g), .int (y.fdiv g), .int (z.fdiv g)] : List D).length ≤ sizeLine ∧ Q (.tup [.int (x.fdiv g), .int (y.fdiv g), .int (z.fdiv g)]) := by
    rintro g rfl
    exact ⟨⟨hne, hbd⟩, ⟨hne, hbd⟩, ⟨hne, hbd⟩, sz3 _ _ _, h⟩
  by_cases hl : l < 0
  · rw [if_pos (by simpa using hl)]
    exact fin _ (by unfold PM.dv3; rw [if_pos hl])
  · rw [if_neg (by simpa using hl)]
    exact fin _ (by unfold PM.dv3; rw [if_neg hl])
theorem ok_is_level {f : Addr} {fd : FuncData} (F : FunD K "is_level" "is_level" s_is_level f fd) (C : COk K mg κ)   : FnOk P w K mg base (CX1 P w) 1 f fd ["gauge"] (spOf K (sp_is_level κ)) := by
  refine FunD.okN F sc_is_level (fun ds Q E h => by obtain ⟨_, _, _, rfl, _⟩ := h; rfl) fun cdv A outer s H E hr => ⟨_, (dss_one (ds_ret (de_and (de_cmp od_eqI (de_ix (dv 0) de_int) de_int) (de_one (de_cmp od_eqI (de_ix (dv 0) de_int) de_int))))), ?_⟩
  rintro ds Q Ed ⟨g0, g1, g2, rfl, h⟩
  have e0 : startD ["gauge"] [T3 g0 g1 g2] = ([some (.val (T3 g0 g1 g2))] : Ro) := rfl
  rw [e0]; clear e0
  walk_at "rd"
  by_cases e1 : g1 = 0
  · rw [if_pos e1]
    by_cases e2 : g2 = 0
    · rw [decide_eq_true e2]
      rw [decide_eq_true ⟨e1, e2⟩] at h
      exact h
    · rw [decide_eq_false e2]
      rw [decide_eq_false (fun z => e2 z.2)] at h
      exact h
  · rw [if_neg e1]
    rw [decide_eq_false (fun z => e1 z.1)] at h
    exact h
theorem ok_crossed {f : Addr} {fd : FuncData} (F : FunD K "crossed" "crossed" s_crossed f fd) (C : COk K mg κ)   : FnOk P w K mg base (CX1 P w) 1 f fd ["one", "other"] (spOf K (sp_crossed κ)) := by
  refine FunD.okN F sc_crossed (fun ds Q E h => by obtain ⟨_, _, _, _, _, _, rfl, _⟩ := h; rfl) fun cdv A outer s H E hr => ⟨_, (dss_one (ds_ret (de_tup (da_cons (de_op od_sub (de_op od_mul (de_ix (dv 0) de_int) (de_ix (dv 1) de_int)) (de_op od_mul (de_ix (dv 1) de_int) (de_ix (dv 0) de_int))) (da_cons (de_op od_sub (de_op od_mul (de_ix (dv 0) de_int) (de_ix (dv 1) de_int)) (de_op od_mul (de_ix (dv 1) de_int) (de_ix (dv 0) de_int))) (da_cons (de_op od_sub (de_op od_mul (de_ix (dv 0) de_int) (de_ix (dv 1) de_int)) (de_op od_mul (de_ix (dv 1) de_int) (de_ix (dv 0) de_int))) da_nil)))))), ?_⟩
  rintro ds Q Ed ⟨a0, a1, a2, b0, b1, b2, rfl, h⟩
  have e0 : startD ["one", "other"] [T3 a0 a1 a2, T3 b0 b1 b2] = ([some (.val (T3 a0 a1 a2)), some (.val (T3 b0 b1 b2))] : Ro) := rfl
  rw [e0]; clear e0
  obtain ⟨h0, h1, h2, k0, k1, k2, h⟩ := h
  have cm : ∀ {x y : Int}, Bd 200 x → Bd 200 y → CM x y := fun hx hy => .inr (.inr ⟨hx.mono (by decide), hy.mono (by decide)⟩)
  walk_at "rd"
  exact ⟨cm h1 k2, cm k1 h2, cm h2 k0, cm k2 h0, cm h0 k1, cm k0 h1, sz3 _ _ _, h⟩
theorem ok_picks {f : Addr} {fd : FuncData} (F : FunD K "picks" "picks" s_picks f fd) (C : COk K mg κ)  (z_range : mg "range" = none) : FnOk P w K mg base (CX1 P w) 1 f fd ["count", "size"] (spOf K (sp_picks κ)) := by
  refine FunD.okN F sc_picks (fun ds Q E h => by obtain ⟨_, _, rfl, _⟩ := h; rfl) fun cdv A outer s H E hr => ⟨_, (dss_cons (ds_set 2 sc_picks.nd (de_lst (da_cons (de_lst da_nil) da_nil))) (dss_cons (ds_for PassesOwn.never rfl (id_range1 (by rfl) z_range (da_cons (dv 1) da_nil)) (gd_name 3 sc_picks.nd) (dss_cons (ds_own 4 sc_picks.nd da_nil) (dss_cons (ds_for PassesOwn.never rfl (id_list (dv 2)) (gd_name 5 sc_picks.nd) (dss_cons (ds_set 6 sc_picks.nd (de_ifExp (dt_cmp od_gt (dv 3) de_int) (de_op od_plus (de_ix (dv 5) (de_neg de_int)) de_int) de_int)) (dss_one (ds_extend 4 (de_comp (by rfl) (by exact csc_dec (osc := defScope s_picks) (xs := ["number"]) (ns := ["pick"]) (by decide +kernel)) (Caps.cons 5 Caps.nil) (id_range2 (by rfl) z_range (da_cons (dv 6) (da_cons (dv 0) da_nil))) (fun _ _ _ _ _ => ts_nil) (fun _ _ _ _ _ => (de_op od_plus (dv 1) (de_lst (da_cons (dv 0) da_nil))))))))) (dss_freeze 4 (dss_one (ds_set 2 sc_picks.nd (dv 4))))))) (dss_one (ds_ret (dv 2))))), ?_⟩
  rintro ds Q Ed ⟨n, s, rfl, h⟩
  have e0 : startD ["count", "size", "found", "length", "longer", "pick", "first"] [.int n, .int s] = ([some (.val (.int n)), some (.val (.int s)), none, none, none, none, none] : Ro) := rfl
  rw [e0]; clear e0
  obtain ⟨m, t, rfl, rfl, hm, ht, h⟩ := h
  have sz : ∀ j, j ≤ 3 → (lev m j).length ≤ 216000 := fun j hj => Nat.le_trans (lev_len m j) (Nat.le_trans (Nat.pow_le_pow_left hm j) (Nat.le_trans (Nat.pow_le_pow_right (by decide) hj) (by decide)))
  walk_at "rx"
  refine ⟨Nat.zero_le _, by rw [sizeLine_eq]; decide, ?_⟩
  refine PD.for_mapI (List.range' 0 t) (fun (k : Nat) => D.int (k : Int)) (fun j ρ => ∃ v3 v4 v5 v6 : Option Sl, ρ = [some (.val (.int m)), some (.val (.int t)), some (.val (.lst true ((lev m j).map pkD))), v3, v4, v5, v6]) (fun R q => ?_) ⟨none, none, none, none, rfl⟩ ?_ ?_
  · walk_at "rd"
    rw [rng0]
    exact ⟨⟨by omega, by omega⟩, q⟩
  · rintro j x ρ' hx ⟨v3, v4, v5, v6, rfl⟩
    obtain ⟨hj, ex⟩ := List.getElem?_eq_some_iff.mp hx
    rw [List.length_range'] at hj
    rw [List.getElem_range'] at ex
    have ex' : x = j := by omega
    subst ex'
    walk_at "rx"
    refine ⟨Nat.zero_le _, ?_⟩
    refine PD.for_map (lev m x) pkD (fun done ρ => ∃ v5 v6 : Option Sl, ρ = [some (.val (.int m)), some (.val (.int t)), some (.val (.lst true ((lev m x).map pkD))), some (.val (.int x)), some (.own ((done.flatMap (nxt m)).map pkD)), v5, v6]) (fun R q => ?_) ⟨_, _, rfl⟩ ?_ ?_
    · walk_at "rd"
      exact q
    · rintro done pk ρ2 hpk hlt ⟨v5, v6, rfl⟩
      obtain ⟨hlen, hlt'⟩ := lev_mem hpk
      have hf : fstOf pk ≤ m := by
        unfold fstOf
        cases e : pk.getLast? with
        | none => exact Nat.zero_le _
        | some l => have := hlt' l (List.mem_of_getLast? e); exact this
      have dl : done.length * m ≤ 216000 * 60 := Nat.mul_le_mul (Nat.le_trans (Nat.le_of_lt hlt) (sz x (by omega))) hm
      have fl := flat_len m done
      have nl : (nxt m pk).length ≤ 60 := by unfold nxt; rw [List.length_map, List.length_range']; omega
      have rest : ∀ (v : D) (Qd : D → Prop), v = .int (fstOf pk) → Qd (.lst true ((nxt m pk).map pkD)) → dComp (dRng2 (dCons (dVar 6) (dCons (dVar 0) dNil))) [5] dAll (dOp rdAdd (dVar 1) (dLst (dCons (dVar 0) dNil))) [some (.val (.int m)), some (.val (.int t)), some (.val (.lst true ((lev m x).map pkD))), some (.val (.int x)), some (.own ((done.flatMap (nxt m)).map pkD)), some (.val (pkD pk)), some (.val v)] Qd := by
        rintro v Qd rfl hQ
        refine PD.comp_map (List.range' (fstOf pk) (m - fstOf pk)) (fun (k : Nat) => D.int (k : Int)) (fun _ => true) (fun k => pkD (pk ++ [k])) (fun R q => ?_) (by rw [List.length_range', sizeLine_eq]; omega) (fun k hk K hK => ?_) (fun k hk _ K hK => ?_) ?_
        · walk_at "rd"
          rw [rng_nat]
          exact ⟨⟨by omega, by omega⟩, ⟨by omega, by omega⟩, q⟩
        · walk_at "rd"
          exact hK
        · unfold pkD at hK ⊢
          walk_at "rd"
          rw [List.map_append] at hK
          refine ⟨sz1 _, ?_, hK⟩
          rw [List.length_map, sizeLine_eq, hlen]
          show x + 1 ≤ _
          omega
        · rw [List.filter_eq_self.mpr (fun _ _ => rfl)]
          unfold nxt at hQ
          rw [List.map_map] at hQ
          exact hQ
      have end_ : ∀ v : D, ∃ xs, D.lst true ((nxt m pk).map pkD) = D.lst true xs ∧ (List.map pkD (List.flatMap (nxt m) done)).length + xs.length ≤ sizeLine ∧ ∃ v5 v6 : Option Sl, ([some (Sl.val (D.int m)), some (Sl.val (D.int t)), some (Sl.val (D.lst true (List.map pkD (lev m x)))), some (Sl.val (D.int x)), some (Sl.own (List.map pkD (List.flatMap (nxt m) done) ++ xs)), some (Sl.val (pkD pk)), some (Sl.val v)] : Ro) = [some (Sl.val (D.int m)), some (Sl.val (D.int t)), some (Sl.val (D.lst true (List.map pkD (lev m x)))), some (Sl.val (D.int x)), some (Sl.own (List.map pkD (List.flatMap (nxt m) (done ++ [pk])))), v5, v6] := fun v =>
        ⟨_, rfl, by rw [List.length_map, List.length_map, sizeLine_eq]; omega, _, _, by rw [List.flatMap_append, List.map_append, List.flatMap_singleton]⟩
      walk_at "rx"
      by_cases hx0 : x = 0
      · subst hx0
        have : pk = [] := List.eq_nil_of_length_eq_zero hlen
        subst this
        rw [if_neg (by omega)]
        exact rest _ _ rfl (end_ _)
      · rw [if_pos (by omega)]
        have hne : pk ≠ [] := fun e => hx0 (by rw [← hlen, e]; rfl)
        show rdIx (.lst true (pk.map fun (k : Nat) => D.int (k : Int))) _ _
        rw [rdIx_lst]
        refine at_last hne ?_
        rw [add_ii]
        exact rest _ _ (by congr 1; omega) (end_ _)
    · rintro ρ2 ⟨v5, v6, rfl⟩
      walk_at "rd"
      exact ⟨_, _, _, _, rfl⟩
  · rintro ρ' ⟨v3, v4, v5, v6, rfl⟩
    walk_at "rd"
    rw [List.length_range']
    exact h
theorem ok_line {f : Addr} {fd : FuncData} (F : FunD K "line" "line" s_line f fd) (C : COk K mg κ) (h_crossed : Has P w K mg base "crossed" 1 ["one", "other"] (sp_crossed κ)) (h_is_level : Has P w K mg base "is_level" 1 ["gauge"] (sp_is_level κ)) (h_reduced : Has P w K mg base "reduced" 2 ["triple", "lead"] (sp_reduced κ))  : FnOk P w K mg base (CX1 P w) 3 f fd ["one", "other"] (spOf K (sp_line κ)) := by
  refine FunD.okN F sc_line (fun ds Q E h => by obtain ⟨_, _, _, _, _, _, rfl, _⟩ := h; rfl) fun cdv A outer s H E hr => ⟨_, (dss_cons (ds_set 2 sc_line.nd (de_call h_crossed (hr.mono (by decide)) (da_cons (dv 0) (da_cons (dv 1) da_nil)))) (dss_cons (ds_if (dt_val (de_call h_is_level (hr.mono (by decide)) (da_cons (dv 2) da_nil))) (dss_one ds_never) dss_nil) (dss_one (ds_ret (de_call h_reduced (hr.mono (by decide)) (da_cons (dv 2) (da_cons (de_ifExp (dt_cmp od_neI (de_ix (dv 2) de_int) de_int) (de_ix (dv 2) de_int) (de_ix (dv 2) de_int)) da_nil))))))), ?_⟩
  rintro ds Q Ed ⟨a0, a1, a2, b0, b1, b2, rfl, h⟩
  have e0 : startD ["one", "other", "gauge"] [T3 a0 a1 a2, T3 b0 b1 b2] = ([some (.val (T3 a0 a1 a2)), some (.val (T3 b0 b1 b2)), none] : Ro) := rfl
  rw [e0]; clear e0
  obtain ⟨h0, h1, h2, k0, k1, k2, hz, h⟩ := h
  have B0 := bd_cross h1 k2 k1 h2
  have B1 := bd_cross h2 k0 k2 h0
  have B2 := bd_cross h0 k1 k0 h1
  walk_at "rd"
  refine ⟨h0, h1, h2, k0, k1, k2, ?_⟩
  walk_at "rd"
  rw [if_neg hz]
  generalize a1 * b2 - b1 * a2 = x at *
  generalize a2 * b0 - b2 * a0 = y at *
  generalize a0 * b1 - b0 * a1 = z at *
  have hz' : ¬ (x = 0 ∧ y = 0 ∧ z = 0) := fun e => hz e.2
  have fin : ∀ l : Int, Q (T3 (x.fdiv (PM.dv3 x y z l)) (y.fdiv (PM.dv3 x y z l)) (z.fdiv (PM.dv3 x y z l))) := fun l => by
    have dn := PM.dv3_ne (l := l) hz'
    exact h _ _ _ _ (bd_fdiv dn (PM.dv3_dvd (PM.g3_1 _ _ _)) B0) (bd_fdiv dn (PM.dv3_dvd (PM.g3_2 _ _ _)) B1) (bd_fdiv dn (PM.dv3_dvd (PM.g3_3 _ _ _)) B2) dn (PM.red_mul (PM.g3_1 x y z)) (PM.red_mul (PM.g3_2 x y z)) (PM.red_mul (PM.g3_3 x y z))
  split
  · exact ⟨hz', B0.mono (by decide), B1.mono (by decide), B2.mono (by decide), fin _⟩
  · exact ⟨hz', B0.mono (by decide), B1.mono (by decide), B2.mono (by decide), fin _⟩
theorem ok_on_two_spots {f : Addr} {fd : FuncData} (F : FunD K "on_two_spots" "on_two_spots" s_on_two_spots f fd) (C : COk K mg κ) (h_spot_of : Has P w K mg base "spot_of" 1 ["dot"] (sp_spot_of κ))  : FnOk P w K mg base (CX1 P w) 2 f fd ["dots", "pair"] (spOf K (sp_on_two_spots κ)) := by
  refine FunD.okN F sc_on_two_spots (fun ds Q E h => by obtain ⟨_, _, rfl, _⟩ := h; rfl) fun cdv A outer s H E hr => ⟨_, (dss_one (ds_ret (de_cmp (od_ne (by exact hr.units)) (de_call h_spot_of (hr.mono (by decide)) (da_cons (de_ix (dv 0) (de_ix (dv 1) de_int)) da_nil)) (de_call h_spot_of (hr.mono (by decide)) (da_cons (de_ix (dv 0) (de_ix (dv 1) de_int)) da_nil))))), ?_⟩
  rintro ds Q Ed ⟨ps, ij, rfl, h⟩
  have e0 : startD ["dots", "pair"] [.lst false (ps.map dtD), prD ij] = ([some (.val (.lst false (ps.map dtD))), some (.val (prD ij))] : Ro) := rfl
  rw [e0]; clear e0
  obtain ⟨h1, h2, h⟩ := h
  unfold prD
  walk_at "rd"
  refine gp_at h1 ?_
  walk_at "rd"
  refine gp_at h2 ?_
  walk_at "rd"
  refine ⟨(okN_p2 _ _).ok, (okN_p2 _ _).ok, ?_⟩
  rw [ne_sp2]
  exact h
theorem ok_spot_pairs {f : Addr} {fd : FuncData} (F : FunD K "spot_pairs" "spot_pairs" s_spot_pairs f fd) (C : COk K mg κ) (h_on_two_spots : Has P w K mg base "on_two_spots" 2 ["dots", "pair"] (sp_on_two_spots κ)) (h_picks : Has P w K mg base "picks" 1 ["count", "size"] (sp_picks κ)) (z_len : mg "len" = none) : FnOk P w K mg base (CX1 P w) 3 f fd ["dots"] (spOf K (sp_spot_pairs κ)) := by
  refine FunD.okN F sc_spot_pairs (fun ds Q E h => by obtain ⟨_, rfl, _⟩ := h; rfl) fun cdv A outer s H E hr => ⟨_, (dss_cons (ds_setComp 1 sc_spot_pairs.nd (by rfl) (by exact csc_dec (osc := defScope s_spot_pairs) (xs := ["pick"]) (ns := []) (by decide +kernel)) Caps.nil (id_list (de_call h_picks (hr.mono (by decide)) (da_cons (de_callB cd_len (by rfl) z_len boot_len (da_cons (dv 0) da_nil)) (da_cons de_int da_nil)))) (fun _ _ _ _ _ => ts_nil) (fun _ _ _ _ _ => (de_tup (da_cons (de_ix (dv 0) de_int) (da_cons (de_ix (dv 0) de_int) da_nil))))) (dss_one (ds_ret (de_comp (by rfl) (by exact csc_dec (osc := defScope s_spot_pairs) (xs := ["pair"]) (ns := ["dots"]) (by decide +kernel)) (Caps.cons 0 Caps.nil) (id_list (dv 1)) (fun _ _ _ _ _ => (ts_one (dt_val (de_call h_on_two_spots (hr.mono (by decide)) (da_cons (dv 1) (da_cons (dv 0) da_nil)))))) (fun _ _ _ _ _ => (dv 0)))))), ?_⟩
  rintro ds Q Ed ⟨ps, rfl, h⟩
  have e0 : startD ["dots", "pairs"] [.lst false (ps.map dtD)] = ([some (.val (.lst false (ps.map dtD))), none] : Ro) := rfl
  rw [e0]; clear e0
  obtain ⟨hl, h⟩ := h
  have hz : (prs ps.length).length ≤ sizeLine := by
    have e := lev_len ps.length 2
    rw [lev2, List.length_map] at e
    have : ps.length ^ 2 ≤ 60 ^ 2 := Nat.pow_le_pow_left hl 2
    rw [sizeLine_eq]
    omega
  walk_at "rx"
  refine PD.comp_map (prs ps.length) (fun ij => pkD [ij.1, ij.2]) (fun _ => true) prD (fun R q => ?_) hz (fun ij hij K hK => ?_) (fun ij hij _ K hK => ?_) ?_
  · walk_at "rd"
    refine ⟨ps.length, 2, by rw [List.length_map], rfl, hl, by decide, ?_⟩
    rw [lev2, List.map_map]
    exact q
  · walk_at "rd"
    exact hK
  · unfold pkD
    walk_at "rd"
    exact ⟨sz2 _ _, hK⟩
  · rw [List.filter_eq_self.mpr (fun _ _ => rfl)]
    walk_at "rx"
    refine PD.comp_map (prs ps.length) prD (fun ij => decide (sp2 (gp ps ij.1) ≠ sp2 (gp ps ij.2))) prD (fun R q => ?_) hz (fun ij hij K hK => ?_) (fun ij hij _ K hK => ?_) h
    · walk_at "rd"
      exact q
    · have m := mem_prs.mp (show (ij.1, ij.2) ∈ prs ps.length from hij)
      walk_at "rd"
      exact ⟨by omega, by omega, hK⟩
    · walk_at "rd"
      exact hK
theorem ok_pair_line {f : Addr} {fd : FuncData} (F : FunD K "pair_line" "pair_line" s_pair_line f fd) (C : COk K mg κ) (h_line : Has P w K mg base "line" 3 ["one", "other"] (sp_line κ)) (h_place_of : Has P w K mg base "place_of" 1 ["spot"] (sp_place_of κ)) (h_spot_of : Has P w K mg base "spot_of" 1 ["dot"] (sp_spot_of κ))  : FnOk P w K mg base (CX1 P w) 4 f fd ["dots", "pair"] (spOf K (sp_pair_line κ)) := by
  refine FunD.okN F sc_pair_line (fun ds Q E h => by obtain ⟨_, _, rfl, _⟩ := h; rfl) fun cdv A outer s H E hr => ⟨_, (dss_one (ds_ret (de_call h_line (hr.mono (by decide)) (da_cons (de_call h_place_of (hr.mono (by decide)) (da_cons (de_call h_spot_of (hr.mono (by decide)) (da_cons (de_ix (dv 0) (de_ix (dv 1) de_int)) da_nil)) da_nil)) (da_cons (de_call h_place_of (hr.mono (by decide)) (da_cons (de_call h_spot_of (hr.mono (by decide)) (da_cons (de_ix (dv 0) (de_ix (dv 1) de_int)) da_nil)) da_nil)) da_nil))))), ?_⟩
  rintro ds Q Ed ⟨ps, ij, rfl, h⟩
  have e0 : startD ["dots", "pair"] [.lst false (ps.map dtD), prD ij] = ([some (.val (.lst false (ps.map dtD))), some (.val (prD ij))] : Ro) := rfl
  rw [e0]; clear e0
  obtain ⟨h1, h2, hG, ne, h⟩ := h
  have G1 := hG _ (gp_mem h1)
  have G2 := hG _ (gp_mem h2)
  unfold prD
  walk_at "rd"
  refine gp_at h1 ?_
  walk_at "rd"
  refine gp_at h2 ?_
  walk_at "rd"
  have one : Bd 200 1 := Bd.mono (m := 2) (by unfold Bd; decide) (by decide)
  generalize gp ps ij.1 = p at *
  generalize gp ps ij.2 = q at *
  refine ⟨one, G1.x.mono (by decide), G1.y.mono (by decide), one, G2.x.mono (by decide), G2.y.mono (by decide), ?_, ?_⟩
  · rintro ⟨e1, e2⟩
    refine ne ?_
    unfold sp2
    simp only [Prod.mk.injEq]
    omega
  · intro g0 g1 g2 m b0 b1 b2 hm e0 e1 e2
    refine h g0 g1 g2 m b0 b1 b2 hm fun z => ?_
    unfold gv tq
    rw [Int.add_mul, Int.add_mul, e0, Int.mul_right_comm g1, e1, Int.mul_right_comm g2, e2]
    simp only [Int.sub_mul, Int.mul_sub, Int.mul_one, Int.one_mul]
    rw [Int.mul_comm q.1 p.2.1, Int.mul_comm q.2.1 p.1, Int.mul_comm p.1 p.2.1]
    omega
theorem ok_is_even {f : Addr} {fd : FuncData} (F : FunD K "is_even" "is_even" s_is_even f fd) (C : COk K mg κ)  (z_max : mg "max" = none) : FnOk P w K mg base (CX1 P w) 1 f fd ["under", "over", "whole"] (spOf K (sp_is_even κ)) := by
  refine FunD.okN F sc_is_even (fun ds Q E h => by obtain ⟨_, _, _, rfl, _⟩ := h; rfl) fun cdv A outer s H E hr => ⟨_, (dss_one (ds_ret (de_cmp od_le (de_op od_mul de_int (de_callB (cd_max rfl) (by rfl) z_max boot_max (da_cons (dv 0) (da_cons (dv 1) da_nil)))) (dv 2)))), ?_⟩
  rintro ds Q Ed ⟨u, o, w, rfl, h⟩
  have e0 : startD ["under", "over", "whole"] [.int u, .int o, .int w] = ([some (.val (.int u)), some (.val (.int o)), some (.val (.int w))] : Ro) := rfl
  rw [e0]; clear e0
  walk_at "rd"
  exact ⟨.inl (by unfold Bd; decide), h⟩
theorem ok_law_stream {f : Addr} {fd : FuncData} (F : FunD K "_law_stream" "_law_stream" s_law_stream f fd) (C : COk K mg κ)  (z_range : mg "range" = none) : FnOk P w K mg base (CX1 P w) 1 f fd ["_law_cell", "_law_many"] (spOf K (sp_law_stream κ)) := by
  refine FunD.okN F sc_law_stream (fun ds Q E h => by obtain ⟨_, _, rfl, _⟩ := h; rfl) fun cdv A outer s H E hr => ⟨_, (dss_cons (ds_own 2 sc_law_stream.nd da_nil) (dss_cons (ds_set 3 sc_law_stream.nd (dv 0)) (dss_cons (ds_for PassesOwn.never rfl (id_range1 (by rfl) z_range (da_cons (dv 1) da_nil)) (gd_name 4 sc_law_stream.nd) (dss_cons (ds_append 2 (de_op od_mod (dv 3) (de_op od_pow de_int de_int))) (dss_one (ds_set 3 sc_law_stream.nd (de_op od_fdiv (dv 3) (de_op od_pow de_int de_int)))))) (dss_cons (ds_if (dt_cmp od_gt (dv 3) de_int) (dss_freeze 2 (dss_one (ds_ret (dv 2)))) dss_nil) (dss_cons (ds_own 2 sc_law_stream.nd da_nil) (dss_cons (ds_set 5 sc_law_stream.nd (de_op od_plus (de_op od_mod (dv 0) de_int) de_int)) (dss_cons (ds_set 6 sc_law_stream.nd (de_op od_plus (de_op od_mod (de_op od_fdiv (dv 0) de_int) de_int) de_int)) (dss_cons (ds_for PassesOwn.never rfl (id_range1 (by rfl) z_range (da_cons (dv 1) da_nil)) (gd_name 4 sc_law_stream.nd) (dss_cons (ds_set 5 sc_law_stream.nd (de_op od_mod (de_op od_plus (de_op od_plus (de_op od_mul (dv 5) de_int) (de_op od_mul (dv 4) (dv 4))) de_int) de_int)) (dss_cons (ds_set 6 sc_law_stream.nd (de_op od_mod (de_op od_plus (de_op od_mul (dv 6) de_int) (dv 5)) de_int)) (dss_one (ds_append 2 (de_op od_fdiv (dv 6) de_int)))))) (dss_freeze 2 (dss_one (ds_ret (dv 2)))))))))))), ?_⟩
  rintro ds Q Ed ⟨c, m, rfl, h⟩
  have e0 : startD ["_law_cell", "_law_many", "_law_found", "_law_rest", "_law_k", "_law_number", "_law_other"] [.int c, .int m] = ([some (.val (.int c)), some (.val (.int m)), none, none, none, none, none] : Ro) := rfl
  rw [e0]; clear e0
  obtain ⟨h0, h1, h⟩ := h
  obtain ⟨n, rfl⟩ : ∃ n : Nat, m = n := ⟨m.toNat, by omega⟩
  walk_at "rx"
  refine ⟨Nat.zero_le _, ?_⟩
  refine PD.for_mapI (List.range' 0 n) (fun (k : Nat) => D.int (k : Int)) (fun j ρ => ∃ (xs : List Int) (r : Int) (v : Option Sl), ρ = [some (.val (.int c)), some (.val (.int n)), some (.own (xs.map D.int)), some (.val (.int r)), v, none, none] ∧ xs.length = j ∧ ∀ x ∈ xs, 0 ≤ x ∧ x < 10000000000000) (fun R q => ?_) ⟨[], c, none, rfl, rfl, by simp⟩ ?_ ?_
  · walk_at "rd"
    rw [rng0]
    exact ⟨⟨by omega, by omega⟩, q⟩
  · rintro j k ρ' hj ⟨xs, r, v, rfl, hlen, hb⟩
    obtain ⟨hj', _⟩ := List.getElem?_eq_some_iff.mp hj
    rw [List.length_range'] at hj'
    walk_at "rd"
    rw [p13]
    have hf := fm (a := r) (b := 10000000000000) (by decide)
    refine ⟨cp13, by decide, by rw [List.length_map, sizeLine_eq]; omega, cp13, CD.lit, xs ++ [r.fmod 10000000000000], _, _, by rw [List.map_append]; rfl, by simp [hlen], ?_⟩
    intro z hz
    rcases List.mem_append.mp hz with q | q
    · exact hb z q
    · simp at q
      subst q
      exact hf
  · rintro ρ' ⟨xs, r, v, rfl, hlen, hb⟩
    rw [List.length_range'] at hlen
    walk_at "rx"
    split
    · exact h xs (by rw [hlen]; omega) hb
    · refine ⟨Nat.zero_le _, by decide, CD.lit, by decide, ?_⟩
      refine PD.for_mapI (List.range' 0 n) (fun (k : Nat) => D.int (k : Int)) (fun j ρ => ∃ (xs : List Int) (x y : Int) (v : Option Sl), ρ = [some (.val (.int c)), some (.val (.int n)), some (.own (xs.map D.int)), some (.val (.int r)), v, some (.val (.int x)), some (.val (.int y))] ∧ xs.length = j ∧ (∀ x ∈ xs, 0 ≤ x ∧ x < 10000000000000)) (fun R q => ?_) ⟨[], _, _, v, rfl, rfl, by simp⟩ ?_ ?_
      · walk_at "rd"
        rw [rng0]
        exact ⟨⟨by omega, by omega⟩, q⟩
      · rintro j k ρ' hj ⟨xs, x, y, v, rfl, hlen, hb⟩
        obtain ⟨hj', ek⟩ := List.getElem?_eq_some_iff.mp hj
        rw [List.length_range'] at hj'
        rw [List.getElem_range'] at ek
        walk_at "rd"
        have hf := fm (a := y * 69621 + (x * 48271 + (k : Int) * k + 11).fmod 2147483647) (b := 2147483629) (by decide)
        generalize (x * 48271 + (k : Int) * k + 11).fmod 2147483647 = x1 at hf ⊢
        generalize (y * 69621 + x1).fmod 2147483629 = y1 at hf ⊢
        refine ⟨.inr (.inl (by unfold Bd; decide)), .inl (by unfold Bd; omega), by decide, .inr (.inl (by unfold Bd; decide)), by decide, CD.lit, by rw [List.length_map, sizeLine_eq]; omega, xs ++ [y1.fdiv 7], _, _, _, by rw [List.map_append]; rfl, by simp [hlen], ?_⟩
        intro z hz
        rcases List.mem_append.mp hz with q | q
        · exact hb z q
        · simp at q
          subst q
          have e := Int.fdiv_eq_ediv_of_nonneg y1 (show (0 : Int) ≤ 7 by decide)
          rw [e]
          omega
      · rintro ρ' ⟨xs, x, y, v, rfl, hlen, hb⟩
        rw [List.length_range'] at hlen
        walk_at "rd"
        exact h xs (by rw [hlen]; omega) hb
theorem ok_law_spot {f : Addr} {fd : FuncData} (F : FunD K "_law_spot" "_law_spot" s_law_spot f fd) (C : COk K mg κ)   : FnOk P w K mg base (CX1 P w) 1 f fd ["_law_kind", "_law_xs", "_law_way"] (spOf K (sp_law_spot κ)) := by
  refine FunD.okN F sc_law_spot (fun ds Q E h => by obtain ⟨_, _, _, _, _, rfl, _⟩ := h; rfl) fun cdv A outer s H E hr => ⟨_, (dss_cons (ds_if (dt_cmp od_eqI (dv 0) de_int) (dss_one (ds_ret (de_tup (da_cons (de_op od_sub (de_op od_mod (de_ix (dv 1) de_int) de_int) de_int) (da_cons (de_op od_sub (de_op od_mod (de_ix (dv 1) de_int) de_int) de_int) da_nil))))) dss_nil) (dss_cons (ds_if (dt_cmp od_eqI (dv 0) de_int) (dss_one (ds_ret (de_tup (da_cons (de_op od_sub (de_op od_mod (de_ix (dv 1) de_int) de_int) de_int) (da_cons (de_op od_sub (de_op od_mod (de_ix (dv 1) de_int) de_int) de_int) da_nil))))) dss_nil) (dss_cons (ds_if (dt_cmp od_eqI (dv 0) de_int) (dss_cons (ds_set 3 sc_law_spot.nd (de_op od_sub (de_op od_mul de_int (de_op od_pow de_int de_int)) de_int)) (dss_one (ds_ret (de_tup (da_cons (de_op od_plus (de_op od_sub (de_op od_mod (de_op od_mul (de_ix (dv 1) de_int) de_int) (dv 3)) (de_op od_pow de_int de_int)) de_int) (da_cons (de_op od_plus (de_op od_sub (de_op od_mod (de_op od_mul (de_ix (dv 1) de_int) de_int) (dv 3)) (de_op od_pow de_int de_int)) de_int) da_nil)))))) dss_nil) (dss_cons (ds_if (dt_cmp od_eqI (dv 0) de_int) (dss_cons (ds_set 4 sc_law_spot.nd (de_op od_sub (de_op od_mod (de_ix (dv 1) de_int) de_int) de_int)) (dss_one (ds_ret (de_tup (da_cons (de_op od_plus (de_op od_mul (dv 4) (de_ix (dv 2) de_int)) (de_ix (dv 2) de_int)) (da_cons (de_op od_sub (de_op od_mul (dv 4) (de_ix (dv 2) de_int)) (de_ix (dv 2) de_int)) da_nil)))))) dss_nil) (dss_cons (ds_if (dt_cmp od_eqI (dv 0) de_int) (dss_one (ds_ret (de_tup (da_cons (de_op od_sub (de_op od_mod (de_ix (dv 1) de_int) de_int) de_int) (da_cons (de_op od_mul (de_op od_sub (de_op od_mod (de_ix (dv 1) de_int) de_int) de_int) (de_op od_sub (de_op od_mod (de_ix (dv 1) de_int) de_int) de_int)) da_nil))))) dss_nil) (dss_one (ds_ret (de_ix (de_lst (da_cons (de_tup (da_cons de_int (da_cons de_int da_nil))) (da_cons (de_tup (da_cons de_int (da_cons de_int da_nil))) (da_cons (de_tup (da_cons de_int (da_cons de_int da_nil))) (da_cons (de_tup (da_cons de_int (da_cons de_int da_nil))) (da_cons (de_tup (da_cons (de_neg de_int) (da_cons de_int da_nil))) da_nil)))))) (de_op od_mod (de_ix (dv 1) de_int) de_int))))))))), ?_⟩
  rintro ds Q Ed ⟨k, xs, w0, w1, w2, rfl, h⟩
  have e0 : startD ["_law_kind", "_law_xs", "_law_way", "_law_far", "_law_step"] [.int k, .lst false (xs.map D.int), T3 w0 w1 w2] = ([some (.val (.int k)), some (.val (.lst false (xs.map D.int))), some (.val (T3 w0 w1 w2)), none, none] : Ro) := rfl
  rw [e0]; clear e0
  obtain ⟨hl, hb, b0, b1, b2, h⟩ := h
  obtain ⟨x, y, z, u, rfl⟩ : ∃ x y z u : Int, xs = [x, y, z, u] := by
    match xs, hl with
    | [x, y, z, u], _ => exact ⟨x, y, z, u, rfl⟩
  have hx := hb x (by simp)
  have hy := hb y (by simp)
  walk_at "rd"
  have fin : ∀ a b : Int, Bd 60 a → Bd 60 b → ([D.int a, .int b] : List D).length ≤ sizeLine ∧ Q (.tup [.int a, .int b]) := fun a b ha hb => ⟨sz2 _ _, h a b ha hb⟩
  have f3 := fun n : Int => fm (a := n) (b := 3) (by decide)
  have f5 := fun n : Int => fm (a := n) (b := 5) (by decide)
  have f9 := fun n : Int => fm (a := n) (b := 9) (by decide)
  have f25 := fun n : Int => fm (a := n) (b := 25) (by decide)
  have ff := fun n : Int => fm (a := n) (b := 2 * 1000000000000 - 1) (by decide)
  split
  · exact ⟨by decide, by decide, fin _ _ (bdl 10 (by have := f3 x; omega) (by decide)) (bdl 10 (by have := f3 y; omega) (by decide))⟩
  · split
    · exact ⟨by decide, by decide, fin _ _ (bdl 10 (by have := f5 x; omega) (by decide)) (bdl 10 (by have := f5 y; omega) (by decide))⟩
    · split
      · rw [p12]
        refine ⟨cp12, .inl (by unfold Bd; decide), .inr (.inl (by unfold Bd; decide)), by decide, cp12, .inr (.inl (by unfold Bd; decide)), by decide, cp12, fin _ _ (bdl 1000000000001 (by have := ff (x * 982451653); omega) (by decide)) (bdl 1000000000001 (by have := ff (y * 961748941); omega) (by decide))⟩
      · split
        · have s := f9 x
          have bs : Bd 8 (x.fmod 9 - 4) := bdl 10 (by omega) (by decide)
          generalize x.fmod 9 - 4 = t at bs ⊢
          have cm : ∀ {v : Int}, CM t v := fun {v} => .inl (bs.mono (by decide))
          exact ⟨by decide, cm, cm, fin _ _ (((bs.mul b0).add (b2.mono (by decide))).mono (by decide)) (((bs.mul b1).sub (b2.mono (by decide))).mono (by decide))⟩
        · split
          · have s := f25 x
            have bs : Bd 8 (x.fmod 25 - 12) := bdl 20 (by omega) (by decide)
            generalize x.fmod 25 - 12 = t at bs ⊢
            exact ⟨by decide, by decide, by decide, .inl (bs.mono (by decide)), fin _ _ (bs.mono (by decide)) ((bs.mul bs).mono (by decide))⟩
          · refine ⟨sz2 _ _, sz2 _ _, sz2 _ _, sz2 _ _, sz2 _ _, by rw [sizeLine_eq]; decide, by decide, ?_⟩
            refine at_any (f5 x).1 (by have := (f5 x).2; simpa using this) fun d hd => ?_
            simp only [List.mem_cons, List.not_mem_nil, or_false] at hd
            rcases hd with rfl | rfl | rfl | rfl | rfl <;> exact h _ _ (by unfold Bd; decide) (by unfold Bd; decide)
theorem ok_is_fair {f : Addr} {fd : FuncData} (F : FunD K "is_fair" "is_fair" s_is_fair f fd) (C : COk K mg κ) (h_is_even : Has P w K mg base "is_even" 1 ["under", "over", "whole"] (sp_is_even κ)) (h_total : HasD P w K mg base "total" 2 ["dots", "colour"] "colour" (sp_total κ)) (h_weighed : HasD P w K mg base "weighed" 3 ["dots", "gauge", "colour"] "colour" (sp_weighed κ))  : FnOk P w K mg base (CX1 P w) 4 f fd ["dots", "gauge", "colour"] (spOf K (sp_is_fair κ)) := by
  refine FunD.okN F sc_is_fair (fun ds Q E h => by obtain ⟨_, _, _, _, _, rfl, _⟩ := h; rfl) fun cdv A outer s H E hr => ⟨_, (dss_cons (ds_set 3 sc_is_fair.nd (de_call h_weighed.full (hr.mono (by decide)) (da_cons (dv 0) (da_cons (dv 1) (da_cons (dv 2) da_nil))))) (dss_one (ds_ret (de_call h_is_even (hr.mono (by decide)) (da_cons (de_ix (dv 3) de_int) (da_cons (de_ix (dv 3) de_int) (da_cons (de_call h_total.full (hr.mono (by decide)) (da_cons (dv 0) (da_cons (dv 2) da_nil))) da_nil))))))), ?_⟩
  rintro ds Q Ed ⟨ps, g0, g1, g2, col, rfl, h⟩
  have e0 : startD ["dots", "gauge", "colour", "split"] [.lst false (ps.map dtD), T3 g0 g1 g2, col] = ([some (.val (.lst false (ps.map dtD))), some (.val (T3 g0 g1 g2)), some (.val (col)), none] : Ro) := rfl
  rw [e0]; clear e0
  obtain ⟨rfl, hl, h0, h1, h2, hG, h⟩ := h
  rw [← is_even_F] at h
  walk_at "rd"
  refine ⟨fun _ => true, .inl ⟨rfl, rfl⟩, hl, h0, h1, h2, hG, ?_⟩
  walk_at "rd"
  exact ⟨fun _ => true, .inl ⟨rfl, rfl⟩, hl, h⟩
theorem ok_first_fair {f : Addr} {fd : FuncData} (F : FunD K "first_fair" "first_fair" s_first_fair f fd) (C : COk K mg κ) (h_is_fair : Has P w K mg base "is_fair" 4 ["dots", "gauge", "colour"] (sp_is_fair κ)) (h_pair_line : Has P w K mg base "pair_line" 4 ["dots", "pair"] (sp_pair_line κ)) (z_all : mg "all" = none) : FnOk P w K mg base (CX1 P w) 5 f fd ["dots", "pairs", "colours"] (spOf K (sp_first_fair κ)) := by
  refine FunD.okN F sc_first_fair (fun ds Q E h => by obtain ⟨_, _, _, rfl, _⟩ := h; rfl) fun cdv A outer s H E hr => ⟨_, (dss_cons (ds_for PassesOwn.never rfl (id_list (dv 1)) (gd_name 3 sc_first_fair.nd) (dss_cons (ds_set 4 sc_first_fair.nd (de_call h_pair_line (hr.mono (by decide)) (da_cons (dv 0) (da_cons (dv 3) da_nil)))) (dss_one (ds_if (dt_val (de_callB (cd_all rfl) (by rfl) z_all boot_all (da_cons (de_comp (by rfl) (by exact csc_dec (osc := defScope s_first_fair) (xs := ["colour"]) (ns := ["gauge", "dots"]) (by decide +kernel)) (Caps.cons 4 (Caps.cons 0 Caps.nil)) (id_tup (dv 2)) (fun _ _ _ _ _ => ts_nil) (fun _ _ _ _ _ => (de_call h_is_fair (hr.mono (by decide)) (da_cons (dv 2) (da_cons (dv 1) (da_cons (dv 0) da_nil)))))) da_nil))) (dss_one (ds_ret (dv 3))) dss_nil)))) (dss_one (ds_ret de_non))), ?_⟩
  rintro ds Q Ed ⟨ps, rs, cs, rfl, h⟩
  have e0 : startD ["dots", "pairs", "colours", "pair", "gauge"] [.lst false (ps.map dtD), .lst false (rs.map prD), cs] = ([some (.val (.lst false (ps.map dtD))), some (.val (.lst false (rs.map prD))), some (.val (cs)), none, none] : Ro) := rfl
  rw [e0]; clear e0
  obtain ⟨rfl, hl, hG, hr, h⟩ := h
  walk_at "rx"
  refine PD.for_mapI rs prD (fun j ρ => ∃ v3 v4 : Option Sl, ρ = [some (.val (.lst false (ps.map dtD))), some (.val (.lst false (rs.map prD))), some (.val (.tup [.non])), v3, v4] ∧ ∀ y ∈ rs.take j, fairF (tqf ps y) ps = false) (fun R q => ?_) ⟨none, none, rfl, by simp⟩ ?_ ?_
  · walk_at "rd"
    exact q
  · rintro j ij ρ' hj ⟨v3, v4, rfl, hn⟩
    obtain ⟨i1, i2, ne⟩ := hr ij (List.mem_of_getElem? hj)
    walk_at "rx"
    refine ⟨i1, i2, hG, ne, fun g0 g1 g2 m b0 b1 b2 hm hg => ?_⟩
    walk_at "rx"
    refine PD.comp_map [()] (fun _ => D.non) (fun _ => true) (fun _ => .bl (fairF (tqf ps ij) ps)) (fun R q => ?_) (by rw [sizeLine_eq]; exact Nat.le_of_ble_eq_true rfl) (fun k hk K hK => ?_) (fun k hk _ K hK => ?_) ?_
    · walk_at "rd"
      exact q
    · walk_at "rd"
      exact hK
    · walk_at "rd"
      rw [← fairF_s hm (show ∀ z, gv g0 g1 g2 z * m = tqf ps ij z from hg)] at hK
      exact ⟨hl, b0, b1, b2, hG, hK⟩
    · walk_at "rd"
      refine ⟨true, [fairF (tqf ps ij) ps], rfl, ?_⟩
      have ea : ([fairF (tqf ps ij) ps].all id) = fairF (tqf ps ij) ps := by simp
      rw [ea]
      split
      · rename_i hb
        have e := find_at (p := fun ij : Nat × Nat => fairF (tqf ps ij) ps) hj hn hb
        rw [e] at h
        exact h
      · rename_i hb
        refine ⟨_, _, rfl, fun y hy => ?_⟩
        rcases take_snoc hj hy with z | z
        · exact hn y z
        · subst z
          exact Bool.eq_false_iff.mpr hb
  · rintro ρ' ⟨v3, v4, rfl, hn⟩
    walk_at "rd"
    rw [List.take_length] at hn
    have e : rs.find? (fun ij => fairF (tqf ps ij) ps) = none := List.find?_eq_none.mpr fun y hy => by rw [hn y hy]; simp
    rw [e] at h
    exact h
theorem ok_quarters {f : Addr} {fd : FuncData} (F : FunD K "quarters" "quarters" s_quarters f fd) (C : COk K mg κ) (h_place_of : Has P w K mg base "place_of" 1 ["spot"] (sp_place_of κ)) (h_side : Has P w K mg base "side" 2 ["gauge", "place"] (sp_side κ)) (h_spot_of : Has P w K mg base "spot_of" 1 ["dot"] (sp_spot_of κ)) (z_list : mg "list" = none) : FnOk P w K mg base (CX1 P w) 3 f fd ["dots", "gauge", "other"] (spOf K (sp_quarters κ)) := by
  refine FunD.okN F sc_quarters (fun ds Q E h => by obtain ⟨_, _, _, _, _, _, _, rfl, _⟩ := h; rfl) fun cdv A outer s H E hr => ⟨_, (dss_cons (ds_ownDtL 3 (by exact hu_of hr) sc_quarters.nd (dk_cons (dk_tup (da_cons (de_neg de_int) (da_cons (de_neg de_int) da_nil))) de_int (dk_cons (dk_tup (da_cons (de_neg de_int) (da_cons de_int da_nil))) de_int (dk_cons (dk_tup (da_cons de_int (da_cons (de_neg de_int) da_nil))) de_int (dk_cons (dk_tup (da_cons de_int (da_cons de_int da_nil))) de_int dk_nil))))) (dss_cons (ds_for PassesOwn.never rfl (id_list (dv 0)) (gd_name 4 sc_quarters.nd) (dss_cons (ds_set 5 sc_quarters.nd (de_call h_place_of (hr.mono (by decide)) (da_cons (de_call h_spot_of (hr.mono (by decide)) (da_cons (dv 4) da_nil)) da_nil))) (dss_cons (ds_set 6 sc_quarters.nd (de_tup (da_cons (de_call h_side (hr.mono (by decide)) (da_cons (dv 1) (da_cons (dv 5) da_nil))) (da_cons (de_call h_side (hr.mono (by decide)) (da_cons (dv 2) (da_cons (dv 5) da_nil))) da_nil)))) (dss_one (ds_if (dt_dinT 3 (by exact hu_of hr) (dv 6)) (dss_one (ds_daugT 3 (by exact hu_of hr) (dv 6) (de_ix (dv 4) de_int))) dss_nil))))) (dss_one (ds_ret ((df_values 3 rfl (by rfl) z_list)).ped)))), ?_⟩
  rintro ds Q Ed ⟨ps, g0, g1, g2, o0, o1, o2, rfl, h⟩
  have e0 : startD ["dots", "gauge", "other", "weights", "dot", "spot", "sides"] [.lst false (ps.map dtD), T3 g0 g1 g2, T3 o0 o1 o2] = ([some (.val (.lst false (ps.map dtD))), some (.val (T3 g0 g1 g2)), some (.val (T3 o0 o1 o2)), none, none, none, none] : Ro) := rfl
  rw [e0]; clear e0
  obtain ⟨h0, h1, h2, k0, k1, k2, hl, hG, h⟩ := h
  walk_at "rx"
  refine ⟨sz2 _ _, sz2 _ _, sz2 _ _, sz2 _ _, [([.inl (-1), .inl (-1)], 0), ([.inl (-1), .inl 1], 0), ([.inl 1, .inl (-1)], 0), ([.inl 1, .inl 1], 0)], rfl, by decide, by decide, ?_⟩
  have one : Bd 1000 1 := Bd.mono (m := 2) (by unfold Bd; decide) (by decide)
  refine PD.for_map ps dtD (fun done ρ => ∃ v4 v5 v6 : Option Sl, ρ = [some (.val (.lst false (ps.map dtD))), some (.val (T3 g0 g1 g2)), some (.val (T3 o0 o1 o2)), some (.ob (.dt (dT4 (qf (gv g0 g1 g2) (gv o0 o1 o2) (-1) (-1) done) (qf (gv g0 g1 g2) (gv o0 o1 o2) (-1) 1 done) (qf (gv g0 g1 g2) (gv o0 o1 o2) 1 (-1) done) (qf (gv g0 g1 g2) (gv o0 o1 o2) 1 1 done)))), v4, v5, v6]) (fun R q => ?_) ⟨none, none, none, rfl⟩ ?_ ?_
  · walk_at "rd"
    exact q
  · rintro done p ρ' hp hlt ⟨v4, v5, v6, rfl⟩
    have G := hG p hp
    have e : g0 * 1 + g1 * p.1 + g2 * p.2.1 = gv g0 g1 g2 p := by unfold gv; omega
    have e' : o0 * 1 + o1 * p.1 + o2 * p.2.1 = gv o0 o1 o2 p := by unfold gv; omega
    have sn : ∀ a b, qf (gv g0 g1 g2) (gv o0 o1 o2) a b (done ++ [p]) = qf (gv g0 g1 g2) (gv o0 o1 o2) a b done + if (decide (sg (gv g0 g1 g2 p) = a) && decide (sg (gv o0 o1 o2 p) = b)) = true then p.2.2.2 else 0 := fun a b => wq_snoc _ _ _
    walk_at "rd"
    rw [e, e']
    refine ⟨h0, h1, h2, one, G.x.mono (by decide), G.y.mono (by decide), k0, k1, k2, one, G.x.mono (by decide), G.y.mono (by decide), sz2 _ _, [.inl (sg (gv g0 g1 g2 p)), .inl (sg (gv o0 o1 o2 p))], rfl, ?_⟩
    rw [sn, sn, sn, sn]
    generalize qf (gv g0 g1 g2) (gv o0 o1 o2) (-1) (-1) done = q1
    generalize qf (gv g0 g1 g2) (gv o0 o1 o2) (-1) 1 done = q2
    generalize qf (gv g0 g1 g2) (gv o0 o1 o2) 1 (-1) done = q3
    generalize qf (gv g0 g1 g2) (gv o0 o1 o2) 1 1 done = q4
    have d43 : ∀ (K : D → Prop), rdIx (dtD p) (.int 3) K = K (.int p.2.2.2) := fun K => by
      unfold dtD
      walk_at "rd"
    rcases sg3 (gv g0 g1 g2 p) with z | z | z <;> rcases sg3 (gv o0 o1 o2 p) with y | y | y <;> rw [z, y]
    · rw [if_pos (show (lookD (dT4 q1 q2 q3 q4) [Sum.inl (-1), Sum.inl (-1)]).isSome = true from rfl)]
      refine ⟨[Sum.inl (-1), Sum.inl (-1)], _, rfl, rfl, ?_⟩
      rw [d43]
      exact ⟨_, rfl, some (.val (dtD p)), some (.val (T3 1 p.1 p.2.1)), some (.val (.tup [.int (-1), .int (-1)])), by rw [pu1]; simp⟩
    · rw [if_neg (show ¬ ((lookD (dT4 q1 q2 q3 q4) [Sum.inl (-1), Sum.inl 0]).isSome = true) from Bool.false_ne_true)]
      exact ⟨some (.val (dtD p)), some (.val (T3 1 p.1 p.2.1)), some (.val (.tup [.int (-1), .int 0])), by simp⟩
    · rw [if_pos (show (lookD (dT4 q1 q2 q3 q4) [Sum.inl (-1), Sum.inl 1]).isSome = true from rfl)]
      refine ⟨[Sum.inl (-1), Sum.inl 1], _, rfl, rfl, ?_⟩
      rw [d43]
      exact ⟨_, rfl, some (.val (dtD p)), some (.val (T3 1 p.1 p.2.1)), some (.val (.tup [.int (-1), .int 1])), by rw [pu2]; simp⟩
    · rw [if_neg (show ¬ ((lookD (dT4 q1 q2 q3 q4) [Sum.inl 0, Sum.inl (-1)]).isSome = true) from Bool.false_ne_true)]
      exact ⟨some (.val (dtD p)), some (.val (T3 1 p.1 p.2.1)), some (.val (.tup [.int 0, .int (-1)])), by simp⟩
    · rw [if_neg (show ¬ ((lookD (dT4 q1 q2 q3 q4) [Sum.inl 0, Sum.inl 0]).isSome = true) from Bool.false_ne_true)]
      exact ⟨some (.val (dtD p)), some (.val (T3 1 p.1 p.2.1)), some (.val (.tup [.int 0, .int 0])), by simp⟩
    · rw [if_neg (show ¬ ((lookD (dT4 q1 q2 q3 q4) [Sum.inl 0, Sum.inl 1]).isSome = true) from Bool.false_ne_true)]
      exact ⟨some (.val (dtD p)), some (.val (T3 1 p.1 p.2.1)), some (.val (.tup [.int 0, .int 1])), by simp⟩
    · rw [if_pos (show (lookD (dT4 q1 q2 q3 q4) [Sum.inl 1, Sum.inl (-1)]).isSome = true from rfl)]
      refine ⟨[Sum.inl 1, Sum.inl (-1)], _, rfl, rfl, ?_⟩
      rw [d43]
      exact ⟨_, rfl, some (.val (dtD p)), some (.val (T3 1 p.1 p.2.1)), some (.val (.tup [.int 1, .int (-1)])), by rw [pu3]; simp⟩
    · rw [if_neg (show ¬ ((lookD (dT4 q1 q2 q3 q4) [Sum.inl 1, Sum.inl 0]).isSome = true) from Bool.false_ne_true)]
      exact ⟨some (.val (dtD p)), some (.val (T3 1 p.1 p.2.1)), some (.val (.tup [.int 1, .int 0])), by simp⟩
    · rw [if_pos (show (lookD (dT4 q1 q2 q3 q4) [Sum.inl 1, Sum.inl 1]).isSome = true from rfl)]
      refine ⟨[Sum.inl 1, Sum.inl 1], _, rfl, rfl, ?_⟩
      rw [d43]
      exact ⟨_, rfl, some (.val (dtD p)), some (.val (T3 1 p.1 p.2.1)), some (.val (.tup [.int 1, .int 1])), by rw [pu4]; simp⟩
  · rintro ρ' ⟨v4, v5, v6, rfl⟩
    walk_at "rd"
    exact h
theorem ok_first_quartering {f : Addr} {fd : FuncData} (F : FunD K "first_quartering" "first_quartering" s_first_quartering f fd) (C : COk K mg κ) (h_pair_line : Has P w K mg base "pair_line" 4 ["dots", "pair"] (sp_pair_line κ)) (h_quarters : Has P w K mg base "quarters" 3 ["dots", "gauge", "other"] (sp_quarters κ)) (h_total : HasD P w K mg base "total" 2 ["dots", "colour"] "colour" (sp_total κ)) (z_max : mg "max" = none) : FnOk P w K mg base (CX1 P w) 5 f fd ["dots", "pairs", "gauge"] (spOf K (sp_first_quartering κ)) := by
  refine FunD.okN F sc_first_quartering (fun ds Q E h => by obtain ⟨_, _, _, _, _, rfl, _⟩ := h; rfl) fun cdv A outer s H E hr => ⟨_, (dss_cons (ds_set 3 sc_first_quartering.nd (de_callDf h_total (hr.mono (by decide)) (da_cons (dv 0) da_nil))) (dss_cons (ds_for PassesOwn.never rfl (id_list (dv 1)) (gd_name 4 sc_first_quartering.nd) (dss_one (ds_if (dt_cmp od_le (de_op od_mul de_int (de_callB (cd_maxL rfl) (by rfl) z_max boot_max (da_cons (de_call h_quarters (hr.mono (by decide)) (da_cons (dv 0) (da_cons (dv 2) (da_cons (de_call h_pair_line (hr.mono (by decide)) (da_cons (dv 0) (da_cons (dv 4) da_nil))) da_nil)))) da_nil))) (dv 3)) (dss_one (ds_ret (dv 4))) dss_nil))) (dss_one (ds_ret de_non)))), ?_⟩
  rintro ds Q Ed ⟨ps, rs, g0, g1, g2, rfl, h⟩
  have e0 : startD ["dots", "pairs", "gauge", "whole", "pair"] [.lst false (ps.map dtD), .lst false (rs.map prD), T3 g0 g1 g2] = ([some (.val (.lst false (ps.map dtD))), some (.val (.lst false (rs.map prD))), some (.val (T3 g0 g1 g2)), none, none] : Ro) := rfl
  rw [e0]; clear e0
  obtain ⟨hl, h0, h1, h2, hG, hr, h⟩ := h
  have et : tot (fun _ => true) ps = WA ps := wq_tot _ _
  walk_at "rx"
  refine ⟨fun _ => true, .inl ⟨rfl, rfl⟩, hl, ?_⟩
  rw [et]
  refine PD.for_mapI rs prD (fun j ρ => ∃ v4 : Option Sl, ρ = [some (.val (.lst false (ps.map dtD))), some (.val (.lst false (rs.map prD))), some (.val (T3 g0 g1 g2)), some (.val (.int (WA ps))), v4] ∧ ∀ y ∈ rs.take j, quB (gv g0 g1 g2) (tqf ps y) ps = false) (fun R q => ?_) ⟨none, rfl, by simp⟩ ?_ ?_
  · walk_at "rd"
    exact q
  · rintro j ij ρ' hj ⟨v4, rfl, hn⟩
    obtain ⟨i1, i2, ne⟩ := hr ij (List.mem_of_getElem? hj)
    walk_at "rx"
    refine ⟨i1, i2, hG, ne, fun o0 o1 o2 m b0 b1 b2 hm hg => ?_⟩
    walk_at "rx"
    refine ⟨h0, h1, h2, b0, b1, b2, hl, hG, .inr ⟨true, fours (gv g0 g1 g2) (gv o0 o1 o2) ps, rfl, by show 0 < 4; decide, fun mx m1 m2 => ?_⟩⟩
    have em := max4 m1 m2
    rw [quB_2 hm (show ∀ z, gv o0 o1 o2 z * m = tqf ps ij z from hg)] at em
    walk_at "rd"
    refine ⟨.inl (by unfold Bd; decide), ?_⟩
    by_cases hb : 4 * mx ≤ WA ps
    · rw [if_pos hb]
      rw [decide_eq_true hb] at em
      have e := find_at (p := fun ij : Nat × Nat => quB (gv g0 g1 g2) (tqf ps ij) ps) hj hn em.symm
      rw [e] at h
      exact h
    · rw [if_neg hb]
      rw [decide_eq_false hb] at em
      refine ⟨_, rfl, fun y hy => ?_⟩
      rcases take_snoc hj hy with z | z
      · exact hn y z
      · subst z
        exact em.symm
  · rintro ρ' ⟨v4, rfl, hn⟩
    walk_at "rd"
    rw [List.take_length] at hn
    have e : rs.find? (fun ij => quB (gv g0 g1 g2) (tqf ps ij) ps) = none := List.find?_eq_none.mpr fun y hy => by rw [hn y hy]; simp
    rw [e] at h
    exact h
theorem ok_quartered {f : Addr} {fd : FuncData} (F : FunD K "quartered" "quartered" s_quartered f fd) (C : COk K mg κ) (h_first_fair : Has P w K mg base "first_fair" 5 ["dots", "pairs", "colours"] (sp_first_fair κ)) (h_first_quartering : Has P w K mg base "first_quartering" 5 ["dots", "pairs", "gauge"] (sp_first_quartering κ)) (h_pair_line : Has P w K mg base "pair_line" 4 ["dots", "pair"] (sp_pair_line κ)) (h_spot_pairs : Has P w K mg base "spot_pairs" 3 ["dots"] (sp_spot_pairs κ)) (z_len : mg "len" = none) : FnOk P w K mg base (CX1 P w) 6 f fd ["dots"] (spOf K (sp_quartered κ)) := by
  refine FunD.okN F sc_quartered (fun ds Q E h => by obtain ⟨_, rfl, _⟩ := h; rfl) fun cdv A outer s H E hr => ⟨_, (dss_cons (ds_set 1 sc_quartered.nd (de_call h_spot_pairs (hr.mono (by decide)) (da_cons (dv 0) da_nil))) (dss_cons (ds_if (dt_cmp od_eqI (de_callB cd_len (by rfl) z_len boot_len (da_cons (dv 1) da_nil)) de_int) (dss_one (ds_ret de_non)) dss_nil) (dss_cons (ds_set 2 sc_quartered.nd (de_call h_first_fair (hr.mono (by decide)) (da_cons (dv 0) (da_cons (dv 1) (da_cons (de_tup (da_cons de_non da_nil)) da_nil))))) (dss_one (ds_ret (de_tup (da_cons (dv 2) (da_cons (de_call h_first_quartering (hr.mono (by decide)) (da_cons (dv 0) (da_cons (dv 1) (da_cons (de_call h_pair_line (hr.mono (by decide)) (da_cons (dv 0) (da_cons (dv 2) da_nil))) da_nil)))) da_nil)))))))), ?_⟩
  rintro ds Q Ed ⟨ps, rfl, h⟩
  have e0 : startD ["dots", "pairs", "first"] [.lst false (ps.map dtD)] = ([some (.val (.lst false (ps.map dtD))), none, none] : Ro) := rfl
  rw [e0]; clear e0
  obtain ⟨hl, hG, hP, h⟩ := h
  walk_at "rx"
  refine ⟨hl, ?_⟩
  rw [show (prs ps.length).filter (fun ij => decide (sp2 (gp ps ij.1) ≠ sp2 (gp ps ij.2))) = sps ps from rfl]
  have val : ∀ ij ∈ sps ps, ij.1 < ps.length ∧ ij.2 < ps.length ∧ sp2 (gp ps ij.1) ≠ sp2 (gp ps ij.2) := fun ij hij => by
    obtain ⟨a, b, c⟩ := mem_sps.mp hij
    exact ⟨by omega, b, c⟩
  rcases quO_cases hP with ⟨e, f, qe⟩ | ⟨ij, kl, ne, m1, m2, f1, f2, qe⟩
  · rw [qe] at h
    rw [e, if_pos (show ((([] : List (Nat × Nat)).map prD).length : Int) = 0 from rfl)]
    exact h
  · rw [qe] at h
    rw [if_neg (by rw [List.length_map]; have := List.length_pos_iff.mpr ne; omega), show (sps ps).find? (fun ij => fairF (tqf ps ij) ps) = some ij from f1]
    refine ⟨sz1 _, hl, hG, val, ?_⟩
    show sp_pair_line κ [.lst false (ps.map dtD), prD ij] _ _
    rw [sp_pair_line_eq]
    obtain ⟨v1, v2, v3⟩ := val ij m1
    refine ⟨v1, v2, hG, v3, fun g0 g1 g2 m b0 b1 b2 hm hg => ?_⟩
    walk_at "rx"
    refine ⟨hl, b0, b1, b2, hG, val, ?_⟩
    rw [show (fun kl => quB (gv g0 g1 g2) (tqf ps kl) ps) = fun kl => quB (tqf ps ij) (tqf ps kl) ps from funext fun kl => quB_1 hm (show ∀ z, gv g0 g1 g2 z * m = tqf ps ij z from hg) ps, show (sps ps).find? (fun kl => quB (tqf ps ij) (tqf ps kl) ps) = some kl from f2]
    exact ⟨sz2 _ _, h⟩
theorem ok_law_dots {f : Addr} {fd : FuncData} (F : FunD K "_law_dots" "_law_dots" s_law_dots f fd) (C : COk K mg κ) (h_law_spot : Has P w K mg base "_law_spot" 1 ["_law_kind", "_law_xs", "_law_way"] (sp_law_spot κ)) (h_law_stream : Has P w K mg base "_law_stream" 1 ["_law_cell", "_law_many"] (sp_law_stream κ))  : FnOk P w K mg base (CX1 P w) 2 f fd ["_law_first", "_law_cells", "_law_most"] (spOf K (sp_law_dots κ)) := by
  refine FunD.okN F sc_law_dots (fun ds Q E h => by obtain ⟨_, _, _, rfl, _⟩ := h; rfl) fun cdv A outer s H E hr => ⟨_, (dss_cons (ds_set 3 sc_law_dots.nd (de_ix (de_lst (da_cons (de_tup (da_cons de_int (da_cons de_int (da_cons de_int da_nil)))) (da_cons (de_tup (da_cons de_int (da_cons de_int (da_cons de_int da_nil)))) (da_cons (de_tup (da_cons de_int (da_cons de_int (da_cons (de_neg de_int) da_nil)))) (da_cons (de_tup (da_cons de_int (da_cons (de_neg de_int) (da_cons de_int da_nil)))) (da_cons (de_tup (da_cons de_int (da_cons de_int (da_cons de_int da_nil)))) da_nil)))))) (de_op od_mod (de_op od_fdiv (dv 0) de_int) de_int))) (dss_cons (ds_own 4 sc_law_dots.nd da_nil) (dss_cons (ds_for PassesOwn.never rfl (id_list ((df_slice (de_op od_plus (dv 1) (de_call h_law_stream (hr.mono (by decide)) (da_cons (dv 0) (da_cons (de_op od_mod (de_op od_fdiv (dv 0) de_int) de_int) da_nil)))) do_none (do_some (dv 2)))).ped) (gd_name 5 sc_law_dots.nd) (dss_cons (ds_set 6 sc_law_dots.nd (de_call h_law_stream (hr.mono (by decide)) (da_cons (dv 5) (da_cons de_int da_nil)))) (dss_cons (ds_asg (de_call h_law_spot (hr.mono (by decide)) (da_cons (de_op od_mod (dv 0) de_int) (da_cons (dv 6) (da_cons (dv 3) da_nil)))) (gd_tup (n := 2) rfl (gds_cons (gd_name 8 sc_law_dots.nd) (gds_cons (gd_name 9 sc_law_dots.nd) gds_nil)))) (dss_cons (ds_set 7 sc_law_dots.nd (de_ix (de_lst (da_cons de_int (da_cons (de_op od_plus de_int (de_op od_mod (de_ix (dv 6) de_int) de_int)) (da_cons (de_op od_plus de_int (de_op od_mod (de_op od_mul (de_ix (dv 6) de_int) de_int) (de_op od_sub (de_op od_pow de_int de_int) de_int))) da_nil)))) (de_op od_mod (de_op od_fdiv (dv 0) de_int) de_int))) (dss_one (ds_append 4 (de_tup (da_cons (dv 8) (da_cons (dv 9) (da_cons (de_op od_mod (de_ix (dv 6) de_int) de_int) (da_cons (dv 7) da_nil))))))))))) (dss_freeze 4 (dss_one (ds_ret (dv 4))))))), ?_⟩
  rintro ds Q Ed ⟨f, cs, m, rfl, h⟩
  have e0 : startD ["_law_first", "_law_cells", "_law_most", "_law_way", "_law_dots_here", "_law_cell", "_law_xs", "_law_weight_here", "_law_x", "_law_y"] [.int f, .lst false (cs.map D.int), .int m] = ([some (.val (.int f)), some (.val (.lst false (cs.map D.int))), some (.val (.int m)), none, none, none, none, none, none, none] : Ro) := rfl
  rw [e0]; clear e0
  obtain ⟨hc, hm0, hm1, h⟩ := h
  walk_at "rd"
  refine ⟨sz3 _ _ _, sz3 _ _ _, sz3 _ _ _, sz3 _ _ _, sz3 _ _ _, by rw [sizeLine_eq]; decide, CD.lit, by decide, ?_⟩
  have f5 := fm (a := f.fdiv 6) (b := 5) (by decide)
  refine at_any f5.1 f5.2 fun d hd => ?_
  obtain ⟨w0, w1, w2, rfl, b0, b1, b2⟩ : ∃ w0 w1 w2 : Int, d = T3 w0 w1 w2 ∧ Bd 8 w0 ∧ Bd 8 w1 ∧ Bd 8 w2 := by
    simp only [List.mem_cons, List.not_mem_nil, or_false] at hd
    rcases hd with rfl | rfl | rfl | rfl | rfl <;> exact ⟨_, _, _, rfl, by unfold Bd; decide, by unfold Bd; decide, by unfold Bd; decide⟩
  have f9 := fm (a := f.fdiv 30) (b := 9) (by decide)
  walk_at "rd"
  refine ⟨Nat.zero_le _, CD.lit, by decide, f9.1, by omega, fun ys hy hyb => ?_⟩
  walk_at "rd"
  rw [← List.map_append, cut_map]
  have lc := cutM (cs ++ ys) hm0
  generalize cutL (cs ++ ys) none (some m) = zs at lc ⊢
  have hyl : ys.length < 1000 := by rw [hy]; omega
  refine ⟨by rw [List.length_map, List.length_map, sizeLine_eq]; omega, fun j ρ => ∃ (ps : List Dt) (v5 v6 v7 v8 v9 : Option Sl), ρ = [some (.val (.int f)), some (.val (.lst false (cs.map D.int))), some (.val (.int m)), some (.val (T3 w0 w1 w2)), some (.own (ps.map dtD)), v5, v6, v7, v8, v9] ∧ ps.length = j ∧ (∀ p ∈ ps, GD p) ∧ Pos ps, ⟨[], none, none, none, none, none, rfl, rfl, by simp, by intro p hp; cases hp⟩, ?_, ?_⟩
  · rintro j x ρ' hx ⟨ps, v5, v6, v7, v8, v9, rfl, hlen, hG, hP⟩
    obtain ⟨n, rfl, _, hj⟩ := getInt hx
    walk_at "rd"
    refine ⟨by decide, by decide, fun xs hl hb => ?_⟩
    obtain ⟨x, y, z, u, rfl⟩ := four hl
    walk_at "rd"
    refine ⟨by decide, rfl, hb, b0, b1, b2, fun a b ha hb' => ?_⟩
    walk_at "rd"
    have f2 := fm (a := z) (b := 2) (by decide)
    have f3 := fm (a := z) (b := 3) (by decide)
    have g4 := fm (a := f.fdiv 270) (b := 4) (by decide)
    have g3 := fm (a := f.fdiv 1080) (b := 3) (by decide)
    rw [p9]
    refine ⟨by decide, .inr (.inl (by unfold Bd; decide)), cp9, by decide, sz3 _ _ _, CD.lit, by decide, ?_⟩
    refine at_any g3.1 g3.2 fun d hd => ?_
    have w1 := fm (a := u) (b := 9) (by decide)
    have w2 := fm (a := u * 48271) (b := 1000000000 - 1) (by decide)
    obtain ⟨v, rfl, hv⟩ : ∃ v : Int, d = .int v ∧ 0 < v := by
      simp only [List.mem_cons, List.not_mem_nil, or_false] at hd
      rcases hd with rfl | rfl | rfl
      · exact ⟨_, rfl, by decide⟩
      · exact ⟨_, rfl, by omega⟩
      · exact ⟨_, rfl, by omega⟩
    refine ⟨by decide, sz4 _ _ _ _, by rw [List.length_map, sizeLine_eq]; omega, ps ++ [(a, b, z.fmod 3, v)], _, _, _, _, _, by rw [List.map_append]; rfl, by simp [hlen], ?_, ?_⟩
    · intro p hp
      rcases List.mem_append.mp hp with q | q
      · exact hG p q
      · simp at q
        subst q
        exact ⟨ha, hb', f3.1, by show z.fmod 3 ≤ 2; omega⟩
    · intro p hp
      rcases List.mem_append.mp hp with q | q
      · exact hP p q
      · simp at q
        subst q
        exact hv
  · rintro ρ' ⟨ps, v5, v6, v7, v8, v9, rfl, hlen, hG, hP⟩
    walk_at "rd"
    exact h ps (by rw [hlen, List.length_map]; omega) hG hP
theorem ok_law_pairs {f : Addr} {fd : FuncData} (F : FunD K "_law_pairs" "_law_pairs" s_law_pairs f fd) (C : COk K mg κ)  (z_len : mg "len" = none) (z_range : mg "range" = none) : FnOk P w K mg base (CX1 P w) 1 f fd ["_law_dots_here"] (spOf K (sp_law_pairs κ)) := by
  refine FunD.okN F sc_law_pairs (fun ds Q E h => by obtain ⟨_, rfl, _⟩ := h; rfl) fun cdv A outer s H E hr => ⟨_, (dss_cons (ds_own 1 sc_law_pairs.nd da_nil) (dss_cons (ds_for PassesOwn.never rfl (id_range1 (by rfl) z_range (da_cons (de_callB cd_len (by rfl) z_len boot_len (da_cons (dv 0) da_nil)) da_nil)) (gd_name 2 sc_law_pairs.nd) (dss_one (ds_for PassesOwn.never rfl (id_range2 (by rfl) z_range (da_cons (de_op od_plus (dv 2) de_int) (da_cons (de_callB cd_len (by rfl) z_len boot_len (da_cons (dv 0) da_nil)) da_nil))) (gd_name 3 sc_law_pairs.nd) (dss_one (ds_if (dt_cmp (od_ne (by exact hr.units)) (de_slT (de_ix (dv 0) (dv 2)) do_none (do_some de_int)) (de_slT (de_ix (dv 0) (dv 3)) do_none (do_some de_int))) (dss_one (ds_append 1 (de_tup (da_cons (dv 2) (da_cons (dv 3) da_nil))))) dss_nil))))) (dss_freeze 1 (dss_one (ds_ret (dv 1)))))), ?_⟩
  rintro ds Q Ed ⟨ps, rfl, h⟩
  have e0 : startD ["_law_dots_here", "_law_found", "_law_i", "_law_j"] [.lst false (ps.map dtD)] = ([some (.val (.lst false (ps.map dtD))), none, none, none] : Ro) := rfl
  rw [e0]; clear e0
  obtain ⟨hl, h⟩ := h
  walk_at "rx"
  refine ⟨Nat.zero_le _, ?_⟩
  have cut2 : ∀ p : Dt, PD.cutD [D.int p.1, D.int p.2.1, D.int p.2.2.1, D.int p.2.2.2] none (some 2) = [D.int p.1, D.int p.2.1] := fun _ => rfl
  refine PD.for_map (List.range' 0 ps.length) (fun (k : Nat) => D.int (k : Int)) (fun done ρ => ∃ v2 v3 : Option Sl, ρ = [some (.val (.lst false (ps.map dtD))), some (.own (((done.flatMap fun i => (List.range' (i + 1) (ps.length - (i + 1))).map fun k => (i, k)).filter fun ij => decide (sp2 (gp ps ij.1) ≠ sp2 (gp ps ij.2))).map prD)), v2, v3]) (fun R q => ?_) ⟨none, none, rfl⟩ ?_ ?_
  · walk_at "rd"
    rw [List.length_map, rng0]
    exact ⟨⟨by omega, by omega⟩, q⟩
  · rintro done i ρ' hi hlt ⟨v2, v3, rfl⟩
    have hi' : i < ps.length := by rw [List.mem_range'_1] at hi; omega
    rw [List.length_range'] at hlt
    have bl : (((done.flatMap fun i => (List.range' (i + 1) (ps.length - (i + 1))).map fun k => (i, k)).filter fun ij => decide (sp2 (gp ps ij.1) ≠ sp2 (gp ps ij.2))).map prD).length ≤ 3600 := by
      rw [List.length_map]
      refine Nat.le_trans (List.length_filter_le _ _) (Nat.le_trans (prs_len _ _) ?_)
      exact Nat.le_trans (Nat.mul_le_mul (Nat.le_trans (Nat.le_of_lt hlt) hl) hl) (by decide)
    rw [List.flatMap_append, List.filter_append, List.map_append, List.flatMap_singleton]
    generalize (((done.flatMap fun i => (List.range' (i + 1) (ps.length - (i + 1))).map fun k => (i, k)).filter fun ij => decide (sp2 (gp ps ij.1) ≠ sp2 (gp ps ij.2))).map prD) = B at bl
    walk_at "rx"
    refine PD.for_map (List.range' (i + 1) (ps.length - (i + 1))) (fun (k : Nat) => D.int (k : Int)) (fun done ρ => ∃ v3 : Option Sl, ρ = [some (.val (.lst false (ps.map dtD))), some (.own (B ++ ((done.map fun k => (i, k)).filter fun ij => decide (sp2 (gp ps ij.1) ≠ sp2 (gp ps ij.2))).map prD)), some (.val (.int i)), v3]) (fun R q => ?_) ⟨v3, by simp⟩ ?_ ?_
    · walk_at "rd"
      rw [show ((i : Int) + 1) = ((i + 1 : Nat) : Int) by omega, List.length_map, rng_nat]
      exact ⟨⟨by omega, by omega⟩, ⟨by omega, by omega⟩, q⟩
    · rintro done2 k ρ2 hk hlt2 ⟨v3, rfl⟩
      have hk' : k < ps.length := by rw [List.mem_range'_1] at hk; omega
      rw [List.length_range'] at hlt2
      have bl2 : (B ++ ((done2.map fun k => (i, k)).filter fun ij => decide (sp2 (gp ps ij.1) ≠ sp2 (gp ps ij.2))).map prD).length < sizeLine := by
        rw [List.length_append, List.length_map, sizeLine_eq]
        have := List.length_filter_le (fun ij : Nat × Nat => decide (sp2 (gp ps ij.1) ≠ sp2 (gp ps ij.2))) (done2.map fun k => (i, k))
        rw [List.length_map] at this
        omega
      walk_at "rd"
      refine gp_at hi' ⟨_, rfl, fun z => absurd z.2 (by show ¬ ((2 : Nat) = 4); decide), ?_⟩
      refine gp_at hk' ⟨_, rfl, fun z => absurd z.2 (by show ¬ ((2 : Nat) = 4); decide), ?_⟩
      rw [cut2, cut2]
      refine ⟨(okN_p2 _ _).ok, (okN_p2 _ _).ok, ?_⟩
      rw [List.map_append, List.filter_append]
      by_cases ne : sp2 (gp ps i) ≠ sp2 (gp ps k)
      · rw [if_pos (by have := ne_sp2 (gp ps i) (gp ps k); rw [decide_eq_true ne] at this; simpa using this)]
        refine ⟨sz2 _ _, bl2, some (.val (.int k)), ?_⟩
        rw [List.map_cons, List.map_nil, List.filter_cons_of_pos (by exact decide_eq_true ne), List.filter_nil, List.map_append, List.append_assoc]
        rfl
      · rw [if_neg (by have := ne_sp2 (gp ps i) (gp ps k); rw [decide_eq_false ne] at this; simpa using this)]
        refine ⟨some (.val (.int k)), ?_⟩
        rw [List.map_cons, List.map_nil, List.filter_cons_of_neg (by simpa using ne), List.filter_nil, List.append_nil]
    · rintro ρ2 ⟨v3, rfl⟩
      exact ⟨_, _, rfl⟩
  · rintro ρ' ⟨v2, v3, rfl⟩
    walk_at "rd"
    exact h
theorem ok_law_gauge {f : Addr} {fd : FuncData} (F : FunD K "_law_gauge" "_law_gauge" s_law_gauge f fd) (C : COk K mg κ)   : FnOk P w K mg base (CX1 P w) 1 f fd ["_law_dots_here", "_law_pair", "_law_by"] (spOf K (sp_law_gauge κ)) := by
  refine FunD.okN F sc_law_gauge (fun ds Q E h => by obtain ⟨_, _, _, rfl, _⟩ := h; rfl) fun cdv A outer s H E hr => ⟨_, (dss_cons (ds_set 3 sc_law_gauge.nd (de_ix (dv 0) (de_ix (dv 1) de_int))) (dss_cons (ds_set 4 sc_law_gauge.nd (de_ix (dv 0) (de_ix (dv 1) de_int))) (dss_cons (ds_set 5 sc_law_gauge.nd (de_op od_mul (dv 2) (de_op od_sub (de_ix (dv 3) de_int) (de_ix (dv 4) de_int)))) (dss_cons (ds_set 6 sc_law_gauge.nd (de_op od_mul (dv 2) (de_op od_sub (de_ix (dv 4) de_int) (de_ix (dv 3) de_int)))) (dss_one (ds_ret (de_tup (da_cons (de_op od_sub (de_op od_sub de_int (de_op od_mul (dv 5) (de_ix (dv 3) de_int))) (de_op od_mul (dv 6) (de_ix (dv 3) de_int))) (da_cons (dv 5) (da_cons (dv 6) da_nil)))))))))), ?_⟩
  rintro ds Q Ed ⟨ps, ij, b, rfl, h⟩
  have e0 : startD ["_law_dots_here", "_law_pair", "_law_by", "_law_one", "_law_two", "_law_a", "_law_b"] [.lst false (ps.map dtD), prD ij, .int b] = ([some (.val (.lst false (ps.map dtD))), some (.val (prD ij)), some (.val (.int b)), none, none, none, none] : Ro) := rfl
  rw [e0]; clear e0
  obtain ⟨i1, i2, hG, hb, h⟩ := h
  have G1 := hG _ (gp_mem i1)
  have G2 := hG _ (gp_mem i2)
  unfold prD
  walk_at "rd"
  refine gp_at i1 (gp_at i2 ?_)
  have hT : ∀ z, tqf ps ij z = tq (gp ps ij.1) (gp ps ij.2) z := fun _ => rfl
  generalize gp ps ij.1 = p at *
  generalize gp ps ij.2 = q at *
  unfold dtD
  walk_at "rd"
  have B1 : Bd 69 (b * (p.2.1 - q.2.1)) := hb.mul (G1.y.sub G2.y)
  have B2 : Bd 69 (b * (q.1 - p.1)) := hb.mul (G2.x.sub G1.x)
  have cb : ∀ {x : Int}, CM b x := .inl (hb.mono (by decide))
  have Z : Bd 129 0 := Bd.mono (m := 2) (by unfold Bd; decide) (by decide)
  refine ⟨cb, cb, .inr (.inl (G1.x.mono (by decide))), .inr (.inl (G1.y.mono (by decide))), sz3 _ _ _, h _ _ _ (((Z.sub (B1.mul G1.x)).sub ((B2.mul G1.y).mono (by decide))).mono (by decide)) (B1.mono (by decide)) (B2.mono (by decide)) fun z => ?_⟩
  rw [hT]
  unfold gv tq
  grind
theorem ok_law_sides {f : Addr} {fd : FuncData} (F : FunD K "_law_sides" "_law_sides" s_law_sides f fd) (C : COk K mg κ)  (z_int : mg "int" = none) : FnOk P w K mg base (CX1 P w) 1 f fd ["_law_dots_here", "_law_gauge_here"] (spOf K (sp_law_sides κ)) := by
  refine FunD.okN F sc_law_sides (fun ds Q E h => by obtain ⟨_, _, _, _, rfl, _⟩ := h; rfl) fun cdv A outer s H E hr => ⟨_, (dss_cons (ds_own 2 sc_law_sides.nd da_nil) (dss_cons (ds_for PassesOwn.never rfl (id_list (dv 0)) (gd_name 3 sc_law_sides.nd) (dss_cons (ds_set 4 sc_law_sides.nd (de_op od_plus (de_op od_plus (de_ix (dv 1) de_int) (de_op od_mul (de_ix (dv 1) de_int) (de_ix (dv 3) de_int))) (de_op od_mul (de_ix (dv 1) de_int) (de_ix (dv 3) de_int)))) (dss_one (ds_append 2 (de_op od_sub (de_callTy cd_int (by rfl) z_int boot_int (da_cons (de_cmp od_gt (dv 4) de_int) da_nil)) (de_callTy cd_int (by rfl) z_int boot_int (da_cons (de_cmp od_lt (dv 4) de_int) da_nil))))))) (dss_freeze 2 (dss_one (ds_ret (dv 2)))))), ?_⟩
  rintro ds Q Ed ⟨ps, g0, g1, g2, rfl, h⟩
  have e0 : startD ["_law_dots_here", "_law_gauge_here", "_law_found", "_law_dot", "_law_here"] [.lst false (ps.map dtD), T3 g0 g1 g2] = ([some (.val (.lst false (ps.map dtD))), some (.val (T3 g0 g1 g2)), none, none, none] : Ro) := rfl
  rw [e0]; clear e0
  obtain ⟨h0, h1, h2, hl, hG, h⟩ := h
  walk_at "rx"
  refine ⟨Nat.zero_le _, ?_⟩
  refine PD.for_map ps dtD (fun done ρ => ∃ v3 v4 : Option Sl, ρ = [some (.val (.lst false (ps.map dtD))), some (.val (T3 g0 g1 g2)), some (.own ((done.map fun z => sg (gv g0 g1 g2 z)).map D.int)), v3, v4]) (fun R q => ?_) ⟨none, none, rfl⟩ ?_ ?_
  · walk_at "rd"
    exact q
  · rintro done p ρ' hp hlt ⟨v3, v4, rfl⟩
    have G := hG p hp
    have d4 : dtD p = .tup [.int p.1, .int p.2.1, .int p.2.2.1, .int p.2.2.2] := rfl
    have eg : g0 + g1 * p.1 + g2 * p.2.1 = gv g0 g1 g2 p := rfl
    walk_at "rd"
    rw [d4]
    walk_at "rd"
    rw [eg]
    have es : ((if 0 < gv g0 g1 g2 p then 1 else 0) - if gv g0 g1 g2 p < 0 then 1 else 0 : Int) = sg (gv g0 g1 g2 p) := by
      unfold sg
      split <;> split <;> omega
    rw [es, List.map_append, List.map_append]
    exact ⟨.inr (.inl (G.x.mono (by decide))), .inr (.inl (G.y.mono (by decide))), by rw [List.length_map, List.length_map, sizeLine_eq]; omega, _, _, rfl⟩
  · rintro ρ' ⟨v3, v4, rfl⟩
    walk_at "rd"
    exact h
theorem ok_law_weight {f : Addr} {fd : FuncData} (F : FunD K "_law_weight" "_law_weight" s_law_weight f fd) (C : COk K mg κ)  (z_zip : mg "zip" = none) : FnOk P w K mg base (CX1 P w) 1 f fd ["_law_dots_here", "_law_sides_here", "_law_others", "_law_one", "_law_other"] (spOf K (sp_law_weight κ)) := by
  refine FunD.okN F sc_law_weight (fun ds Q E h => by obtain ⟨_, _, _, _, _, rfl, _⟩ := h; rfl) fun cdv A outer s H E hr => ⟨_, (dss_cons (ds_set 5 sc_law_weight.nd de_int) (dss_cons (ds_for PassesOwn.never rfl (id_zip3 (by rfl) z_zip (da_cons (dv 0) (da_cons (dv 1) (da_cons (dv 2) da_nil)))) (gd_tup (n := 3) rfl (gds_cons (gd_name 6 sc_law_weight.nd) (gds_cons (gd_name 7 sc_law_weight.nd) (gds_cons (gd_name 8 sc_law_weight.nd) gds_nil)))) (dss_one (ds_if (dw_and (dt_cmp (od_eq (by exact hr.units)) (dv 7) (dv 3)) (dw_and1 (dt_cmp (od_eq (by exact hr.units)) (dv 8) (dv 4)))).pt (dss_one (ds_set 5 sc_law_weight.nd (de_op od_plus (dv 5) (de_ix (dv 6) de_int)))) dss_nil))) (dss_one (ds_ret (dv 5))))), ?_⟩
  rintro ds Q Ed ⟨ps, ss, os, a, b, rfl, h⟩
  have e0 : startD ["_law_dots_here", "_law_sides_here", "_law_others", "_law_one", "_law_other", "_law_found", "_law_dot", "_law_here", "_law_there"] [.lst false (ps.map dtD), .lst false (ss.map D.int), .lst false (os.map D.int), .int a, .int b] = ([some (.val (.lst false (ps.map dtD))), some (.val (.lst false (ss.map D.int))), some (.val (.lst false (os.map D.int))), some (.val (.int a)), some (.val (.int b)), none, none, none, none] : Ro) := rfl
  rw [e0]; clear e0
  obtain ⟨f, g, rfl, rfl, h⟩ := h
  walk_at "rx"
  refine PD.for_map ps (fun z => .tup [dtD z, .int (sg (f z)), .int (sg (g z))]) (fun done ρ => ∃ v6 v7 v8 : Option Sl, ρ = [some (.val (.lst false (ps.map dtD))), some (.val (.lst false ((ps.map fun z => sg (f z)).map D.int))), some (.val (.lst false ((ps.map fun z => sg (g z)).map D.int))), some (.val (.int a)), some (.val (.int b)), some (.val (.int (qf f g a b done))), v6, v7, v8]) (fun R q => ?_) ⟨none, none, none, rfl⟩ ?_ ?_
  · walk_at "rd"
    refine ⟨false, false, false, _, _, _, rfl, by simp, by simp, ?_⟩
    rw [List.map_map, List.map_map, tri_map]
    exact q
  · rintro done p ρ' hp hlt ⟨v6, v7, v8, rfl⟩
    have sn : qf f g a b (done ++ [p]) = qf f g a b done + if (decide (sg (f p) = a) && decide (sg (g p) = b)) = true then p.2.2.2 else 0 := wq_snoc _ _ _
    have d4 : dtD p = .tup [.int p.1, .int p.2.1, .int p.2.2.1, .int p.2.2.2] := rfl
    rw [sn, d4]
    walk_at "rd"
    by_cases e1 : sg (f p) = a
    · rw [if_pos e1]
      by_cases e2 : sg (g p) = b
      · rw [if_pos e2]
        exact ⟨some (.val (.tup [.int p.1, .int p.2.1, .int p.2.2.1, .int p.2.2.2])), some (.val (.int (sg (f p)))), some (.val (.int (sg (g p)))), by simp [e1, e2]⟩
      · rw [if_neg e2]
        exact ⟨some (.val (.tup [.int p.1, .int p.2.1, .int p.2.2.1, .int p.2.2.2])), some (.val (.int (sg (f p)))), some (.val (.int (sg (g p)))), by simp [e2]⟩
    · rw [if_neg e1]
      exact ⟨some (.val (.tup [.int p.1, .int p.2.1, .int p.2.2.1, .int p.2.2.2])), some (.val (.int (sg (f p)))), some (.val (.int (sg (g p)))), by simp [e1]⟩
  · rintro ρ' ⟨v6, v7, v8, rfl⟩
    walk_at "rd"
    exact h
theorem ok_law_four {f : Addr} {fd : FuncData} (F : FunD K "_law_four" "_law_four" s_law_four f fd) (C : COk K mg κ) (h_law_weight : Has P w K mg base "_law_weight" 1 ["_law_dots_here", "_law_sides_here", "_law_others", "_law_one", "_law_other"] (sp_law_weight κ))  : FnOk P w K mg base (CX1 P w) 2 f fd ["_law_dots_here", "_law_sides_here", "_law_others"] (spOf K (sp_law_four κ)) := by
  refine FunD.okN F sc_law_four (fun ds Q E h => by obtain ⟨_, _, _, rfl, _⟩ := h; rfl) fun cdv A outer s H E hr => ⟨_, (dss_cons (ds_own 3 sc_law_four.nd da_nil) (dss_cons (ds_for PassesOwn.never rfl (id_list (de_lst (da_cons (de_neg de_int) (da_cons de_int da_nil)))) (gd_name 4 sc_law_four.nd) (dss_one (ds_for PassesOwn.never rfl (id_list (de_lst (da_cons (de_neg de_int) (da_cons de_int da_nil)))) (gd_name 5 sc_law_four.nd) (dss_one (ds_append 3 (de_call h_law_weight (hr.mono (by decide)) (da_cons (dv 0) (da_cons (dv 1) (da_cons (dv 2) (da_cons (dv 4) (da_cons (dv 5) da_nil))))))))))) (dss_freeze 3 (dss_one (ds_ret (dv 3)))))), ?_⟩
  rintro ds Q Ed ⟨ps, ss, os, rfl, h⟩
  have e0 : startD ["_law_dots_here", "_law_sides_here", "_law_others", "_law_found", "_law_one", "_law_other"] [.lst false (ps.map dtD), .lst false (ss.map D.int), .lst false (os.map D.int)] = ([some (.val (.lst false (ps.map dtD))), some (.val (.lst false (ss.map D.int))), some (.val (.lst false (os.map D.int))), none, none, none] : Ro) := rfl
  rw [e0]; clear e0
  obtain ⟨f, g, rfl, rfl, h⟩ := h
  walk_at "rx"
  refine ⟨Nat.zero_le _, ?_⟩
  refine PD.for_map [-1, 1] D.int (fun done ρ => ∃ v4 v5 : Option Sl, ρ = [some (.val (.lst false (ps.map dtD))), some (.val (.lst false ((ps.map fun z => sg (f z)).map D.int))), some (.val (.lst false ((ps.map fun z => sg (g z)).map D.int))), some (.own ((done.flatMap fun a => [qf f g a (-1) ps, qf f g a 1 ps]).map D.int)), v4, v5]) (fun R q => ?_) ⟨none, none, rfl⟩ ?_ ?_
  · walk_at "rd"
    exact ⟨sz2 _ _, q⟩
  · rintro done a ρ' ha hlt ⟨v4, v5, rfl⟩
    have bl : ((done.flatMap fun a => [qf f g a (-1) ps, qf f g a 1 ps]).map D.int).length ≤ 100 := by
      have fl2 : ∀ l : List Int, (l.flatMap fun a => [qf f g a (-1) ps, qf f g a 1 ps]).length = l.length * 2 := fun l => by
        induction l with
        | nil => rfl
        | cons a r ih =>
          have e2 : ([qf f g a (-1) ps, qf f g a 1 ps] : List Int).length = 2 := rfl
          rw [List.flatMap_cons, List.length_append, ih, e2, List.length_cons]
          omega
      rw [List.length_map, fl2]
      simp at hlt
      omega
    rw [List.flatMap_append, List.map_append, List.flatMap_singleton]
    generalize ((done.flatMap fun a => [qf f g a (-1) ps, qf f g a 1 ps]).map D.int) = B at bl
    walk_at "rx"
    refine PD.for_map [-1, 1] D.int (fun done ρ => ∃ v5 : Option Sl, ρ = [some (.val (.lst false (ps.map dtD))), some (.val (.lst false ((ps.map fun z => sg (f z)).map D.int))), some (.val (.lst false ((ps.map fun z => sg (g z)).map D.int))), some (.own (B ++ (done.map fun b => qf f g a b ps).map D.int)), some (.val (.int a)), v5]) (fun R q => ?_) ⟨v5, by simp⟩ ?_ ?_
    · walk_at "rd"
      exact ⟨sz2 _ _, q⟩
    · rintro done2 b ρ2 hb hlt2 ⟨v5, rfl⟩
      walk_at "rd"
      refine ⟨f, g, rfl, rfl, by rw [List.length_append, List.length_map, List.length_map, sizeLine_eq]; simp at hlt2; omega, _, by rw [List.map_append, List.map_append, List.append_assoc]; rfl⟩
    · rintro ρ2 ⟨v5, rfl⟩
      exact ⟨_, _, rfl⟩
  · rintro ρ' ⟨v4, v5, rfl⟩
    walk_at "rd"
    exact h
theorem ok_law_due {f : Addr} {fd : FuncData} (F : FunD K "_law_due" "_law_due" s_law_due f fd) (C : COk K mg κ) (h_law_four : Has P w K mg base "_law_four" 2 ["_law_dots_here", "_law_sides_here", "_law_others"] (sp_law_four κ)) (h_law_gauge : Has P w K mg base "_law_gauge" 1 ["_law_dots_here", "_law_pair", "_law_by"] (sp_law_gauge κ)) (h_law_pairs : Has P w K mg base "_law_pairs" 1 ["_law_dots_here"] (sp_law_pairs κ)) (h_law_sides : Has P w K mg base "_law_sides" 1 ["_law_dots_here", "_law_gauge_here"] (sp_law_sides κ)) (z_len : mg "len" = none) (z_max : mg "max" = none) (z_range : mg "range" = none) (z_sum : mg "sum" = none) : FnOk P w K mg base (CX1 P w) 3 f fd ["_law_dots_here"] (spOf K (sp_law_due κ)) := by
  refine FunD.okN F sc_law_due (fun ds Q E h => by obtain ⟨_, rfl, _⟩ := h; rfl) fun cdv A outer s H E hr => ⟨_, (dss_cons (ds_set 1 sc_law_due.nd (de_callB (cd_sum rfl) (by rfl) z_sum boot_sum (da_cons (de_comp (by rfl) (by exact csc_dec (osc := defScope s_law_due) (xs := ["_law_dot"]) (ns := []) (by decide +kernel)) Caps.nil (id_list (dv 0)) (fun _ _ _ _ _ => ts_nil) (fun _ _ _ _ _ => (de_ix (dv 0) de_int))) da_nil))) (dss_cons (ds_set 2 sc_law_due.nd (de_call h_law_pairs (hr.mono (by decide)) (da_cons (dv 0) da_nil))) (dss_cons (ds_setComp 3 sc_law_due.nd (by rfl) (by exact csc_dec (osc := defScope s_law_due) (xs := ["_law_pair"]) (ns := ["_law_dots_here"]) (by decide +kernel)) (Caps.cons 0 Caps.nil) (id_list (dv 2)) (fun _ _ _ _ _ => ts_nil) (fun _ _ _ _ _ => (de_call h_law_sides (hr.mono (by decide)) (da_cons (dv 1) (da_cons (de_call h_law_gauge (hr.mono (by decide)) (da_cons (dv 1) (da_cons (dv 0) (da_cons de_int da_nil)))) da_nil))))) (dss_cons (ds_for PassesOwn.never rfl (id_range1 (by rfl) z_range (da_cons (de_callB cd_len (by rfl) z_len boot_len (da_cons (dv 2) da_nil)) da_nil)) (gd_name 4 sc_law_due.nd) (dss_cons (ds_set 5 sc_law_due.nd (de_call h_law_four (hr.mono (by decide)) (da_cons (dv 0) (da_cons (de_ix (dv 3) (dv 4)) (da_cons (de_ix (dv 3) (dv 4)) da_nil))))) (dss_one (ds_if (dt_cmp od_le (de_op od_mul de_int (de_callB (cd_maxL rfl) (by rfl) z_max boot_max (da_cons (dv 5) da_nil))) (dv 1)) (dss_cons (ds_for PassesOwn.never rfl (id_range1 (by rfl) z_range (da_cons (de_callB cd_len (by rfl) z_len boot_len (da_cons (dv 2) da_nil)) da_nil)) (gd_name 6 sc_law_due.nd) (dss_one (ds_if (dt_cmp od_le (de_op od_mul de_int (de_callB (cd_maxL rfl) (by rfl) z_max boot_max (da_cons (de_call h_law_four (hr.mono (by decide)) (da_cons (dv 0) (da_cons (de_ix (dv 3) (dv 4)) (da_cons (de_ix (dv 3) (dv 6)) da_nil)))) da_nil))) (dv 1)) (dss_one (ds_ret (de_tup (da_cons (de_ix (dv 2) (dv 4)) (da_cons (de_ix (dv 2) (dv 6)) da_nil))))) dss_nil))) (dss_one (ds_ret de_bl))) dss_nil)))) (dss_one (ds_ret de_non)))))), ?_⟩
  rintro ds Q Ed ⟨ps, rfl, h⟩
  have e0 : startD ["_law_dots_here", "_law_whole_here", "_law_pairs_here", "_law_sides_here", "_law_k", "_law_both", "_law_j"] [.lst false (ps.map dtD)] = ([some (.val (.lst false (ps.map dtD))), none, none, none, none, none, none] : Ro) := rfl
  rw [e0]; clear e0
  obtain ⟨hl, hG, hP, h⟩ := h
  walk_at "rx"
  refine PD.comp_map ps dtD (fun _ => true) (fun p => .int p.2.2.2) (fun R q => ?_) (by rw [sizeLine_eq]; omega) (fun p hp K hk => ?_) (fun p hp _ K hk => ?_) ?_
  · walk_at "rd"
    exact q
  · walk_at "rd"
    exact hk
  · unfold dtD
    walk_at "rd"
    exact hk
  refine ⟨true, ps.map fun p => p.2.2.2, by rw [List.filter_eq_self.mpr (fun _ _ => rfl), List.map_map]; rfl, hl, ?_⟩
  rw [wq_sum]
  have val : ∀ ij ∈ sps ps, ij.1 < ps.length ∧ ij.2 < ps.length ∧ sp2 (gp ps ij.1) ≠ sp2 (gp ps ij.2) := fun ij hij => by
    obtain ⟨a, b, c⟩ := mem_sps.mp hij
    exact ⟨by omega, b, c⟩
  have sl := sps_len ps hl
  refine PD.comp_map (sps ps) prD (fun _ => true) (fun ij => .lst true ((ps.map fun z => sg (tqf ps ij z)).map D.int)) (fun R q => ?_) (by rw [sizeLine_eq]; omega) (fun ij hij K hK => ?_) (fun ij hij _ K hK => ?_) ?_
  · walk_at "rd"
    exact q
  · walk_at "rd"
    exact hK
  · obtain ⟨v1, v2, v3⟩ := val ij hij
    walk_at "rx"
    refine ⟨v1, v2, hG, by unfold Bd; decide, fun c0 c1 c2 b0 b1 b2 he => ?_⟩
    walk_at "rx"
    refine ⟨b0, b1, b2, hl, hG, ?_⟩
    rw [show (fun z => sg (gv c0 c1 c2 z)) = fun z => sg (tqf ps ij z) from funext fun z => by rw [he z, Int.one_mul]]
    exact hK
  rw [List.filter_eq_self.mpr (fun _ _ => rfl)]
  refine PD.for_mapI (List.range' 0 (sps ps).length) (fun (k : Nat) => D.int (k : Int)) (fun j ρ => ∃ v4 v5 v6 : Option Sl, ρ = [some (.val (.lst false (ps.map dtD))), some (.val (.int (WA ps))), some (.val (.lst true ((sps ps).map prD))), some (.val (.lst true ((sps ps).map fun ij => .lst true ((ps.map fun z => sg (tqf ps ij z)).map D.int)))), v4, v5, v6] ∧ ∀ y ∈ (sps ps).take j, fairF (tqf ps y) ps = false) (fun R q => ?_) ⟨none, none, none, rfl, by simp⟩ ?_ ?_
  · walk_at "rd"
    rw [List.length_map, rng0]
    exact ⟨⟨by omega, by omega⟩, q⟩
  · rintro j x ρ' hx ⟨v4, v5, v6, rfl, hn⟩
    obtain ⟨hj, ex⟩ := List.getElem?_eq_some_iff.mp hx
    rw [List.length_range'] at hj
    rw [List.getElem_range'] at ex
    have ex' : x = j := by omega
    subst ex'
    have hij : (sps ps)[x]? = some (sps ps)[x] := by simp [hj]
    generalize (sps ps)[x] = ij at hij
    walk_at "rx"
    refine at_map hij _ (at_map hij _ ?_)
    walk_at "rx"
    refine ⟨tqf ps ij, tqf ps ij, rfl, rfl, .inr ⟨true, fours (tqf ps ij) (tqf ps ij) ps, rfl, by show 0 < 4; decide, fun m m1 m2 => ?_⟩⟩
    have em := max2 hP m1 m2
    walk_at "rx"
    refine ⟨.inl (by unfold Bd; decide), ?_⟩
    by_cases hb : 2 * m ≤ WA ps
    · rw [if_pos hb]
      rw [decide_eq_true hb] at em
      have f1 : firstA ps = some ij := find_at (p := fun ij : Nat × Nat => fairF (tqf ps ij) ps) hij hn em.symm
      refine PD.for_mapI (List.range' 0 (sps ps).length) (fun (k : Nat) => D.int (k : Int)) (fun j ρ => ∃ v6 : Option Sl, ρ = [some (.val (.lst false (ps.map dtD))), some (.val (.int (WA ps))), some (.val (.lst true ((sps ps).map prD))), some (.val (.lst true ((sps ps).map fun ij => .lst true ((ps.map fun z => sg (tqf ps ij z)).map D.int)))), some (.val (.int x)), some (.val (.lst true ((fours (tqf ps ij) (tqf ps ij) ps).map D.int))), v6] ∧ ∀ y ∈ (sps ps).take j, quB (tqf ps ij) (tqf ps y) ps = false) (fun R q => ?_) ⟨_, rfl, by simp⟩ ?_ ?_
      · walk_at "rd"
        rw [List.length_map, rng0]
        exact ⟨⟨by omega, by omega⟩, q⟩
      · rintro jj y ρ2 hy ⟨v6, rfl, hn2⟩
        obtain ⟨hjj, ey⟩ := List.getElem?_eq_some_iff.mp hy
        rw [List.length_range'] at hjj
        rw [List.getElem_range'] at ey
        have ey' : y = jj := by omega
        subst ey'
        have hkl : (sps ps)[y]? = some (sps ps)[y] := by simp [hjj]
        generalize (sps ps)[y] = kl at hkl
        walk_at "rx"
        refine at_map hij _ (at_map hkl _ ?_)
        walk_at "rx"
        refine ⟨tqf ps ij, tqf ps kl, rfl, rfl, .inr ⟨true, fours (tqf ps ij) (tqf ps kl) ps, rfl, by show 0 < 4; decide, fun m' m1' m2' => ?_⟩⟩
        have em' := max4 m1' m2'
        walk_at "rx"
        refine ⟨.inl (by unfold Bd; decide), ?_⟩
        by_cases hb' : 4 * m' ≤ WA ps
        · rw [if_pos hb']
          rw [decide_eq_true hb'] at em'
          have f2 : secondA ps ij = some kl := find_at (p := fun kl : Nat × Nat => quB (tqf ps ij) (tqf ps kl) ps) hkl hn2 em'.symm
          have qe : quO ps = .tup [prD ij, prD kl] := by unfold quO; rw [f1]; simp only [f2]
          rw [qe] at h
          refine at_map hij _ (at_map hkl _ ⟨sz2 _ _, h⟩)
        · rw [if_neg hb']
          rw [decide_eq_false hb'] at em'
          refine ⟨_, rfl, fun w hw => ?_⟩
          rcases take_snoc hkl hw with z | z
          · exact hn2 w z
          · subst z
            exact em'.symm
      · rintro ρ2 ⟨v6, rfl, hn2⟩
        rw [List.length_range', List.take_length] at hn2
        have f2 : secondA ps ij = none := List.find?_eq_none.mpr fun y hy => by rw [hn2 y hy]; simp
        have qe : quO ps = .bl false := by unfold quO; rw [f1]; simp only [f2]
        rw [qe] at h
        walk_at "rd"
        exact h
    · rw [if_neg hb]
      rw [decide_eq_false hb] at em
      refine ⟨_, _, _, rfl, fun w hw => ?_⟩
      rcases take_snoc hij hw with z | z
      · exact hn w z
      · subst z
        exact em.symm
  · rintro ρ' ⟨v4, v5, v6, rfl, hn⟩
    rw [List.length_range', List.take_length] at hn
    have f1 : firstA ps = none := List.find?_eq_none.mpr fun y hy => by rw [hn y hy]; simp
    have qe : quO ps = .non := by unfold quO; rw [f1]
    rw [qe] at h
    walk_at "rd"
    exact h
theorem ok_law_is {f : Addr} {fd : FuncData} (F : FunD K "_law_is" "_law_is" s_law_is f fd) (C : COk K mg κ) (h_law_whole : Has P w K mg base "_law_whole" 1 ["_law_found"] (sp_law_whole κ)) (z_isinstance : mg "isinstance" = none) (z_len : mg "len" = none) (z_tuple : mg "tuple" = none) : FnOk P w K mg base (CX1 P w) 2 f fd ["_law_found", "_law_due_here"] (spOf K (sp_law_is κ)) := by
  refine FunD.okN F sc_law_is (fun ds Q E h => by obtain ⟨_, _, rfl, _⟩ := h; rfl) fun cdv A outer s H E hr => ⟨_, (dss_cons (ds_if (dt_cmp od_isN (dv 1) de_non) (dss_one (ds_ret (de_cmp od_isN (dv 0) de_non))) dss_nil) (dss_cons (ds_if (dw_or (dt_not (dt_val (de_isinst (by rfl) z_isinstance (by rfl) z_tuple boot_tuple (.inr (.inr (.inl rfl))) (dv 0)))) (dw_or1 (dt_cmp od_neI (de_callB cd_len (by rfl) z_len boot_len (da_cons (dv 0) da_nil)) de_int))).pt (dss_one (ds_ret de_bl)) dss_nil) (dss_cons (ds_for PassesOwn.never rfl (id_tup (dv 0)) (gd_name 2 sc_law_is.nd) (dss_one (ds_if (dw_or (dt_not (dt_val (de_isinst (by rfl) z_isinstance (by rfl) z_tuple boot_tuple (.inr (.inr (.inl rfl))) (dv 2)))) (dw_or (dt_cmp od_neI (de_callB cd_len (by rfl) z_len boot_len (da_cons (dv 2) da_nil)) de_int) (dw_or (dt_not (dt_val (de_call h_law_whole (hr.mono (by decide)) (da_cons (de_ix (dv 2) de_int) da_nil)))) (dw_or1 (dt_not (dt_val (de_call h_law_whole (hr.mono (by decide)) (da_cons (de_ix (dv 2) de_int) da_nil)))))))).pt (dss_one (ds_ret de_bl)) dss_nil))) (dss_one (ds_ret (de_cmp (od_eq (by exact hr.units)) (dv 0) (dv 1))))))), ?_⟩
  rintro ds Q Ed ⟨found, due, rfl, h⟩
  have e0 : startD ["_law_found", "_law_due_here", "_law_pair"] [found, due] = ([some (.val (found)), some (.val (due)), none] : Ro) := rfl
  rw [e0]; clear e0
  obtain ⟨ps, hP, rfl, rfl, h⟩ := h
  rcases quO_cases hP with ⟨e, f, qe⟩ | ⟨ij, kl, ne, m1, m2, f1, f2, qe⟩
  · rw [qe]
    walk_at "rd"
    exact h
  · rw [qe]
    walk_at "rx"
    rw [if_pos (show ((([prD ij, prD kl] : List D).length : Nat) : Int) = 2 from rfl)]
    refine PD.for_mapI [ij, kl] prD (fun j ρ => ∃ v2 : Option Sl, ρ = [some (.val (.tup [prD ij, prD kl])), some (.val (.tup [prD ij, prD kl])), v2]) (fun R q => ?_) ⟨none, rfl⟩ ?_ ?_
    · walk_at "rd"
      exact q
    · rintro j xy ρ' hj ⟨v2, rfl⟩
      have pd : prD xy = .tup [.int xy.1, .int xy.2] := rfl
      walk_at "rd"
      rw [pd]
      walk_at "rd"
      rw [if_pos (show ((([D.int xy.1, D.int xy.2] : List D).length : Nat) : Int) = 2 from rfl)]
      exact ⟨_, rfl⟩
    · rintro ρ' ⟨v2, rfl⟩
      walk_at "rd"
      have ok : okD (.tup [prD ij, prD kl]) := (OkN.tup (.cons (okN_pr ij) (.cons (okN_pr kl) (.nil 1)))).ok
      refine ⟨ok, ok, ?_⟩
      rw [eqD_tup_self]
      exact h
theorem ok_law_counted {f : Addr} {fd : FuncData} (F : FunD K "_law_counted" "_law_counted" s_law_counted f fd) (C : COk K mg κ) (h_law_four : Has P w K mg base "_law_four" 2 ["_law_dots_here", "_law_sides_here", "_law_others"] (sp_law_four κ)) (h_law_sides : Has P w K mg base "_law_sides" 1 ["_law_dots_here", "_law_gauge_here"] (sp_law_sides κ)) (h_law_whole : Has P w K mg base "_law_whole" 1 ["_law_found"] (sp_law_whole κ)) (h_quarters : Has P w K mg base "quarters" 3 ["dots", "gauge", "other"] (sp_quarters κ)) (z_isinstance : mg "isinstance" = none) (z_len : mg "len" = none) (z_list : mg "list" = none) : FnOk P w K mg base (CX1 P w) 4 f fd ["_law_dots_here", "_law_one", "_law_other"] (spOf K (sp_law_counted κ)) := by
  refine FunD.okN F sc_law_counted (fun ds Q E h => by obtain ⟨_, _, _, _, _, _, _, rfl, _⟩ := h; rfl) fun cdv A outer s H E hr => ⟨_, (dss_cons (ds_set 3 sc_law_counted.nd (de_call h_law_four (hr.mono (by decide)) (da_cons (dv 0) (da_cons (de_call h_law_sides (hr.mono (by decide)) (da_cons (dv 0) (da_cons (dv 1) da_nil))) (da_cons (de_call h_law_sides (hr.mono (by decide)) (da_cons (dv 0) (da_cons (dv 2) da_nil))) da_nil))))) (dss_cons (ds_ownF 4 sc_law_counted.nd (df_call h_quarters (hr.mono (by decide)) (da_cons (dv 0) (da_cons (dv 1) (da_cons (dv 2) da_nil))))) (dss_cons (ds_if (dt_soft 4 (dw_or (dt_not (dt_val (de_isinst (by rfl) z_isinstance (by rfl) z_list boot_list (.inr (.inr (.inr (.inl rfl)))) (dv 4)))) (dw_or (dt_cmp od_neI (de_callB cd_len (by rfl) z_len boot_len (da_cons (dv 4) da_nil)) de_int) (dw_or1 (dt_cmp (od_ne (by exact hr.units)) (dv 4) (dv 3))))).pt) (dss_one (ds_ret de_bl)) dss_nil) (dss_cons (ds_forAsk 4 5 PassesOwn.never rfl sc_law_counted.nd (dt_not (dt_val (de_call h_law_whole (hr.mono (by decide)) (da_cons (dv 5) da_nil))))) (dss_cons (ds_append 4 de_int) (dss_freeze 4 (dss_cons (ds_set 6 sc_law_counted.nd (de_lst (da_cons (de_ix (dv 3) de_int) (da_cons (de_ix (dv 3) de_int) (da_cons (de_ix (dv 3) de_int) (da_cons (de_ix (dv 3) de_int) da_nil)))))) (dss_one (ds_ret (de_and (de_cmp (od_eq (by exact hr.units)) (de_call h_quarters (hr.mono (by decide)) (da_cons (dv 0) (da_cons (dv 2) (da_cons (dv 1) da_nil)))) (dv 6)) (de_one (de_cmp (od_eq (by exact hr.units)) (de_call h_quarters (hr.mono (by decide)) (da_cons (dv 0) (da_cons (dv 1) (da_cons (dv 2) da_nil)))) (dv 3))))))))))))), ?_⟩
  rintro ds Q Ed ⟨ps, g0, g1, g2, o0, o1, o2, rfl, h⟩
  have e0 : startD ["_law_dots_here", "_law_one", "_law_other", "_law_due_here", "_law_found", "_law_weight_here", "_law_swapped"] [.lst false (ps.map dtD), T3 g0 g1 g2, T3 o0 o1 o2] = ([some (.val (.lst false (ps.map dtD))), some (.val (T3 g0 g1 g2)), some (.val (T3 o0 o1 o2)), none, none, none, none] : Ro) := rfl
  rw [e0]; clear e0
  obtain ⟨h0, h1, h2, k0, k1, k2, hl, hG, h⟩ := h
  walk_at "rx"
  refine ⟨h0, h1, h2, hl, hG, k0, k1, k2, hl, hG, gv g0 g1 g2, gv o0 o1 o2, rfl, rfl, h0, h1, h2, k0, k1, k2, hl, hG, nol_ints _, ?_⟩
  rw [if_pos (show (((fours (gv g0 g1 g2) (gv o0 o1 o2) ps).map D.int).length : Int) = 4 from rfl)]
  refine ⟨(OkN.map (OkN.int 0)).ok, (OkN.map (OkN.int 0)).ok, ?_⟩
  rw [if_neg (by rw [eqD_lst_self]; simp)]
  refine ⟨by unfold fours; simp, fun d hd => ?_, fun d hd => ?_⟩
  · obtain ⟨n, _, rfl⟩ := List.mem_map.mp hd
    walk_at "rd"
  · obtain ⟨n, _, rfl⟩ := List.mem_map.mp hd
    have es : fours (gv o0 o1 o2) (gv g0 g1 g2) ps = [qf (gv g0 g1 g2) (gv o0 o1 o2) (-1) (-1) ps, qf (gv g0 g1 g2) (gv o0 o1 o2) 1 (-1) ps, qf (gv g0 g1 g2) (gv o0 o1 o2) (-1) 1 ps, qf (gv g0 g1 g2) (gv o0 o1 o2) 1 1 ps] := by
      unfold fours
      rw [qf_swap (gv o0 o1 o2), qf_swap (gv o0 o1 o2), qf_swap (gv o0 o1 o2), qf_swap (gv o0 o1 o2)]
    have ef : (fours (gv g0 g1 g2) (gv o0 o1 o2) ps).map D.int = [.int (qf (gv g0 g1 g2) (gv o0 o1 o2) (-1) (-1) ps), .int (qf (gv g0 g1 g2) (gv o0 o1 o2) (-1) 1 ps), .int (qf (gv g0 g1 g2) (gv o0 o1 o2) 1 (-1) ps), .int (qf (gv g0 g1 g2) (gv o0 o1 o2) 1 1 ps)] := rfl
    rw [ef]
    walk_at "rd"
    have okl : ∀ (t : Bool) (ns : List Int), okD (.lst t (ns.map D.int)) := fun t ns => (OkN.map (OkN.int 0)).ok
    refine ⟨by rw [sizeLine_eq]; show 4 < 16777216; decide, by rw [sizeLine_eq]; show 4 ≤ 16777216; decide, k0, k1, k2, h0, h1, h2, hl, hG, okl _ _, okl _ [_, _, _, _], ?_⟩
    rw [es, List.map_cons, List.map_cons, List.map_cons, List.map_cons, List.map_nil, if_pos (eqD_lst_self _ _ _)]
    refine ⟨h0, h1, h2, k0, k1, k2, hl, hG, okl _ [_, _, _, _], okl _ [_, _, _, _], ?_⟩
    rw [eqD_lst_self]
    exact h
theorem ok_law_drawn {f : Addr} {fd : FuncData} (F : FunD K "_law_drawn" "_law_drawn" s_law_drawn f fd) (C : COk K mg κ) (h_law_stream : Has P w K mg base "_law_stream" 1 ["_law_cell", "_law_many"] (sp_law_stream κ))  : FnOk P w K mg base (CX1 P w) 2 f fd ["_law_cell"] (spOf K (sp_law_drawn κ)) := by
  refine FunD.okN F sc_law_drawn (fun ds Q E h => by obtain ⟨_, rfl, _⟩ := h; rfl) fun cdv A outer s H E hr => ⟨_, (dss_cons (ds_set 1 sc_law_drawn.nd (de_call h_law_stream (hr.mono (by decide)) (da_cons (dv 0) (da_cons de_int da_nil)))) (dss_one (ds_ret (de_tup (da_cons (de_op od_sub (de_op od_mod (de_ix (dv 1) de_int) de_int) de_int) (da_cons (de_op od_sub (de_op od_mod (de_ix (dv 1) de_int) de_int) de_int) (da_cons (de_op od_sub (de_op od_mod (de_ix (dv 1) de_int) de_int) de_int) da_nil))))))), ?_⟩
  rintro ds Q Ed ⟨c, rfl, h⟩
  have e0 : startD ["_law_cell", "_law_xs"] [.int c] = ([some (.val (.int c)), none] : Ro) := rfl
  rw [e0]; clear e0
  walk_at "rd"
  refine ⟨by decide, by decide, fun xs hl hb => ?_⟩
  obtain ⟨x, y, z, rfl⟩ : ∃ x y z : Int, xs = [x, y, z] := by
    match xs, hl with
    | [x, y, z], _ => exact ⟨x, y, z, rfl⟩
  have f9 := fm (a := x) (b := 9) (by decide)
  have f5 := fm (a := y) (b := 5) (by decide)
  have f5' := fm (a := z) (b := 5) (by decide)
  walk_at "rd"
  exact ⟨by decide, by decide, by decide, sz3 _ _ _, h _ _ _ (Bd.mono (m := 8) (bdl 20 (by omega) (by decide)) (by decide)) (Bd.mono (m := 8) (bdl 20 (by omega) (by decide)) (by decide)) (Bd.mono (m := 8) (bdl 20 (by omega) (by decide)) (by decide))⟩
theorem ok_law {f : Addr} {fd : FuncData} (F : FunD K "law" "law" s_law f fd) (C : COk K mg κ) (h_law_cell_at : Has P w K mg base "_law_cell_at" 1 ["_law_script", "_law_k"] (sp_law_cell_at κ)) (h_law_counted : Has P w K mg base "_law_counted" 4 ["_law_dots_here", "_law_one", "_law_other"] (sp_law_counted κ)) (h_law_dots : Has P w K mg base "_law_dots" 2 ["_law_first", "_law_cells", "_law_most"] (sp_law_dots κ)) (h_law_drawn : Has P w K mg base "_law_drawn" 2 ["_law_cell"] (sp_law_drawn κ)) (h_law_due : Has P w K mg base "_law_due" 3 ["_law_dots_here"] (sp_law_due κ)) (h_law_gauge : Has P w K mg base "_law_gauge" 1 ["_law_dots_here", "_law_pair", "_law_by"] (sp_law_gauge κ)) (h_law_is : Has P w K mg base "_law_is" 2 ["_law_found", "_law_due_here"] (sp_law_is κ)) (h_law_pairs : Has P w K mg base "_law_pairs" 1 ["_law_dots_here"] (sp_law_pairs κ)) (h_quartered : Has P w K mg base "quartered" 6 ["dots"] (sp_quartered κ)) (z_list : mg "list" = none) : FnOk P w K mg base (CX1 P w) 7 f fd ["_law_script"] (spOf K spLaw) := by
  refine FunD.okN F sc_law (fun ds Q E h => by obtain ⟨ns, rfl, _⟩ := h; rfl) fun cdv A outer s H E hr => ⟨_, (dss_cons (ds_set 1 sc_law.nd (de_call h_law_cell_at (hr.mono (by decide)) (da_cons (dv 0) (da_cons de_int da_nil)))) (dss_cons (ds_set 2 sc_law.nd (de_call h_law_dots (hr.mono (by decide)) (da_cons (dv 1) (da_cons ((df_slice (dv 0) (do_some de_int) (do_some de_int))).ped (da_cons (de_ix (de_lst (da_cons de_int (da_cons de_int (da_cons de_int (da_cons de_int (da_cons de_int (da_cons de_int (da_cons de_int (da_cons de_int da_nil))))))))) (de_op od_mod (de_op od_fdiv (dv 1) de_int) de_int)) da_nil))))) (dss_cons (ds_set 3 sc_law.nd (de_call h_law_due (hr.mono (by decide)) (da_cons (dv 2) da_nil))) (dss_cons (ds_ownF 4 sc_law.nd (df_list (by rfl) z_list (dv 2))) (dss_cons (ds_set 5 sc_law.nd (de_soft 4 (de_call h_quartered (hr.mono (by decide)) (da_cons (dv 4) da_nil)))) (dss_cons (ds_if (dt_soft 4 (dw_or (dt_cmp od_isF (dv 3) de_bl) (dw_or (dt_not (dt_val (de_call h_law_is (hr.mono (by decide)) (da_cons (dv 5) (da_cons (dv 3) da_nil))))) (dw_or1 (dt_cmp (od_ne (by exact hr.units)) (dv 4) (dv 2))))).pt) (dss_one (ds_ret de_bl)) dss_nil) (dss_cons (ds_if (dt_cmp (od_ne (by exact hr.units)) (de_cmp od_isN (dv 3) de_non) (de_cmp (od_eq (by exact hr.units)) (de_call h_law_pairs (hr.mono (by decide)) (da_cons (dv 2) da_nil)) (de_lst da_nil))) (dss_one (ds_ret de_bl)) dss_nil) (dss_cons (ds_if (dt_cmp od_notN (dv 3) de_non) (dss_cons (ds_set 6 sc_law.nd (de_call h_law_gauge (hr.mono (by decide)) (da_cons (dv 2) (da_cons (de_ix (dv 3) de_int) (da_cons (de_op od_plus de_int (de_op od_mod (dv 1) de_int)) da_nil))))) (dss_one (ds_if (dt_not (dt_val (de_call h_law_counted (hr.mono (by decide)) (da_cons (dv 2) (da_cons (dv 6) (da_cons (de_call h_law_gauge (hr.mono (by decide)) (da_cons (dv 2) (da_cons (de_ix (dv 3) de_int) (da_cons (de_op od_sub (de_op od_sub de_int de_int) (de_op od_mod (dv 1) de_int)) da_nil)))) da_nil)))))) (dss_one (ds_ret de_bl)) dss_nil))) dss_nil) (dss_cons (ds_if (dt_not (dt_val (de_call h_law_counted (hr.mono (by decide)) (da_cons (dv 2) (da_cons (de_call h_law_drawn (hr.mono (by decide)) (da_cons (de_call h_law_cell_at (hr.mono (by decide)) (da_cons (dv 0) (da_cons de_int da_nil))) da_nil)) (da_cons (de_call h_law_drawn (hr.mono (by decide)) (da_cons (de_call h_law_cell_at (hr.mono (by decide)) (da_cons (dv 0) (da_cons de_int da_nil))) da_nil)) da_nil)))))) (dss_one (ds_ret de_bl)) dss_nil) (dss_cons (ds_if (dt_not (dt_val (de_call h_law_is (hr.mono (by decide)) (da_cons (de_call h_quartered (hr.mono (by decide)) (da_cons ((df_slice (dv 2) (do_some de_int) do_none)).ped da_nil)) (da_cons (de_call h_law_due (hr.mono (by decide)) (da_cons ((df_slice (dv 2) (do_some de_int) do_none)).ped da_nil)) da_nil))))) (dss_one (ds_ret de_bl)) dss_nil) (dss_cons (ds_clear 4) (dss_freeze 4 (dss_one (ds_ret (de_and (de_call h_law_is (hr.mono (by decide)) (da_cons (de_call h_quartered (hr.mono (by decide)) (da_cons (dv 2) da_nil)) (da_cons (dv 3) da_nil))) (de_one (de_cmp od_isN (de_call h_quartered (hr.mono (by decide)) (da_cons (de_lst da_nil) da_nil)) de_non))))))))))))))))), ?_⟩
  rintro ds Q Ed ⟨ns, rfl, hl, h⟩
  have e0 : startD ["_law_script", "_law_first", "_law_dots_here", "_law_due_here", "_law_handed", "_law_found", "_law_one"] [.lst false (ns.map D.int)] = ([some (.val (.lst false (ns.map D.int))), none, none, none, none, none, none] : Ro) := rfl
  rw [e0]; clear e0
  walk_at "rx"
  refine ⟨by decide, hl, fun v => ⟨by rw [sizeLine_eq]; decide, CD.lit, by decide, ?_⟩⟩
  have f8 := fm (a := v.fdiv 3240) (b := 8) (by decide)
  refine at_any f8.1 f8.2 fun d hd => ?_
  obtain ⟨m, rfl, m0, m1⟩ : ∃ m : Int, d = .int m ∧ 0 ≤ m ∧ m ≤ 30 := by
    simp only [List.mem_cons, List.not_mem_nil, or_false] at hd
    rcases hd with rfl | rfl | rfl | rfl | rfl | rfl | rfl | rfl <;> exact ⟨_, rfl, by decide, by decide⟩
  rw [cut_map, untags_ints, untag_int, sp_law_dots_eq]
  refine ⟨Nat.le_trans (cutL_len _ _ _) hl, m0, m1, fun ps hps hG hP => ?_⟩
  walk_at "rx"
  have uq := untag_quO hP
  refine ⟨by omega, hG, hP, by omega, hG, hP, allT_quO hP, ?_⟩
  rw [if_neg (by rw [isFl_quO hP]; simp)]
  refine ⟨ps, hP, uq, uq, (OkN.map okN_dot).ok, (OkN.map okN_dot).ok, ?_⟩
  rw [if_neg (by rw [eqD_lst_self]; simp)]
  refine ⟨by omega, Nat.zero_le _, (OkN.map okN_pr).ok, (OkN.lst (.nil 0)).ok, ?_⟩
  rw [if_pos (isNon_quO hP)]
  have f7 := fm (a := v) (b := 7) (by decide)
  have f5 := fm (a := v) (b := 5) (by decide)
  refine ite_both ?_ fun hn hB => ?_
  · refine ⟨by decide, hl, fun v' a b d ba bb bd => ⟨by decide, hl, fun v'' a' b' d' ba' bb' bd' => ⟨ba, bb, bd, ba', bb', bd', by omega, hG, ?_⟩⟩⟩
    rw [cut_map, untags_dots, sp_quartered_eq]
    have hl' : (cutL ps (some 1) none).length ≤ 60 := Nat.le_trans (cutL_len _ _ _) (by omega)
    have hG' : ∀ p ∈ cutL ps (some 1) none, GD p := fun p hp => hG p (cut_sub hp)
    have hP' : Pos (cutL ps (some 1) none) := fun p hp => hP p (cut_sub hp)
    refine ⟨hl', hG', hP', ?_⟩
    rw [sp_law_due_eq]
    refine ⟨hl', hG', hP', _, hP', untag_quO hP', untag_quO hP', ?_⟩
    walk_at "rx"
    refine ⟨by omega, hG, hP, ps, hP, uq, uq, Nat.zero_le _, ?_⟩
    show sp_quartered κ [.lst false (([] : List Dt).map dtD)] _ _
    rw [sp_quartered_eq]
    refine ⟨Nat.zero_le _, by simp, (by intro p hp; cases hp), ?_⟩
    have e0 : isNon (quO []) = true := isNon_non
    rw [e0]
    exact h
  · rcases quO_cases hP with ⟨e, f, qe⟩ | ⟨ij, kl, ne, m1, m2, f1, f2, qe⟩
    · rw [qe, isNon_non] at hn
      cases hn
    have r0 : ∀ K : D → Prop, rdIx (quO ps) (.int 0) K = K (prD ij) := fun K => by rw [qe]; walk_at "rd"
    have r1 : ∀ K : D → Prop, rdIx (quO ps) (.int 1) K = K (prD kl) := fun K => by rw [qe]; walk_at "rd"
    obtain ⟨v1, v2, _⟩ := mem_sps.mp m1
    obtain ⟨u1, u2, _⟩ := mem_sps.mp m2
    rw [r0]
    refine ⟨by decide, ?_⟩
    rw [untag_pr, sp_law_gauge_eq]
    refine ⟨by omega, by omega, hG, bdl 20 (by omega) (by decide), fun c0 c1 c2 b0 b1 b2 he => ?_⟩
    rw [r1]
    refine ⟨by decide, ?_⟩
    rw [untag_pr, sp_law_gauge_eq]
    refine ⟨by omega, by omega, hG, bdl 20 (by omega) (by decide), fun d0 d1 d2 e0 e1 e2 he' => ?_⟩
    walk_at "rx"
    exact ⟨b0, b1, b2, e0, e1, e2, by omega, hG, hB⟩
end
theorem all_mk {l : PySem.W.OpenLaw} {w : World} {K : PySem.W.Frag} {h : Heap} {mg : Str → Option Value} {fa f0 f1 f2 f3 f4 f5 f6 f7 f8 f9 f10 f11 f12 f13 f14 f15 f16 f17 f18 f19 f20 f21 f22 f23 f24 f25 f26 f27 f28 f29 f30 f31 f32 f33 f34 f35 f36 f37 c_PlaneError c_NoLine : Addr} (X : K.In h) (G : h.Ns mainGlobals mg) (hfa : mg "law" = some (.ref fa))
    {od0 an0 : Option Addr} {sl0 : Array (Option Value)} {oc0 kV0 dc0 pm0 cd0 ct0 : Value}
    {od1 an1 : Option Addr} {sl1 : Array (Option Value)} {oc1 kV1 dc1 pm1 cd1 ct1 : Value}
    {od2 an2 : Option Addr} {sl2 : Array (Option Value)} {oc2 kV2 dc2 pm2 cd2 ct2 : Value}
    {od3 an3 : Option Addr} {sl3 : Array (Option Value)} {oc3 kV3 dc3 pm3 cd3 ct3 : Value}
    {od4 an4 : Option Addr} {sl4 : Array (Option Value)} {oc4 kV4 dc4 pm4 cd4 ct4 : Value}
    {od5 an5 : Option Addr} {sl5 : Array (Option Value)} {oc5 kV5 dc5 pm5 cd5 ct5 : Value}
    {od6 an6 : Option Addr} {sl6 : Array (Option Value)} {oc6 kV6 dc6 pm6 cd6 ct6 : Value}
    {dt6 : Addr} {tc6 : Value} {td6 : Option Addr} {tn6 : Nat} {ts6 : Array (Option Value)}
    {od7 an7 : Option Addr} {sl7 : Array (Option Value)} {oc7 kV7 dc7 pm7 cd7 ct7 : Value}
    {dt7 : Addr} {tc7 : Value} {td7 : Option Addr} {tn7 : Nat} {ts7 : Array (Option Value)}
    {od8 an8 : Option Addr} {sl8 : Array (Option Value)} {oc8 kV8 dc8 pm8 cd8 ct8 : Value}
    {od9 an9 : Option Addr} {sl9 : Array (Option Value)} {oc9 kV9 dc9 pm9 cd9 ct9 : Value}
    {od10 an10 : Option Addr} {sl10 : Array (Option Value)} {oc10 kV10 dc10 pm10 cd10 ct10 : Value}
    {od11 an11 : Option Addr} {sl11 : Array (Option Value)} {oc11 kV11 dc11 pm11 cd11 ct11 : Value}
    {od12 an12 : Option Addr} {sl12 : Array (Option Value)} {oc12 kV12 dc12 pm12 cd12 ct12 : Value}
    {od13 an13 : Option Addr} {sl13 : Array (Option Value)} {oc13 kV13 dc13 pm13 cd13 ct13 : Value}
    {od14 an14 : Option Addr} {sl14 : Array (Option Value)} {oc14 kV14 dc14 pm14 cd14 ct14 : Value}
    {od15 an15 : Option Addr} {sl15 : Array (Option Value)} {oc15 kV15 dc15 pm15 cd15 ct15 : Value}
    {od16 an16 : Option Addr} {sl16 : Array (Option Value)} {oc16 kV16 dc16 pm16 cd16 ct16 : Value}
    {od17 an17 : Option Addr} {sl17 : Array (Option Value)} {oc17 kV17 dc17 pm17 cd17 ct17 : Value}
    {od18 an18 : Option Addr} {sl18 : Array (Option Value)} {oc18 kV18 dc18 pm18 cd18 ct18 : Value}
    {od19 an19 : Option Addr} {sl19 : Array (Option Value)} {oc19 kV19 dc19 pm19 cd19 ct19 : Value}
    {od20 an20 : Option Addr} {sl20 : Array (Option Value)} {oc20 kV20 dc20 pm20 cd20 ct20 : Value}
    {od21 an21 : Option Addr} {sl21 : Array (Option Value)} {oc21 kV21 dc21 pm21 cd21 ct21 : Value}
    {od22 an22 : Option Addr} {sl22 : Array (Option Value)} {oc22 kV22 dc22 pm22 cd22 ct22 : Value}
    {od23 an23 : Option Addr} {sl23 : Array (Option Value)} {oc23 kV23 dc23 pm23 cd23 ct23 : Value}
    {od24 an24 : Option Addr} {sl24 : Array (Option Value)} {oc24 kV24 dc24 pm24 cd24 ct24 : Value}
    {od25 an25 : Option Addr} {sl25 : Array (Option Value)} {oc25 kV25 dc25 pm25 cd25 ct25 : Value}
    {od26 an26 : Option Addr} {sl26 : Array (Option Value)} {oc26 kV26 dc26 pm26 cd26 ct26 : Value}
    {od27 an27 : Option Addr} {sl27 : Array (Option Value)} {oc27 kV27 dc27 pm27 cd27 ct27 : Value}
    {od28 an28 : Option Addr} {sl28 : Array (Option Value)} {oc28 kV28 dc28 pm28 cd28 ct28 : Value}
    {od29 an29 : Option Addr} {sl29 : Array (Option Value)} {oc29 kV29 dc29 pm29 cd29 ct29 : Value}
    {od30 an30 : Option Addr} {sl30 : Array (Option Value)} {oc30 kV30 dc30 pm30 cd30 ct30 : Value}
    {od31 an31 : Option Addr} {sl31 : Array (Option Value)} {oc31 kV31 dc31 pm31 cd31 ct31 : Value}
    {od32 an32 : Option Addr} {sl32 : Array (Option Value)} {oc32 kV32 dc32 pm32 cd32 ct32 : Value}
    {od33 an33 : Option Addr} {sl33 : Array (Option Value)} {oc33 kV33 dc33 pm33 cd33 ct33 : Value}
    {od34 an34 : Option Addr} {sl34 : Array (Option Value)} {oc34 kV34 dc34 pm34 cd34 ct34 : Value}
    {od35 an35 : Option Addr} {sl35 : Array (Option Value)} {oc35 kV35 dc35 pm35 cd35 ct35 : Value}
    {od36 an36 : Option Addr} {sl36 : Array (Option Value)} {oc36 kV36 dc36 pm36 cd36 ct36 : Value}
    {od37 an37 : Option Addr} {sl37 : Array (Option Value)} {oc37 kV37 dc37 pm37 cd37 ct37 : Value}
    (a0 : PySem.W.nsIn K mainGlobals "sign" = some (some (.ref f0))) (l0 : K.lookup f0 = some ⟨oc0, od0, .func (PySem.W.fnOf "sign" "sign" (defArgs s_sign) (defBody s_sign) (defScope s_sign) .none kV0 dc0 pm0 an0 cd0 ct0), sl0⟩) (c0 : PySem.W.codeIn K cd0 "sign" = true) (k0 : PySem.W.keepIn K (.ref f0) = true)
    (a1 : PySem.W.nsIn K mainGlobals "value" = some (some (.ref f1))) (l1 : K.lookup f1 = some ⟨oc1, od1, .func (PySem.W.fnOf "value" "value" (defArgs s_value) (defBody s_value) (defScope s_value) .none kV1 dc1 pm1 an1 cd1 ct1), sl1⟩) (c1 : PySem.W.codeIn K cd1 "value" = true) (k1 : PySem.W.keepIn K (.ref f1) = true)
    (a2 : PySem.W.nsIn K mainGlobals "side" = some (some (.ref f2))) (l2 : K.lookup f2 = some ⟨oc2, od2, .func (PySem.W.fnOf "side" "side" (defArgs s_side) (defBody s_side) (defScope s_side) .none kV2 dc2 pm2 an2 cd2 ct2), sl2⟩) (c2 : PySem.W.codeIn K cd2 "side" = true) (k2 : PySem.W.keepIn K (.ref f2) = true)
    (a3 : PySem.W.nsIn K mainGlobals "place_of" = some (some (.ref f3))) (l3 : K.lookup f3 = some ⟨oc3, od3, .func (PySem.W.fnOf "place_of" "place_of" (defArgs s_place_of) (defBody s_place_of) (defScope s_place_of) .none kV3 dc3 pm3 an3 cd3 ct3), sl3⟩) (c3 : PySem.W.codeIn K cd3 "place_of" = true) (k3 : PySem.W.keepIn K (.ref f3) = true)
    (a4 : PySem.W.nsIn K mainGlobals "spot_of" = some (some (.ref f4))) (l4 : K.lookup f4 = some ⟨oc4, od4, .func (PySem.W.fnOf "spot_of" "spot_of" (defArgs s_spot_of) (defBody s_spot_of) (defScope s_spot_of) .none kV4 dc4 pm4 an4 cd4 ct4), sl4⟩) (c4 : PySem.W.codeIn K cd4 "spot_of" = true) (k4 : PySem.W.keepIn K (.ref f4) = true)
    (a5 : PySem.W.nsIn K mainGlobals "of_colour" = some (some (.ref f5))) (l5 : K.lookup f5 = some ⟨oc5, od5, .func (PySem.W.fnOf "of_colour" "of_colour" (defArgs s_of_colour) (defBody s_of_colour) (defScope s_of_colour) .none kV5 dc5 pm5 an5 cd5 ct5), sl5⟩) (c5 : PySem.W.codeIn K cd5 "of_colour" = true) (k5 : PySem.W.keepIn K (.ref f5) = true)
    (a6 : PySem.W.nsIn K mainGlobals "total" = some (some (.ref f6))) (l6 : K.lookup f6 = some ⟨oc6, od6, .func (PySem.W.fnOf "total" "total" (defArgs s_total) (defBody s_total) (defScope s_total) (.ref dt6) kV6 dc6 pm6 an6 cd6 ct6), sl6⟩) (c6 : PySem.W.codeIn K cd6 "total" = true) (k6 : PySem.W.keepIn K (.ref f6) = true)
    (t6 : K.lookup dt6 = some ⟨tc6, td6, .seq #[.none] tn6, ts6⟩)
    (a7 : PySem.W.nsIn K mainGlobals "weighed" = some (some (.ref f7))) (l7 : K.lookup f7 = some ⟨oc7, od7, .func (PySem.W.fnOf "weighed" "weighed" (defArgs s_weighed) (defBody s_weighed) (defScope s_weighed) (.ref dt7) kV7 dc7 pm7 an7 cd7 ct7), sl7⟩) (c7 : PySem.W.codeIn K cd7 "weighed" = true) (k7 : PySem.W.keepIn K (.ref f7) = true)
    (t7 : K.lookup dt7 = some ⟨tc7, td7, .seq #[.none] tn7, ts7⟩)
    (a8 : PySem.W.nsIn K mainGlobals "_law_whole" = some (some (.ref f8))) (l8 : K.lookup f8 = some ⟨oc8, od8, .func (PySem.W.fnOf "_law_whole" "_law_whole" (defArgs s_law_whole) (defBody s_law_whole) (defScope s_law_whole) .none kV8 dc8 pm8 an8 cd8 ct8), sl8⟩) (c8 : PySem.W.codeIn K cd8 "_law_whole" = true) (k8 : PySem.W.keepIn K (.ref f8) = true)
    (a9 : PySem.W.nsIn K mainGlobals "_law_cell_at" = some (some (.ref f9))) (l9 : K.lookup f9 = some ⟨oc9, od9, .func (PySem.W.fnOf "_law_cell_at" "_law_cell_at" (defArgs s_law_cell_at) (defBody s_law_cell_at) (defScope s_law_cell_at) .none kV9 dc9 pm9 an9 cd9 ct9), sl9⟩) (c9 : PySem.W.codeIn K cd9 "_law_cell_at" = true) (k9 : PySem.W.keepIn K (.ref f9) = true)
    (a10 : PySem.W.nsIn K mainGlobals "common_divisor" = some (some (.ref f10))) (l10 : K.lookup f10 = some ⟨oc10, od10, .func (PySem.W.fnOf "common_divisor" "common_divisor" (defArgs s_common_divisor) (defBody s_common_divisor) (defScope s_common_divisor) .none kV10 dc10 pm10 an10 cd10 ct10), sl10⟩) (c10 : PySem.W.codeIn K cd10 "common_divisor" = true) (k10 : PySem.W.keepIn K (.ref f10) = true)
    (a11 : PySem.W.nsIn K mainGlobals "reduced" = some (some (.ref f11))) (l11 : K.lookup f11 = some ⟨oc11, od11, .func (PySem.W.fnOf "reduced" "reduced" (defArgs s_reduced) (defBody s_reduced) (defScope s_reduced) .none kV11 dc11 pm11 an11 cd11 ct11), sl11⟩) (c11 : PySem.W.codeIn K cd11 "reduced" = true) (k11 : PySem.W.keepIn K (.ref f11) = true)
    (a12 : PySem.W.nsIn K mainGlobals "is_level" = some (some (.ref f12))) (l12 : K.lookup f12 = some ⟨oc12, od12, .func (PySem.W.fnOf "is_level" "is_level" (defArgs s_is_level) (defBody s_is_level) (defScope s_is_level) .none kV12 dc12 pm12 an12 cd12 ct12), sl12⟩) (c12 : PySem.W.codeIn K cd12 "is_level" = true) (k12 : PySem.W.keepIn K (.ref f12) = true)
    (a13 : PySem.W.nsIn K mainGlobals "crossed" = some (some (.ref f13))) (l13 : K.lookup f13 = some ⟨oc13, od13, .func (PySem.W.fnOf "crossed" "crossed" (defArgs s_crossed) (defBody s_crossed) (defScope s_crossed) .none kV13 dc13 pm13 an13 cd13 ct13), sl13⟩) (c13 : PySem.W.codeIn K cd13 "crossed" = true) (k13 : PySem.W.keepIn K (.ref f13) = true)
    (a14 : PySem.W.nsIn K mainGlobals "picks" = some (some (.ref f14))) (l14 : K.lookup f14 = some ⟨oc14, od14, .func (PySem.W.fnOf "picks" "picks" (defArgs s_picks) (defBody s_picks) (defScope s_picks) .none kV14 dc14 pm14 an14 cd14 ct14), sl14⟩) (c14 : PySem.W.codeIn K cd14 "picks" = true) (k14 : PySem.W.keepIn K (.ref f14) = true)
    (a15 : PySem.W.nsIn K mainGlobals "line" = some (some (.ref f15))) (l15 : K.lookup f15 = some ⟨oc15, od15, .func (PySem.W.fnOf "line" "line" (defArgs s_line) (defBody s_line) (defScope s_line) .none kV15 dc15 pm15 an15 cd15 ct15), sl15⟩) (c15 : PySem.W.codeIn K cd15 "line" = true) (k15 : PySem.W.keepIn K (.ref f15) = true)
    (a16 : PySem.W.nsIn K mainGlobals "on_two_spots" = some (some (.ref f16))) (l16 : K.lookup f16 = some ⟨oc16, od16, .func (PySem.W.fnOf "on_two_spots" "on_two_spots" (defArgs s_on_two_spots) (defBody s_on_two_spots) (defScope s_on_two_spots) .none kV16 dc16 pm16 an16 cd16 ct16), sl16⟩) (c16 : PySem.W.codeIn K cd16 "on_two_spots" = true) (k16 : PySem.W.keepIn K (.ref f16) = true)
    (a17 : PySem.W.nsIn K mainGlobals "spot_pairs" = some (some (.ref f17))) (l17 : K.lookup f17 = some ⟨oc17, od17, .func (PySem.W.fnOf "spot_pairs" "spot_pairs" (defArgs s_spot_pairs) (defBody s_spot_pairs) (defScope s_spot_pairs) .none kV17 dc17 pm17 an17 cd17 ct17), sl17⟩) (c17 : PySem.W.codeIn K cd17 "spot_pairs" = true) (k17 : PySem.W.keepIn K (.ref f17) = true)
    (a18 : PySem.W.nsIn K mainGlobals "pair_line" = some (some (.ref f18))) (l18 : K.lookup f18 = some ⟨oc18, od18, .func (PySem.W.fnOf "pair_line" "pair_line" (defArgs s_pair_line) (defBody s_pair_line) (defScope s_pair_line) .none kV18 dc18 pm18 an18 cd18 ct18), sl18⟩) (c18 : PySem.W.codeIn K cd18 "pair_line" = true) (k18 : PySem.W.keepIn K (.ref f18) = true)
    (a19 : PySem.W.nsIn K mainGlobals "is_even" = some (some (.ref f19))) (l19 : K.lookup f19 = some ⟨oc19, od19, .func (PySem.W.fnOf "is_even" "is_even" (defArgs s_is_even) (defBody s_is_even) (defScope s_is_even) .none kV19 dc19 pm19 an19 cd19 ct19), sl19⟩) (c19 : PySem.W.codeIn K cd19 "is_even" = true) (k19 : PySem.W.keepIn K (.ref f19) = true)
    (a20 : PySem.W.nsIn K mainGlobals "_law_stream" = some (some (.ref f20))) (l20 : K.lookup f20 = some ⟨oc20, od20, .func (PySem.W.fnOf "_law_stream" "_law_stream" (defArgs s_law_stream) (defBody s_law_stream) (defScope s_law_stream) .none kV20 dc20 pm20 an20 cd20 ct20), sl20⟩) (c20 : PySem.W.codeIn K cd20 "_law_stream" = true) (k20 : PySem.W.keepIn K (.ref f20) = true)
    (a21 : PySem.W.nsIn K mainGlobals "_law_spot" = some (some (.ref f21))) (l21 : K.lookup f21 = some ⟨oc21, od21, .func (PySem.W.fnOf "_law_spot" "_law_spot" (defArgs s_law_spot) (defBody s_law_spot) (defScope s_law_spot) .none kV21 dc21 pm21 an21 cd21 ct21), sl21⟩) (c21 : PySem.W.codeIn K cd21 "_law_spot" = true) (k21 : PySem.W.keepIn K (.ref f21) = true)
    (a22 : PySem.W.nsIn K mainGlobals "is_fair" = some (some (.ref f22))) (l22 : K.lookup f22 = some ⟨oc22, od22, .func (PySem.W.fnOf "is_fair" "is_fair" (defArgs s_is_fair) (defBody s_is_fair) (defScope s_is_fair) .none kV22 dc22 pm22 an22 cd22 ct22), sl22⟩) (c22 : PySem.W.codeIn K cd22 "is_fair" = true) (k22 : PySem.W.keepIn K (.ref f22) = true)
    (a23 : PySem.W.nsIn K mainGlobals "first_fair" = some (some (.ref f23))) (l23 : K.lookup f23 = some ⟨oc23, od23, .func (PySem.W.fnOf "first_fair" "first_fair" (defArgs s_first_fair) (defBody s_first_fair) (defScope s_first_fair) .none kV23 dc23 pm23 an23 cd23 ct23), sl23⟩) (c23 : PySem.W.codeIn K cd23 "first_fair" = true) (k23 : PySem.W.keepIn K (.ref f23) = true)
    (a24 : PySem.W.nsIn K mainGlobals "quarters" = some (some (.ref f24))) (l24 : K.lookup f24 = some ⟨oc24, od24, .func (PySem.W.fnOf "quarters" "quarters" (defArgs s_quarters) (defBody s_quarters) (defScope s_quarters) .none kV24 dc24 pm24 an24 cd24 ct24), sl24⟩) (c24 : PySem.W.codeIn K cd24 "quarters" = true) (k24 : PySem.W.keepIn K (.ref f24) = true)
    (a25 : PySem.W.nsIn K mainGlobals "first_quartering" = some (some (.ref f25))) (l25 : K.lookup f25 = some ⟨oc25, od25, .func (PySem.W.fnOf "first_quartering" "first_quartering" (defArgs s_first_quartering) (defBody s_first_quartering) (defScope s_first_quartering) .none kV25 dc25 pm25 an25 cd25 ct25), sl25⟩) (c25 : PySem.W.codeIn K cd25 "first_quartering" = true) (k25 : PySem.W.keepIn K (.ref f25) = true)
    (a26 : PySem.W.nsIn K mainGlobals "quartered" = some (some (.ref f26))) (l26 : K.lookup f26 = some ⟨oc26, od26, .func (PySem.W.fnOf "quartered" "quartered" (defArgs s_quartered) (defBody s_quartered) (defScope s_quartered) .none kV26 dc26 pm26 an26 cd26 ct26), sl26⟩) (c26 : PySem.W.codeIn K cd26 "quartered" = true) (k26 : PySem.W.keepIn K (.ref f26) = true)
    (a27 : PySem.W.nsIn K mainGlobals "_law_dots" = some (some (.ref f27))) (l27 : K.lookup f27 = some ⟨oc27, od27, .func (PySem.W.fnOf "_law_dots" "_law_dots" (defArgs s_law_dots) (defBody s_law_dots) (defScope s_law_dots) .none kV27 dc27 pm27 an27 cd27 ct27), sl27⟩) (c27 : PySem.W.codeIn K cd27 "_law_dots" = true) (k27 : PySem.W.keepIn K (.ref f27) = true)
    (a28 : PySem.W.nsIn K mainGlobals "_law_pairs" = some (some (.ref f28))) (l28 : K.lookup f28 = some ⟨oc28, od28, .func (PySem.W.fnOf "_law_pairs" "_law_pairs" (defArgs s_law_pairs) (defBody s_law_pairs) (defScope s_law_pairs) .none kV28 dc28 pm28 an28 cd28 ct28), sl28⟩) (c28 : PySem.W.codeIn K cd28 "_law_pairs" = true) (k28 : PySem.W.keepIn K (.ref f28) = true)
    (a29 : PySem.W.nsIn K mainGlobals "_law_gauge" = some (some (.ref f29))) (l29 : K.lookup f29 = some ⟨oc29, od29, .func (PySem.W.fnOf "_law_gauge" "_law_gauge" (defArgs s_law_gauge) (defBody s_law_gauge) (defScope s_law_gauge) .none kV29 dc29 pm29 an29 cd29 ct29), sl29⟩) (c29 : PySem.W.codeIn K cd29 "_law_gauge" = true) (k29 : PySem.W.keepIn K (.ref f29) = true)
    (a30 : PySem.W.nsIn K mainGlobals "_law_sides" = some (some (.ref f30))) (l30 : K.lookup f30 = some ⟨oc30, od30, .func (PySem.W.fnOf "_law_sides" "_law_sides" (defArgs s_law_sides) (defBody s_law_sides) (defScope s_law_sides) .none kV30 dc30 pm30 an30 cd30 ct30), sl30⟩) (c30 : PySem.W.codeIn K cd30 "_law_sides" = true) (k30 : PySem.W.keepIn K (.ref f30) = true)
    (a31 : PySem.W.nsIn K mainGlobals "_law_weight" = some (some (.ref f31))) (l31 : K.lookup f31 = some ⟨oc31, od31, .func (PySem.W.fnOf "_law_weight" "_law_weight" (defArgs s_law_weight) (defBody s_law_weight) (defScope s_law_weight) .none kV31 dc31 pm31 an31 cd31 ct31), sl31⟩) (c31 : PySem.W.codeIn K cd31 "_law_weight" = true) (k31 : PySem.W.keepIn K (.ref f31) = true)
    (a32 : PySem.W.nsIn K mainGlobals "_law_four" = some (some (.ref f32))) (l32 : K.lookup f32 = some ⟨oc32, od32, .func (PySem.W.fnOf "_law_four" "_law_four" (defArgs s_law_four) (defBody s_law_four) (defScope s_law_four) .none kV32 dc32 pm32 an32 cd32 ct32), sl32⟩) (c32 : PySem.W.codeIn K cd32 "_law_four" = true) (k32 : PySem.W.keepIn K (.ref f32) = true)
    (a33 : PySem.W.nsIn K mainGlobals "_law_due" = some (some (.ref f33))) (l33 : K.lookup f33 = some ⟨oc33, od33, .func (PySem.W.fnOf "_law_due" "_law_due" (defArgs s_law_due) (defBody s_law_due) (defScope s_law_due) .none kV33 dc33 pm33 an33 cd33 ct33), sl33⟩) (c33 : PySem.W.codeIn K cd33 "_law_due" = true) (k33 : PySem.W.keepIn K (.ref f33) = true)
    (a34 : PySem.W.nsIn K mainGlobals "_law_is" = some (some (.ref f34))) (l34 : K.lookup f34 = some ⟨oc34, od34, .func (PySem.W.fnOf "_law_is" "_law_is" (defArgs s_law_is) (defBody s_law_is) (defScope s_law_is) .none kV34 dc34 pm34 an34 cd34 ct34), sl34⟩) (c34 : PySem.W.codeIn K cd34 "_law_is" = true) (k34 : PySem.W.keepIn K (.ref f34) = true)
    (a35 : PySem.W.nsIn K mainGlobals "_law_counted" = some (some (.ref f35))) (l35 : K.lookup f35 = some ⟨oc35, od35, .func (PySem.W.fnOf "_law_counted" "_law_counted" (defArgs s_law_counted) (defBody s_law_counted) (defScope s_law_counted) .none kV35 dc35 pm35 an35 cd35 ct35), sl35⟩) (c35 : PySem.W.codeIn K cd35 "_law_counted" = true) (k35 : PySem.W.keepIn K (.ref f35) = true)
    (a36 : PySem.W.nsIn K mainGlobals "_law_drawn" = some (some (.ref f36))) (l36 : K.lookup f36 = some ⟨oc36, od36, .func (PySem.W.fnOf "_law_drawn" "_law_drawn" (defArgs s_law_drawn) (defBody s_law_drawn) (defScope s_law_drawn) .none kV36 dc36 pm36 an36 cd36 ct36), sl36⟩) (c36 : PySem.W.codeIn K cd36 "_law_drawn" = true) (k36 : PySem.W.keepIn K (.ref f36) = true)
    (a37 : PySem.W.nsIn K mainGlobals "law" = some (some (.ref f37))) (l37 : K.lookup f37 = some ⟨oc37, od37, .func (PySem.W.fnOf "law" "law" (defArgs s_law) (defBody s_law) (defScope s_law) .none kV37 dc37 pm37 an37 cd37 ct37), sl37⟩) (c37 : PySem.W.codeIn K cd37 "law" = true) (k37 : PySem.W.keepIn K (.ref f37) = true)
    (mg_PlaneError : PySem.W.nsIn K mainGlobals "PlaneError" = some (some (.ref c_PlaneError)))
    (mg_NoLine : PySem.W.nsIn K mainGlobals "NoLine" = some (some (.ref c_NoLine)))
    (z_abs : PySem.W.nsIn K mainGlobals "abs" = some none) (z_all : PySem.W.nsIn K mainGlobals "all" = some none) (z_bool : PySem.W.nsIn K mainGlobals "bool" = some none) (z_int : PySem.W.nsIn K mainGlobals "int" = some none) (z_isinstance : PySem.W.nsIn K mainGlobals "isinstance" = some none) (z_len : PySem.W.nsIn K mainGlobals "len" = some none) (z_list : PySem.W.nsIn K mainGlobals "list" = some none) (z_max : PySem.W.nsIn K mainGlobals "max" = some none) (z_range : PySem.W.nsIn K mainGlobals "range" = some none) (z_sum : PySem.W.nsIn K mainGlobals "sum" = some none) (z_tuple : PySem.W.nsIn K mainGlobals "tuple" = some none) (z_zip : PySem.W.nsIn K mainGlobals "zip" = some none) :
    ∃ fd : FuncData, (∀ (s : Shared) (v : Value), BindsTo s fd ⟨[v], []⟩ [("_law_script", v)]) ∧ ∀ base : Heap, K.In base → base.Ns mainGlobals mg → FnOk l.prog w K mg base (CX1 l.prog w) 7 fa fd ["_law_script"] (spOf K spLaw) := by
  have e := hfa.symm.trans (PySem.W.mg_of X G a37)
  cases e
  have z_abs := PySem.W.mg_none_of X G z_abs
  have z_all := PySem.W.mg_none_of X G z_all
  have z_bool := PySem.W.mg_none_of X G z_bool
  have z_int := PySem.W.mg_none_of X G z_int
  have z_isinstance := PySem.W.mg_none_of X G z_isinstance
  have z_len := PySem.W.mg_none_of X G z_len
  have z_list := PySem.W.mg_none_of X G z_list
  have z_max := PySem.W.mg_none_of X G z_max
  have z_range := PySem.W.mg_none_of X G z_range
  have z_sum := PySem.W.mg_none_of X G z_sum
  have z_tuple := PySem.W.mg_none_of X G z_tuple
  have z_zip := PySem.W.mg_none_of X G z_zip
  have C : COk K mg ⟨c_PlaneError, c_NoLine⟩ := ⟨PySem.W.mg_of X G mg_PlaneError, PySem.W.mg_of X G mg_NoLine⟩
  refine ⟨PySem.W.fnOf "law" "law" (defArgs s_law) (defBody s_law) (defScope s_law) .none kV37 dc37 pm37 an37 cd37 ct37, fun s v => .of_eq rfl, fun base _ _ => ?_⟩
  have F0 := funD_mk (st := s_sign) l0 c0 k0
  have h_sign : Has l.prog w K mg base "sign" 1 ["number"] (sp_sign _) := ⟨_, _, ok_sign F0 C, PySem.W.mg_of X G a0, k0, .all fun us hl => (by obtain ⟨u0, e⟩ := lenOf1 hl; subst e; rfl)⟩
  have F1 := funD_mk (st := s_value) l1 c1 k1
  have h_value : Has l.prog w K mg base "value" 1 ["gauge", "place"] (sp_value _) := ⟨_, _, ok_value F1 C, PySem.W.mg_of X G a1, k1, .all fun us hl => (by obtain ⟨u0, u1, e⟩ := lenOf2 hl; subst e; rfl)⟩
  have F2 := funD_mk (st := s_side) l2 c2 k2
  have h_side : Has l.prog w K mg base "side" 2 ["gauge", "place"] (sp_side _) := ⟨_, _, ok_side F2 C h_sign h_value, PySem.W.mg_of X G a2, k2, .all fun us hl => (by obtain ⟨u0, u1, e⟩ := lenOf2 hl; subst e; rfl)⟩
  have F3 := funD_mk (st := s_place_of) l3 c3 k3
  have h_place_of : Has l.prog w K mg base "place_of" 1 ["spot"] (sp_place_of _) := ⟨_, _, ok_place_of F3 C, PySem.W.mg_of X G a3, k3, .all fun us hl => (by obtain ⟨u0, e⟩ := lenOf1 hl; subst e; rfl)⟩
  have F4 := funD_mk (st := s_spot_of) l4 c4 k4
  have h_spot_of : Has l.prog w K mg base "spot_of" 1 ["dot"] (sp_spot_of _) := ⟨_, _, ok_spot_of F4 C, PySem.W.mg_of X G a4, k4, .all fun us hl => (by obtain ⟨u0, e⟩ := lenOf1 hl; subst e; rfl)⟩
  have F5 := funD_mk (st := s_of_colour) l5 c5 k5
  have h_of_colour : Has l.prog w K mg base "of_colour" 1 ["dots", "colour"] (sp_of_colour _) := ⟨_, _, ok_of_colour F5 C, PySem.W.mg_of X G a5, k5, .all fun us hl => (by obtain ⟨u0, u1, e⟩ := lenOf2 hl; subst e; rfl)⟩
  have F6 := funD_mk (st := s_total) l6 c6 k6
  have h_total : HasD l.prog w K mg base "total" 2 ["dots", "colour"] "colour" (sp_total _) := ⟨_, _, ok_total F6 C h_of_colour z_sum, PySem.W.mg_of X G a6, k6, binds_full fun s us kin hl => (match us, hl with | [_, _], _ => .of_defaults rfl (kin _ _ t6) rfl rfl rfl), binds_dflt 1 rfl fun s us kin hl => (match us, hl with | [_], _ => .of_defaults rfl (kin _ _ t6) rfl rfl rfl), kbinds_one 1 rfl fun s us w kin hl => (match us, hl with | [_], _ => .of_defaults rfl (kin _ _ t6) rfl rfl rfl)⟩
  have F7 := funD_mk (st := s_weighed) l7 c7 k7
  have h_weighed : HasD l.prog w K mg base "weighed" 3 ["dots", "gauge", "colour"] "colour" (sp_weighed _) := ⟨_, _, ok_weighed F7 C h_of_colour h_place_of h_side h_spot_of, PySem.W.mg_of X G a7, k7, binds_full fun s us kin hl => (match us, hl with | [_, _, _], _ => .of_defaults rfl (kin _ _ t7) rfl rfl rfl), binds_dflt 2 rfl fun s us kin hl => (match us, hl with | [_, _], _ => .of_defaults rfl (kin _ _ t7) rfl rfl rfl), kbinds_one 2 rfl fun s us w kin hl => (match us, hl with | [_, _], _ => .of_defaults rfl (kin _ _ t7) rfl rfl rfl)⟩
  have F8 := funD_mk (st := s_law_whole) l8 c8 k8
  have h_law_whole : Has l.prog w K mg base "_law_whole" 1 ["_law_found"] (sp_law_whole _) := ⟨_, _, ok_law_whole F8 C z_bool z_int z_isinstance, PySem.W.mg_of X G a8, k8, .all fun us hl => (by obtain ⟨u0, e⟩ := lenOf1 hl; subst e; rfl)⟩
  have F9 := funD_mk (st := s_law_cell_at) l9 c9 k9
  have h_law_cell_at : Has l.prog w K mg base "_law_cell_at" 1 ["_law_script", "_law_k"] (sp_law_cell_at _) := ⟨_, _, ok_law_cell_at F9 C z_len, PySem.W.mg_of X G a9, k9, .all fun us hl => (by obtain ⟨u0, u1, e⟩ := lenOf2 hl; subst e; rfl)⟩
  have F10 := funD_mk (st := s_common_divisor) l10 c10 k10
  have h_common_divisor : Has l.prog w K mg base "common_divisor" 1 ["one", "other"] (sp_common_divisor _) := ⟨_, _, ok_common_divisor F10 C z_abs, PySem.W.mg_of X G a10, k10, .all fun us hl => (by obtain ⟨u0, u1, e⟩ := lenOf2 hl; subst e; rfl)⟩
  have F11 := funD_mk (st := s_reduced) l11 c11 k11
  have h_reduced : Has l.prog w K mg base "reduced" 2 ["triple", "lead"] (sp_reduced _) := ⟨_, _, ok_reduced F11 C h_common_divisor, PySem.W.mg_of X G a11, k11, .all fun us hl => (by obtain ⟨u0, u1, e⟩ := lenOf2 hl; subst e; rfl)⟩
  have F12 := funD_mk (st := s_is_level) l12 c12 k12
  have h_is_level : Has l.prog w K mg base "is_level" 1 ["gauge"] (sp_is_level _) := ⟨_, _, ok_is_level F12 C, PySem.W.mg_of X G a12, k12, .all fun us hl => (by obtain ⟨u0, e⟩ := lenOf1 hl; subst e; rfl)⟩
  have F13 := funD_mk (st := s_crossed) l13 c13 k13
  have h_crossed : Has l.prog w K mg base "crossed" 1 ["one", "other"] (sp_crossed _) := ⟨_, _, ok_crossed F13 C, PySem.W.mg_of X G a13, k13, .all fun us hl => (by obtain ⟨u0, u1, e⟩ := lenOf2 hl; subst e; rfl)⟩
  have F14 := funD_mk (st := s_picks) l14 c14 k14
  have h_picks : Has l.prog w K mg base "picks" 1 ["count", "size"] (sp_picks _) := ⟨_, _, ok_picks F14 C z_range, PySem.W.mg_of X G a14, k14, .all fun us hl => (by obtain ⟨u0, u1, e⟩ := lenOf2 hl; subst e; rfl)⟩
  have F15 := funD_mk (st := s_line) l15 c15 k15
  have h_line : Has l.prog w K mg base "line" 3 ["one", "other"] (sp_line _) := ⟨_, _, ok_line F15 C h_crossed h_is_level h_reduced, PySem.W.mg_of X G a15, k15, .all fun us hl => (by obtain ⟨u0, u1, e⟩ := lenOf2 hl; subst e; rfl)⟩
  have F16 := funD_mk (st := s_on_two_spots) l16 c16 k16
  have h_on_two_spots : Has l.prog w K mg base "on_two_spots" 2 ["dots", "pair"] (sp_on_two_spots _) := ⟨_, _, ok_on_two_spots F16 C h_spot_of, PySem.W.mg_of X G a16, k16, .all fun us hl => (by obtain ⟨u0, u1, e⟩ := lenOf2 hl; subst e; rfl)⟩
  have F17 := funD_mk (st := s_spot_pairs) l17 c17 k17
  have h_spot_pairs : Has l.prog w K mg base "spot_pairs" 3 ["dots"] (sp_spot_pairs _) := ⟨_, _, ok_spot_pairs F17 C h_on_two_spots h_picks z_len, PySem.W.mg_of X G a17, k17, .all fun us hl => (by obtain ⟨u0, e⟩ := lenOf1 hl; subst e; rfl)⟩
  have F18 := funD_mk (st := s_pair_line) l18 c18 k18
  have h_pair_line : Has l.prog w K mg base "pair_line" 4 ["dots", "pair"] (sp_pair_line _) := ⟨_, _, ok_pair_line F18 C h_line h_place_of h_spot_of, PySem.W.mg_of X G a18, k18, .all fun us hl => (by obtain ⟨u0, u1, e⟩ := lenOf2 hl; subst e; rfl)⟩
  have F19 := funD_mk (st := s_is_even) l19 c19 k19
  have h_is_even : Has l.prog w K mg base "is_even" 1 ["under", "over", "whole"] (sp_is_even _) := ⟨_, _, ok_is_even F19 C z_max, PySem.W.mg_of X G a19, k19, .all fun us hl => (by obtain ⟨u0, u1, u2, e⟩ := lenOf3 hl; subst e; rfl)⟩
  have F20 := funD_mk (st := s_law_stream) l20 c20 k20
  have h_law_stream : Has l.prog w K mg base "_law_stream" 1 ["_law_cell", "_law_many"] (sp_law_stream _) := ⟨_, _, ok_law_stream F20 C z_range, PySem.W.mg_of X G a20, k20, .all fun us hl => (by obtain ⟨u0, u1, e⟩ := lenOf2 hl; subst e; rfl)⟩
  have F21 := funD_mk (st := s_law_spot) l21 c21 k21
  have h_law_spot : Has l.prog w K mg base "_law_spot" 1 ["_law_kind", "_law_xs", "_law_way"] (sp_law_spot _) := ⟨_, _, ok_law_spot F21 C, PySem.W.mg_of X G a21, k21, .all fun us hl => (by obtain ⟨u0, u1, u2, e⟩ := lenOf3 hl; subst e; rfl)⟩
  have F22 := funD_mk (st := s_is_fair) l22 c22 k22
  have h_is_fair : Has l.prog w K mg base "is_fair" 4 ["dots", "gauge", "colour"] (sp_is_fair _) := ⟨_, _, ok_is_fair F22 C h_is_even h_total h_weighed, PySem.W.mg_of X G a22, k22, .all fun us hl => (by obtain ⟨u0, u1, u2, e⟩ := lenOf3 hl; subst e; rfl)⟩
  have F23 := funD_mk (st := s_first_fair) l23 c23 k23
  have h_first_fair : Has l.prog w K mg base "first_fair" 5 ["dots", "pairs", "colours"] (sp_first_fair _) := ⟨_, _, ok_first_fair F23 C h_is_fair h_pair_line z_all, PySem.W.mg_of X G a23, k23, .all fun us hl => (by obtain ⟨u0, u1, u2, e⟩ := lenOf3 hl; subst e; rfl)⟩
  have F24 := funD_mk (st := s_quarters) l24 c24 k24
  have h_quarters : Has l.prog w K mg base "quarters" 3 ["dots", "gauge", "other"] (sp_quarters _) := ⟨_, _, ok_quarters F24 C h_place_of h_side h_spot_of z_list, PySem.W.mg_of X G a24, k24, .all fun us hl => (by obtain ⟨u0, u1, u2, e⟩ := lenOf3 hl; subst e; rfl)⟩
  have F25 := funD_mk (st := s_first_quartering) l25 c25 k25
  have h_first_quartering : Has l.prog w K mg base "first_quartering" 5 ["dots", "pairs", "gauge"] (sp_first_quartering _) := ⟨_, _, ok_first_quartering F25 C h_pair_line h_quarters h_total z_max, PySem.W.mg_of X G a25, k25, .all fun us hl => (by obtain ⟨u0, u1, u2, e⟩ := lenOf3 hl; subst e; rfl)⟩
  have F26 := funD_mk (st := s_quartered) l26 c26 k26
  have h_quartered : Has l.prog w K mg base "quartered" 6 ["dots"] (sp_quartered _) := ⟨_, _, ok_quartered F26 C h_first_fair h_first_quartering h_pair_line h_spot_pairs z_len, PySem.W.mg_of X G a26, k26, .all fun us hl => (by obtain ⟨u0, e⟩ := lenOf1 hl; subst e; rfl)⟩
  have F27 := funD_mk (st := s_law_dots) l27 c27 k27
  have h_law_dots : Has l.prog w K mg base "_law_dots" 2 ["_law_first", "_law_cells", "_law_most"] (sp_law_dots _) := ⟨_, _, ok_law_dots F27 C h_law_spot h_law_stream, PySem.W.mg_of X G a27, k27, .all fun us hl => (by obtain ⟨u0, u1, u2, e⟩ := lenOf3 hl; subst e; rfl)⟩
  have F28 := funD_mk (st := s_law_pairs) l28 c28 k28
  have h_law_pairs : Has l.prog w K mg base "_law_pairs" 1 ["_law_dots_here"] (sp_law_pairs _) := ⟨_, _, ok_law_pairs F28 C z_len z_range, PySem.W.mg_of X G a28, k28, .all fun us hl => (by obtain ⟨u0, e⟩ := lenOf1 hl; subst e; rfl)⟩
  have F29 := funD_mk (st := s_law_gauge) l29 c29 k29
  have h_law_gauge : Has l.prog w K mg base "_law_gauge" 1 ["_law_dots_here", "_law_pair", "_law_by"] (sp_law_gauge _) := ⟨_, _, ok_law_gauge F29 C, PySem.W.mg_of X G a29, k29, .all fun us hl => (by obtain ⟨u0, u1, u2, e⟩ := lenOf3 hl; subst e; rfl)⟩
  have F30 := funD_mk (st := s_law_sides) l30 c30 k30
  have h_law_sides : Has l.prog w K mg base "_law_sides" 1 ["_law_dots_here", "_law_gauge_here"] (sp_law_sides _) := ⟨_, _, ok_law_sides F30 C z_int, PySem.W.mg_of X G a30, k30, .all fun us hl => (by obtain ⟨u0, u1, e⟩ := lenOf2 hl; subst e; rfl)⟩
  have F31 := funD_mk (st := s_law_weight) l31 c31 k31
  have h_law_weight : Has l.prog w K mg base "_law_weight" 1 ["_law_dots_here", "_law_sides_here", "_law_others", "_law_one", "_law_other"] (sp_law_weight _) := ⟨_, _, ok_law_weight F31 C z_zip, PySem.W.mg_of X G a31, k31, .all fun us hl => (by obtain ⟨u0, u1, u2, u3, u4, e⟩ := lenOf5 hl; subst e; rfl)⟩
  have F32 := funD_mk (st := s_law_four) l32 c32 k32
  have h_law_four : Has l.prog w K mg base "_law_four" 2 ["_law_dots_here", "_law_sides_here", "_law_others"] (sp_law_four _) := ⟨_, _, ok_law_four F32 C h_law_weight, PySem.W.mg_of X G a32, k32, .all fun us hl => (by obtain ⟨u0, u1, u2, e⟩ := lenOf3 hl; subst e; rfl)⟩
  have F33 := funD_mk (st := s_law_due) l33 c33 k33
  have h_law_due : Has l.prog w K mg base "_law_due" 3 ["_law_dots_here"] (sp_law_due _) := ⟨_, _, ok_law_due F33 C h_law_four h_law_gauge h_law_pairs h_law_sides z_len z_max z_range z_sum, PySem.W.mg_of X G a33, k33, .all fun us hl => (by obtain ⟨u0, e⟩ := lenOf1 hl; subst e; rfl)⟩
  have F34 := funD_mk (st := s_law_is) l34 c34 k34
  have h_law_is : Has l.prog w K mg base "_law_is" 2 ["_law_found", "_law_due_here"] (sp_law_is _) := ⟨_, _, ok_law_is F34 C h_law_whole z_isinstance z_len z_tuple, PySem.W.mg_of X G a34, k34, .all fun us hl => (by obtain ⟨u0, u1, e⟩ := lenOf2 hl; subst e; rfl)⟩
  have F35 := funD_mk (st := s_law_counted) l35 c35 k35
  have h_law_counted : Has l.prog w K mg base "_law_counted" 4 ["_law_dots_here", "_law_one", "_law_other"] (sp_law_counted _) := ⟨_, _, ok_law_counted F35 C h_law_four h_law_sides h_law_whole h_quarters z_isinstance z_len z_list, PySem.W.mg_of X G a35, k35, .all fun us hl => (by obtain ⟨u0, u1, u2, e⟩ := lenOf3 hl; subst e; rfl)⟩
  have F36 := funD_mk (st := s_law_drawn) l36 c36 k36
  have h_law_drawn : Has l.prog w K mg base "_law_drawn" 2 ["_law_cell"] (sp_law_drawn _) := ⟨_, _, ok_law_drawn F36 C h_law_stream, PySem.W.mg_of X G a36, k36, .all fun us hl => (by obtain ⟨u0, e⟩ := lenOf1 hl; subst e; rfl)⟩
  exact ok_law (funD_mk (st := s_law) l37 c37 k37) C h_law_cell_at h_law_counted h_law_dots h_law_drawn h_law_due h_law_gauge h_law_is h_law_pairs h_quartered z_list
end LW
theorem PySem.W.Fast.te16217563041286880715 : True := trivial
def PySem.W.Fast.tw2839834786141599460 : PySem.Program := PySem.Challenge.pw_halvecut_k23_whole_quarters
theorem PySem.W.Fast.te2839834786141599460 : PySem.Challenge.pw_halvecut_k23_whole_quarters = PySem.W.Fast.tw2839834786141599460 := rfl
open PySem PySem.W PyProof.Rows
set_option maxRecDepth 100000 in
set_option maxHeartbeats 0 in
theorem PySem.Challenge.cw_halvecut_k23_whole_quarters_holds : PySem.Challenge.rw_halvecut_k23_whole_quarters.Holds := by
  w_on; o_law; k_head; (case hw => w_witness2)
  k_fill
  refine PD.walk (l := PySem.Challenge.rw_halvecut_k23_whole_quarters) (k := 7) (x := "_law_script") rfl rfl ⟨rfl, by decide, by decide⟩ (fun w h Y => PySem.W.kIn_of Y) (fun w => by kernel_rfl) ?F
  case F =>
    intro w mg fa h KX G hmg
    refine' LW.all_mk KX G hmg ?a0 ?l0 ?c0 ?k0 ?a1 ?l1 ?c1 ?k1 ?a2 ?l2 ?c2 ?k2 ?a3 ?l3 ?c3 ?k3 ?a4 ?l4 ?c4 ?k4 ?a5 ?l5 ?c5 ?k5 ?a6 ?l6 ?c6 ?k6 ?t6 ?a7 ?l7 ?c7 ?k7 ?t7 ?a8 ?l8 ?c8 ?k8 ?a9 ?l9 ?c9 ?k9 ?a10 ?l10 ?c10 ?k10 ?a11 ?l11 ?c11 ?k11 ?a12 ?l12 ?c12 ?k12 ?a13 ?l13 ?c13 ?k13 ?a14 ?l14 ?c14 ?k14 ?a15 ?l15 ?c15 ?k15 ?a16 ?l16 ?c16 ?k16 ?a17 ?l17 ?c17 ?k17 ?a18 ?l18 ?c18 ?k18 ?a19 ?l19 ?c19 ?k19 ?a20 ?l20 ?c20 ?k20 ?a21 ?l21 ?c21 ?k21 ?a22 ?l22 ?c22 ?k22 ?a23 ?l23 ?c23 ?k23 ?a24 ?l24 ?c24 ?k24 ?a25 ?l25 ?c25 ?k25 ?a26 ?l26 ?c26 ?k26 ?a27 ?l27 ?c27 ?k27 ?a28 ?l28 ?c28 ?k28 ?a29 ?l29 ?c29 ?k29 ?a30 ?l30 ?c30 ?k30 ?a31 ?l31 ?c31 ?k31 ?a32 ?l32 ?c32 ?k32 ?a33 ?l33 ?c33 ?k33 ?a34 ?l34 ?c34 ?k34 ?a35 ?l35 ?c35 ?k35 ?a36 ?l36 ?c36 ?k36 ?a37 ?l37 ?c37 ?k37 ?mg_PlaneError ?mg_NoLine ?z_abs ?z_all ?z_bool ?z_int ?z_isinstance ?z_len ?z_list ?z_max ?z_range ?z_sum ?z_tuple ?z_zip
    (case a0 => k_is)
    (case l0 => k_is)
    (case c0 => k_is)
    (case k0 => k_is)
    (case a1 => k_is)
    (case l1 => k_is)
    (case c1 => k_is)
    (case k1 => k_is)
    (case a2 => k_is)
    (case l2 => k_is)
    (case c2 => k_is)
    (case k2 => k_is)
    (case a3 => k_is)
    (case l3 => k_is)
    (case c3 => k_is)
    (case k3 => k_is)
    (case a4 => k_is)
    (case l4 => k_is)
    (case c4 => k_is)
    (case k4 => k_is)
    (case a5 => k_is)
    (case l5 => k_is)
    (case c5 => k_is)
    (case k5 => k_is)
    (case a6 => k_is)
    (case l6 => k_is)
    (case c6 => k_is)
    (case k6 => k_is)
    (case t6 => k_is)
    (case a7 => k_is)
    (case l7 => k_is)
    (case c7 => k_is)
    (case k7 => k_is)
    (case t7 => k_is)
    (case a8 => k_is)
    (case l8 => k_is)
    (case c8 => k_is)
    (case k8 => k_is)
    (case a9 => k_is)
    (case l9 => k_is)
    (case c9 => k_is)
    (case k9 => k_is)
    (case a10 => k_is)
    (case l10 => k_is)
    (case c10 => k_is)
    (case k10 => k_is)
    (case a11 => k_is)
    (case l11 => k_is)
    (case c11 => k_is)
    (case k11 => k_is)
    (case a12 => k_is)
    (case l12 => k_is)
    (case c12 => k_is)
    (case k12 => k_is)
    (case a13 => k_is)
    (case l13 => k_is)
    (case c13 => k_is)
    (case k13 => k_is)
    (case a14 => k_is)
    (case l14 => k_is)
    (case c14 => k_is)
    (case k14 => k_is)
    (case a15 => k_is)
    (case l15 => k_is)
    (case c15 => k_is)
    (case k15 => k_is)
    (case a16 => k_is)
    (case l16 => k_is)
    (case c16 => k_is)
    (case k16 => k_is)
    (case a17 => k_is)
    (case l17 => k_is)
    (case c17 => k_is)
    (case k17 => k_is)
    (case a18 => k_is)
    (case l18 => k_is)
    (case c18 => k_is)
    (case k18 => k_is)
    (case a19 => k_is)
    (case l19 => k_is)
    (case c19 => k_is)
    (case k19 => k_is)
    (case a20 => k_is)
    (case l20 => k_is)
    (case c20 => k_is)
    (case k20 => k_is)
    (case a21 => k_is)
    (case l21 => k_is)
    (case c21 => k_is)
    (case k21 => k_is)
    (case a22 => k_is)
    (case l22 => k_is)
    (case c22 => k_is)
    (case k22 => k_is)
    (case a23 => k_is)
    (case l23 => k_is)
    (case c23 => k_is)
    (case k23 => k_is)
    (case a24 => k_is)
    (case l24 => k_is)
    (case c24 => k_is)
    (case k24 => k_is)
    (case a25 => k_is)
    (case l25 => k_is)
    (case c25 => k_is)
    (case k25 => k_is)
    (case a26 => k_is)
    (case l26 => k_is)
    (case c26 => k_is)
    (case k26 => k_is)
    (case a27 => k_is)
    (case l27 => k_is)
    (case c27 => k_is)
    (case k27 => k_is)
    (case a28 => k_is)
    (case l28 => k_is)
    (case c28 => k_is)
    (case k28 => k_is)
    (case a29 => k_is)
    (case l29 => k_is)
    (case c29 => k_is)
    (case k29 => k_is)
    (case a30 => k_is)
    (case l30 => k_is)
    (case c30 => k_is)
    (case k30 => k_is)
    (case a31 => k_is)
    (case l31 => k_is)
    (case c31 => k_is)
    (case k31 => k_is)
    (case a32 => k_is)
    (case l32 => k_is)
    (case c32 => k_is)
    (case k32 => k_is)
    (case a33 => k_is)
    (case l33 => k_is)
    (case c33 => k_is)
    (case k33 => k_is)
    (case a34 => k_is)
    (case l34 => k_is)
    (case c34 => k_is)
    (case k34 => k_is)
    (case a35 => k_is)
    (case l35 => k_is)
    (case c35 => k_is)
    (case k35 => k_is)
    (case a36 => k_is)
    (case l36 => k_is)
    (case c36 => k_is)
    (case k36 => k_is)
    (case a37 => k_is)
    (case l37 => k_is)
    (case c37 => k_is)
    (case k37 => k_is)
    (case mg_PlaneError => k_is)
    (case mg_NoLine => k_is)
    (case z_abs => k_is)
    (case z_all => k_is)
    (case z_bool => k_is)
    (case z_int => k_is)
    (case z_isinstance => k_is)
    (case z_len => k_is)
    (case z_list => k_is)
    (case z_max => k_is)
    (case z_range => k_is)
    (case z_sum => k_is)
    (case z_tuple => k_is)
    (case z_zip => k_is)
