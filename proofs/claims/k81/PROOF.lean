import PyProof.Rows.All
import Wide.All
import OpenK.AllK
import Wide.FinOn
import Lean
import PyProof.EqAt
import PyProof.EqKinds
import PyProof.TupleCall
import PySem.Challenge.RW_halvecut_k81_texts_of_dots
set_option compiler.extract_closed false
set_option Elab.async false
set_option linter.all false
set_option maxRecDepth 100000
namespace L2
open PySem PySem.Spec PyProof.Rows
abbrev Key := Sum Int Str
def keyIs : Key → Value → Bool
  | .inl k, v => Value.isInt k v
  | .inr x, v => Value.isStrOf x v
def keyH (w : World) : Key → Int
  | .inl k => hashInt k
  | .inr x => hashStr w x
theorem keyIs_shape : ∀ {k : Key} {v : Value}, keyIs k v = true → (∃ i t, k = Sum.inl i ∧ v = Value.int i t) ∨ (∃ x t, k = Sum.inr x ∧ v = Value.str x t)
  | .inl i, v, h => by
    obtain ⟨t, e⟩ := Value.isInt_shape (k := i) (v := v) h
    exact .inl ⟨i, t, rfl, e⟩
  | .inr x, v, h => by
    obtain ⟨t, e⟩ := Value.isStrOf_shape (x := x) (v := v) h
    exact .inr ⟨x, t, rfl, e⟩
theorem key_ll (a b : Int) : decide ((Sum.inl a : Key) = Sum.inl b) = (a == b) := by
  by_cases e : a = b
  · subst e; simp
  · have h : ¬ (Sum.inl a : Key) = Sum.inl b := fun q => e (Sum.inl.inj q)
    rw [decide_eq_false h]
    exact (beq_eq_false_iff_ne.mpr e).symm
theorem key_rr (a b : Str) : decide ((Sum.inr a : Key) = Sum.inr b) = decide (a = b) := by
  by_cases e : a = b
  · subst e; simp
  · have h : ¬ (Sum.inr a : Key) = Sum.inr b := fun q => e (Sum.inr.inj q)
    rw [decide_eq_false h, decide_eq_false e]
theorem key_lr (a : Int) (b : Str) : decide ((Sum.inl a : Key) = Sum.inr b) = false := decide_eq_false (fun q => nomatch q)
theorem key_rl (a : Str) (b : Int) : decide ((Sum.inr a : Key) = Sum.inl b) = false := decide_eq_false (fun q => nomatch q)
def mixKind (prog : Program) (w : World) : PySem.KeyKind prog w Key where
  is := keyIs
  hash := keyH w
  inj := fun v a b ha hb => by
    rcases keyIs_shape ha with ⟨i, t, rfl, rfl⟩ | ⟨x, t, rfl, rfl⟩
    · rcases keyIs_shape hb with ⟨j, u, rfl, e⟩ | ⟨y, u, rfl, e⟩
      · injection e with e1 _; rw [e1]
      · exact nomatch e
    · rcases keyIs_shape hb with ⟨j, u, rfl, e⟩ | ⟨y, u, rfl, e⟩
      · exact nomatch e
      · injection e with e1 _; rw [e1]
  byValue := fun k v h => by
    rcases keyIs_shape h with ⟨i, t, rfl, rfl⟩ | ⟨x, t, rfl, rfl⟩ <;> rfl
  pyHash := fun hv h => by
    rcases keyIs_shape hv with ⟨i, t, rfl, rfl⟩ | ⟨x, t, rfl, rfl⟩
    · exact wpAny_pyHash_int h
    · exact wpAny_pyHash_str h
  eqBool := fun hu hv h => by
    rcases keyIs_shape hu with ⟨i, t, rfl, rfl⟩ | ⟨x, t, rfl, rfl⟩
    · rcases keyIs_shape hv with ⟨j, u, rfl, rfl⟩ | ⟨y, u, rfl, rfl⟩
      · rw [key_ll] at h; exact wpAny_eqBool_int h
      · rw [key_lr] at h; exact SeqAt.EqAt.int_str i t y u _ _ _ _ h
    · rcases keyIs_shape hv with ⟨j, u, rfl, rfl⟩ | ⟨y, u, rfl, rfl⟩
      · rw [key_rl] at h; exact SeqAt.EqAt.str_int x t j u _ _ _ _ h
      · rw [key_rr] at h; exact wpAny_eqBool_str h
  «strs» := fun k x t v h => by
    rcases keyIs_shape h with ⟨i, u, rfl, e⟩ | ⟨y, u, rfl, e⟩
    · exact nomatch e
    · injection e with e1 _
      subst e1
      cases v <;> rfl
inductive V where
  | non | bl (b : Bool) | int (i : Int) | str (x : Str) | byt (b : Array UInt8) | flt (b : UInt64) | ref (a : Addr) | ty (n : String)
  deriving DecidableEq
def RelV : V → Value → Prop
  | .non, u => u = Value.none
  | .bl b, u => u = Value.bool b
  | .int i, u => ∃ t, u = Value.int i t
  | .str x, u => ∃ t, u = Value.str x t
  | .byt b, u => ∃ t, u = Value.bytes b t
  | .flt b, u => ∃ t, u = Value.float b t
  | .ref a, u => u = Value.ref a
  | .ty n, u => u = Value.type n
abbrev Vals : List V → List Value → Prop := Paired RelV
theorem Vals.length {xs : List V} {us : List Value} (r : Vals xs us) : xs.length = us.length := Paired.length r
theorem Vals.get : ∀ {xs : List V} {us : List Value} {i : Nat} {x : V}, Vals xs us → xs[i]? = some x → ∃ u, us[i]? = some u ∧ RelV x u
  | _, _, _, _, .nil, e => by simp at e
  | _, _, 0, _, .cons r _, e => by simp at e; subst e; exact ⟨_, rfl, r⟩
  | _, _, i + 1, x, .cons _ t, e => by
    obtain ⟨u, h1, h2⟩ := Vals.get (i := i) (x := x) t (by simpa using e)
    exact ⟨u, by simpa using h1, h2⟩
theorem Vals.set {x : V} {u : Value} (r : RelV x u) : ∀ {xs : List V} {us : List Value} (i : Nat), Vals xs us → Vals (xs.set i x) (us.set i u)
  | _, _, _, .nil => .nil
  | _, _, 0, .cons _ t => .cons r t
  | _, _, i + 1, .cons q t => .cons q (Vals.set r i t)
theorem Vals.append : ∀ {xs ys : List V} {us ws : List Value}, Vals xs us → Vals ys ws → Vals (xs ++ ys) (us ++ ws)
  | _, _, _, _, .nil, s => s
  | _, _, _, _, .cons r t, s => .cons r (Vals.append t s)
theorem Vals.take : ∀ {xs : List V} {us : List Value} (n : Nat), Vals xs us → Vals (xs.take n) (us.take n)
  | _, _, 0, _ => .nil
  | _, _, _ + 1, .nil => .nil
  | _, _, n + 1, .cons r t => .cons r (Vals.take n t)
theorem Vals.drop : ∀ {xs : List V} {us : List Value} (n : Nat), Vals xs us → Vals (xs.drop n) (us.drop n)
  | _, _, 0, r => r
  | _, _, _ + 1, .nil => .nil
  | _, _, n + 1, .cons _ t => Vals.drop n t
theorem Vals.none_of : ∀ {xs : List V} {us : List Value} {i : Nat}, Vals xs us → xs[i]? = none → us[i]? = none := fun {xs us i} r e => by
  have h1 := r.length
  have h2 : xs.length ≤ i := List.getElem?_eq_none_iff.mp e
  exact List.getElem?_eq_none_iff.mpr (by omega)
def RelO : Option V → Option Value → Prop
  | some v, some u => RelV v u
  | none, none => True
  | _, _ => False
def KV {κ : Type} : List (κ × V) → List (κ × Value) → Prop := Paired fun (p : κ × V) (q : κ × Value) => p.1 = q.1 ∧ RelV p.2 q.2
def kV : Key → V
  | .inl i => .int i
  | .inr x => .str x
inductive HO where
  | lst (xs : List V)
  | tup (xs : List V)
  | dK (kvs : List (Key × V)) | dT (kvs : List (List Key × V))
  | set (S : Int → Bool) (n : Nat)
  | ins (C dx : Addr) (fs : List (Str × V))
  | own (x : Addr)
  | xd (fs : List (Str × V))
  | met (f x : Addr)
  | rng (lo hi : Int)
  | frz (o : Obj) (u : HO)
  | tbl (ps : Array Value)
  | ext (φ : Heap → Prop)
abbrev Hp := Addr → Option HO
def upd (H : Hp) (a : Addr) (o : HO) : Hp := fun b => if b = a then some o else H b
theorem upd_same {H : Hp} {a : Addr} {o : HO} : upd H a o a = some o := by unfold upd; rw [if_pos rfl]
theorem upd_ne {H : Hp} {a b : Addr} {o : HO} (h : b ≠ a) : upd H a o b = H b := by unfold upd; rw [if_neg h]
theorem ne_of {H : Hp} {a b : Addr} {o u : HO} (h : H a = some o) (h' : H b = some u) (d : o ≠ u) : a ≠ b := by
  intro e; subst e; rw [h] at h'; exact d (Option.some.inj h')
theorem ne_of_none {H : Hp} {a b : Addr} {o : HO} (h : H a = some o) (h' : H b = none) : a ≠ b := by
  intro e; subst e; rw [h] at h'; cases h'
section
variable (P : Program) (w : World)
def ObjOk (H : Hp) (h : Heap) (a : Addr) : HO → Prop
  | .lst xs => xs.length ≤ sizeLine ∧ ∃ (its : List Value) (n : Nat), Vals xs its ∧ h.get? a = some { cls := .type "list", data := .seq its.toArray n }
  | .tup xs => xs.length ≤ sizeLine ∧ ∃ its : List Value, Vals xs its ∧ IsTup h a its.toArray
  | .dK kvs => kvs.length ≤ sizeLine ∧ (a == sysModules) = false ∧ ∃ vs, KV kvs vs ∧ h.DictOf (mixKind P w) a vs
  | .dT kvs => kvs.length ≤ sizeLine ∧ (a == sysModules) = false ∧ ∃ xs : List (List Key × Addr × Value),
      Paired (fun (p : List Key × V) (q : List Key × Addr × Value) => p.1 = q.1 ∧ H q.2.1 = some (.tup (p.1.map kV)) ∧ RelV p.2 q.2.2) kvs xs ∧
      ∃ o es ep, h.get? a = some o ∧ o.ExactDict ∧ o.data = .dict es ep ∧ es.toList = xs.map (entryOfKey (tupleKind (mixKind P w))) ∧ (xs.map (·.1)).Nodup
  | .set S n => h.SetOf (intKind P w) a S n
  | .ins C dx fs => H dx = some (.own a) ∧ fs.length ≤ 1000 ∧ dx ≠ a ∧ h.get? a = some (PySem.W.instObj C dx) ∧
      ∃ mA, h.Ns1 dx mA ∧ (∀ f, RelO (fs.lookup f) (mA f)) ∧ PySem.Within mA (fs.map (·.1))
  | .own _ => ∃ o, h.get? a = some o
  | .xd fs => ∃ mA, h.Ns1 a mA ∧ ∀ f, RelO (fs.lookup f) (mA f)
  | .rng lo hi => ∃ t u v, h.get? a = some { cls := .type "range", data := .fields #[.int lo t, .int hi u, .int 1 v] }
  | .frz o u => h.get? a = some o ∧ ObjOk H h a u
  | .tbl ps => h.get? a = some { cls := .none, data := .fields ps }
  | .met f x => h.get? a = some (PySem.W.methodObj (.ref f) (.ref x))
  | .ext φ => φ h ∧ (∃ o, h.get? a = some o) ∧ ∀ h1 h2 : Heap, φ h1 → (∀ o, h1.get? a = some o → h2.get? a = some o) → φ h2
def HOk (H : Hp) (h : Heap) : Prop := ∀ a o, H a = some o → ObjOk P w H h a o
end
section
variable {P : Program} {w : World} {H H' : Hp} {h h' : Heap} {a : Addr} {o : HO}
theorem ObjOk.lt (x : ObjOk P w H h a o) : a < h.objs.size := by
  cases o with
  | lst xs => obtain ⟨_, _, _, _, e⟩ := x; exact Heap.lt_size e
  | tup xs => obtain ⟨_, _, _, p⟩ := x; exact p.lt
  | dK kvs => obtain ⟨_, _, _, _, o, _, _, e, _⟩ := x; exact Heap.lt_size e
  | dT kvs => obtain ⟨_, _, _, _, o, _, _, e, _⟩ := x; exact Heap.lt_size e
  | set S n => obtain ⟨o, _, _, _, e, _⟩ := x; exact Heap.lt_size e
  | ins C dx fs => obtain ⟨_, _, _, e, _⟩ := x; exact Heap.lt_size e
  | own y => obtain ⟨_, e⟩ := x; exact Heap.lt_size e
  | xd fs => obtain ⟨_, ⟨_, _, _, e, _⟩, _⟩ := x; exact Heap.lt_size e
  | rng lo hi => obtain ⟨_, _, _, e⟩ := x; exact Heap.lt_size e
  | frz ob u => obtain ⟨e, _⟩ := x; exact Heap.lt_size e
  | tbl ps => exact Heap.lt_size (show h.get? a = some _ from x)
  | met f y => exact Heap.lt_size (show h.get? a = some _ from x)
  | ext φ => obtain ⟨_, ⟨_, e⟩, _⟩ := x; exact Heap.lt_size e
theorem Paired.mapP {α β : Type} {F G : α → β → Prop} : ∀ {l₁ : List α} {l₂ : List β}, Paired F l₁ l₂ → (∀ a b, F a b → G a b) → Paired G l₁ l₂
  | _, _, .nil, _ => .nil
  | _, _, .cons r t, f => .cons (f _ _ r) (Paired.mapP t f)
theorem ObjOk.stay (x : ObjOk P w H h a o) (k : ∀ b u, (b = a ∨ H b = some (.own a)) → h.get? b = some u → h'.get? b = some u)
    (ho : ∀ b, H b = some (.own a) → H' b = some (.own a)) (ht : ∀ b xs, H b = some (.tup xs) → H' b = some (.tup xs)) : ObjOk P w H' h' a o := by
  induction o with
  | lst xs => obtain ⟨z, its, n, r, e⟩ := x; exact ⟨z, its, n, r, k _ _ (.inl rfl) e⟩
  | tup xs => obtain ⟨z, its, r, ob, e, c⟩ := x; exact ⟨z, its, r, ob, k _ _ (.inl rfl) e, c⟩
  | dK kvs => obtain ⟨z, y, vs, r, ob, es, ep, e, c⟩ := x; exact ⟨z, y, vs, r, ob, es, ep, k _ _ (.inl rfl) e, c⟩
  | dT kvs =>
    obtain ⟨z, y, xs, r, ob, es, ep, e, c⟩ := x
    exact ⟨z, y, xs, Paired.mapP r fun p q z => ⟨z.1, ht _ _ z.2.1, z.2.2⟩, ob, es, ep, k _ _ (.inl rfl) e, c⟩
  | set S n => obtain ⟨ob, es, ep, t, e, c⟩ := x; exact ⟨ob, es, ep, t, k _ _ (.inl rfl) e, c⟩
  | ins C dx fs =>
    obtain ⟨d, z, ne, e, mA, ⟨od, es, ep, e2, c⟩, r⟩ := x
    exact ⟨ho _ d, z, ne, k _ _ (.inl rfl) e, mA, ⟨od, es, ep, k _ _ (.inr d) e2, c⟩, r⟩
  | own y => obtain ⟨ob, e⟩ := x; exact ⟨ob, k _ _ (.inl rfl) e⟩
  | xd fs => obtain ⟨mA, ⟨od, es, ep, e, c⟩, r⟩ := x; exact ⟨mA, ⟨od, es, ep, k _ _ (.inl rfl) e, c⟩, r⟩
  | rng lo hi => obtain ⟨t, u, v, e⟩ := x; exact ⟨t, u, v, k _ _ (.inl rfl) e⟩
  | frz ob u ih => obtain ⟨e, q⟩ := x; exact ⟨k _ _ (.inl rfl) e, ih q⟩
  | tbl ps =>
    have e : h.get? a = some { cls := .none, data := .fields ps } := x
    show h'.get? a = some { cls := .none, data := .fields ps }
    exact k a _ (.inl rfl) e
  | met f y =>
    have e : h.get? a = some (PySem.W.methodObj (.ref f) (.ref y)) := x
    show h'.get? a = some (PySem.W.methodObj (.ref f) (.ref y))
    exact k a _ (.inl rfl) e
  | ext φ => obtain ⟨p, ⟨o, e⟩, st⟩ := x; exact ⟨st _ _ p fun o q => k _ _ (.inl rfl) q, ⟨o, k _ _ (.inl rfl) e⟩, st⟩
theorem HOk.lt (x : HOk P w H h) (e : H a = some o) : a < h.objs.size := (x a o e).lt
theorem HOk.fresh (x : HOk P w H h) (e : h.objs.size ≤ a) : H a = none := by
  cases q : H a with
  | none => rfl
  | some u => exact absurd (Nat.lt_of_lt_of_le (x.lt q) e) (Nat.lt_irrefl _)
theorem HOk.kept (x : HOk P w H h) (k : ∀ b u, h.get? b = some u → h'.get? b = some u) : HOk P w H h' := fun a o e =>
  (x a o e).stay (fun b u _ q => k b u q) (fun _ q => q) fun _ _ q => q
theorem HOk.laid (x : HOk P w H h) (k : ∀ b u, h.get? b = some u → h'.get? b = some u) (hp : h.objs.size ≤ a) (new : ObjOk P w (upd H a o) h' a o) : HOk P w (upd H a o) h' := fun b u e => by
  have hn := x.fresh hp
  by_cases hb : b = a
  · subst hb; rw [upd_same] at e; cases e; exact new
  · rw [upd_ne hb] at e
    exact (x b u e).stay (fun c v _ q => k c v q) (fun c q => by rw [upd_ne (ne_of_none q hn)]; exact q) fun c xs q => by rw [upd_ne (ne_of_none q hn)]; exact q
end
def Rd (H : Hp) (a : Addr) (u : HO) : Prop := H a = some u ∨ ∃ o, H a = some (.frz o u)
theorem Rd.of {H : Hp} {a : Addr} {u : HO} (h : H a = some u) : Rd H a u := .inl h
theorem Rd.ok {P : Program} {w : World} {H : Hp} {h : Heap} {a : Addr} {u : HO} (r : Rd H a u) (x : HOk P w H h) : ObjOk P w H h a u := by
  rcases r with r | ⟨o, r⟩
  · exact x a u r
  · obtain ⟨_, q⟩ := x a _ r
    exact q
def Mut : Option HO → Prop
  | some (.lst _) => True
  | some (.dK _) => True
  | some (.dT _) => True
  | some (.set _ _) => True
  | some (.ins _ _ _) => True
  | some (.ext _) => True
  | _ => False
section
variable {P : Program} {w : World} {H : Hp} {h h' : Heap} {x e : Addr} {o' : HO}
theorem HOk.write (ok : HOk P w H h) (mu : Mut (H x)) (he : e = x ∨ H e = some (.own x)) (k : ∀ b u, b ≠ e → h.get? b = some u → h'.get? b = some u) (heo : ∃ u, h'.get? e = some u)
    (new : ObjOk P w (upd H x o') h' x o') : HOk P w (upd H x o') h' := fun b u q => by
  have nown : ∀ c y, H c = some (.own y) → c ≠ x := fun c y r z => by subst z; rw [r] at mu; exact mu
  have ntup : ∀ c xs, H c = some (.tup xs) → c ≠ x := fun c xs r z => by subst z; rw [r] at mu; exact mu
  by_cases hb : b = x
  · subst hb; rw [upd_same] at q; cases q; exact new
  · rw [upd_ne hb] at q
    by_cases hbe : b = e
    · have q' : H b = some (.own x) := by
        rcases he with z | z
        · exact absurd (hbe.trans z) hb
        · rw [hbe]; exact z
      rw [q] at q'; cases q'
      obtain ⟨v, hv⟩ := heo
      exact ⟨v, by rw [hbe]; exact hv⟩
    · refine (ok b u q).stay (fun c v hc r => k c v ?_ r) (fun c r => by rw [upd_ne (nown c b r)]; exact r) fun c xs r => by rw [upd_ne (ntup c xs r)]; exact r
      rcases hc with rfl | hc
      · exact hbe
      · rintro rfl
        rcases he with z | z
        · exact nown c b hc z
        · rw [hc] at z; cases z; exact hb rfl
end
structure Un (fs ex : List Addr) (H H' : Hp) (h h' : Heap) : Prop where
  keep : ∀ b o, h.get? b = some o → H b = none → b ∉ fs → b ∉ ex → h'.get? b = some o
  slot : ∀ b o, h.get? b = some o → H b = none → b ∈ fs → b ∉ ex → ∃ sl, h'.get? b = some { o with slots := sl }
  free : ∀ b o, h.get? b = some o → H b = none → b ∉ ex → H' b = none
  there : ∀ b o, h.get? b = some o → b ∉ ex → ∃ o', h'.get? b = some o'
  tups : ∀ b xs, H b = some (.tup xs) → H' b = some (.tup xs)
  frzs : ∀ b o u, H b = some (.frz o u) → H' b = some (.frz o u)
  tbls : ∀ b ps, H b = some (.tbl ps) → ∃ more, H' b = some (.tbl (ps ++ more))
section
variable {fs fs' ex ex' : List Addr} {H H1 H2 : Hp} {h h1 h2 h' : Heap} {a x e : Addr} {o : HO}
theorem Un.any (u : Un fs ex H H1 h h1) {b : Addr} {ob : Obj} (q : h.get? b = some ob) (n : H b = none) (hx : b ∉ ex) : ∃ sl, h1.get? b = some { ob with slots := sl } := by
  by_cases hb : b ∈ fs
  · exact u.slot b ob q n hb hx
  · exact ⟨ob.slots, u.keep b ob q n hb hx⟩
theorem Un.trans (a : Un fs ex H H1 h h1) (b : Un fs ex H1 H2 h1 h2) : Un fs ex H H2 h h2 where
  keep := fun c ob q n hc hx => b.keep c ob (a.keep c ob q n hc hx) (a.free c ob q n hx) hc hx
  slot := fun c ob q n hc hx => by
    obtain ⟨sl, e1⟩ := a.slot c ob q n hc hx
    obtain ⟨sl', e2⟩ := b.slot c _ e1 (a.free c ob q n hx) hc hx
    exact ⟨sl', e2⟩
  free := fun c ob q n hx => by
    obtain ⟨o', e1⟩ := a.there c ob q hx
    exact b.free c o' e1 (a.free c ob q n hx) hx
  there := fun c ob q hx => by
    obtain ⟨o', e1⟩ := a.there c ob q hx
    exact b.there c o' e1 hx
  tups := fun c xs q => b.tups c xs (a.tups c xs q)
  frzs := fun c ob xs q => b.frzs c ob xs (a.frzs c ob xs q)
  tbls := fun c ps q => by
    obtain ⟨m1, e1⟩ := a.tbls c ps q
    obtain ⟨m2, e2⟩ := b.tbls c _ e1
    exact ⟨m1 ++ m2, by rw [e2, Array.append_assoc]⟩
theorem Un.kept (k : ∀ b u, h.get? b = some u → h'.get? b = some u) : Un fs ex H H h h' :=
  ⟨fun b ob q _ _ _ => k b ob q, fun b ob q _ _ _ => ⟨ob.slots, k b ob q⟩, fun _ _ _ n _ => n, fun b ob q _ => ⟨ob, k b ob q⟩, fun _ _ q => q, fun _ _ _ q => q, fun _ ps q => ⟨#[], by rw [q]; simp⟩⟩
theorem Un.refl : Un fs ex H H h h := Un.kept fun _ _ q => q
theorem Un.laid (k : ∀ b u, h.get? b = some u → h'.get? b = some u) (hp : h.objs.size ≤ a) (hn : H a = none) : Un fs ex H (upd H a o) h h' where
  keep := fun b u q _ _ _ => k b u q
  slot := fun b u q _ _ _ => ⟨u.slots, k b u q⟩
  free := fun b u q n _ => by rw [upd_ne (Nat.ne_of_lt (Nat.lt_of_lt_of_le (Heap.lt_size q) hp))]; exact n
  there := fun b u q _ => ⟨u, k b u q⟩
  tups := fun b xs q => by rw [upd_ne (ne_of_none q hn)]; exact q
  frzs := fun b u xs q => by rw [upd_ne (ne_of_none q hn)]; exact q
  tbls := fun b ps q => ⟨#[], by rw [upd_ne (ne_of_none q hn), q]; simp⟩
theorem Un.write (mu : Mut (H x)) (he : e = x ∨ H e = some (.own x)) (k : ∀ b u, b ≠ e → h.get? b = some u → h'.get? b = some u) (heo : ∃ u, h'.get? e = some u) : Un fs ex H (upd H x o) h h' := by
  have hx : ∀ b, H b = none → b ≠ x := fun b n z => by subst z; rw [n] at mu; exact mu
  have hb : ∀ b, H b = none → b ≠ e := fun b n z => by
    subst z
    rcases he with r | r
    · exact hx b n r
    · rw [n] at r; cases r
  have hm : ∀ b u, H b = some u → ¬ Mut (some u) → b ≠ x := fun b u q nm z => by subst z; rw [q] at mu; exact nm mu
  refine ⟨fun b u q n _ _ => k b u (hb b n) q, fun b u q n _ _ => ⟨u.slots, k b u (hb b n) q⟩, fun b u q n _ => by rw [upd_ne (hx b n)]; exact n, fun b u q _ => ?_,
    fun b xs q => by rw [upd_ne (hm b _ q fun z => z)]; exact q, fun b u xs q => by rw [upd_ne (hm b _ q fun z => z)]; exact q, fun b ps q => ⟨#[], by rw [upd_ne (hm b _ q fun z => z), q]; simp⟩⟩
  by_cases hbe : b = e
  · subst hbe; exact heo
  · exact ⟨u, k b u hbe q⟩
theorem Un.mono (u : Un fs ex H H1 h h1) (hs : ∀ b ∈ fs, b ∈ fs') (hx : ∀ b ∈ ex, b ∈ ex') : Un fs' ex' H H1 h h1 :=
  ⟨fun b ob q n hb he => u.keep b ob q n (fun z => hb (hs b z)) fun z => he (hx b z), fun _ _ q n _ he => u.any q n fun z => he (hx _ z), fun b ob q n he => u.free b ob q n fun z => he (hx b z), fun b ob q he => u.there b ob q fun z => he (hx b z), u.tups, u.frzs, u.tbls⟩
end
def trk (h : Heap) (H : Hp) : List Addr := (List.range h.objs.size).filter fun a => (H a).isSome
def hidT (h : Heap) (H : Hp) : Heap := PySem.W.hideAll h (trk h H)
theorem hidT_size (h : Heap) (H : Hp) : (hidT h H).objs.size = h.objs.size := PySem.W.hideAll_size _ _
theorem hidT_get {h : Heap} {H : Hp} {b : Addr} {o : Obj} (e : h.get? b = some o) (n : H b = none) : (hidT h H).get? b = some o :=
  PySem.W.hideAll_get _ e fun hm => by
    have q : (H b).isSome = true := (List.mem_filter.mp hm).2
    rw [n] at q; simp at q
theorem of_hidT {h : Heap} {H : Hp} {b : Addr} {o : Obj} (e : (hidT h H).get? b = some o) : h.get? b = some o ∧ H b = none := by
  have e' : h.get? b = some o := PySem.W.of_hideAll (trk h H) e
  refine ⟨e', ?_⟩
  cases q : H b with
  | none => rfl
  | some x =>
    have hm : b ∈ trk h H := List.mem_filter.mpr ⟨List.mem_range.mpr (Heap.lt_size e'), by simp [q]⟩
    have z : (hidT h H).get? b = none := PySem.W.hideAll_none (trk h H) hm
    rw [z] at e; cases e
def allNews (g h : Heap) (L : Addr) : List (Addr × Obj) := (List.range h.objs.size).filterMap fun a => if a = L ∨ (g.get? a).isSome = true then none else (h.get? a).map fun o => (a, o)
def rest (g h : Heap) (L d : Addr) : List (Addr × Obj) := (allNews g h L).filter fun p => decide (p.1 ≠ d)
structure Mod (K : PySem.W.Frag) (mg : Str → Option Value) (base : Heap) : Prop where
  kin : K.In base
  glob : base.Ns mainGlobals mg
  blt : ∃ mb, base.Ns builtinsNs mb ∧ ∀ x : Str, x ≠ "__name__" → mb x = bootBuiltins x
  nolimit : base.NoLimit
structure Cx where
  prog : Program
  w : World
  K : PySem.W.Frag
  mg : Str → Option Value
  base : Heap
  A : Around
  N : List Str
  s₀ : Shared
  H₀ : Hp
  env : Env
  outer : List Env
  stack : List Env
  ex : List Addr
  fn : Str → Bool
  calm : Bool
  pn : List (Addr × Obj)
  xe : Value → Shared → Prop
def frs (l : List Env) : List Addr := l.filterMap (·.frame)
abbrev Cx.fs (X : Cx) : List Addr := frs X.outer
def Vis (sc : Scope) (x : Str) : Prop := sc.names.lookup x = some .local ∨ sc.names.lookup x = some .cell ∨ sc.names.lookup x = some .free
def Loc (sc : Scope) (x : Str) : Prop := sc.names.lookup x = some .local ∨ sc.names.lookup x = some .cell
def Look (env : Env) (h : Heap) (m : Str → Option Value) (x : Str) (u : Value) : Prop :=
  (env.kindOf x = some .local ∧ m x = some u) ∨ ((env.kindOf x = some .cell ∨ env.kindOf x = some .free) ∧ ∃ c, env.cells.lookup x = some c ∧ h.IsCell c (some u))
structure Cx.Ok (X : Cx) : Prop where
  mod : Mod X.K X.mg X.base
  kind : X.env.scope.kind = .function
  glob : X.env.globals = mainGlobals
  blt : X.env.builtins = builtinsNs
  above : X.s₀.heap.objs.size ≤ X.env.locals
  inj : ∀ x y c, X.env.cells.lookup x = some c → X.env.cells.lookup y = some c → x = y
  has : ∀ x, (X.env.kindOf x = some .cell ∨ X.env.kindOf x = some .free) → ∃ c, X.env.cells.lookup x = some c
  cab : ∀ x c, X.fn x = true → X.env.cells.lookup x = some c → X.s₀.heap.objs.size ≤ c
  hd : X.calm = true → X.A.handled = none
  frames : X.A.frames = some X.stack
  stk : X.stack = X.outer ∨ (X.stack = X.env :: X.outer ∧ X.env.frame = some X.env.locals)
  exf : ∀ b ∈ X.ex, b ≠ X.env.locals ∧ ∀ x c, X.env.cells.lookup x = some c → c ≠ b
  bs : ∀ b o, X.base.get? b = some o → X.s₀.heap.get? b = some o ∧ X.H₀ b = none
  bsz : X.base.objs.size ≤ X.s₀.heap.objs.size
  noex : ∀ b o, X.base.get? b = some o → b ∉ X.ex
  exfs : ∀ b ∈ X.ex, b ∉ X.fs
  funs : X.s₀.heap.FunFrames X.base X.outer
  frf : ∀ b ∈ X.fs, X.H₀ b = none
structure Inv (X : Cx) (pins : List (Addr × Obj)) (σ : List (Option V)) (H : Hp) (s : Shared) : Prop where
  ok : X.Ok
  os : s.os = X.s₀.os
  bare : AllBare s.gens
  base : Un X.fs X.ex X.H₀ H X.s₀.heap s.heap
  loc : ∃ m, s.heap.Ns X.env.locals m ∧ ∀ (i : Nat) (x : Str) (v : V), X.N[i]? = some x → σ[i]? = some (some v) → Vis X.env.scope x → ∃ u, RelV v u ∧ Look X.env s.heap m x u
  cell : ∀ x c, X.env.cells.lookup x = some c → ∃ v, s.heap.IsCell c v
  free : H X.env.locals = none
  freeC : ∀ x c, X.env.cells.lookup x = some c → H c = none
  pin : ∀ p ∈ X.pn ++ pins, s.heap.get? p.1 = some p.2 ∧ H p.1 = none ∧ p.1 ≠ X.env.locals ∧ p.1 ∉ X.fs ∧ ∀ v, p.2.data ≠ .cell v
  hok : HOk X.prog X.w H s.heap
  len : σ.length = X.N.length
section
variable {X : Cx} {pins : List (Addr × Obj)} {σ : List (Option V)} {H H' : Hp} {s : Shared} {h' : Heap}
theorem Cx.Ok.nofr (ok : X.Ok) {b : Addr} {o : Obj} (e : X.base.get? b = some o) : b ∉ X.fs := fun hb => by
  have := (ok.funs.mem hb).1
  rw [e] at this; cases this
theorem Inv.bs (I : Inv X pins σ H s) : ∀ b o, X.base.get? b = some o → s.heap.get? b = some o ∧ H b = none := fun b o e =>
  ⟨I.base.keep b o (I.ok.bs b o e).1 (I.ok.bs b o e).2 (I.ok.nofr e) (I.ok.noex b o e), I.base.free b o (I.ok.bs b o e).1 (I.ok.bs b o e).2 (I.ok.noex b o e)⟩
theorem Inv.bk (I : Inv X pins σ H s) : ∀ b o, X.base.get? b = some o → s.heap.get? b = some o := fun b o e => (I.bs b o e).1
theorem Inv.mod (I : Inv X pins σ H s) : Mod X.K X.mg X.base := I.ok.mod
theorem Inv.kIn (I : Inv X pins σ H s) : X.K.In s.heap := I.ok.mod.kin.keeps I.bk
theorem Inv.nolimit (I : Inv X pins σ H s) : s.heap.NoLimit := I.ok.mod.nolimit.keeps I.bk
theorem Inv.fr (I : Inv X pins σ H s) : ∃ m, Fr X.base X.env.locals s.heap m :=
  let ⟨m, hn, _⟩ := I.loc
  ⟨m, hn, I.bk, Nat.le_trans I.ok.bsz I.ok.above⟩
theorem Inv.lt (I : Inv X pins σ H s) : X.env.locals < s.heap.objs.size := let ⟨_, hn, _⟩ := I.loc; hn.lt
theorem Inv.sz (I : Inv X pins σ H s) : X.s₀.heap.objs.size ≤ s.heap.objs.size := Nat.le_trans I.ok.above (Nat.le_of_lt I.lt)
theorem Inv.nofs (I : Inv X pins σ H s) {a : Addr} (h : s.heap.objs.size ≤ a) : a ∉ X.fs := fun hb => by
  obtain ⟨_, o, ho, _⟩ := I.ok.funs.mem hb
  exact absurd (Nat.lt_of_lt_of_le (Heap.lt_size ho) (Nat.le_trans I.sz h)) (Nat.lt_irrefl _)
theorem Inv.cne (I : Inv X pins σ H s) : ∀ x c, X.env.cells.lookup x = some c → c ≠ X.env.locals := fun x c e z => by
  obtain ⟨v, o, ho, hd⟩ := I.cell x c e
  obtain ⟨m, ⟨o', es, ep, ho', hd', _⟩, _⟩ := I.loc
  rw [z, ho'] at ho; cases ho; rw [hd'] at hd; cases hd
theorem Inv.funs (I : Inv X pins σ H s) : s.heap.FunFrames X.base X.outer := by
  have all : ∀ (l : List Env), (∀ b ∈ frs l, b ∈ X.fs) → X.s₀.heap.FunFrames X.base l → s.heap.FunFrames X.base l := by
    intro l
    induction l with
    | nil => intro _ _; trivial
    | cons env r ih =>
      intro hs hl
      obtain ⟨hk, ⟨L, o, hf, hn, ho, hd⟩, hr⟩ := hl
      have hL : L ∈ X.fs := hs L (by unfold frs; rw [List.filterMap_cons, hf]; exact List.mem_cons_self)
      obtain ⟨sl, e⟩ := I.base.slot L o ho (I.ok.frf L hL) hL fun z => I.ok.exfs L z hL
      exact ⟨hk, ⟨L, _, hf, hn, e, hd⟩, ih (fun b hb => hs b (by unfold frs; rw [List.filterMap_cons, hf]; exact List.mem_cons_of_mem _ hb)) hr⟩
  exact all X.outer (fun _ hb => hb) I.ok.funs
theorem Inv.stack (I : Inv X pins σ H s) : s.heap.FunFrames X.base X.stack := by
  rcases I.ok.stk with e | ⟨e, hf⟩
  · rw [e]; exact I.funs
  · rw [e]
    obtain ⟨m, hn, _⟩ := I.loc
    refine .cons (by rw [I.ok.kind]; decide) hf hn ?_ I.funs
    exact Heap.get?_none_of_le (Nat.le_trans I.ok.bsz I.ok.above)
theorem Inv.stkSub (I : Inv X pins σ H s) : ∀ b ∈ frs X.stack, b ∈ X.env.locals :: X.fs := fun b hb => by
  rcases I.ok.stk with e | ⟨e, hf⟩
  · rw [e] at hb; exact List.mem_cons_of_mem _ hb
  · rw [e] at hb
    unfold frs at hb
    rw [List.filterMap_cons, hf] at hb
    exact hb
theorem Inv.stkFree (I : Inv X pins σ H s) : ∀ b ∈ frs X.stack, H b = none := fun b hb => by
  rcases List.mem_cons.mp (I.stkSub b hb) with e | hb
  · rw [e]; exact I.free
  · obtain ⟨_, o, ho, _⟩ := I.ok.funs.mem hb
    exact I.base.free b o ho (I.ok.frf b hb) fun z => I.ok.exfs b z hb
theorem Inv.step {g' : Array GenState} {t' : Nat} {d' : Drawn} {ch : List Addr} (I : Inv X pins σ H s)
    (hch : ∀ b ∈ ch, (b ∈ X.ex ∨ X.s₀.heap.objs.size ≤ b) ∧ b ≠ X.env.locals ∧ (∀ x c, X.env.cells.lookup x = some c → c ≠ b) ∧ ∀ p ∈ X.pn ++ pins, p.1 ≠ b)
    (keep : ∀ b o, b ≠ X.env.locals → b ∉ X.fs → b ∉ ch → s.heap.get? b = some o → H b = none → h'.get? b = some o)
    (slot : ∀ b o, b ≠ X.env.locals → b ∈ X.fs → b ∉ ch → s.heap.get? b = some o → H b = none → ∃ sl, h'.get? b = some { o with slots := sl }) (free : ∀ b o, b ∉ ch → s.heap.get? b = some o → H b = none → H' b = none)
    (there : ∀ b o, b ∉ ch → s.heap.get? b = some o → ∃ o', h'.get? b = some o')
    (tups : ∀ b xs, H b = some (.tup xs) → H' b = some (.tup xs)) (frzs : ∀ b o u, H b = some (.frz o u) → H' b = some (.frz o u)) (tbls : ∀ b ps, H b = some (.tbl ps) → ∃ more, H' b = some (.tbl (ps ++ more)))
    (ns : ∀ m, s.heap.Ns X.env.locals m → h'.Ns X.env.locals m) (hok : HOk X.prog X.w H' h') (hg : AllBare g') :
    Inv X pins σ H' { s with heap := h', gens := g', drawn := d', toks := t' } := by
  have neL : ∀ b o, X.s₀.heap.get? b = some o → b ≠ X.env.locals := fun b o e => Nat.ne_of_lt (Nat.lt_of_lt_of_le (Heap.lt_size e) I.ok.above)
  have neC : ∀ b o, X.s₀.heap.get? b = some o → b ∉ X.ex → b ∉ ch := fun b o e hx hb => by
    rcases (hch b hb).1 with z | z
    · exact hx z
    · exact absurd (Nat.lt_of_lt_of_le (Heap.lt_size e) z) (Nat.lt_irrefl _)
  have cellK : ∀ x c, X.env.cells.lookup x = some c → ∀ v, s.heap.IsCell c v → h'.IsCell c v := fun x c e v ⟨o, ho, hd⟩ => by
    have nch : c ∉ ch := fun z => (hch c z).2.2.1 x c e rfl
    by_cases hc : c ∈ X.fs
    · obtain ⟨sl, q⟩ := slot c o (I.cne x c e) hc nch ho (I.freeC x c e)
      exact ⟨_, q, hd⟩
    · exact ⟨o, keep c o (I.cne x c e) hc nch ho (I.freeC x c e), hd⟩
  refine ⟨I.ok, I.os, hg, ⟨fun b o e n hb hx => ?_, fun b o e n hb hx => ?_, fun b o e n hx => ?_, fun b o e hx => ?_, fun b xs e => tups b xs (I.base.tups b xs e), fun b o xs e => frzs b o xs (I.base.frzs b o xs e), fun b ps e => ?_⟩, ?_, fun x c e => ?_, ?_, fun x c e => ?_, fun p hp => ?_, hok, I.len⟩
  · exact keep b o (neL b o e) hb (neC b o e hx) (I.base.keep b o e n hb hx) (I.base.free b o e n hx)
  · obtain ⟨sl, e1⟩ := I.base.slot b o e n hb hx
    obtain ⟨sl', e2⟩ := slot b _ (neL b o e) hb (neC b o e hx) e1 (I.base.free b o e n hx)
    exact ⟨sl', e2⟩
  · obtain ⟨o', e1⟩ := I.base.there b o e hx
    exact free b o' (neC b o e hx) e1 (I.base.free b o e n hx)
  · obtain ⟨o', e1⟩ := I.base.there b o e hx
    exact there b o' (neC b o e hx) e1
  · obtain ⟨m1, e1⟩ := I.base.tbls b ps e
    obtain ⟨m2, e2⟩ := tbls b _ e1
    exact ⟨m1 ++ m2, by rw [e2, Array.append_assoc]⟩
  · obtain ⟨m, hn, hl⟩ := I.loc
    refine ⟨m, ns m hn, fun i x v e1 e2 e3 => ?_⟩
    obtain ⟨u, r, l⟩ := hl i x v e1 e2 e3
    refine ⟨u, r, ?_⟩
    rcases l with l | ⟨k, c, e, z⟩
    · exact .inl l
    · exact .inr ⟨k, c, e, cellK x c e _ z⟩
  · obtain ⟨v, z⟩ := I.cell x c e
    exact ⟨v, cellK x c e v z⟩
  · obtain ⟨m, ⟨o, _, _, ho, _⟩, _⟩ := I.loc
    exact free _ o (fun z => (hch _ z).2.1 rfl) ho I.free
  · obtain ⟨v, o, ho, hd⟩ := I.cell x c e
    exact free c o (fun z => (hch c z).2.2.1 x c e rfl) ho (I.freeC x c e)
  · obtain ⟨e, n, ne, nf, d⟩ := I.pin p hp
    have nch : p.1 ∉ ch := fun z => (hch p.1 z).2.2.2 p hp rfl
    exact ⟨keep p.1 p.2 ne nf nch e n, free p.1 p.2 nch e n, ne, nf, d⟩
theorem Inv.un {t' : Nat} (I : Inv X pins σ H s) (u : Un X.fs [] H H' s.heap h') (hok : HOk X.prog X.w H' h') : Inv X pins σ H' { s with heap := h', toks := t' } := by
  obtain ⟨m, ⟨o, es, ep, ho, r⟩, _⟩ := id I.loc
  obtain ⟨sl, hL⟩ := u.any ho I.free (by simp)
  exact I.step (g' := s.gens) (d' := s.drawn) (ch := []) (fun _ z => nomatch z) (fun b o _ hb _ e n => u.keep b o e n hb (by simp)) (fun b o _ hb _ e n => u.slot b o e n hb (by simp)) (fun b o _ e n => u.free b o e n (by simp)) (fun b o _ e => u.there b o e (by simp)) u.tups u.frzs u.tbls (fun m' hm => by
    obtain ⟨o', es', ep', ho', r'⟩ := hm
    rw [ho] at ho'; cases ho'
    exact ⟨_, es', ep', hL, r'⟩) hok I.bare
theorem Inv.call {g' : Array GenState} {t' : Nat} {d' : Drawn} {ch : List Addr} (I : Inv X pins σ H s) (u : Un (frs X.stack) ch H H' s.heap h') (hok : HOk X.prog X.w H' h') (hg : AllBare g')
    (hch : ∀ b ∈ ch, (b ∈ X.ex ∨ X.s₀.heap.objs.size ≤ b) ∧ b ≠ X.env.locals ∧ (∀ x c, X.env.cells.lookup x = some c → c ≠ b) ∧ ∀ p ∈ X.pn ++ pins, p.1 ≠ b) :
    Inv X pins σ H' { s with heap := h', gens := g', drawn := d', toks := t' } := by
  obtain ⟨m, ⟨o, es, ep, ho, r⟩, _⟩ := id I.loc
  obtain ⟨sl, hL⟩ := u.any ho I.free fun z => (hch _ z).2.1 rfl
  exact I.step (ch := ch) hch (fun b o hL hb hc e n => u.keep b o e n (fun z => (List.mem_cons.mp (I.stkSub b z)).elim hL hb) hc) (fun b o _ _ hc e n => u.any e n hc) (fun b o hc e n => u.free b o e n hc) (fun b o hc e => u.there b o e hc) u.tups u.frzs u.tbls (fun m' hm => by
    obtain ⟨o', es', ep', ho', r'⟩ := hm
    rw [ho] at ho'; cases ho'
    exact ⟨_, es', ep', hL, r'⟩) hok hg
theorem Inv.turned {t' : Nat} {it : Addr} (I : Inv X pins σ H s) (k : ∀ b o, b ≠ it → s.heap.get? b = some o → h'.get? b = some o) (hn : H it = none) (hL : it ≠ X.env.locals)
    (h1 : it ∈ X.ex ∨ X.s₀.heap.objs.size ≤ it) (h2 : ∀ x c, X.env.cells.lookup x = some c → c ≠ it) (h3 : ∀ p ∈ X.pn ++ pins, p.1 ≠ it) : Inv X pins σ H { s with heap := h', toks := t' } := by
  have nit : ∀ b u, H b = some u → b ≠ it := fun b u e z => by rw [z, hn] at e; cases e
  refine I.step (g' := s.gens) (d' := s.drawn) (ch := [it]) (fun b hb => ?_) (fun b o _ _ hc e _ => k b o (fun z => hc (by simp [z])) e) (fun b o _ _ hc e _ => ⟨o.slots, k b o (fun z => hc (by simp [z])) e⟩) (fun _ _ _ _ n => n)
    (fun b o hc e => ⟨o, k b o (fun z => hc (by simp [z])) e⟩) (fun _ _ e => e) (fun _ _ _ e => e) (fun b ps e => ⟨#[], by rw [e]; simp⟩) (fun m hm => ?_) (fun b u e => ?_) I.bare
  · have e : b = it := by simpa using hb
    subst e
    exact ⟨h1, hL, h2, h3⟩
  · obtain ⟨o, es, ep, ho, r⟩ := hm
    exact ⟨o, es, ep, k _ o (Ne.symm hL) ho, r⟩
  · refine (I.hok b u e).stay (fun c v hc q => k c v ?_ q) (fun _ q => q) fun _ _ q => q
    rcases hc with z | z
    · rw [z]; exact nit b u e
    · exact nit c _ z
theorem Inv.tok (I : Inv X pins σ H s) (t : Nat) : Inv X pins σ H { s with toks := t } := I.un (h' := s.heap) (t' := t) Un.refl I.hok
theorem Inv.kept {t' : Nat} (I : Inv X pins σ H s) (k : ∀ b u, s.heap.get? b = some u → h'.get? b = some u) : Inv X pins σ H { s with heap := h', toks := t' } := I.un (Un.kept k) (I.hok.kept k)
theorem Inv.laid {a : Addr} {o : HO} {t' : Nat} (I : Inv X pins σ H s) (k : ∀ b u, s.heap.get? b = some u → h'.get? b = some u) (hp : s.heap.objs.size ≤ a) (new : ObjOk X.prog X.w (upd H a o) h' a o) :
    Inv X pins σ (upd H a o) { s with heap := h', toks := t' } := I.un (Un.laid k hp (I.hok.fresh hp)) (I.hok.laid k hp new)
theorem Inv.write {x e : Addr} {o : HO} {t' : Nat} (I : Inv X pins σ H s) (mu : Mut (H x)) (he : e = x ∨ H e = some (.own x)) (k : ∀ b u, b ≠ e → s.heap.get? b = some u → h'.get? b = some u) (heo : ∃ u, h'.get? e = some u)
    (new : ObjOk X.prog X.w (upd H x o) h' x o) : Inv X pins σ (upd H x o) { s with heap := h', toks := t' } := I.un (Un.write mu he k heo) (I.hok.write mu he k heo new)
theorem Inv.pins_of {pins' : List (Addr × Obj)} (I : Inv X pins σ H s) (h : ∀ p ∈ pins', s.heap.get? p.1 = some p.2 ∧ H p.1 = none ∧ p.1 ≠ X.env.locals ∧ p.1 ∉ X.fs ∧ ∀ v, p.2.data ≠ .cell v) : Inv X pins' σ H s :=
  ⟨I.ok, I.os, I.bare, I.base, I.loc, I.cell, I.free, I.freeC, fun p hp => (List.mem_append.mp hp).elim (fun z => I.pin p (List.mem_append_left _ z)) (h p), I.hok, I.len⟩
theorem nodup_ix {N : List Str} (hN : N.Nodup) {i j : Nat} {x : Str} (a : N[i]? = some x) (b : N[j]? = some x) : i = j := by
  obtain ⟨h1, e1⟩ := List.getElem?_eq_some_iff.mp a
  obtain ⟨h2, e2⟩ := List.getElem?_eq_some_iff.mp b
  exact (List.getElem_inj hN).mp (e1.trans e2.symm)
theorem store_ok2 {M : Model} {A : Around} {E : Value → Shared → Prop} {i : Nat} {x : Str} {v : V} {u : Value} {Q : Unit → Shared → Prop} (I : Inv X pins σ H s) (hN : X.N.Nodup) (hi : X.N[i]? = some x) (hx : Loc X.env.scope x) (r : RelV v u)
    (h : ∀ s', Inv X pins (σ.set i (some v)) H s' → (∃ a, Heap.SameBut a s.heap s'.heap ∧ (a = X.env.locals ∨ X.env.cells.lookup x = some a)) → Q () s') (hf : X.fn x = true ∨ X.env.scope.names.lookup x = some .local := by first | exact .inl rfl | exact .inr rfl | assumption) : wpAny M A (storeName X.env x u) Q E s := by
  obtain ⟨m, hn, hl⟩ := id I.loc
  have hcls : (X.env.scope.kind == .class || (X.env.scope.kind == .module && X.env.locals != X.env.globals)) = false := by rw [I.ok.kind]; rfl
  have hiσ : i < σ.length := by rw [I.len]; exact (List.getElem?_eq_some_iff.mp hi).1
  have cne := I.cne
  have tracked : ∀ {a : Addr} {h' : Heap}, (∃ o, s.heap.get? a = some o ∧ H a = none) → Heap.SameBut a s.heap h' → HOk X.prog X.w H h' := fun {a h'} ha hs b ob e => by
    obtain ⟨_, _, hfree⟩ := ha
    refine (I.hok b ob e).stay (fun c w' hc q => (hs.2 c ?_).trans q) (fun _ q => q) fun _ _ q => q
    rintro rfl
    rcases hc with rfl | hc
    · rw [hfree] at e; cases e
    · rw [hfree] at hc; cases hc
  rcases hx with hk | hk
  · refine wpAny_storeName_local hk hn (fun h' hn' hs => ?_) hcls
    obtain ⟨oL, _, _, hoL, _⟩ := id hn
    refine h _ ⟨I.ok, I.os, I.bare, ⟨fun b o e n hb hx => ?_, fun b o e n hb hx => ?_, I.base.free, fun b o e hx => ?_, I.base.tups, I.base.frzs, I.base.tbls⟩, ⟨_, hn', fun j y v' e1 e2 e3 => ?_⟩, fun y c e => ?_, I.free, I.freeC, fun p hp => ?_, tracked ⟨oL, hoL, I.free⟩ hs, by simpa using I.len⟩ ⟨_, hs, .inl rfl⟩
    · exact (hs.2 b (Nat.ne_of_lt (Nat.lt_of_lt_of_le (Heap.lt_size e) I.ok.above))).trans (I.base.keep b o e n hb hx)
    · obtain ⟨sl, e1⟩ := I.base.slot b o e n hb hx
      exact ⟨sl, (hs.2 b (Nat.ne_of_lt (Nat.lt_of_lt_of_le (Heap.lt_size e) I.ok.above))).trans e1⟩
    · obtain ⟨o', e1⟩ := I.base.there b o e hx
      exact ⟨o', (hs.2 b (Nat.ne_of_lt (Nat.lt_of_lt_of_le (Heap.lt_size e) I.ok.above))).trans e1⟩
    · by_cases hj : j = i
      · subst hj
        rw [hi] at e1; cases e1
        rw [List.getElem?_set_self hiσ] at e2
        cases e2
        exact ⟨u, r, .inl ⟨hk, by simp⟩⟩
      · rw [List.getElem?_set_ne (Ne.symm hj)] at e2
        obtain ⟨u', r', q⟩ := hl j y v' e1 e2 e3
        refine ⟨u', r', ?_⟩
        rcases q with ⟨k, e⟩ | ⟨k, c, e, z⟩
        · refine .inl ⟨k, ?_⟩
          have : y ≠ x := fun e => hj (nodup_ix hN e1 (e ▸ hi))
          simp [this, e]
        · exact .inr ⟨k, c, e, z.sameBut hs (cne y c e)⟩
    · obtain ⟨w', z⟩ := I.cell y c e
      exact ⟨w', z.sameBut hs (cne y c e)⟩
    · obtain ⟨e, n, ne, nf, d⟩ := I.pin p hp
      exact ⟨(hs.2 p.1 ne).trans e, n, ne, nf, d⟩
  · have hfn : X.fn x = true := by
      rcases hf with z | z
      · exact z
      · rw [z] at hk; cases hk
    obtain ⟨c, hc⟩ := I.ok.has x (.inl hk)
    obtain ⟨w', z⟩ := I.cell x c hc
    refine wpAny_storeName_cell I.ok.kind hk hc z (fun h' hc' hs => ?_)
    obtain ⟨oc, hoc, hocd⟩ := id z
    refine h { s with heap := h' } ⟨I.ok, I.os, I.bare, ⟨fun b o e n hb hx => ?_, fun b o e n hb hx => ?_, I.base.free, fun b o e hx => ?_, I.base.tups, I.base.frzs, I.base.tbls⟩, ⟨m, hn.sameBut hs (Ne.symm (cne x c hc)), fun j y v' e1 e2 e3 => ?_⟩, fun y c' e => ?_, I.free, I.freeC, fun p hp => ?_, tracked ⟨oc, hoc, I.freeC x c hc⟩ hs, by simpa using I.len⟩ ⟨c, hs, .inr hc⟩
    · exact (hs.2 b (Nat.ne_of_lt (Nat.lt_of_lt_of_le (Heap.lt_size e) (I.ok.cab x c hfn hc)))).trans (I.base.keep b o e n hb hx)
    · obtain ⟨sl, e1⟩ := I.base.slot b o e n hb hx
      exact ⟨sl, (hs.2 b (Nat.ne_of_lt (Nat.lt_of_lt_of_le (Heap.lt_size e) (I.ok.cab x c hfn hc)))).trans e1⟩
    · obtain ⟨o', e1⟩ := I.base.there b o e hx
      exact ⟨o', (hs.2 b (Nat.ne_of_lt (Nat.lt_of_lt_of_le (Heap.lt_size e) (I.ok.cab x c hfn hc)))).trans e1⟩
    · by_cases hj : j = i
      · subst hj
        rw [hi] at e1; cases e1
        rw [List.getElem?_set_self hiσ] at e2
        cases e2
        exact ⟨u, r, .inr ⟨.inl hk, c, hc, hc'⟩⟩
      · rw [List.getElem?_set_ne (Ne.symm hj)] at e2
        obtain ⟨u', r', q⟩ := hl j y v' e1 e2 e3
        refine ⟨u', r', ?_⟩
        rcases q with q | ⟨k, c', e, z'⟩
        · exact .inl q
        · refine .inr ⟨k, c', e, z'.sameBut hs ?_⟩
          rintro rfl
          exact hj (nodup_ix hN e1 (I.ok.inj _ _ _ e hc ▸ hi))
    · by_cases hcc : c' = c
      · subst hcc; exact ⟨_, hc'⟩
      · obtain ⟨w2, z2⟩ := I.cell y c' e
        exact ⟨w2, z2.sameBut hs hcc⟩
    · obtain ⟨e, n, ne, nf, d⟩ := I.pin p hp
      refine ⟨(hs.2 p.1 ?_).trans e, n, ne, nf, d⟩
      intro q
      rw [q, hoc] at e
      have q' : oc = p.2 := Option.some.inj e
      exact d w' (by rw [← q']; exact hocd)
theorem store_ok {M : Model} {A : Around} {E : Value → Shared → Prop} {i : Nat} {x : Str} {v : V} {u : Value} {Q : Unit → Shared → Prop} (I : Inv X pins σ H s) (hN : X.N.Nodup) (hi : X.N[i]? = some x) (hx : Loc X.env.scope x) (r : RelV v u)
    (h : ∀ s', Inv X pins (σ.set i (some v)) H s' → Q () s') (hf : X.fn x = true ∨ X.env.scope.names.lookup x = some .local := by first | exact .inl rfl | exact .inr rfl | assumption) : wpAny M A (storeName X.env x u) Q E s :=
  store_ok2 I hN hi hx r (fun s' I' _ => h s' I') hf
theorem Inv.call' {s' : Shared} {ch : List Addr} (I : Inv X pins σ H s) (ho : s'.os = s.os) (u : Un (frs X.stack) ch H H' s.heap s'.heap) (hok : HOk X.prog X.w H' s'.heap) (hg : AllBare s'.gens)
    (hch : ∀ b ∈ ch, (b ∈ X.ex ∨ X.s₀.heap.objs.size ≤ b) ∧ b ≠ X.env.locals ∧ (∀ x c, X.env.cells.lookup x = some c → c ≠ b) ∧ ∀ p ∈ X.pn ++ pins, p.1 ≠ b) : Inv X pins σ H' s' := by
  obtain ⟨h', g', d', t', o'⟩ := s'
  have e : o' = s.os := ho
  subst e
  exact I.call (g' := g') (t' := t') (d' := d') u hok hg hch
end
abbrev XK := Value → Option Addr → Hp → Prop
abbrev St := List (Option V)
abbrev VK := V → Hp → Prop
abbrev TE := St → Hp → VK → Prop
abbrev TT := St → Hp → (Bool → Hp → Prop) → Prop
abbrev TA := St → Hp → (List V → Hp → Prop) → Prop
structure Ends where
  nx : St → Hp → Prop
  rt : VK
  bk : St → Hp → Prop := fun _ _ => False
  ct : St → Hp → Prop := fun _ _ => False
abbrev TS := Ends → St → Hp → Prop
def EP (X : Cx) (pins : List (Addr × Obj)) (σ : St) (Q : VK) (u : Value) (s' : Shared) : Prop := ∃ v H', Inv X pins σ H' s' ∧ RelV v u ∧ Q v H'
def TP (X : Cx) (pins : List (Addr × Obj)) (σ : St) (Q : Bool → Hp → Prop) (b : Bool) (s' : Shared) : Prop := ∃ H', Inv X pins σ H' s' ∧ Q b H'
def AP (X : Cx) (pins : List (Addr × Obj)) (σ : St) (Q : List V → Hp → Prop) (us : List Value) (s' : Shared) : Prop := ∃ vs H', Inv X pins σ H' s' ∧ Vals vs us ∧ Q vs H'
def SP (X : Cx) (pins : List (Addr × Obj)) (D : Ends) (f : Flow) (s' : Shared) : Prop :=
  match f with
  | .next => ∃ σ' H', Inv X pins σ' H' s' ∧ D.nx σ' H'
  | .brk => ∃ σ' H', Inv X pins σ' H' s' ∧ D.bk σ' H'
  | .cont => ∃ σ' H', Inv X pins σ' H' s' ∧ D.ct σ' H'
  | .ret u => ∃ v σ' H', Inv X pins σ' H' s' ∧ RelV v u ∧ D.rt v H'
def PE (X : Cx) (e : Expr) (t : TE) : Prop :=
  ∀ (pins : List (Addr × Obj)) (s : Shared) (σ : St) (H : Hp) (Q : VK), Inv X pins σ H s → t σ H Q → wpAny (model X.prog X.w) X.A (eval e X.env) (EP X pins σ Q) X.xe s
def PT (X : Cx) (e : Expr) (t : TT) : Prop :=
  ∀ (pins : List (Addr × Obj)) (s : Shared) (σ : St) (H : Hp) (Q : Bool → Hp → Prop), Inv X pins σ H s → t σ H Q → wpAny (model X.prog X.w) X.A (isTrue e X.env (eval e X.env)) (TP X pins σ Q) X.xe s
def PW (X : Cx) (e : Expr) (t : TT) : Prop :=
  ∀ (whole : Sem Value) (pins : List (Addr × Obj)) (s : Shared) (σ : St) (H : Hp) (Q : Bool → Hp → Prop), Inv X pins σ H s → t σ H Q → wpAny (model X.prog X.w) X.A (isTrue e X.env whole) (TP X pins σ Q) X.xe s
theorem PW.pt {X : Cx} {e : Expr} {t : TT} (h : PW X e t) : PT X e t := h _
def PA (X : Cx) (es : List Expr) (t : TA) : Prop :=
  ∀ (pos : Pos) (pins : List (Addr × Obj)) (s : Shared) (σ : St) (H : Hp) (Q : List V → Hp → Prop), Inv X pins σ H s → t σ H Q → wpAny (model X.prog X.w) X.A (spliced (backTo pos (starEach es X.env))) (AP X pins σ Q) X.xe s
def PS (X : Cx) (st : Stmt) (t : TS) : Prop :=
  ∀ (pins : List (Addr × Obj)) (s : Shared) (σ : St) (H : Hp) (D : Ends), Inv X pins σ H s → t D σ H → wpAny (model X.prog X.w) X.A (exec st X.env) (SP X pins D) X.xe s
def PSs (X : Cx) (st : List Stmt) (t : TS) : Prop :=
  ∀ (pins : List (Addr × Obj)) (s : Shared) (σ : St) (H : Hp) (D : Ends), Inv X pins σ H s → t D σ H → wpAny (model X.prog X.w) X.A (execs st X.env) (SP X pins D) X.xe s
theorem thn {α : Type} {t : Sem α} {Q Q' : α → Shared → Prop} {M : Model} {A : Around} {E : Value → Shared → Prop} {s : Shared} (h : wpAny M A t Q E s) (hQ : ∀ a s, Q a s → Q' a s) : wpAny M A t Q' E s := wpAny_mono h hQ fun _ _ x => x
section
variable {X : Cx}
def tVar (i : Nat) : TE := fun σ H Q => ∃ v, σ[i]? = some (some v) ∧ Q v H
def tC (v : V) : TE := fun _ H Q => Q v H
theorem pe_var {i : Nat} {x : Str} {pos : Pos} (hN : X.N[i]? = some x) (hv : Vis X.env.scope x) (hd : (x == ("__debug__" : Str)) = false := by decide) (hcd : (x == ("__classdict__" : Str)) = false := by decide) : PE X (.Name x pos) (tVar i) := by
  intro pins s σ H Q I h
  obtain ⟨v, e, h⟩ := h
  obtain ⟨m, hn, hl⟩ := I.loc
  obtain ⟨u, r, l⟩ := hl i x v hN e hv
  have fin : EP X pins σ Q u s := ⟨v, H, I, r, h⟩
  rcases l with ⟨hk, hm⟩ | ⟨hk, c, hc, hcell⟩
  · exact wpAny_Name (wpAny_loadName_local I.ok.kind hk hn hm fin) hd
  · rcases hk with hk | hk
    · exact wpAny_Name (wpAny_loadName_cell I.ok.kind hk hc hcell fin) hd
    · exact wpAny_Name (wpAny_loadName_free I.ok.kind hk hc hcell fin hcd) hd
theorem pe_int {i j pos} : PE X (.Constant (.int i) j pos) (tC (.int i)) := fun _ _ _ H _ I h => wpAny_Constant_int ⟨.int i, H, I.tok _, ⟨_, rfl⟩, h⟩
theorem pe_bl {b j pos} : PE X (.Constant (.bool b) j pos) (tC (.bl b)) := fun _ _ _ H _ I h => Constant_bool ⟨.bl b, H, I, rfl, h⟩
theorem pe_non {j pos} : PE X (.Constant .none j pos) (tC .non) := fun _ _ _ H _ I h => Constant_none ⟨.non, H, I, rfl, h⟩
theorem pe_str {x j pos} : PE X (.Constant (.str x) j pos) (tC (.str x)) := fun _ _ _ H _ I h => Calls.Constant_str ⟨.str x, H, I.tok _, ⟨_, rfl⟩, h⟩
def Gl (X : Cx) (x : Str) : Prop := X.env.kindOf x = some .globalImplicit
theorem ld_glob {E : Value → Shared → Prop} {pins : List (Addr × Obj)} {s : Shared} {σ : St} {H : Hp} {x : Str} {u : Value} {pos : Pos} {Q : Value → Shared → Prop} (I : Inv X pins σ H s) (hg : Gl X x) (hm : X.mg x = some u) (h : Q u s)
    (hd : (x == ("__debug__" : Str)) = false := by decide) : wpAny (model X.prog X.w) X.A (eval (.Name x pos) X.env) Q E s :=
  Calls.Name_function_global I.ok.kind hg (Calls.loadGlobal_global (by rw [I.ok.glob]; exact I.mod.glob.keeps I.bk) hm h) hd
theorem ld_blt {E : Value → Shared → Prop} {pins : List (Addr × Obj)} {s : Shared} {σ : St} {H : Hp} {x : Str} {u : Value} {pos : Pos} {Q : Value → Shared → Prop} (I : Inv X pins σ H s) (hg : Gl X x) (hm : X.mg x = none) (hv : bootBuiltins x = some u) (h : Q u s)
    (hn : x ≠ "__name__" := by decide) (hd : (x == ("__debug__" : Str)) = false := by decide) : wpAny (model X.prog X.w) X.A (eval (.Name x pos) X.env) Q E s := by
  obtain ⟨mb, h1, h2⟩ := I.mod.blt
  exact Calls.Name_function_global I.ok.kind hg (Calls.loadGlobal_builtin (by rw [I.ok.glob]; exact I.mod.glob.keeps I.bk) hm (by rw [I.ok.blt]; exact h1.keeps I.bk) ((h2 x hn).trans hv) h) hd
theorem pe_glob {x : Str} {v : V} {u : Value} {pos : Pos} (hg : Gl X x) (hm : X.mg x = some u) (r : RelV v u) (hd : (x == ("__debug__" : Str)) = false := by decide) : PE X (.Name x pos) (tC v) :=
  fun _ _ _ H _ I h => ld_glob I hg hm ⟨v, H, I, r, h⟩ hd
theorem pe_bltn {x : Str} {v : V} {u : Value} {pos : Pos} (hg : Gl X x) (hm : X.mg x = none) (hv : bootBuiltins x = some u) (r : RelV v u) (hn : x ≠ "__name__" := by decide) (hd : (x == ("__debug__" : Str)) = false := by decide) : PE X (.Name x pos) (tC v) :=
  fun _ _ _ H _ I h => ld_blt I hg hm hv ⟨v, H, I, r, h⟩ hn hd
variable {a b : Expr} {ta tb : TE} {pos : Pos}
theorem nobehind (b : Expr) {op : CmpOp} (h : op ≠ .In) (h2 : op ≠ .NotIn) : behindInMarks op b = false := by
  have e1 : (op == CmpOp.In) = false := by cases op <;> first | rfl | exact absurd rfl h
  have e2 : (op == CmpOp.NotIn) = false := by cases op <;> first | rfl | exact absurd rfl h2
  cases b <;> simp [behindInMarks, e1, e2]
def tB (t : TE) : TT := fun σ H Q => t σ H fun x H1 => ∃ c, x = .bl c ∧ Q c H1
variable {tA tB' : TT} {rest : List Expr}
end
def SqL (K : PySem.W.Frag) (H : Hp) (a : Addr) (xs : List V) : Prop :=
  Rd H a (.lst xs) ∨
    ∃ (o : Obj) (its : Array Value) (n : Nat), K.lookup a = some o ∧ o.cls = .type "list" ∧ o.dict = none ∧ o.data = .seq its n ∧ its.size ≤ sizeLine ∧ Vals xs its.toList
def SqT (K : PySem.W.Frag) (H : Hp) (a : Addr) (xs : List V) : Prop :=
  Rd H a (.tup xs) ∨
    ∃ (o : Obj) (its : Array Value) (n : Nat), K.lookup a = some o ∧ o.cls = .type "tuple" ∧ o.data = .seq its n ∧ its.size ≤ sizeLine ∧ Vals xs its.toList
def absV : Value → Option V
  | .none => some .non
  | .bool b => some (.bl b)
  | .int i _ => some (.int i)
  | .str x _ => some (.str x)
  | .bytes b _ => some (.byt b)
  | .float b _ => some (.flt b)
  | .ref a => some (.ref a)
  | .type n => some (.ty n)
  | _ => none
theorem RelV.abs {x : V} {u : Value} (r : RelV x u) : absV u = some x := by
  cases x with
  | non => cases r; rfl
  | bl _ => cases r; rfl
  | int _ => obtain ⟨t, rfl⟩ := r; rfl
  | str _ => obtain ⟨t, rfl⟩ := r; rfl
  | byt _ => obtain ⟨t, rfl⟩ := r; rfl
  | flt _ => obtain ⟨t, rfl⟩ := r; rfl
  | ref _ => cases r; rfl
  | ty _ => cases r; rfl
theorem RelV.inj {x y : V} {u : Value} (r : RelV x u) (q : RelV y u) : x = y := Option.some.inj (r.abs.symm.trans q.abs)
theorem Vals.inj : ∀ {xs ys : List V} {us : List Value}, Vals xs us → Vals ys us → xs = ys
  | _, _, _, .nil, .nil => rfl
  | _, _, _, .cons r t, .cons r' t' => by rw [r.inj r', Vals.inj t t']
section
variable {X : Cx} {pins : List (Addr × Obj)} {σ : St} {H : Hp} {s : Shared} {a : Addr} {xs ys : List V}
theorem SqL.of {K : PySem.W.Frag} (h : H a = some (.lst xs)) : SqL K H a xs := .inl (.inl h)
theorem SqT.of {K : PySem.W.Frag} (h : H a = some (.tup xs)) : SqT K H a xs := .inl (.inl h)
theorem Inv.list (I : Inv X pins σ H s) (h : SqL X.K H a xs) : ∃ its : List Value, Vals xs its ∧ PlainL s.heap a its.toArray ∧ xs.length ≤ sizeLine := by
  rcases h with h | ⟨o, its, n, hk, hc, hd, hs, hz, r⟩
  · obtain ⟨z, its, n, r, e⟩ := h.ok I.hok
    exact ⟨its, r, ⟨_, n, e, rfl, rfl, rfl⟩, z⟩
  · refine ⟨its.toList, r, ⟨o, n, I.kIn a o hk, hc, hd, by simpa using hs⟩, ?_⟩
    have e := r.length
    simp only [Array.length_toList] at e
    omega
theorem Inv.tuple (I : Inv X pins σ H s) (h : SqT X.K H a xs) : ∃ its : List Value, Vals xs its ∧ IsTup s.heap a its.toArray ∧ xs.length ≤ sizeLine := by
  rcases h with h | ⟨o, its, n, hk, hc, hs, hz, r⟩
  · obtain ⟨z, its, r, p⟩ := h.ok I.hok
    exact ⟨its, r, p, z⟩
  · refine ⟨its.toList, r, ⟨o, I.kIn a o hk, hc, n, by simpa using hs⟩, ?_⟩
    have e := r.length
    simp only [Array.length_toList] at e
    omega
theorem Inv.list_inj (I : Inv X pins σ H s) (h : SqL X.K H a xs) (h' : SqL X.K H a ys) : xs = ys := by
  obtain ⟨its, r, ⟨o, n, e, _, _, d⟩, _⟩ := I.list h
  obtain ⟨its', r', ⟨o', n', e', _, _, d'⟩, _⟩ := I.list h'
  rw [e] at e'; cases e'
  rw [d] at d'
  injection d' with d1 _
  have : its = its' := by simpa using congrArg Array.toList d1
  subst this
  exact r.inj r'
theorem Inv.tuple_inj (I : Inv X pins σ H s) (h : SqT X.K H a xs) (h' : SqT X.K H a ys) : xs = ys := by
  obtain ⟨its, r, ⟨o, e, _, n, d⟩, _⟩ := I.tuple h
  obtain ⟨its', r', ⟨o', e', _, n', d'⟩, _⟩ := I.tuple h'
  rw [e] at e'; cases e'
  rw [d] at d'
  injection d' with d1 _
  have : its = its' := by simpa using congrArg Array.toList d1
  subst this
  exact r.inj r'
end
abbrev Cx.wish (X : Cx) (E : Value → Shared → Prop) : Cx := { X with xe := E }
abbrev Cx.nox (X : Cx) : Cx := X.wish fun _ _ => False
theorem Cx.Ok.wish {X : Cx} (ok : X.Ok) (E : Value → Shared → Prop) : (X.wish E).Ok :=
  ⟨ok.mod, ok.kind, ok.glob, ok.blt, ok.above, ok.inj, ok.has, ok.cab, ok.hd, ok.frames, ok.stk, ok.exf, ok.bs, ok.bsz, ok.noex, ok.exfs, ok.funs, ok.frf⟩
theorem Cx.Ok.unwish {X : Cx} {E : Value → Shared → Prop} (ok : (X.wish E).Ok) : X.Ok :=
  ⟨ok.mod, ok.kind, ok.glob, ok.blt, ok.above, ok.inj, ok.has, ok.cab, ok.hd, ok.frames, ok.stk, ok.exf, ok.bs, ok.bsz, ok.noex, ok.exfs, ok.funs, ok.frf⟩
section
variable {X : Cx} {pins : List (Addr × Obj)} {σ : St} {H : Hp} {s : Shared} {E : Value → Shared → Prop}
theorem Inv.wish (I : Inv X pins σ H s) (E : Value → Shared → Prop) : Inv (X.wish E) pins σ H s := ⟨I.ok.wish E, I.os, I.bare, I.base, I.loc, I.cell, I.free, I.freeC, I.pin, I.hok, I.len⟩
theorem Inv.unwish (I : Inv (X.wish E) pins σ H s) : Inv X pins σ H s := ⟨I.ok.unwish, I.os, I.bare, I.base, I.loc, I.cell, I.free, I.freeC, I.pin, I.hok, I.len⟩
theorem SP.unwish {D : Ends} {f : Flow} {s' : Shared} (h : SP (X.wish E) pins D f s') : SP X pins D f s' := by
  cases f with
  | next => obtain ⟨σ', H', I, q⟩ := h; exact ⟨σ', H', I.unwish, q⟩
  | brk => obtain ⟨σ', H', I, q⟩ := h; exact ⟨σ', H', I.unwish, q⟩
  | cont => obtain ⟨σ', H', I, q⟩ := h; exact ⟨σ', H', I.unwish, q⟩
  | ret u => obtain ⟨v, σ', H', I, r, q⟩ := h; exact ⟨v, σ', H', I.unwish, r, q⟩
theorem PE.nox {e : Expr} {t : TE} (h : PE X.nox e t) : PE X e t := fun pins s σ H Q I hw =>
  wpAny_mono (h pins s σ H Q (I.wish _) hw) (fun _ _ ⟨v, H', I', r, q⟩ => ⟨v, H', I'.unwish, r, q⟩) fun _ _ z => False.elim z
theorem PT.nox {e : Expr} {t : TT} (h : PT X.nox e t) : PT X e t := fun pins s σ H Q I hw =>
  wpAny_mono (h pins s σ H Q (I.wish _) hw) (fun _ _ ⟨H', I', q⟩ => ⟨H', I'.unwish, q⟩) fun _ _ z => False.elim z
theorem PSs.nox {st : List Stmt} {t : TS} (h : PSs X.nox st t) : PSs X st t := fun pins s σ H D I hw =>
  wpAny_mono (h pins s σ H D (I.wish _) hw) (fun _ _ q => q.unwish) fun _ _ z => False.elim z
end
section
variable {X : Cx} {st : Stmt} {rest : List Stmt} {t u : TS} {e : Expr} {te : TE} {pos : Pos}
theorem Inv.quiet {pins : List (Addr × Obj)} {σ : St} {H : Hp} {s : Shared} (I : Inv X pins σ H s) : interactive X.env = false := by simp [interactive, I.ok.kind]
def tDrop (te : TE) : TS := fun D σ H => te σ H fun _ H1 => D.nx σ H1
theorem ps_expr (he : PE X e te) (hs : swapsWith e none pos.line X.env = pure false := by rfl) : PS X (.Expr e pos) (tDrop te) := by
  intro pins s σ H D I h
  exact wpAny_Expr_any (thn (he pins s σ H _ I h) fun v s1 ⟨x, H1, I1, r1, q1⟩ => ⟨σ, H1, I1, q1⟩) I.quiet hs
end
abbrev TSet := V → V → V → Hp → (Hp → Prop) → Prop
def PSet (X : Cx) (t : TSet) : Prop :=
  ∀ (pins : List (Addr × Obj)) (s : Shared) (σ : St) (H : Hp) (o i v : V) (ov iv u : Value) (Q : Hp → Prop), Inv X pins σ H s → RelV o ov → RelV i iv → RelV v u → t o i v H Q →
    wpAny (model X.prog X.w) X.A (setItem ov iv u) (fun _ s' => ∃ H', Inv X pins σ H' s' ∧ Q H') X.xe s
structure It where
  go : Nat → Hp → Prop
  yld : Nat → Hp → V → Hp → Prop
  stop : Nat → Hp → Prop
def FpOk (X : Cx) (pins : List (Addr × Obj)) (H : Hp) (b : Addr) : Prop :=
  H b = none ∧ b ≠ X.env.locals ∧ b ∉ X.fs ∧ (b ∈ X.ex ∨ X.s₀.heap.objs.size ≤ b) ∧ (∀ x c, X.env.cells.lookup x = some c → c ≠ b) ∧ ∀ p ∈ X.pn ++ pins, p.1 ≠ b
theorem Inv.fpOk {X : Cx} {pins : List (Addr × Obj)} {σ : St} {H H' : Hp} {s : Shared} {b : Addr} (I : Inv X pins σ H s) (hb : s.heap.objs.size ≤ b) (hn : H' b = none) : FpOk X pins H' b := by
  refine ⟨hn, Nat.ne_of_gt (Nat.lt_of_lt_of_le I.lt hb), I.nofs hb, .inr (Nat.le_trans I.sz hb), fun x c e z => ?_, fun p hp z => ?_⟩
  · obtain ⟨v, q⟩ := I.cell x c e
    exact absurd (Nat.lt_of_lt_of_le q.lt (by rw [z]; exact hb)) (Nat.lt_irrefl _)
  · exact absurd (Nat.lt_of_lt_of_le (Heap.lt_size (I.pin p hp).1) (by rw [z]; exact hb)) (Nat.lt_irrefl _)
structure Turn (P : Program) (w : World) (K : PySem.W.Frag) (tg : Expr) (J : It) (fp : List Addr) (it : Addr) (tn : Nat → Heap → Prop) : Prop where
  mem : it ∈ fp
  obj : ∀ i h, tn i h → ∀ b ∈ fp, ∃ o, h.get? b = some o ∧ ∀ v, o.data ≠ .cell v
  keep : ∀ i h h', tn i h → (∀ b ∈ fp, ∀ o, h.get? b = some o → h'.get? b = some o) → tn i h'
  item : ∀ (X : Cx), X.prog = P → X.w = w → X.K = K → X.calm = true → ∀ (i : Nat) (pins : List (Addr × Obj)) (s : Shared) (σ : St) (H : Hp) (E : Value → Shared → Prop), Inv X pins σ H s → (∀ b ∈ fp, FpOk X pins H b) → tn i s.heap → J.go i H →
    wpAny (model P w) X.A (pyNext (.ref it)) (fun r s1 => ∃ u, r = some u ∧
      wpAny (model P w) X.A (letOwnedTupleGo tg (.ref it) u) (fun _ s2 => ∃ x H', Inv X pins σ H' s2 ∧ RelV x u ∧ J.yld i H x H' ∧ tn (i + 1) s2.heap ∧ ∀ b ∈ fp, H' b = none) E s1) E s
  done : ∀ (X : Cx), X.prog = P → X.w = w → X.K = K → X.calm = true → ∀ (i : Nat) (pins : List (Addr × Obj)) (s : Shared) (σ : St) (H : Hp) (E : Value → Shared → Prop), Inv X pins σ H s → (∀ b ∈ fp, FpOk X pins H b) → tn i s.heap → J.stop i H →
    wpAny (model P w) X.A (pyNext (.ref it)) (fun r s1 => r = none ∧ Inv X pins σ H s1) E s
  self : ∀ (A : Around) (i : Nat) (s : Shared) (Q : Value → Shared → Prop) (E : Value → Shared → Prop), tn i s.heap → Q (.ref it) s → wpAny (model P w) A (pyIter (.ref it)) Q E s
abbrev TI := St → Hp → (It → Hp → Prop) → Prop
def PIE (X : Cx) (pins : List (Addr × Obj)) (σ : St) (tg : Expr) (R : It → Hp → Prop) (itv : Value) (s2 : Shared) : Prop :=
  ∃ (it : Addr) (fp : List Addr) (tn : Nat → Heap → Prop) (J : It) (H' : Hp), itv = .ref it ∧ Inv X pins σ H' s2 ∧ Turn X.prog X.w X.K tg J fp it tn ∧ tn 0 s2.heap ∧ (∀ b ∈ fp, FpOk X pins H' b) ∧ R J H'
def PI (X : Cx) (tg iter : Expr) (wi : TI) : Prop :=
  ∀ (pins : List (Addr × Obj)) (s : Shared) (σ : St) (H : Hp) (R : It → Hp → Prop), Inv X pins σ H s → wi σ H R →
    wpAny (model X.prog X.w) X.A (eval iter X.env) (fun v s1 => wpAny (model X.prog X.w) X.A (pyIter v) (PIE X pins σ tg R) X.xe s1) X.xe s
theorem go_of {M : Model} {A : Around} {E : Value → Shared → Prop} {s : Shared} {tg : Expr} {it : Addr} {u : Value} {o : Obj} {n : String} {vs : Array Value} {Q : Unit → Shared → Prop} (ho : s.heap.get? it = some o) (hc : o.cls = .type n) (hd : o.data = .fields vs)
    (hn : ["enumerate", "zip", "dict_itemiterator", "dict_reverseitemiterator", "odict_iterator", "itertools.zip_longest", "itertools.pairwise"].contains n = false) (hQ : Q () s) : wpAny M A (letOwnedTupleGo tg (.ref it) u) Q E s := by
  unfold letOwnedTupleGo
  cases tg <;> first
    | exact wpAny_pure hQ
    | (cases u <;> first
        | exact wpAny_pure hQ
        | (refine wpAny_bind (wpAny_load ho ?_)
           rw [hc, hd]
           show wpAny M A (if (["enumerate", "zip", "dict_itemiterator", "dict_reverseitemiterator", "odict_iterator", "itertools.zip_longest", "itertools.pairwise"].contains n && vs[0]? == some (rawInt _)) = true then _ else _) Q E s
           rw [if_neg (by intro h; rw [hn, Bool.false_and] at h; cases h)]
           exact wpAny_pure hQ))
def Itl (K : PySem.W.Frag) (a : Addr) : It :=
  ⟨fun i H => ∃ xs x, SqL K H a xs ∧ xs[i]? = some x, fun i H x H' => H' = H ∧ ∀ xs, SqL K H a xs → xs[i]? = some x, fun i H => ∃ xs, SqL K H a xs ∧ xs.length ≤ i⟩
def Itt (K : PySem.W.Frag) (a : Addr) : It :=
  ⟨fun i H => ∃ xs x, SqT K H a xs ∧ xs[i]? = some x, fun i H x H' => H' = H ∧ ∀ xs, SqT K H a xs → xs[i]? = some x, fun i H => ∃ xs, SqT K H a xs ∧ xs.length ≤ i⟩
theorem turn_list {P : Program} {w : World} {K : PySem.W.Frag} {tg : Expr} (a it : Addr) : Turn P w K tg (Itl K a) [it] it (fun i h => h.IsListIter it a i) where
  mem := by simp
  obj := fun i h st b hb => by
    have e : b = it := by simpa using hb
    subst e
    obtain ⟨o, e, c, d⟩ := st
    exact ⟨o, e, fun v z => by rw [d] at z; cases z⟩
  keep := fun i h h' st k => st.at fun o e => k it (by simp) o e
  item := by
    intro X hP hw hK hc i pins s σ H E I hf st hg
    subst hP hw hK
    obtain ⟨xs, x, hq, hx⟩ := hg
    obtain ⟨its, rv, p, hz⟩ := I.list hq
    obtain ⟨u, hu, ru⟩ := rv.get hx
    obtain ⟨f0, f1, f2, f3, f4, f5⟩ := hf it (by simp)
    refine wpAny_pyNext_list_item st p.isList (x := u) (by simpa using hu) fun h' st' sb => ?_
    have I1 : Inv X pins σ H { s with heap := h' } := I.turned (t' := s.toks) (fun b o hb e => (sb.2 b hb).trans e) f0 f1 f3 f4 f5
    obtain ⟨o, e, c, d⟩ := id st'
    exact ⟨u, rfl, go_of (s := { s with heap := h' }) e c d (by decide) ⟨x, H, I1, ru, ⟨rfl, fun ys hy => by rw [I.list_inj hy hq]; exact hx⟩, st', fun b hb => (hf b hb).1⟩⟩
  done := by
    intro X hP hw hK hc i pins s σ H E I hf st hg
    subst hP hw hK
    obtain ⟨xs, hq, hx⟩ := hg
    obtain ⟨its, rv, p, hz⟩ := I.list hq
    obtain ⟨f0, f1, f2, f3, f4, f5⟩ := hf it (by simp)
    have hl := rv.length
    exact wpAny_pyNext_list_end (I.ok.hd hc) st p.isList (by simp; omega) fun h' eb => ⟨rfl, I.turned (t' := s.toks) (fun b o hb e => eb b o hb e) f0 f1 f3 f4 f5⟩
  self := fun _ _ _ _ _ st h => wpAny_pyIter_listiter st h
theorem turn_tuple {P : Program} {w : World} {K : PySem.W.Frag} {tg : Expr} (a it : Addr) : Turn P w K tg (Itt K a) [it] it (fun i h => h.IsTupleIter it a i) where
  mem := by simp
  obj := fun i h st b hb => by
    have e : b = it := by simpa using hb
    subst e
    obtain ⟨o, e, c, d⟩ := st
    exact ⟨o, e, fun v z => by rw [d] at z; cases z⟩
  keep := fun i h h' st k => st.at fun o e => k it (by simp) o e
  item := by
    intro X hP hw hK hc i pins s σ H E I hf st hg
    subst hP hw hK
    obtain ⟨xs, x, hq, hx⟩ := hg
    obtain ⟨its, rv, p, hz⟩ := I.tuple hq
    obtain ⟨u, hu, ru⟩ := rv.get hx
    obtain ⟨f0, f1, f2, f3, f4, f5⟩ := hf it (by simp)
    refine wpAny_pyNext_tuple_item st (show s.heap.IsTuple a its.toArray from p) (x := u) (by simpa using hu) fun h' st' sb => ?_
    have I1 : Inv X pins σ H { s with heap := h' } := I.turned (t' := s.toks) (fun b o hb e => (sb.2 b hb).trans e) f0 f1 f3 f4 f5
    obtain ⟨o, e, c, d⟩ := id st'
    exact ⟨u, rfl, go_of (s := { s with heap := h' }) e c d (by decide) ⟨x, H, I1, ru, ⟨rfl, fun ys hy => by rw [I.tuple_inj hy hq]; exact hx⟩, st', fun b hb => (hf b hb).1⟩⟩
  done := by
    intro X hP hw hK hc i pins s σ H E I hf st hg
    subst hP hw hK
    obtain ⟨xs, hq, hx⟩ := hg
    obtain ⟨its, rv, p, hz⟩ := I.tuple hq
    obtain ⟨f0, f1, f2, f3, f4, f5⟩ := hf it (by simp)
    have hl := rv.length
    exact wpAny_pyNext_tuple_end (I.ok.hd hc) st (show s.heap.IsTuple a its.toArray from p) (by simp; omega) fun h' eb => ⟨rfl, I.turned (t' := s.toks) (fun b o hb e => eb b o hb e) f0 f1 f3 f4 f5⟩
  self := fun _ _ _ _ _ st h => wpAny_pyIter_tupleiter st h
section
variable {X : Cx} {tg : Expr}
def iList (K : PySem.W.Frag) (tl : TE) : TI := fun σ H R => tl σ H fun x H1 => ∃ a, x = .ref a ∧ (∃ xs, SqL K H1 a xs) ∧ R (Itl K a) H1
def iTup (K : PySem.W.Frag) (tl : TE) : TI := fun σ H R => tl σ H fun x H1 => ∃ a, x = .ref a ∧ (∃ xs, SqT K H1 a xs) ∧ R (Itt K a) H1
theorem pi_list {l : Expr} {tl : TE} (hl : PE X l tl) : PI X tg l (iList X.K tl) := by
  intro pins s σ H R I h
  refine thn (hl pins s σ H _ I h) fun v s1 ⟨x, H1, I1, r1, q1⟩ => ?_
  obtain ⟨a, e, ⟨xs, hq⟩, q⟩ := q1
  subst e
  cases r1
  obtain ⟨its, rv, p, hz⟩ := I1.list hq
  refine wpAny_pyIter_list p.isList ?_
  refine ⟨s1.heap.objs.size, [s1.heap.objs.size], _, _, H1, rfl, I1.kept (t' := s1.toks) fun b o e => Heap.get?_push_of_some _ e, turn_list a _, ⟨_, Heap.get?_push_size _ rfl, rfl, rfl⟩, fun b hb => ?_, q⟩
  have e : b = s1.heap.objs.size := by simpa using hb
  subst e
  exact I1.fpOk (Nat.le_refl _) (I1.hok.fresh (Nat.le_refl _))
theorem pi_tup {l : Expr} {tl : TE} (hl : PE X l tl) : PI X tg l (iTup X.K tl) := by
  intro pins s σ H R I h
  refine thn (hl pins s σ H _ I h) fun v s1 ⟨x, H1, I1, r1, q1⟩ => ?_
  obtain ⟨a, e, ⟨xs, hq⟩, q⟩ := q1
  subst e
  cases r1
  obtain ⟨its, rv, p, hz⟩ := I1.tuple hq
  refine wpAny_pyIter_tuple (show s1.heap.IsTuple a its.toArray from p) ?_
  refine ⟨s1.heap.objs.size, [s1.heap.objs.size], _, _, H1, rfl, I1.kept (t' := s1.toks) fun b o e => Heap.get?_push_of_some _ e, turn_tuple a _, ⟨_, Heap.get?_push_size _ rfl, rfl, rfl⟩, fun b hb => ?_, q⟩
  have e : b = s1.heap.objs.size := by simpa using hb
  subst e
  exact I1.fpOk (Nat.le_refl _) (I1.hok.fresh (Nat.le_refl _))
def pinsAt (fp : List Addr) (h : Heap) : List (Addr × Obj) := fp.filterMap fun b => (h.get? b).map fun o => (b, o)
theorem mem_pinsAt {fp : List Addr} {h : Heap} {b : Addr} {o : Obj} (hb : b ∈ fp) (e : h.get? b = some o) : (b, o) ∈ pinsAt fp h := List.mem_filterMap.mpr ⟨b, hb, by rw [e]; rfl⟩
theorem of_pinsAt {fp : List Addr} {h : Heap} {p : Addr × Obj} (hp : p ∈ pinsAt fp h) : p.1 ∈ fp ∧ h.get? p.1 = some p.2 := by
  obtain ⟨b, hb, e⟩ := List.mem_filterMap.mp hp
  cases q : h.get? b with
  | none => rw [q] at e; cases e
  | some o =>
    rw [q] at e
    have e' : (b, o) = p := Option.some.inj e
    subst e'
    exact ⟨hb, q⟩
theorem Inv.pinned {pins : List (Addr × Obj)} {σ : St} {H : Hp} {s : Shared} {fp : List Addr} (I : Inv X pins σ H s) (hf : ∀ b ∈ fp, FpOk X pins H b) (ho : ∀ b ∈ fp, ∃ o, s.heap.get? b = some o ∧ ∀ v, o.data ≠ .cell v) : Inv X (pins ++ pinsAt fp s.heap) σ H s :=
  I.pins_of fun p hp => (List.mem_append.mp hp).elim (fun z => I.pin p (List.mem_append_right _ z)) fun z => by
    obtain ⟨hb, e⟩ := of_pinsAt z
    obtain ⟨f0, f1, f2, _⟩ := hf p.1 hb
    obtain ⟨o, e', d⟩ := ho p.1 hb
    rw [e] at e'; cases e'
    exact ⟨e, f0, f1, f2, d⟩
theorem Inv.unpinned {pins pl : List (Addr × Obj)} {σ : St} {H : Hp} {s : Shared} (I : Inv X (pins ++ pl) σ H s) : Inv X pins σ H s := I.pins_of fun p hp => I.pin p (List.mem_append_right _ (List.mem_append_left _ hp))
end
abbrev R2 := V → V → Hp → VK → Prop
def OpR (X : Cx) (f : Value → Value → Sem Value) (r : R2) : Prop :=
  ∀ (pins : List (Addr × Obj)) (s : Shared) (σ : St) (H : Hp) (x y : V) (v u : Value) (Q : VK), Inv X pins σ H s → RelV x v → RelV y u → r x y H Q →
    wpAny (model X.prog X.w) X.A (f v u) (EP X pins σ Q) X.xe s
def CallR (X : Cx) (f : Value) (r : List V → Hp → VK → Prop) : Prop :=
  ∀ (pins : List (Addr × Obj)) (s : Shared) (σ : St) (H : Hp) (xs : List V) (us : List Value) (Q : VK), Inv X pins σ H s → Vals xs us → r xs H Q →
    wpAny (model X.prog X.w) X.A (call f us) (EP X pins σ Q) X.xe s
def rI (C : Int → Int → Prop) (g : Int → Int → V) : R2 := fun x y H Q => ∃ i j, x = .int i ∧ y = .int j ∧ C i j ∧ Q (g i j) H
def rI0 (g : Int → Int → V) : R2 := fun x y H Q => ∃ i j, x = .int i ∧ y = .int j ∧ Q (g i j) H
section
variable {X : Cx} {a b c : Expr} {ta tb tc : TE} {pos : Pos}
theorem opI {f : Value → Value → Sem Value} {C : Int → Int → Prop} {g : Int → Int → Int}
    (rule : ∀ (i j : Int) (t u : Tok) (s : Shared) (Q : Value → Shared → Prop) (E : Value → Shared → Prop), C i j → Q (.int (g i j) s.toks) { s with toks := s.toks + 1 } → wpAny (model X.prog X.w) X.A (f (.int i t) (.int j u)) Q E s) :
    OpR X f (rI C fun i j => .int (g i j)) := by
  intro pins s σ H x y v u Q I rx ry h
  obtain ⟨i, j, rfl, rfl, hc, q⟩ := h
  obtain ⟨t, rfl⟩ := rx
  obtain ⟨t', rfl⟩ := ry
  exact rule i j t t' s _ _ hc ⟨.int (g i j), H, I.tok _, ⟨_, rfl⟩, q⟩
theorem opI0 {f : Value → Value → Sem Value} {g : Int → Int → Int}
    (rule : ∀ (i j : Int) (t u : Tok) (s : Shared) (Q : Value → Shared → Prop) (E : Value → Shared → Prop), Q (.int (g i j) s.toks) { s with toks := s.toks + 1 } → wpAny (model X.prog X.w) X.A (f (.int i t) (.int j u)) Q E s) :
    OpR X f (rI0 fun i j => .int (g i j)) := by
  intro pins s σ H x y v u Q I rx ry h
  obtain ⟨i, j, rfl, rfl, q⟩ := h
  obtain ⟨t, rfl⟩ := rx
  obtain ⟨t', rfl⟩ := ry
  exact rule i j t t' s _ _ ⟨.int (g i j), H, I.tok _, ⟨_, rfl⟩, q⟩
theorem opB0 {f : Value → Value → Sem Value} {g : Int → Int → Bool}
    (rule : ∀ (i j : Int) (t u : Tok) (s : Shared) (Q : Value → Shared → Prop) (E : Value → Shared → Prop), Q (.bool (g i j)) s → wpAny (model X.prog X.w) X.A (f (.int i t) (.int j u)) Q E s) :
    OpR X f (rI0 fun i j => .bl (g i j)) := by
  intro pins s σ H x y v u Q I rx ry h
  obtain ⟨i, j, rfl, rfl, q⟩ := h
  obtain ⟨t, rfl⟩ := rx
  obtain ⟨t', rfl⟩ := ry
  exact rule i j t t' s _ _ ⟨.bl (g i j), H, I, rfl, q⟩
def CPow (i j : Int) : Prop := 0 ≤ j ∧ j ≤ 1000000 ∧ i.natAbs < 2 ^ 64
def CMul (i j : Int) : Prop := (-(2 ^ 64) < i ∧ i < 2 ^ 64) ∨ (-(2 ^ 64) < j ∧ j < 2 ^ 64)
theorem CMul.ok {i j : Int} (h : CMul i j) : IntMulOk i j := by
  rcases h with ⟨h1, h2⟩ | ⟨h1, h2⟩
  · exact .of_left (intBits_le_64 h1 h2)
  · exact .of_right (intBits_le_64 h1 h2)
theorem op_add : OpR X (binaryOp .Add) (rI0 fun i j => .int (i + j)) := opI0 fun _ _ _ _ _ _ _ q => add_int q
theorem op_sub : OpR X (binaryOp .Sub) (rI0 fun i j => .int (i - j)) := opI0 fun _ _ _ _ _ _ _ q => sub_int q
theorem op_modN : OpR X (binaryOp .Mod) (rI (fun _ j => j ≠ 0) fun i j => .int (i.fmod j)) := opI fun _ _ _ _ _ _ _ hc q => mod_int' hc q
theorem op_pow : OpR X (binaryOp .Pow) (rI CPow fun i j => .int (i ^ j.toNat)) := opI fun _ _ _ _ _ _ _ hc q => pow_int_small hc.1 hc.2.1 hc.2.2 q
end
def scal : V → V → Bool
  | .non, .non => true | .non, .int _ => true | .int _, .non => true | .non, .bl _ => true | .bl _, .non => true | .non, .str _ => true | .str _, .non => true
  | .int _, .int _ => true | .bl _, .bl _ => true | .str _, .str _ => true | .byt _, .byt _ => true
  | .int _, .str _ => true | .str _, .int _ => true | .bl _, .str _ => true | .str _, .bl _ => true
  | _, _ => false
def rEq : R2 := fun x y H Q => scal x y = true ∧ Q (.bl (decide (x = y))) H
def rNe : R2 := fun x y H Q => scal x y = true ∧ Q (.bl (!decide (x = y))) H
theorem dec_int {i j : Int} : decide (V.int i = V.int j) = (i == j) := by
  rw [Bool.eq_iff_iff]
  simp
theorem dec_bl {i j : Bool} : decide (V.bl i = V.bl j) = (i == j) := by
  rw [Bool.eq_iff_iff]
  simp
theorem dec_str {i j : Str} : decide (V.str i = V.str j) = (i == j) := by
  rw [Bool.eq_iff_iff]
  simp
theorem dec_byt {i j : Array UInt8} : decide (V.byt i = V.byt j) = (i.toList == j.toList) := by
  rw [Bool.eq_iff_iff]
  cases i
  cases j
  simp
section
variable {X : Cx} {a b c : Expr} {ta tb tc : TE} {pos : Pos}
theorem fin_bl {pins : List (Addr × Obj)} {σ : St} {H : Hp} {s : Shared} {Q : VK} {k k' : Bool} (I : Inv X pins σ H s) (q : Q (.bl k) H) (e : k = k') : EP X pins σ Q (.bool k') s := by
  subst e
  exact ⟨.bl k, H, I, rfl, q⟩
theorem op_eq : OpR X (compareOp .Eq) rEq := by
  intro pins s σ H x y v u Q I rx ry h
  obtain ⟨hs, q⟩ := h
  cases x with
  | non =>
    cases rx
    cases y with
    | non => cases ry; exact PySem.EqNone.eq_none_none (fin_bl I q (by simp))
    | bl j => cases ry; exact PySem.EqNone.eq_none_bool (fin_bl I q (by simp))
    | int j => obtain ⟨t', rfl⟩ := ry; exact PySem.EqNone.eq_none_int (fin_bl I q (by simp))
    | str j => obtain ⟨t', rfl⟩ := ry; exact PySem.EqNone.eq_none_str (fin_bl I q (by simp))
    | _ => exact absurd (show false = true from hs) Bool.false_ne_true
  | bl i =>
    cases rx
    cases y with
    | non => cases ry; exact PySem.EqNone.eq_bool_none (fin_bl I q (by simp))
    | bl j => cases ry; exact eq_bool (fin_bl I q dec_bl)
    | str j => obtain ⟨t', rfl⟩ := ry; exact PySem.EqMixed.eq_bool_str (fin_bl I q (by simp))
    | _ => exact absurd (show false = true from hs) Bool.false_ne_true
  | int i =>
    obtain ⟨t, rfl⟩ := rx
    cases y with
    | non => cases ry; exact PySem.EqNone.eq_int_none (fin_bl I q (by simp))
    | int j => obtain ⟨t', rfl⟩ := ry; exact eq_int (fin_bl I q dec_int)
    | str j => obtain ⟨t', rfl⟩ := ry; exact PySem.EqMixed.eq_int_str (fin_bl I q (by simp))
    | _ => exact absurd (show false = true from hs) Bool.false_ne_true
  | str i =>
    obtain ⟨t, rfl⟩ := rx
    cases y with
    | non => cases ry; exact PySem.EqNone.eq_str_none (fin_bl I q (by simp))
    | bl j => cases ry; exact PySem.EqMixed.eq_str_bool (fin_bl I q (by simp))
    | int j => obtain ⟨t', rfl⟩ := ry; exact PySem.EqMixed.eq_str_int (fin_bl I q (by simp))
    | str j => obtain ⟨t', rfl⟩ := ry; exact eq_str (fin_bl I q dec_str)
    | _ => exact absurd (show false = true from hs) Bool.false_ne_true
  | byt i =>
    obtain ⟨t, rfl⟩ := rx
    cases y with
    | byt j => obtain ⟨t', rfl⟩ := ry; exact PySem.W.eq_bytes (fin_bl I q dec_byt)
    | _ => exact absurd (show false = true from hs) Bool.false_ne_true
  | _ => cases y <;> exact absurd (show false = true from hs) Bool.false_ne_true
theorem op_ne : OpR X (compareOp .NotEq) rNe := by
  intro pins s σ H x y v u Q I rx ry h
  obtain ⟨hs, q⟩ := h
  cases x with
  | non =>
    cases rx
    cases y with
    | non => cases ry; exact PySem.EqNone.ne_none_none (fin_bl I q (by simp))
    | bl j => cases ry; exact PySem.EqNone.ne_none_bool (fin_bl I q (by simp))
    | int j => obtain ⟨t', rfl⟩ := ry; exact PySem.EqNone.ne_none_int (fin_bl I q (by simp))
    | str j => obtain ⟨t', rfl⟩ := ry; exact PySem.EqNone.ne_none_str (fin_bl I q (by simp))
    | _ => exact absurd (show false = true from hs) Bool.false_ne_true
  | bl i =>
    cases rx
    cases y with
    | non => cases ry; exact PySem.EqNone.ne_bool_none (fin_bl I q (by simp))
    | bl j => cases ry; exact ne_bool (fin_bl I q (congrArg not dec_bl))
    | str j => obtain ⟨t', rfl⟩ := ry; exact PySem.EqMixed.ne_bool_str (fin_bl I q (by simp))
    | _ => exact absurd (show false = true from hs) Bool.false_ne_true
  | int i =>
    obtain ⟨t, rfl⟩ := rx
    cases y with
    | non => cases ry; exact PySem.EqNone.ne_int_none (fin_bl I q (by simp))
    | int j => obtain ⟨t', rfl⟩ := ry; exact ne_int (fin_bl I q (congrArg not dec_int))
    | str j => obtain ⟨t', rfl⟩ := ry; exact PySem.EqMixed.ne_int_str (fin_bl I q (by simp))
    | _ => exact absurd (show false = true from hs) Bool.false_ne_true
  | str i =>
    obtain ⟨t, rfl⟩ := rx
    cases y with
    | non => cases ry; exact PySem.EqNone.ne_str_none (fin_bl I q (by simp))
    | bl j => cases ry; exact PySem.EqMixed.ne_str_bool (fin_bl I q (by simp))
    | int j => obtain ⟨t', rfl⟩ := ry; exact PySem.EqMixed.ne_str_int (fin_bl I q (by simp))
    | str j => obtain ⟨t', rfl⟩ := ry; exact ne_str (fin_bl I q (congrArg not dec_str))
    | _ => exact absurd (show false = true from hs) Bool.false_ne_true
  | byt i =>
    obtain ⟨t, rfl⟩ := rx
    cases y with
    | byt j => obtain ⟨t', rfl⟩ := ry; exact PySem.W.ne_bytes (fin_bl I q (congrArg not dec_byt))
    | _ => exact absurd (show false = true from hs) Bool.false_ne_true
  | _ => cases y <;> exact absurd (show false = true from hs) Bool.false_ne_true
theorem op_lt : OpR X (compareOp .Lt) (rI0 fun i j => .bl (decide (i < j))) := opB0 fun _ _ _ _ _ _ _ q => lt_int q
theorem op_gt : OpR X (compareOp .Gt) (rI0 fun i j => .bl (decide (j < i))) := opB0 fun _ _ _ _ _ _ _ q => gt_int q
theorem op_isN : OpR X (compareOp .Is) (fun x y H Q => y = .non ∧ Q (.bl (decide (x = .non))) H) := by
  intro pins s σ H x y v u Q I rx ry h
  obtain ⟨rfl, q⟩ := h
  cases ry
  refine is_none_gen (fin_bl I q ?_)
  cases x <;> first
    | (cases rx; rfl)
    | (obtain ⟨t, rfl⟩ := rx; rfl)
theorem OpR.or {f : Value → Value → Sem Value} {r r' : R2} (h : OpR X f r) (h' : OpR X f r') : OpR X f (fun x y H Q => r x y H Q ∨ r' x y H Q) := by
  intro pins s σ H x y v u Q I rx ry q
  rcases q with q | q
  · exact h pins s σ H x y v u Q I rx ry q
  · exact h' pins s σ H x y v u Q I rx ry q
theorem line63 : (sizeLine : Nat) < 2 ^ 63 := by rw [sizeLine_eq]; decide
theorem op_add_str : OpR X (binaryOp .Add) (fun x y H Q => ∃ i j, x = .str i ∧ y = .str j ∧ i.length + j.length ≤ sizeLine ∧ Q (.str (i ++ j)) H) := by
  intro pins s σ H x y v u Q I rx ry h
  obtain ⟨i, j, rfl, rfl, hz, q⟩ := h
  obtain ⟨t, rfl⟩ := rx
  obtain ⟨t', rfl⟩ := ry
  exact add_str (fun t' tk => ⟨.str (i ++ j), H, I.tok _, ⟨_, rfl⟩, q⟩) hz
theorem vals1 {x : V} {us : List Value} (r : Vals [x] us) : ∃ u, us = [u] ∧ RelV x u := by
  cases r with
  | cons r1 r2 => cases r2; exact ⟨_, rfl, r1⟩
theorem call_abs : CallR X (.builtin "abs") (fun xs H Q => ∃ i, xs = [.int i] ∧ Q (.int (if i < 0 then -i else i)) H) := by
  intro pins s σ H xs us Q I r h
  obtain ⟨i, rfl, q⟩ := h
  obtain ⟨u, rfl, t, rfl⟩ := vals1 r
  exact call_abs_int fun u tk => ⟨.int (if i < 0 then -i else i), H, I.tok _, ⟨_, rfl⟩, q⟩
theorem call_str_int : CallR X (.type "str") (fun xs H Q => ∃ i, xs = [.int i] ∧ i.natAbs.log2 < 1920 ∧ Q (.str (toString i)) H) := by
  intro pins s σ H xs us Q I r h
  obtain ⟨i, rfl, hz, q⟩ := h
  obtain ⟨u, rfl, t, rfl⟩ := vals1 r
  exact PySem.P.str_of_int hz ⟨.str _, H, I.tok _, ⟨_, rfl⟩, q⟩
end
structure ObjM (h : Heap) (x dx C : Addr) (mA : Str → Option Value) : Prop where
  obj : h.get? x = some (PySem.W.instObj C dx)
  ns : h.Ns1 dx mA
  ne : dx ≠ x
theorem lookIn_ns {h : Heap} {dx : Addr} {mA : Str → Option Value} (n : h.Ns1 dx mA) : ∃ od, h.get? dx = some od ∧ ∀ name, PySem.W.lookIn name od = some (mA name) := by
  obtain ⟨o, es, ep, ho, hd, hk, _, hm⟩ := n
  refine ⟨o, ho, fun name => ?_⟩
  have e := hm name
  unfold nsFind findBy at e
  rw [← Array.find?_toList] at e
  unfold PySem.W.lookIn
  rw [hd]
  dsimp only
  split
  · rename_i y q
    rw [q] at e
    exact congrArg some e
  · rename_i q
    rw [q] at e
    have a : es.toList.any (·.refKey) = false := by
      rw [List.any_eq_false]
      intro y hy
      obtain ⟨z, t, hkey⟩ := hk y (Array.mem_toList_iff.mp hy)
      simp [DictEntry.refKey, hkey]
    have a' : ¬ es.toList.any (·.refKey) = true := by rw [a]; exact Bool.false_ne_true
    rw [if_neg a']
    exact congrArg some e
theorem ObjM.look {h : Heap} {x dx C : Addr} {mA : Str → Option Value} (I : ObjM h x dx C mA) : ∃ od, PySem.W.InstAt h x (PySem.W.instObj C dx) C (some od) ∧ ∀ name, PySem.W.lookIn name od = some (mA name) :=
  let ⟨od, ho, hl⟩ := lookIn_ns I.ns
  ⟨od, ⟨I.obj, rfl, rfl, ho⟩, hl⟩
theorem RelO.none_of {o : Option Value} (r : RelO none o) : o = none := by
  cases o with
  | none => rfl
  | some u => exact (show False from r).elim
structure Cls (K : PySem.W.Frag) (C : Addr) : Prop where
  pg : PySem.W.plainGet K C Str.empty = true
  hd : PySem.W.hasDictIn K C = true
  po : PySem.W.plainOver K C = true
  sa : PySem.W.findIn K (.ref C) "__setattr__" = some (some (.builtin "object.__setattr__"))
theorem Cls.get {K : PySem.W.Frag} {C : Addr} (c : Cls K C) (f : Str) : PySem.W.plainGet K C f = true := c.pg
structure Con (K : PySem.W.Frag) (C : Addr) (f : Str) (v : V) (u : Value) : Prop where
  at_ : PySem.W.findIn K (.ref C) f = some (some u)
  rel : RelV v u
  get : PySem.W.specialIn K u "__get__" = some none
  cp : PySem.W.copiedNames.contains f = false
structure Meth (K : PySem.W.Frag) (C : Addr) (m : Str) (f : Addr) : Prop where
  at_ : PySem.W.findIn K (.ref C) m = some (some (.ref f))
  fn : PySem.W.isFn K (.ref f) = true
  kp : PySem.W.keepIn K (.ref f) = true
section
variable {X : Cx} {pins : List (Addr × Obj)} {σ : St} {H : Hp} {s : Shared} {a C dx : Addr} {fs : List (Str × V)} {f : Str} {v : V} {A : Around} {E : Value → Shared → Prop}
theorem Inv.made (I : Inv X pins σ H s) : Inv X pins σ (upd (upd H s.heap.objs.size (.own (s.heap.objs.size + 1))) (s.heap.objs.size + 1) (.ins C s.heap.objs.size []))
    { s with heap := (s.heap.push PySem.W.emptyDict).push (PySem.W.instObj C s.heap.objs.size) } := by
  have e1 : (s.heap.push PySem.W.emptyDict).get? s.heap.objs.size = some PySem.W.emptyDict := Heap.get?_push_size s.heap rfl
  have e2 : ((s.heap.push PySem.W.emptyDict).push (PySem.W.instObj C s.heap.objs.size)).get? (s.heap.objs.size + 1) = some (PySem.W.instObj C s.heap.objs.size) := by
    have := Heap.get?_push_size (s.heap.push PySem.W.emptyDict) (o := PySem.W.instObj C s.heap.objs.size) rfl
    rwa [Heap.size_push] at this
  have e3 : (s.heap.push PySem.W.emptyDict).Ns s.heap.objs.size (fun _ => none) := ⟨PySem.W.emptyDict, #[], _, e1, rfl, (fun e he => absurd he (by simp)), fun _ => rfl⟩
  have I1 := I.laid (a := s.heap.objs.size) (o := .own (s.heap.objs.size + 1)) (h' := s.heap.push PySem.W.emptyDict) (t' := s.toks) (fun b u q => Heap.get?_push_of_some _ q) (Nat.le_refl _) ⟨_, e1⟩
  refine I1.laid (a := s.heap.objs.size + 1) (o := .ins C s.heap.objs.size []) (t' := s.toks) (fun b u q => Heap.get?_push_of_some _ q) (Nat.le_of_eq (Heap.size_push _ _)) ?_
  have ne : s.heap.objs.size ≠ s.heap.objs.size + 1 := Nat.ne_of_lt (Nat.lt_succ_self _)
  refine ⟨by rw [upd_ne ne, upd_same], Nat.zero_le _, ne, e2, fun _ => none, (Heap.Ns1.of_empty e3).at fun o q => Heap.get?_push_of_some _ q, fun _ => True.intro, fun y hy => absurd rfl hy⟩
end
section
variable {X : Cx} {pins : List (Addr × Obj)} {σ : St} {H : Hp} {s : Shared} {A : Around} {E : Value → Shared → Prop} {Q : Value → Shared → Prop} {c : Value} {b : Bool}
inductive TyOf (K : PySem.W.Frag) (H : Hp) : V → Value → Prop where
  | non : TyOf K H .non (.type "NoneType")
  | bl (x : Bool) : TyOf K H (.bl x) (.type "bool")
  | int (i : Int) : TyOf K H (.int i) (.type "int")
  | str (x : Str) : TyOf K H (.str x) (.type "str")
  | flt (x : UInt64) : TyOf K H (.flt x) (.type "float")
  | lst {a : Addr} {xs : List V} (e : H a = some (.lst xs)) : TyOf K H (.ref a) (.type "list")
  | frz {a : Addr} {o : Obj} {xs : List V} (e : H a = some (.frz o (.lst xs))) : TyOf K H (.ref a) (.type "list")
  | tup {a : Addr} {xs : List V} (e : H a = some (.tup xs)) : TyOf K H (.ref a) (.type "tuple")
  | dK {a : Addr} {kvs : List (Key × V)} (e : H a = some (.dK kvs)) : TyOf K H (.ref a) (.type "dict")
  | dT {a : Addr} {kvs : List (List Key × V)} (e : H a = some (.dT kvs)) : TyOf K H (.ref a) (.type "dict")
  | ins {a C dx : Addr} {fs : List (Str × V)} (e : H a = some (.ins C dx fs)) (cl : Cls K C) (ha : PySem.W.findIn K (.ref C) "__class__" = some (some (.builtin "object.__class__")))
      (hn : PySem.W.specialIn K (.builtin "object.__class__") "__get__" = some (some (.builtin "getset_descriptor.__get__"))) (htk : PySem.W.takesIn K (.builtin "object.__class__") = some true)
      (hm : PySem.W.mroIn K C (.type "object") = some true) : TyOf K H (.ref a) (.ref C)
end
structure Room (k : Nat) (A : Around) : Prop where
  hd : A.handled = none
  dp : A.depth + 3 * k + 5 < recursionLimit
  un : A.units + 16 * k + 200 < cLine
theorem Room.mono {j k : Nat} {A : Around} (r : Room k A) (h : j ≤ k) : Room j A := ⟨r.hd, by have := r.dp; omega, by have := r.un; omega⟩
theorem Room.deeper {k : Nat} {A : Around} (r : Room (k + 1) A) (env : Env) : Room k (A.deeper env) :=
  ⟨r.hd, by have := r.dp; show A.depth + 1 + 3 * k + 5 < _; omega, by have := r.un; show A.units + 3 + 16 * k + 200 < _; omega⟩
theorem Room.in1 {k : Nat} {A : Around} (r : Room (k + 1) A) : Room k A.in1 :=
  ⟨r.hd, by have := r.dp; show A.depth + 3 * k + 5 < _; omega, by have := r.un; show A.units + 1 + 16 * k + 200 < _; omega⟩
theorem make_depth {A : Around} {C : Addr} {us : List Value} {kw : List (Str × Value)} : (A.under (.builtin "type.__call__" ⟨.ref C :: us, kw⟩)).depth = A.depth + 1 := by
  first | rfl | simp [Around.under, Code.weight, Code.isCreation, Code.isGuard, Code.isCaller, Code.frames, Code.isFrame, guardIds]
theorem make_units {A : Around} {C : Addr} {us : List Value} {kw : List (Str × Value)} : (A.under (.builtin "type.__call__" ⟨.ref C :: us, kw⟩)).units = A.units + 1 := by
  first | rfl | simp [Around.under, Code.cUnits, Code.frames, Code.isFrame]
theorem Room.make {k : Nat} {A : Around} (r : Room (k + 1) A) (C : Addr) (us : List Value) (kw : List (Str × Value)) : Room k (A.under (.builtin "type.__call__" ⟨.ref C :: us, kw⟩)) :=
  ⟨r.hd, by have := r.dp; rw [make_depth]; omega, by have := r.un; rw [make_units]; omega⟩
theorem Room.depth {k : Nat} {A : Around} (r : Room k A) : A.depth < recursionLimit := by have := r.dp; omega
theorem Room.units {k : Nat} {A : Around} (r : Room k A) : A.units + 64 < cLine := by have := r.un; omega
def tNil : TA := fun _ H Q => Q [] H
def tCons (ta : TE) (tr : TA) : TA := fun σ H Q => ta σ H fun x H1 => tr σ H1 fun xs H2 => Q (x :: xs) H2
section
variable {X : Cx} {e : Expr} {es : List Expr} {te : TE} {t : TA} {pos : Pos}
theorem pa_nil : PA X [] tNil := fun _ _ _ _ H Q I h => Calls.spliced_nil ⟨[], H, I, .nil, h⟩
theorem pa_cons (ha : PE X e te) (hr : PA X es t) (hs : starEach (e :: es) X.env = (false, eval e X.env) :: starEach es X.env := by rfl) : PA X (e :: es) (tCons te t) := by
  intro pos pins s σ H Q I h
  rw [hs]
  show wpAny _ _ (spliced ((false, eval e X.env) :: backTo pos (starEach es X.env))) _ _ s
  refine Calls.spliced_cons (thn (ha pins s σ H _ I h) fun u s1 ⟨x, H1, I1, r1, q1⟩ => ?_)
  exact thn (hr pos pins s1 σ H1 _ I1 q1) fun us s2 ⟨xs, H2, I2, r2, q2⟩ => ⟨x :: xs, H2, I2, .cons r1 r2, q2⟩
end
abbrev Sp := List V → Hp → VK → XK → Prop
abbrev CXT := List Env → Hp → Shared → XK → Value → Shared → Prop
structure Env0 (P : Program) (w : World) (K : PySem.W.Frag) (mg : Str → Option Value) (base : Heap) (A : Around) (outer : List Env) (s : Shared) (H : Hp) : Prop where
  frames : A.frames = some outer
  mod : Mod K mg base
  bs : ∀ b o, base.get? b = some o → s.heap.get? b = some o ∧ H b = none
  bsz : base.objs.size ≤ s.heap.objs.size
  funs : s.heap.FunFrames base outer
  frf : ∀ b ∈ frs outer, H b = none
  hok : HOk P w H s.heap
  bare : AllBare s.gens
def CE (outer : List Env) (P : Program) (w : World) (H : Hp) (s : Shared) (Q : VK) (u : Value) (s' : Shared) : Prop :=
  ∃ v H', s'.os = s.os ∧ AllBare s'.gens ∧ Un (frs outer) [] H H' s.heap s'.heap ∧ HOk P w H' s'.heap ∧ RelV v u ∧ Q v H'
def CR (CX : CXT) (outer : List Env) (P : Program) (w : World) (H : Hp) (s : Shared) (Q : VK) (E : XK) (r : Result) (s' : Shared) : Prop :=
  match r with
  | .ok (.ret u) => CE outer P w H s Q u s'
  | .ok _ => False
  | .error e => CX outer H s E e s'
structure FnOk (P : Program) (w : World) (K : PySem.W.Frag) (mg : Str → Option Value) (base : Heap) (CX : CXT) (k : Nat) (f : Addr) (fd : FuncData) (ps : List Str) (sp : Sp) : Prop where
  len : ∀ vs H Q E, sp vs H Q E → vs.length = ps.length
  run : ∀ (A : Around) (outer : List Env) (s : Shared) (H : Hp) (args : Args) (us : List Value) (vs : List V) (Q : VK) (E : XK), Room k A → Env0 P w K mg base A outer s H → BindsTo s fd args (ps.zip us) → Vals vs us → sp vs H Q E →
    codeAny (model P w) A (.call (.ref f) args) (CR CX outer P w H s Q E) s
theorem FnOk.mono {P : Program} {w : World} {K : PySem.W.Frag} {mg : Str → Option Value} {base : Heap} {CX : CXT} {j k : Nat} {f : Addr} {fd : FuncData} {ps : List Str} {sp : Sp} (F : FnOk P w K mg base CX j f fd ps sp) (h : j ≤ k) :
    FnOk P w K mg base CX k f fd ps sp := ⟨F.len, fun A outer s H args us vs Q E hr => F.run A outer s H args us vs Q E (hr.mono h)⟩
theorem FnOk.imp {P : Program} {w : World} {K : PySem.W.Frag} {mg : Str → Option Value} {base : Heap} {CX : CXT} {k : Nat} {f : Addr} {fd : FuncData} {ps : List Str} {sp sp' : Sp} (F : FnOk P w K mg base CX k f fd ps sp)
    (h : ∀ vs H Q E, sp' vs H Q E → sp vs H Q E) : FnOk P w K mg base CX k f fd ps sp' :=
  ⟨fun vs H Q E q => F.len vs H Q E (h _ _ _ _ q), fun A outer s H args us vs Q E hr he hb hv hs => F.run A outer s H args us vs Q E hr he hb hv (h _ _ _ _ hs)⟩
theorem Env0.make {P : Program} {w : World} {K : PySem.W.Frag} {mg : Str → Option Value} {base : Heap} {A : Around} {outer : List Env} {s : Shared} {H : Hp} (e : Env0 P w K mg base A outer s H) (C : Addr) (us : List Value) (kw : List (Str × Value)) :
    Env0 P w K mg base (A.under (.builtin "type.__call__" ⟨.ref C :: us, kw⟩)) outer s H := ⟨by first | exact e.frames | (simpa [Around.under, Code.envs, Code.isFrame, pushEnvs] using e.frames), e.mod, e.bs, e.bsz, e.funs, e.frf, e.hok, e.bare⟩
theorem Env0.in1 {P : Program} {w : World} {K : PySem.W.Frag} {mg : Str → Option Value} {base : Heap} {A : Around} {outer : List Env} {s : Shared} {H : Hp} (e : Env0 P w K mg base A outer s H) :
    Env0 P w K mg base A.in1 outer s H := ⟨e.frames, e.mod, e.bs, e.bsz, e.funs, e.frf, e.hok, e.bare⟩
section
variable {X : Cx} {pins : List (Addr × Obj)} {σ : St} {H : Hp} {s s' : Shared}
theorem Inv.env0 (I : Inv X pins σ H s) : Env0 X.prog X.w X.K X.mg X.base X.A X.stack s H :=
  ⟨I.ok.frames, I.ok.mod, I.bs, Nat.le_trans I.ok.bsz I.sz, I.stack, I.stkFree, I.hok, I.bare⟩
theorem Inv.after {Q : VK} {u : Value} (I : Inv X pins σ H s) (h : CE X.stack X.prog X.w H s Q u s') : EP X pins σ Q u s' := by
  obtain ⟨v, H', os, bare, un, hok, r, q⟩ := h
  obtain ⟨hh, g, d, t, os'⟩ := s'
  obtain rfl : os' = s.os := os
  exact ⟨v, H', I.call (h' := hh) (g' := g) (d' := d) (t' := t) (ch := []) un hok bare (fun b z => absurd z (by simp)), r, q⟩
end
def Binds (K : PySem.W.Frag) (fd : FuncData) (ps : List Str) (ds : List Value) : Prop :=
  ∀ (s : Shared) (us : List Value), K.In s.heap → (us ++ ds).length = ps.length → BindsTo s fd ⟨us, []⟩ (ps.zip (us ++ ds))
theorem Binds.all {K : PySem.W.Frag} {fd : FuncData} {ps : List Str} (h : ∀ us : List Value, us.length = ps.length → bindArgs fd ⟨us, []⟩ = pure (ps.zip us)) : Binds K fd ps [] := fun s us _ hl => by
  rw [List.append_nil] at hl ⊢
  exact .of_eq (h us hl)
def Passes (CX : CXT) (X : Cx) (E : XK) : Prop := ∀ (pins : List (Addr × Obj)) (σ : St) (H : Hp) (s : Shared) (e : Value) (s' : Shared), Inv X pins σ H s → CX X.stack H s E e s' → X.xe e s'
section
variable {X : Cx} {CX : CXT} {k : Nat} {f C : Addr} {fd : FuncData} {ps : List Str} {sp : Sp} {dvs : List V} {ds : List Value} {E : XK} {x m : Str} {p pos apos : Pos} {e o : Expr} {es : List Expr} {ta : TE} {t : TA}
theorem run_fn {pins : List (Addr × Obj)} {σ : St} {H : Hp} {s : Shared} {Q : VK} {us : List Value} {vs : List V} (F : FnOk X.prog X.w X.K X.mg X.base CX k f fd ps sp) (hr : Room k X.A) (hb : Binds X.K fd ps ds) (hd : Vals dvs ds) (hx : Passes CX X E)
    (I : Inv X pins σ H s) (r : Vals vs us) (h : sp (vs ++ dvs) H Q E) : wpAny (model X.prog X.w) X.A (call (.ref f) us) (EP X pins σ Q) X.xe s := by
  have r2 : Vals (vs ++ dvs) (us ++ ds) := r.append hd
  have hl : (us ++ ds).length = ps.length := by rw [← r2.length]; exact F.len _ _ _ _ h
  refine wpAny_call (codeAny_mono (F.run X.A X.stack s H ⟨us, []⟩ (us ++ ds) (vs ++ dvs) Q E hr I.env0 (hb s us I.kIn hl) r2 h) fun r s' hq => ?_)
  cases r with
  | error e => exact hx pins σ H s e s' I hq
  | ok fl =>
    cases fl with
    | ret u => exact I.after hq
    | next => exact False.elim hq
    | brk => exact False.elim hq
    | cont => exact False.elim hq
structure Mk (K : PySem.W.Frag) (C f : Addr) : Prop where
  makes : PySem.W.makesIn K C = true
  init : PySem.W.findIn K (.ref C) "__init__" = some (some (.ref f))
  fn : PySem.W.isFn K (.ref f) = true
  kp : PySem.W.keepIn K (.ref C) = true
end
section
variable {X : Cx} {CX : CXT} {k : Nat} {f C : Addr} {fd : FuncData} {ps ks : List Str} {sp : Sp} {E : XK} {x m : Str} {p pos apos kpos : Pos} {e o : Expr} {es : List Expr} {kws : List Keyword} {te ta : TE} {t tk : TA} {nm : Option Str}
structure KBinds (K : PySem.W.Frag) (fd : FuncData) (ps ks : List Str) (g : List Value → List Value → List Value) (gV : List V → List V → List V) : Prop where
  to : ∀ (s : Shared) (us ws : List Value), K.In s.heap → (g us ws).length = ps.length → BindsTo s fd ⟨us, ks.zip ws⟩ (ps.zip (g us ws))
  rel : ∀ {vs : List V} {us : List Value} {zs : List V} {ws : List Value}, Vals vs us → Vals zs ws → Vals (gV vs zs) (g us ws)
variable {g : List Value → List Value → List Value} {gV : List V → List V → List V}
end
structure FnScope (N P : List Str) (sc : Scope) : Prop where
  kind : sc.kind = .function
  co : sc.isCoroutine = false
  gen : sc.isGenerator = false
  nd : N.Nodup
  pre : N.take P.length = P
  par : ∀ x ∈ P, sc.names.lookup x = some .local ∨ sc.names.lookup x = some .cell
  nofree : ∀ y ∈ sc.names, y.2 ≠ .free
theorem bindL_out {kindOf : Str → Option NameKind} {x : Str} : ∀ {binds : List (Str × Value)} {m : Str → Option Value}, (∀ v, (x, v) ∉ binds) → bindL kindOf binds m x = m x
  | [], _, _ => rfl
  | (n, v) :: r, m, h => by
    unfold bindL
    rw [bindL_out fun w hw => h w (List.mem_cons_of_mem _ hw)]
    split
    · have : x ≠ n := by rintro rfl; exact h v List.mem_cons_self
      simp [this]
    · rfl
theorem bindC_out {kindOf : Str → Option NameKind} {x : Str} : ∀ {binds : List (Str × Value)} {m : Str → Option Value}, (∀ v, (x, v) ∉ binds) → bindC kindOf binds m x = m x
  | [], _, _ => rfl
  | (n, v) :: r, m, h => by
    unfold bindC
    rw [bindC_out fun w hw => h w (List.mem_cons_of_mem _ hw)]
    split
    · rfl
    · have : x ≠ n := by rintro rfl; exact h v List.mem_cons_self
      simp [this]
theorem bindL_get {kindOf : Str → Option NameKind} {x : Str} {v : Value} : ∀ {P : List Str} {vs : List Value} {i : Nat} {m : Str → Option Value}, P.Nodup → P[i]? = some x → vs[i]? = some v → kindOf x = some .local →
    bindL kindOf (P.zip vs) m x = some v
  | [], _, _, _, _, h, _, _ => by simp at h
  | _ :: _, [], _, _, _, _, h, _ => by simp at h
  | p :: P, w :: vs, 0, m, nd, h1, h2, hk => by
    simp at h1 h2; subst h1; subst h2
    show bindL kindOf ((p, w) :: P.zip vs) m p = _
    unfold bindL
    rw [bindL_out fun v hv => (List.nodup_cons.mp nd).1 (List.of_mem_zip hv).1, if_pos hk]
    simp
  | p :: P, w :: vs, i + 1, m, nd, h1, h2, hk => by
    show bindL kindOf ((p, w) :: P.zip vs) m x = _
    unfold bindL
    exact bindL_get (i := i) (List.nodup_cons.mp nd).2 (by simpa using h1) (by simpa using h2) hk
theorem bindC_get {kindOf : Str → Option NameKind} {x : Str} {v : Value} : ∀ {P : List Str} {vs : List Value} {i : Nat} {m : Str → Option Value}, P.Nodup → P[i]? = some x → vs[i]? = some v → kindOf x ≠ some .local →
    bindC kindOf (P.zip vs) m x = some v
  | [], _, _, _, _, h, _, _ => by simp at h
  | _ :: _, [], _, _, _, _, h, _ => by simp at h
  | p :: P, w :: vs, 0, m, nd, h1, h2, hk => by
    simp at h1 h2; subst h1; subst h2
    show bindC kindOf ((p, w) :: P.zip vs) m p = _
    unfold bindC
    rw [bindC_out fun v hv => (List.nodup_cons.mp nd).1 (List.of_mem_zip hv).1, if_neg hk]
    simp
  | p :: P, w :: vs, i + 1, m, nd, h1, h2, hk => by
    show bindC kindOf ((p, w) :: P.zip vs) m x = _
    unfold bindC
    exact bindC_get (i := i) (List.nodup_cons.mp nd).2 (by simpa using h1) (by simpa using h2) hk
def start (N : List Str) (vs : List V) : St := vs.map some ++ List.replicate (N.length - vs.length) none
def cxOf (CX : CXT) (P : Program) (w : World) (K : PySem.W.Frag) (mg : Str → Option Value) (base : Heap) (N : List Str) (qual : Str) (scope : Scope) (f : Addr) (cd : Value) (A : Around) (outer : List Env) (s : Shared) (H : Hp) (E : XK) : Cx where
  prog := P
  w := w
  K := K
  mg := mg
  base := base
  A := A.deeper (envOfC qual scope s.heap.objs.size f cd)
  N := N
  s₀ := s
  H₀ := H
  env := envOfC qual scope s.heap.objs.size f cd
  outer := outer
  stack := envOfC qual scope s.heap.objs.size f cd :: outer
  ex := []
  calm := true
  fn := fun _ => true
  pn := []
  xe := fun e s' => wpAny (model P w) (A.deeper (envOfC qual scope s.heap.objs.size f cd)) (leaving (envOfC qual scope s.heap.objs.size f cd) e) (fun _ s'' => CX outer H s E e s'') (fun e' s'' => CX outer H s E e' s'') s'
theorem cell_has {sc : Scope} {n : Nat} {x : Str} (h : sc.names.lookup x = some .cell) : ∃ c, (cellsFrom n sc.names []).lookup x = some c := by
  have q := PySem.W.cellsFrom_some sc.names n [] (.inl h)
  exact Option.isSome_iff_exists.mp q
theorem inv_start {CX : CXT} {P : Program} {w : World} {K : PySem.W.Frag} {mg : Str → Option Value} {base : Heap} {N ps : List Str} {qual : Str} {scope : Scope} {f : Addr} {cd : Value} {A : Around} {outer : List Env} {s s1 : Shared} {H : Hp} {E : XK} {us : List Value} {vs : List V}
    (S : FnScope N ps scope) (hd : A.handled = none) (e0 : Env0 P w K mg base A outer s H) (hl : vs.length = ps.length) (r : Vals vs us)
    (x : InCallC s s.heap.objs.size (bindL (envOfC qual scope s.heap.objs.size f cd).kindOf (ps.zip us) fun _ => none) (cellsFrom (s.heap.objs.size + 1) scope.names []) (bindC (envOfC qual scope s.heap.objs.size f cd).kindOf (ps.zip us) fun _ => none) s1) :
    Inv (cxOf CX P w K mg base N qual scope f cd A outer s H E) [] (start N vs) H s1 := by
  have hpl : ps.length ≤ N.length := by have := congrArg List.length S.pre; rw [List.length_take] at this; omega
  obtain ⟨h1, tk, rfl, hk⟩ := x.done
  have noA : ∀ b : Addr, b ∉ (cxOf CX P w K mg base N qual scope f cd A outer s H E).ex := fun b z => absurd (show b ∈ ([] : List Addr) from z) (by simp)
  refine ⟨⟨e0.mod, S.kind, rfl, rfl, Nat.le_refl _, fun y z c h1 h2 => ?_, fun y hy => ?_, fun y c _ h => ?_, fun _ => hd, Around.frames_deeper e0.frames, .inr ⟨rfl, rfl⟩, fun b z => absurd z (noA b), e0.bs, e0.bsz, fun b _ _ => noA b, fun b z => absurd z (noA b), e0.funs, e0.frf⟩,
    rfl, e0.bare, Un.kept hk, ⟨_, x.toInCall.ns, fun i y v h1 h2 h3 => ?_⟩, fun y c h => ⟨_, x.cell y c h⟩, e0.hok.fresh (Nat.le_refl _), fun y c h => ?_, fun p hp => absurd (show p ∈ ([] : List (Addr × Obj)) from hp) (by simp), e0.hok.kept hk, ?_⟩
  · exact name_of_addr x.apart (PySem.mem_of_lookup h1) (PySem.mem_of_lookup h2)
  · have hy : scope.names.lookup y = some .cell ∨ scope.names.lookup y = some .free := hy
    rcases hy with hy | hy
    · exact cell_has hy
    · exact absurd rfl (S.nofree _ (PySem.mem_of_lookup hy))
  · exact Nat.le_of_lt (x.above y c (PySem.mem_of_lookup h))
  · have hi : i < vs.length := by
      unfold start at h2
      by_cases hi : i < vs.length
      · exact hi
      · rw [List.getElem?_append_right (by simpa using hi)] at h2
        rw [List.getElem?_replicate] at h2
        split at h2 <;> cases h2
    have ha : vs[i]? = some v := by
      unfold start at h2
      rw [List.getElem?_append_left (by simpa using hi), List.getElem?_map] at h2
      cases e : vs[i]? with
      | none => rw [e] at h2; cases h2
      | some a => rw [e] at h2; cases h2; rfl
    obtain ⟨u, hu, rv⟩ := r.get ha
    have hp : ps[i]? = some y := by
      rw [← S.pre, List.getElem?_take_of_lt (by omega)]; exact h1
    have ndP : ps.Nodup := by rw [← S.pre]; exact S.nd.sublist (List.take_sublist _ _)
    refine ⟨u, rv, ?_⟩
    rcases S.par y (List.mem_of_getElem? hp) with k | k
    · exact .inl ⟨k, bindL_get ndP hp hu k⟩
    · obtain ⟨c, e⟩ := cell_has (n := s.heap.objs.size + 1) k
      refine .inr ⟨.inl k, c, e, ?_⟩
      have q := x.cell y c e
      rw [bindC_get ndP hp hu (by show scope.names.lookup y ≠ _; rw [k]; decide)] at q
      exact q
  · exact e0.hok.fresh (Nat.le_of_lt (x.above y c (PySem.mem_of_lookup h)))
  · unfold start
    show _ = N.length
    rw [List.length_append, List.length_map, List.length_replicate]
    omega
theorem fn_of {CX : CXT} {P : Program} {w : World} {K : PySem.W.Frag} {mg : Str → Option Value} {base : Heap} {k : Nat} {f : Addr} {name qual : Str} {params : Arguments} {body : List Stmt} {scope : Scope} {dV kV doc pm cdv ct oc : Value} {an od : Option Addr}
    {osl : Array (Option Value)} {N ps : List Str} {sp : Sp} (lk : K.lookup f = some ⟨oc, od, .func (PySem.W.fnOf name qual params body scope dV kV doc pm an cdv ct), osl⟩) (hcd : PySem.W.codeIn K cdv qual = true) (S : FnScope N ps scope)
    (len : ∀ vs H Q E, sp vs H Q E → vs.length = ps.length)
    (hbody : ∀ (A : Around) (outer : List Env) (s : Shared) (H : Hp) (vs : List V) (Q : VK) (E : XK), Room k (A.deeper (envOfC qual scope s.heap.objs.size f cdv)) → sp vs H Q E →
      ∃ t, PSs (cxOf CX P w K mg base N qual scope f cdv A outer s H E) body t ∧ t { nx := fun _ H' => Q .non H', rt := Q } (start N vs) H) :
    FnOk P w K mg base CX (k + 1) f (PySem.W.fnOf name qual params body scope dV kV doc pm an cdv ct) ps sp := by
  refine ⟨len, fun A outer s H args us vs Q E hr e0 hb r hsp => ?_⟩
  have hl := len _ _ _ _ hsp
  have KX : K.In s.heap := e0.mod.kin.keeps fun b o e => (e0.bs b o e).1
  have lim : s.heap.NoLimit := e0.mod.nolimit.keeps fun b o e => (e0.bs b o e).1
  have hkind : ∀ y ∈ ps.zip us, scope.names.lookup y.1 = some .local ∨ (scope.names.lookup y.1 = some .cell ∧ ((cellsFrom (s.heap.objs.size + 1) scope.names []).lookup y.1).isSome = true) := fun ⟨n, v⟩ hy => by
    rcases S.par n (List.of_mem_zip hy).1 with q | q
    · exact .inl q
    · exact .inr ⟨q, PySem.W.cellsFrom_some _ _ _ (.inl q)⟩
  refine codeAny_call_function hr.depth (KX _ _ lk) rfl S.co S.gen rfl (PySem.W.codeRec_of KX hcd) (hb _ _ _ _ ?_)
  refine wpAny_newFunctionEnv_cells S.kind hkind fun env he s1 x => ?_
  subst he
  refine ⟨lim.keeps x.toInCall.keep, codeAny_func ?_⟩
  obtain ⟨t, ht, hq⟩ := hbody A outer s H vs Q E (hr.deeper _) hsp
  have I : Inv (cxOf CX P w K mg base N qual scope f cdv A outer s H E) [] (start N vs) H s1 := inv_start S hr.hd e0 hl r x
  refine wpAny_mono (ht [] s1 (start N vs) H _ I hq) (fun fl s' hs => ?_) fun e s' hs => hs
  have fin : ∀ {σ' : St} {H' : Hp} {v : V} {u : Value}, Inv (cxOf CX P w K mg base N qual scope f cdv A outer s H E) [] σ' H' s' → RelV v u → Q v H' → CE outer P w H s Q u s' :=
    fun {σ' H' v u} J rv q => ⟨v, H', J.os, J.bare, J.base, J.hok, rv, q⟩
  cases fl with
  | ret u =>
    obtain ⟨v, σ', H', J, rv, q⟩ := hs
    exact fin J rv q
  | next =>
    obtain ⟨σ', H', J, q⟩ := hs
    exact fin (v := V.non) (u := Value.none) J rfl q
  | brk =>
    obtain ⟨_, _, _, q⟩ := hs
    exact False.elim q
  | cont =>
    obtain ⟨_, _, _, q⟩ := hs
    exact False.elim q
section
variable {X : Cx} {x : Str} {p pos : Pos} {e : Expr} {es : List Expr} {t : TA} {id T : String} {r : List V → Hp → VK → Prop}
def tCB (r : List V → Hp → VK → Prop) (t : TA) : TE := fun σ H Q => t σ H fun vs H1 => r vs H1 Q
theorem pe_callTy (hc : CallR X (.type T) r) (hg : Gl X x) (hm : X.mg x = none) (hv : bootBuiltins x = some (.type T)) (ha : PA X (e :: es) t) (hn : x ≠ "__name__" := by decide) (hdb : (x == ("__debug__" : Str)) = false := by decide)
    (he : starEach (e :: es) X.env = (false, eval e X.env) :: starEach es X.env := by rfl) (hpl : (backTo pos (starEach es X.env)).any (·.1) = false := by rfl) : PE X (.Call (.Name x p) (e :: es) [] pos) (tCB r t) := by
  intro pins s σ H Q I h
  refine wpAny_Call_Name_kw (ld_blt I hg hm hv ?_ hn hdb)
  exact PyProof.Rows.callWith_type1 (thn (ha pos pins s σ H _ I h) fun us s1 ⟨vs, H1, I1, r1, q1⟩ => hc pins s1 σ H1 vs us Q I1 r1 q1) he hpl
end
end L2
namespace HT
open PySem PyProof.Rows
section
open PySem.SeqAt
open PySem.AutoSeq1 (wpAny_loadPart')
open PySem.MeetsSeq PySem.MeetsSeq2 PySem.MeetsSeq3
end
section
variable {prog : Program} {w : World} {A : Around} {E : Value → Shared → Prop} {s : Shared}
def sIx (n d : Nat) : Option Int → Nat
  | none => d
  | some v => if v < 0 then (v + (n : Int)).toNat else min v.toNat n
theorem sIx_none (n d : Nat) : sIx n d none = d := rfl
theorem sIx_nat (n d k : Nat) : sIx n d (some (k : Int)) = min k n := by
  show (if (k : Int) < 0 then ((k : Int) + (n : Int)).toNat else min (k : Int).toNat n) = min k n
  rw [if_neg (by omega), Int.toNat_natCast]
end
end HT
namespace L2
open PySem PySem.Spec PyProof.Rows
abbrev TO := St → Hp → (Option Int → Hp → Prop) → Prop
section
variable {X : Cx} {e : Expr} {te : TE} {lo hi : Option Expr} {tl th : TO} {pos p2 : Pos}
def SlR (X : Cx) (r : V → Option Int → Option Int → Hp → VK → Prop) : Prop :=
  ∀ (pins : List (Addr × Obj)) (s : Shared) (σ : St) (H : Hp) (x : V) (v vl vu : Value) (lo hi : Option Int) (sl : Addr) (Q : VK), Inv X pins σ H s → RelV x v → s.heap.IsSliceOf sl vl vu .none → IsPart vl lo → IsPart vu hi → r x lo hi H Q →
    ∃ T id, typeLookup (.type T) "__getitem__" = pure (some (.builtin id)) ∧ s.TypeIs v T ∧ wpAny (model X.prog X.w) X.A (getItem v (.ref sl)) (EP X pins σ Q) X.xe s
theorem SlR.or {r r' : V → Option Int → Option Int → Hp → VK → Prop} (h : SlR X r) (h' : SlR X r') : SlR X (fun x lo hi H Q => r x lo hi H Q ∨ r' x lo hi H Q) := by
  intro pins s σ H x v vl vu lo hi sl Q I rx hs pl pu q
  rcases q with q | q
  · exact h pins s σ H x v vl vu lo hi sl Q I rx hs pl pu q
  · exact h' pins s σ H x v vl vu lo hi sl Q I rx hs pl pu q
def cutV (xs : List V) (lo hi : Option Int) : List V := (xs.drop (HT.sIx xs.length 0 lo)).take (HT.sIx xs.length xs.length hi - HT.sIx xs.length 0 lo)
theorem cutV_length (xs : List V) (lo hi : Option Int) : (cutV xs lo hi).length ≤ xs.length := by
  unfold cutV
  rw [List.length_take, List.length_drop]
  omega
end
def ixN (n : Nat) (i : Int) : Option Nat := if 0 ≤ i then (if i < n then some i.toNat else none) else if -(n : Int) ≤ i then some (i + n).toNat else none
def atI {α : Type} (xs : List α) (i : Int) : Option α := (ixN xs.length i).bind fun j => xs[j]?
theorem ixN_seq {n : Nat} {i : Int} {j : Nat} (h : ixN n i = some j) : seqIndex? i n = some j ∧ j < n ∧ -(n : Int) ≤ i ∧ i < n := by
  unfold ixN at h
  by_cases h0 : 0 ≤ i
  · rw [if_pos h0] at h
    by_cases h1 : i < n
    · rw [if_pos h1] at h
      have e : i.toNat = j := Option.some.inj h
      exact ⟨by rw [seqIndex_of h0 h1, e], by omega, by omega, h1⟩
    · rw [if_neg h1] at h; cases h
  · rw [if_neg h0] at h
    by_cases h1 : -(n : Int) ≤ i
    · rw [if_pos h1] at h
      have e : (i + n).toNat = j := Option.some.inj h
      exact ⟨by rw [seqIndex_neg (by omega) h1, e], by omega, h1, by omega⟩
    · rw [if_neg h1] at h; cases h
theorem atI_get {α : Type} {xs : List α} {i : Int} {v : α} (h : atI xs i = some v) : ∃ j, seqIndex? i xs.length = some j ∧ xs[j]? = some v ∧ j < xs.length ∧ -(xs.length : Int) ≤ i ∧ i < xs.length := by
  unfold atI at h
  cases e : ixN xs.length i with
  | none => rw [e] at h; cases h
  | some j =>
    rw [e] at h
    obtain ⟨h1, h2, h3, h4⟩ := ixN_seq e
    exact ⟨j, h1, h, h2, h3, h4⟩
theorem atI_nat {α : Type} {xs : List α} {j : Nat} {v : α} (h : xs[j]? = some v) : atI xs (j : Int) = some v := by
  have hj : j < xs.length := (List.getElem?_eq_some_iff.mp h).1
  have e : ixN xs.length (j : Int) = some j := by
    unfold ixN
    rw [if_pos (by omega), if_pos (by omega)]; simp
  unfold atI; rw [e]; exact h
def PlainIx (b : Expr) : Prop := ∀ o i, subscripted b false o i = operate [o, i] (getItem o i)
def IxR (X : Cx) (r : R2) : Prop :=
  ∀ (value slice : Expr) (pins : List (Addr × Obj)) (s : Shared) (σ : St) (H : Hp) (x y : V) (v u : Value) (Q : VK), Inv X pins σ H s → RelV x v → RelV y u → r x y H Q →
    subscripted slice false v u = operate [v, u] (getItem v u) → wpAny (model X.prog X.w) X.A (subscriptTail value slice v u) (EP X pins σ Q) X.xe s
def MtR (X : Cx) (id : String) (r : V → List V → Hp → VK → Prop) : Prop :=
  ∀ (pins : List (Addr × Obj)) (s : Shared) (σ : St) (H : Hp) (x : V) (xs : List V) (v : Value) (us : List Value) (Q : VK), Inv X pins σ H s → RelV x v → Vals xs us → r x xs H Q →
    wpAny (model X.prog X.w) X.A (call (.builtin id) (v :: us)) (EP X pins σ Q) X.xe s
section
variable {X : Cx} {a b : Expr} {ta tb : TE} {pos : Pos}
theorem IxR.or {r r' : R2} (h : IxR X r) (h' : IxR X r') : IxR X (fun x y H Q => r x y H Q ∨ r' x y H Q) := by
  intro value slice pins s σ H x y v u Q I rx ry q hs
  rcases q with q | q
  · exact h value slice pins s σ H x y v u Q I rx ry q hs
  · exact h' value slice pins s σ H x y v u Q I rx ry q hs
theorem MtR.or {id : String} {r r' : V → List V → Hp → VK → Prop} (h : MtR X id r) (h' : MtR X id r') : MtR X id (fun x xs H Q => r x xs H Q ∨ r' x xs H Q) := by
  intro pins s σ H x xs v us Q I rx rs q
  rcases q with q | q
  · exact h pins s σ H x xs v us Q I rx rs q
  · exact h' pins s σ H x xs v us Q I rx rs q
def rIxL (K : PySem.W.Frag) : R2 := fun x y H Q => ∃ p xs i v, x = .ref p ∧ y = .int i ∧ SqL K H p xs ∧ atI xs i = some v ∧ Q v H
def rIxT (K : PySem.W.Frag) : R2 := fun x y H Q => ∃ p xs i v, x = .ref p ∧ y = .int i ∧ SqT K H p xs ∧ atI xs i = some v ∧ Q v H
def rIxS : R2 := fun x y H Q => ∃ z i c, x = .str z ∧ y = .int i ∧ z.length ≤ sizeLine ∧ atI z.cps.toList i = some c ∧ Q (.str ⟨#[c]⟩) H
theorem ix_list : IxR X (rIxL X.K) := by
  intro value slice pins s σ H x y v u Q I rx ry h hs
  obtain ⟨p, xs, i, z, rfl, rfl, hq, he, q⟩ := h
  cases rx
  obtain ⟨t, rfl⟩ := ry
  obtain ⟨its, r, pl, hz⟩ := I.list hq
  obtain ⟨j, h1, h2, h3, h4, h5⟩ := atI_get he
  obtain ⟨w, ew, rw'⟩ := r.get h2
  have hl := r.length
  have hn := line63
  have fin : EP X pins σ Q w s := ⟨z, H, I, rw', q⟩
  by_cases h0 : 0 ≤ i
  · have hj : i.toNat = j := by
      rw [seqIndex_of h0 h5] at h1
      exact Option.some.inj h1
    exact item_listR pl.isList h0 (by omega) (by rw [hj]; simpa using ew) fin hs
  · have hj : (i + (its.toArray.size : Int)).toNat = j := by
      rw [seqIndex_neg (by omega) h4] at h1
      rw [List.size_toArray, ← hl]
      exact Option.some.inj h1
    exact subscriptTail_builtinR (x := w) pl.isList.typeIs slot_list_getitem.lookup
      (wpAny_getItem_list_neg (Q := fun r s' => r = w ∧ EP X pins σ Q r s') pl.isList (by omega) (by rw [List.size_toArray] <;> omega) (by omega) (by rw [hj]; simpa using ew) ⟨rfl, fin⟩) hs
theorem ix_tup : IxR X (rIxT X.K) := by
  intro value slice pins s σ H x y v u Q I rx ry h hs
  obtain ⟨p, xs, i, z, rfl, rfl, hq, he, q⟩ := h
  cases rx
  obtain ⟨t, rfl⟩ := ry
  obtain ⟨its, r, pl, hz⟩ := I.tuple hq
  obtain ⟨j, h1, h2, h3, h4, h5⟩ := atI_get he
  obtain ⟨w, ew, rw'⟩ := r.get h2
  have hl := r.length
  have hn := line63
  have fin : EP X pins σ Q w s := ⟨z, H, I, rw', q⟩
  exact subscriptTail_builtinR (x := w) pl.typeIs slot_tuple_getitem.lookup
    (getItem_tuple (j := j) (Q := fun r s' => r = w ∧ EP X pins σ Q r s') pl (by omega) (by omega) (by rw [List.size_toArray, ← hl]; exact h1) (by simpa using ew) ⟨rfl, fin⟩) hs
theorem ix_str : IxR X rIxS := by
  intro value slice pins s σ H x y v u Q I rx ry h hs
  obtain ⟨z, i, c, rfl, rfl, hz, he, q⟩ := h
  obtain ⟨t, rfl⟩ := rx
  obtain ⟨t', rfl⟩ := ry
  obtain ⟨j, h1, h2, h3, h4, h5⟩ := atI_get he
  have hl : z.cps.toList.length = z.length := by simp [Str.length]
  rw [hl] at h1 h4 h5
  have hn := line63
  exact tail_any (typeIs_str s z t) slot_str_getitem.lookup (getItem_str (c := c) (by
    have e1 : decide (i < -(2 ^ 63 : Int)) = false := decide_eq_false (by omega)
    have e2 : decide (i ≥ 2 ^ 63) = false := decide_eq_false (by omega)
    rw [e1, e2, Bool.or_false]) (by rw [h1]; simpa using h2) ⟨.str ⟨#[c]⟩, H, I.tok _, ⟨_, rfl⟩, q⟩) hs
theorem mapSeq_set (its : List Value) (n j : Nat) (u : Value) : Obj.mapSeq (·.setIfInBounds j u) { cls := .type "list", data := .seq its.toArray n } = { cls := .type "list", data := .seq (its.set j u).toArray n } := by
  simp [Obj.mapSeq]
theorem Inv.lst {pins : List (Addr × Obj)} {σ : St} {H : Hp} {s : Shared} {p : Addr} {xs : List V} (I : Inv X pins σ H s) (h : H p = some (.lst xs)) :
    ∃ (its : List Value) (n : Nat), Vals xs its ∧ s.heap.get? p = some { cls := .type "list", data := .seq its.toArray n } ∧ xs.length ≤ sizeLine := by
  obtain ⟨z, its, n, r, e⟩ := I.hok p _ h
  exact ⟨its, n, r, e, z⟩
theorem Inv.lstUpd {pins : List (Addr × Obj)} {σ : St} {H : Hp} {s : Shared} {p : Addr} {xs ys : List V} {its its' : List Value} {n n' : Nat} {f : Obj → Obj} (I : Inv X pins σ H s) (h : H p = some (.lst xs))
    (ho : s.heap.get? p = some { cls := .type "list", data := .seq its.toArray n }) (hf : f { cls := .type "list", data := .seq its.toArray n } = { cls := .type "list", data := .seq its'.toArray n' }) (r : Vals ys its') (hz : ys.length ≤ sizeLine) (t : Nat) :
    Inv X pins σ (upd H p (.lst ys)) { s with heap := s.heap.update p f, toks := t } := by
  have e : (s.heap.update p f).get? p = some { cls := .type "list", data := .seq its'.toArray n' } := by
    rw [Heap.get?_update_self f ho (by rw [hf] <;> rfl), hf]
  refine I.write (x := p) (e := p) (by rw [h]; trivial) (.inl rfl) (fun b u hb q => (Heap.get?_update_other _ _ (Ne.symm hb)).trans q) ⟨_, e⟩ ?_
  exact ⟨hz, its', n', r, e⟩
def rSetL : V → V → V → Hp → (Hp → Prop) → Prop := fun o i v H Q => ∃ p xs k j, o = .ref p ∧ i = .int k ∧ H p = some (.lst xs) ∧ ixN xs.length k = some j ∧ Q (upd H p (.lst (xs.set j v)))
theorem set_list : PSet X rSetL := by
  intro pins s σ H o i v ov iv u Q I ro ri rv h
  obtain ⟨p, xs, k, j, rfl, rfl, hp, hj, q⟩ := h
  cases ro
  obtain ⟨t, rfl⟩ := ri
  obtain ⟨its, n, r, ho, hz⟩ := I.lst hp
  obtain ⟨h1, h2, h3, h4⟩ := ixN_seq hj
  have hl := r.length
  have hn := line63
  have I' : Inv X pins σ (upd H p (.lst (xs.set j v))) { s with heap := s.heap.update p (Obj.mapSeq (·.setIfInBounds j u)) } :=
    I.lstUpd hp ho (mapSeq_set its n j u) (r.set rv j) (by rw [List.length_set]; exact hz) s.toks
  by_cases h0 : 0 ≤ k
  · have hk : k.toNat = j := by
      rw [seqIndex_of h0 h4] at h1
      exact Option.some.inj h1
    exact PySem.W.ki_setAt ho h0 (by omega) (by rw [List.size_toArray, ← hl]; exact h4) (by rw [hk]; exact ⟨_, I', q⟩)
  · have hk : (k + (its.toArray.size : Int)).toNat = j := by
      rw [seqIndex_neg (by omega) h3] at h1
      rw [List.size_toArray, ← hl]
      exact Option.some.inj h1
    exact PySem.W.ki_setBack ho (by omega) (by rw [List.size_toArray, ← hl]; exact h3) (by omega) (by rw [hk]; exact ⟨_, I', q⟩)
theorem slice_bounds (lo hi : Option Int) (n : Nat) : (sliceBounds lo hi none n).1 = ((HT.sIx n 0 lo : Nat) : Int) ∧ (sliceBounds lo hi none n).2.1 = ((HT.sIx n n hi : Nat) : Int) ∧ (sliceBounds lo hi none n).2.2 = 1 := by
  refine ⟨?_, ?_, rfl⟩
  · cases lo with
    | none => simp [sliceBounds, HT.sIx]
    | some i =>
      simp only [sliceBounds, HT.sIx, Option.getD_none, show (1 : Int) > 0 by decide, if_true]
      by_cases h : i < 0
      · simp only [h, if_true] <;> omega
      · simp only [h, if_false] <;> omega
  · cases hi with
    | none => simp [sliceBounds, HT.sIx]
    | some i =>
      simp only [sliceBounds, HT.sIx, Option.getD_none, show (1 : Int) > 0 by decide, if_true]
      by_cases h : i < 0
      · simp only [h, if_true] <;> omega
      · simp only [h, if_false] <;> omega
theorem slicePick_cut (its : List Value) (lo hi : Option Int) : slicePick its.toArray lo hi none = ((its.drop (HT.sIx its.length 0 lo)).take (HT.sIx its.length its.length hi - HT.sIx its.length 0 lo)).toArray := by
  obtain ⟨h1, h2, h3⟩ := slice_bounds lo hi its.toArray.size
  unfold slicePick
  rw [h1, h2, h3]
  simp only [sliceRange_one, pick_run, List.size_toArray] <;> rfl
theorem call_len_seq : CallR X (.builtin "len") (fun xs H Q => ∃ p ys, xs = [.ref p] ∧ (SqL X.K H p ys ∨ SqT X.K H p ys) ∧ Q (.int ys.length) H) := by
  intro pins s σ H xs us Q I r h
  obtain ⟨p, ys, rfl, hq, q⟩ := h
  obtain ⟨u, rfl, rx⟩ := vals1 r
  cases rx
  have hn := line63
  rcases hq with hq | hq
  · obtain ⟨its, r', pl, hz⟩ := I.list hq
    have hlen := r'.length
    exact Calls.call_len_list pl.isList (by simp only [List.size_toArray] <;> omega) ⟨.int ys.length, H, I.tok _, ⟨s.toks + 1, by rw [List.size_toArray, hlen]⟩, q⟩
  · obtain ⟨its, r', pl, hz⟩ := I.tuple hq
    have hlen := r'.length
    exact len_tuple pl (by simp only [List.size_toArray] <;> omega) ⟨.int ys.length, H, I.tok _, ⟨s.toks + 1, by rw [List.size_toArray, hlen]⟩, q⟩
theorem CallR.or {f : Value} {r r' : List V → Hp → VK → Prop} (h : CallR X f r) (h' : CallR X f r') : CallR X f (fun xs H Q => r xs H Q ∨ r' xs H Q) := by
  intro pins s σ H xs us Q I rs q
  rcases q with q | q
  · exact h pins s σ H xs us Q I rs q
  · exact h' pins s σ H xs us Q I rs q
theorem call_list_of : CallR X (.type "list") (fun xs H Q => ∃ p ys, xs = [.ref p] ∧ (SqL X.K H p ys ∨ SqT X.K H p ys) ∧ ∀ l, H l = none → Q (.ref l) (upd H l (.lst ys))) := by
  intro pins s σ H xs us Q I r h
  obtain ⟨p, ys, rfl, hq, q⟩ := h
  obtain ⟨u, rfl, rx⟩ := vals1 r
  cases rx
  have fin : ∀ (its : List Value), Vals ys its → ys.length ≤ sizeLine → ∀ (h' : Heap) (c' : Nat), (∀ b o', s.heap.get? b = some o' → h'.get? b = some o') →
      h'.get? s.heap.objs.size = some { cls := .type "list", dict := none, data := .seq its.toArray c', slots := #[] } → EP X pins σ Q (.ref s.heap.objs.size) { s with heap := h' } := fun its r' hz h' c' kp e =>
    ⟨.ref s.heap.objs.size, _, I.laid (t' := s.toks) kp (Nat.le_refl _) (show ObjOk X.prog X.w _ h' _ (.lst ys) from ⟨hz, its, c', r', e⟩), rfl, q _ (I.hok.fresh (Nat.le_refl _))⟩
  rcases hq with hq | hq
  · obtain ⟨its, r', pl, hz⟩ := I.list hq
    have hlen := r'.length
    obtain ⟨o, ho, hc, n, hd⟩ := pl.isList
    exact call_list_seq p (.inl rfl) ho hc hd (fun h' c' kp e => fin its r' hz h' c' kp e) (by simp only [List.size_toArray] <;> omega)
  · obtain ⟨its, r', pl, hz⟩ := I.tuple hq
    have hlen := r'.length
    obtain ⟨o, ho, hc, n, hd⟩ := pl
    exact call_list_seq p (.inr rfl) ho hc hd (fun h' c' kp e => fin its r' hz h' c' kp e) (by simp only [List.size_toArray] <;> omega)
def tyV (K : PySem.W.Frag) (T : String) (x : V) (H : Hp) : Prop := match x with
  | .str _ => T = "str"
  | .int _ => T = "int"
  | .ref p => (T = "list" ∧ ∃ xs, SqL K H p xs) ∨ (T = "tuple" ∧ ∃ o, K.lookup p = some o ∧ o.cls = .type "tuple" ∧ o.dict = none) ∨
      (T = "dict" ∧ ((∃ kvs, H p = some (.dK kvs)) ∨ ∃ kvs, H p = some (.dT kvs))) ∨ (T = "set" ∧ ∃ S n, H p = some (.set S n))
  | _ => False
theorem tyV_is {pins : List (Addr × Obj)} {σ : St} {H : Hp} {s : Shared} {T : String} {x : V} {v : Value} (I : Inv X pins σ H s) (r : RelV x v) (ty : tyV X.K T x H) :
    s.TypeIs v T ∧ ∀ a, v = .ref a → ∃ ob, s.heap.get? a = some ob ∧ ob.dict = none := by
  cases x with
  | str z =>
    obtain ⟨t, rfl⟩ := r
    cases (show T = "str" from ty)
    exact ⟨typeIs_str s z t, fun _ e => nomatch e⟩
  | int i =>
    obtain ⟨t, rfl⟩ := r
    cases (show T = "int" from ty)
    exact ⟨typeIs_int s i t, fun _ e => nomatch e⟩
  | ref p =>
    cases r
    rcases ty with ⟨rfl, xs, hq⟩ | ⟨rfl, o, hk, hc, hd⟩ | ⟨rfl, hk⟩ | ⟨rfl, S, n, hk⟩
    · obtain ⟨its, _, pl, _⟩ := I.list hq
      refine ⟨pl.isList.typeIs, fun a e => ?_⟩
      cases e
      obtain ⟨o, n, e, c, hd, _⟩ := pl
      exact ⟨o, e, hd⟩
    · refine ⟨⟨o, I.kIn p o hk, hc⟩, fun a e => ?_⟩
      cases e
      exact ⟨o, I.kIn _ o hk, hd⟩
    · have z : ∃ o, s.heap.get? p = some o ∧ o.ExactDict := by
        rcases hk with ⟨kvs, hk⟩ | ⟨kvs, hk⟩
        · obtain ⟨_, _, _, _, o, _, _, e, ex, _⟩ := I.hok p _ hk
          exact ⟨o, e, ex⟩
        · obtain ⟨_, _, _, _, o, _, _, e, ex, _⟩ := I.hok p _ hk
          exact ⟨o, e, ex⟩
      obtain ⟨o, e, ex⟩ := z
      refine ⟨⟨o, e, ex.1⟩, fun a e2 => ?_⟩
      cases e2
      exact ⟨o, e, ex.2.1⟩
    · obtain ⟨o, _, _, _, e, ex, _⟩ := I.hok p _ hk
      refine ⟨⟨o, e, ex.1⟩, fun a e2 => ?_⟩
      cases e2
      exact ⟨o, e, ex.2.1⟩
  | _ => exact False.elim ty
def tBM (K : PySem.W.Frag) (T : String) (r : V → List V → Hp → VK → Prop) (to : TE) (t : TA) : TE := fun σ H Q => to σ H fun x H1 => tyV K T x H1 ∧ t σ H1 fun xs H2 => r x xs H2 Q
variable {o e : Expr} {es : List Expr} {to : TE} {t : TA} {name : Str} {apos cpos : Pos} {T id : String} {r : V → List V → Hp → VK → Prop}
theorem pe_bm (pa : PlainAttrs T) (slot : Slot T name id) (hty : typeOf (.builtin id) = pure (.type "method_descriptor")) (hm : MtR X id r) (ho : PE X o to) (ha : PA X (e :: es) t)
    (hbase : attributeBase o name X.env (eval o X.env) = eval o X.env := by rfl)
    (hfew : ((backTo cpos (starEach (e :: es) X.env)).all (fun x => !x.1) && (backToKw cpos (keywordEach [] X.env)).all (fun x => x.1.isSome)
      && decide ((e :: es).length + ([] : List Keyword).length + (if ([] : List Keyword).isEmpty then 0 else 1) < 30)) = true := by rfl)
    (hline : (apos.endLine == cpos.line) = true := by rfl) (hs : starEach (e :: es) X.env = (false, eval e X.env) :: starEach es X.env := by rfl) (hplain : (backTo cpos (starEach es X.env)).any (·.1) = false := by rfl) :
    PE X (.Call (.Attribute o name apos) (e :: es) [] cpos) (tBM X.K T r to t) := by
  intro pins s σ H Q I h
  refine wpAny_Call_method_late hbase hfew hline rfl (thn (ho pins s σ H _ I h) fun v s1 ⟨x, H1, I1, r1, ty, q1⟩ => ?_)
  obtain ⟨h1, h2⟩ := tyV_is I1 r1 ty
  refine ⟨T, id, pa, slot, hty, h1, h2, ?_⟩
  have hA := ha cpos pins s1 σ H1 _ I1 q1
  rw [hs] at hA ⊢
  refine Calls.callWith_builtin (by show (false || (backTo cpos (starEach es X.env)).any (·.1)) = false; rw [hplain] <;> rfl) (Calls.evalArgs_plain ?_)
  exact thn hA fun us s2 ⟨vs, H2, I2, r2, q2⟩ => hm pins s2 σ H2 x vs v us Q I2 r1 r2 q2
end
def MtM (X : Cx) (id : String) (r : V → List V → Hp → VK → Prop) : Prop :=
  ∀ (pins : List (Addr × Obj)) (s : Shared) (σ : St) (H : Hp) (x : V) (xs : List V) (v : Value) (us : List Value) (Q : VK), Inv X pins σ H s → RelV x v → Vals xs us → r x xs H Q →
    wpAny (model X.prog X.w) X.A (call (.builtin id) (v :: us)) (EP X pins σ Q) X.xe s
theorem Vals.one : ∀ {x : V} {us : List Value}, Vals [x] us → ∃ u, us = [u] ∧ RelV x u
  | _, _, .cons r .nil => ⟨_, rfl, r⟩
theorem Vals.two : ∀ {x y : V} {us : List Value}, Vals [x, y] us → ∃ u v, us = [u, v] ∧ RelV x u ∧ RelV y v
  | _, _, _, .cons r (.cons q .nil) => ⟨_, _, rfl, r, q⟩
theorem Vals.zero : ∀ {us : List Value}, Vals [] us → us = []
  | _, .nil => rfl
theorem Vals.reverse {xs : List V} {us : List Value} (h : Vals xs us) : Vals xs.reverse us.reverse := by
  induction h with
  | nil => exact .nil
  | cons r t ih => rw [List.reverse_cons, List.reverse_cons]; exact Vals.append ih (.cons r .nil)
section
variable {X : Cx} {pins : List (Addr × Obj)} {σ : St} {H : Hp} {s : Shared} {l b : Addr} {xs ys zs : List V}
theorem Inv.lset {its its' : List Value} {n : Nat} {f : Array Value → Array Value} {t' : Nat} (I : Inv X pins σ H s) (hH : H l = some (.lst xs))
    (e : s.heap.get? l = some { cls := .type "list", data := .seq its.toArray n }) (hf : f its.toArray = its'.toArray) (hv : Vals ys its') (hz : ys.length ≤ sizeLine) :
    Inv X pins σ (upd H l (.lst ys)) { s with heap := s.heap.update l (Obj.mapSeq f), toks := t' } := by
  have q := PySem.IsL.update e f
  rw [hf] at q
  refine I.write (x := l) (e := l) (by rw [hH]; exact trivial) (.inl rfl) (fun b' u hb hu => (Heap.get?_update_other s.heap (Obj.mapSeq f) (Ne.symm hb)).trans hu) ⟨_, q⟩ ?_
  exact ⟨hz, its', _, hv, q⟩
theorem Inv.fresh (I : Inv X pins σ H s) : H s.heap.objs.size = none := I.hok.fresh (Nat.le_refl _)
theorem Inv.lstM (I : Inv X pins σ H s) (hH : H l = some (.lst xs)) : xs.length ≤ sizeLine ∧ ∃ (its : List Value) (n : Nat), Vals xs its ∧ xs.length = its.length ∧ s.heap.get? l = some { cls := .type "list", data := .seq its.toArray n } := by
  obtain ⟨z, its, n, r, e⟩ := I.hok l _ hH
  exact ⟨z, its, n, r, r.length, e⟩
end
section
variable {X : Cx}
def rAppend : V → List V → Hp → VK → Prop := fun x vs H Q => ∃ l xs y, x = .ref l ∧ vs = [y] ∧ H l = some (.lst xs) ∧ xs.length < sizeLine ∧ Q .non (upd H l (.lst (xs ++ [y])))
theorem mt_append : MtM X "list.append" rAppend := by
  intro pins s σ H x vs v us Q I rx rv h
  obtain ⟨l, xs, y, rfl, rfl, hH, hz, q⟩ := h
  cases rx
  obtain ⟨u, rfl, ru⟩ := rv.one
  obtain ⟨z, its, n, r, hl, e⟩ := I.lstM hH
  refine call_meets F.slot_list_append ⟨_, e, rfl⟩ F.entry_list_append (F.args_list_append_2 _ _) (PySem.list_append l its.toArray n u (by rw [List.size_toArray]; omega)) ⟨e, ?_⟩
  refine ⟨.non, _, I.lset (its' := its ++ [u]) hH e (by simp) (r.append (.cons ru .nil)) ?_, rfl, q⟩
  rw [List.length_append, List.length_singleton]
  omega
end
section
variable {prog : Program} {w : World} {A : Around} {E : Value → Shared → Prop} {s : Shared}
set_option maxRecDepth 100000 in
end
end L2
namespace Att
open PySem PySem.W PySem.Calls PyProof.Rows
theorem ints_of_wellAll {P : Params} {h : Heap} : ∀ (ns : List Int) (vs : List Value), WellAll P h vs (ns.map WData.int) → IntsAre vs ns := by
  intro ns
  induction ns with
  | nil =>
    intro vs w
    rw [List.map_nil] at w
    cases w
    exact .nil
  | cons n ns ih =>
    intro vs w
    rw [List.map_cons] at w
    cases w with
    | cons a b =>
      cases a
      exact .cons _ _ (ih _ b)
theorem script_of {l : OpenLaw} {n : Nat} (hn : l.most = some n) {P : Params} {h : Heap} {args : List WData} {vals : List Value}
    (hpre : l.row.toRowW.claim.pre args = true) (hwl : WellAll P h vals args) :
    ∃ a vs ns, vals = [Value.ref a] ∧ args = [WData.list (ns.map WData.int)] ∧ h.get? a = some { cls := .type "list", data := .seq vs.toArray } ∧ IntsAre vs ns ∧ ns.length ≤ n := by
  have hsh : WShape.hasAll [] args [.list .int] = true := (pre_splitW hpre).1
  have hc : l.pre.holds [] { args := args } = true := (pre_splitW hpre).2
  obtain ⟨d, r, rfl, h1, h2⟩ := hasAllW_cons hsh
  obtain rfl := hasAllW_nil h2
  obtain ⟨xs, rfl, h3⟩ := hasW_list h1
  obtain ⟨ns, rfl⟩ := items_int h3
  have hlen : ns.length ≤ n := by
    unfold OpenLaw.pre at hc
    have h4 : (WTm.not (.lt (.lit (.int (n : Int))) (.len (.arg 0)))).holds [] { args := [.list (ns.map .int)] } = true := by
      have h4 := (holds_andW hc).1
      rw [hn] at h4
      exact h4
    have h5 := condW_of h4 (w_not (w_lt w_lit (w_len_list (w_arg rfl))))
    rw [List.length_map] at h5
    refine Nat.le_of_not_lt fun q => ?_
    have q' : (n : Int) < ((ns.length : Nat) : Int) := by omega
    first
      | (rw [decide_eq_true q'] at h5; exact absurd h5 (by decide))
      | (simp at h5; omega)
  cases hwl with
  | cons w1 w2 =>
    cases w2
    cases w1 with
    | list ho hall => exact ⟨_, _, ns, rfl, rfl, ho, ints_of_wellAll ns _ hall, hlen⟩
theorem post_true (l : OpenLaw) (args : List WData) : l.row.toRowW.claim.post args (.bool true) args = true :=
  postW_of (r := l.row.toRowW) (X := (true == true))
    (show WShape.has [] (.bool true) .bool = true by first | rfl | decide | simp [WShape.has, WShape.arms, WShape.armsAll])
    (show (WTm.eq .res (.lit (.bool true))).value [] { args := args, res := some (.bool true), after := args } = some (.bool (true == true)) from w_eq_bool (w_res rfl) w_lit) rfl
section
variable {prog : Program} {w : World} {A : Around} {E : Value → Shared → Prop} {s : Shared} {K : Frag}
def ledger (h : Heap) (L d : Addr) : List (Addr × Obj) := (List.range h.objs.size).filterMap fun a => if a = L ∨ a = d then none else (h.get? a).map fun o => (a, o)
end
end Att
namespace L2
open PySem PySem.Spec PyProof.Rows
theorem vals_ints : ∀ {vs : List Value} {ns : List Int}, IntsAre vs ns → Vals (ns.map V.int) vs
  | _, _, .nil => .nil
  | _, _, .cons n t h => .cons ⟨t, rfl⟩ (vals_ints h)
def Only (H : Hp) : Prop := ∀ b, H b = none ∨ ∃ o xs, H b = some (.frz o (.lst xs))
def defArgs (s : Stmt) : Arguments := match s with
  | .FunctionDef _ a _ _ _ _ _ _ _ _ => a
  | _ => { posonlyargs := [], args := [], vararg := none, kwonlyargs := [], kw_defaults := [], kwarg := none, defaults := [] }
def defBody (s : Stmt) : List Stmt := match s with
  | .FunctionDef _ _ b _ _ _ _ _ _ _ => b
  | _ => []
def defScope (s : Stmt) : Scope := match s with
  | .FunctionDef _ _ _ _ _ _ sc _ _ _ => sc
  | _ => { kind := .function, names := [], isGenerator := false, isCoroutine := false }
abbrev CX0 : CXT := fun _ _ _ _ _ _ => False
abbrev E0 : XK := fun _ _ _ => False
structure Fun (K : PySem.W.Frag) (x qual : Str) (st : Stmt) (f : Addr) (fd : FuncData) : Prop where
  ex : ∃ (oc : Value) (od : Option Addr) (kV doc pm : Value) (an : Option Addr) (cdv ct : Value) (osl : Array (Option Value)),
    fd = PySem.W.fnOf x qual (defArgs st) (defBody st) (defScope st) .none kV doc pm an cdv ct ∧ K.lookup f = some ⟨oc, od, .func fd, osl⟩ ∧ PySem.W.codeIn K cdv qual = true
  kp : PySem.W.keepIn K (.ref f) = true
section
variable {P : Program} {w : World} {K : PySem.W.Frag} {mg : Str → Option Value} {base : Heap}
theorem Fun.ok {x qual : Str} {st : Stmt} {f : Addr} {fd : FuncData} {N ps : List Str} {k : Nat} {sp : Sp} (F : Fun K x qual st f fd) (S : FnScope N ps (defScope st)) (len : ∀ vs H Q E, sp vs H Q E → vs.length = ps.length)
    (hbody : ∀ (cdv : Value) (A : Around) (outer : List Env) (s : Shared) (H : Hp) (vs : List V) (Q : VK) (E : XK), Room k (A.deeper (envOfC qual (defScope st) s.heap.objs.size f cdv)) → sp vs H Q E →
      ∃ t, PSs (cxOf CX0 P w K mg base N qual (defScope st) f cdv A outer s H E).nox (defBody st) t ∧ t { nx := fun _ H' => Q .non H', rt := Q } (start N vs) H) : FnOk P w K mg base CX0 (k + 1) f fd ps sp := by
  obtain ⟨oc, od, kV, doc, pm, an, cdv, ct, osl, rfl, lk, hcd⟩ := F.ex
  refine fn_of lk hcd S len fun A outer s H vs Q E hr hsp => ?_
  obtain ⟨t, h, q⟩ := hbody cdv A outer s H vs Q E hr hsp
  exact ⟨t, h.nox, q⟩
theorem Fun.binds {x qual : Str} {st : Stmt} {f : Addr} {fd : FuncData} {ps : List Str} (F : Fun K x qual st f fd)
    (h : ∀ (kV doc pm : Value) (an : Option Addr) (cdv ct : Value) (us : List Value), us.length = ps.length → bindArgs (PySem.W.fnOf x qual (defArgs st) (defBody st) (defScope st) .none kV doc pm an cdv ct) ⟨us, []⟩ = pure (ps.zip us)) : Binds K fd ps [] := by
  obtain ⟨oc, od, kV, doc, pm, an, cdv, ct, osl, rfl, lk, hcd⟩ := F.ex
  exact .all (h kV doc pm an cdv ct)
end
section
variable {X : Cx}
theorem pv (i : Nat) {x : Str} {pos : Pos} (hN : X.N[i]? = some x := by rfl) (hv : Vis X.env.scope x := by first | exact Or.inl rfl | exact Or.inr (Or.inl rfl) | exact Or.inr (Or.inr rfl)) (hd : (x == ("__debug__" : Str)) = false := by decide)
    (hcd : (x == ("__classdict__" : Str)) = false := by decide) : PE X (.Name x pos) (tVar i) := pe_var hN hv hd hcd
end
def Same (H H' : Hp) : Prop := ∀ b o, H b = some o → H' b = some o
theorem Same.refl (H : Hp) : Same H H := fun _ _ h => h
theorem Same.trans {H H1 H2 : Hp} (a : Same H H1) (b : Same H1 H2) : Same H H2 := fun c o h => b c o (a c o h)
theorem Same.free {H H' : Hp} (e : Same H H') {l : Addr} (h : H' l = Option.none) : H l = Option.none := by
  cases q : H l with
  | none => rfl
  | some o =>
    rw [e l o q] at h
    cases h
theorem Same.seq {K : PySem.W.Frag} {H H' : Hp} {a : Addr} {xs : List V} (e : Same H H') (h : SqL K H a xs) : SqL K H' a xs := by
  rcases h with (h | ⟨o, h⟩) | h
  · exact .inl (.inl (e _ _ h))
  · exact .inl (.inr ⟨o, e _ _ h⟩)
  · exact .inr h
end L2
set_option maxHeartbeats 4000000
namespace L2
open PySem PySem.Spec PyProof.Rows
section
variable {κ : Type} [DecidableEq κ]
def valV (kvs : List (κ × V)) (k : κ) : Option V := (kvs.find? fun kv => decide (kv.1 = k)).map (·.2)
def putK (kvs : List (κ × V)) (k : κ) (v : V) : List (κ × V) :=
  if (kvs.any fun kv => decide (kv.1 = k)) = true then kvs.map (fun kv => if kv.1 = k then (kv.1, v) else kv) else kvs ++ [(k, v)]
def dropK (kvs : List (κ × V)) (k : κ) : List (κ × V) := kvs.filter fun kv => decide (kv.1 ≠ k)
theorem valV_pos {p : κ × V} {r : List (κ × V)} {k : κ} (e : p.1 = k) : valV (p :: r) k = some p.2 := by simp [valV, List.find?_cons, e]
theorem valV_neg {p : κ × V} {r : List (κ × V)} {k : κ} (e : ¬ p.1 = k) : valV (p :: r) k = valV r k := by simp [valV, List.find?_cons, e]
theorem valV_any (k : κ) : ∀ kvs : List (κ × V), (kvs.any fun kv => decide (kv.1 = k)) = (valV kvs k).isSome
  | [] => rfl
  | p :: r => by
    rw [List.any_cons]
    by_cases e : p.1 = k
    · simp only [valV_pos e, decide_eq_true e, Bool.true_or, Option.isSome_some]
    · rw [valV_neg e, decide_eq_false e, Bool.false_or]; exact valV_any k r
theorem RelO.isSome_eq {o : Option V} {u : Option Value} (r : RelO o u) : o.isSome = u.isSome := by
  cases o with
  | none => cases u with
    | none => rfl
    | some _ => exact (show False from r).elim
  | some _ => cases u with
    | none => exact (show False from r).elim
    | some _ => rfl
theorem RelO.getD {o : Option V} {u : Option Value} {d : V} {d' : Value} (r : RelO o u) (rd : RelV d d') : RelV (o.getD d) (u.getD d') := by
  cases o with
  | none => cases u with
    | none => exact rd
    | some _ => exact (show False from r).elim
  | some _ => cases u with
    | none => exact (show False from r).elim
    | some _ => exact r
theorem KV.val {kvs : List (κ × V)} {vs : List (κ × Value)} (r : KV kvs vs) (k : κ) : RelO (valV kvs k) (valueAt vs k) := by
  unfold KV at r
  induction r with
  | nil => exact True.intro
  | @cons p q ps qs h t ih =>
    obtain ⟨h1, h2⟩ := h
    by_cases e : p.1 = k
    · have e' : q.1 = k := h1.symm.trans e
      have b : valueAt (q :: qs) k = some q.2 := by simp [valueAt, List.find?_cons, e']
      rw [valV_pos e, b]; exact h2
    · have e' : ¬ q.1 = k := fun z => e (h1.trans z)
      have b : valueAt (q :: qs) k = valueAt qs k := by simp [valueAt, List.find?_cons, e']
      rw [valV_neg e, b]; exact ih
theorem KV.any {kvs : List (κ × V)} {vs : List (κ × Value)} (r : KV kvs vs) (k : κ) : (kvs.any fun kv => decide (kv.1 = k)) = vs.any fun kv => decide (kv.1 = k) := by
  unfold KV at r
  induction r with
  | nil => rfl
  | cons h t ih => rw [List.any_cons, List.any_cons, ih, h.1]
theorem KV.repl {kvs : List (κ × V)} {vs : List (κ × Value)} (r : KV kvs vs) (k : κ) {y : V} {u : Value} (ry : RelV y u) :
    KV (kvs.map fun kv => if kv.1 = k then (kv.1, y) else kv) (vs.map fun kv => if kv.1 = k then (kv.1, u) else kv) := by
  unfold KV at r ⊢
  induction r with
  | nil => exact .nil
  | @cons p q ps qs h t ih =>
    rw [List.map_cons, List.map_cons]
    refine .cons ?_ ih
    obtain ⟨h1, h2⟩ := h
    by_cases e : p.1 = k
    · rw [if_pos e, if_pos (h1.symm.trans e)]; exact ⟨h1, ry⟩
    · rw [if_neg e, if_neg (fun z => e (h1.trans z))]; exact ⟨h1, h2⟩
theorem KV.put {kvs : List (κ × V)} {vs : List (κ × Value)} (r : KV kvs vs) (k : κ) {y : V} {u : Value} (ry : RelV y u) : KV (putK kvs k y) (stored vs k u) := by
  unfold putK stored
  rw [r.any k]
  by_cases e : (vs.any fun kv => decide (kv.1 = k)) = true
  · rw [if_pos e, if_pos e]; exact r.repl k ry
  · rw [if_neg e, if_neg e]; exact Paired.snoc r ⟨rfl, ry⟩
theorem KV.drop {kvs : List (κ × V)} {vs : List (κ × Value)} (r : KV kvs vs) (k : κ) : KV (dropK kvs k) (without vs k) := by
  unfold KV at r ⊢
  unfold dropK without
  induction r with
  | nil => exact .nil
  | @cons p q ps qs h t ih =>
    obtain ⟨h1, h2⟩ := h
    rw [List.filter_cons, List.filter_cons]
    by_cases e : p.1 = k
    · have a : ¬ decide (p.1 ≠ k) = true := by simp [e]
      have b : ¬ decide (q.1 ≠ k) = true := by simp [h1.symm.trans e]
      rw [if_neg a, if_neg b]; exact ih
    · have e' : ¬ q.1 = k := fun z => e (h1.trans z)
      have a : decide (p.1 ≠ k) = true := by simp [e]
      have b : decide (q.1 ≠ k) = true := by simp [e']
      rw [if_pos a, if_pos b]; exact .cons ⟨h1, h2⟩ ih
theorem KV.keys {kvs : List (κ × V)} {vs : List (κ × Value)} (r : KV kvs vs) : kvs.map (·.1) = vs.map (·.1) := by
  unfold KV at r
  induction r with
  | nil => rfl
  | cons h t ih => rw [List.map_cons, List.map_cons, ih, h.1]
theorem KV.length {kvs : List (κ × V)} {vs : List (κ × Value)} (r : KV kvs vs) : kvs.length = vs.length := Paired.length r
end
abbrev KT (H : Hp) : List (List Key × V) → List (List Key × Addr × Value) → Prop := Paired fun p q => p.1 = q.1 ∧ H q.2.1 = some (.tup (p.1.map kV)) ∧ RelV p.2 q.2.2
theorem KT.val {H : Hp} {kvs : List (List Key × V)} {xs : List (List Key × Addr × Value)} (r : KT H kvs xs) (k : List Key) : RelO (valV kvs k) ((atKey xs k).map (·.2)) := by
  induction r with
  | nil => exact True.intro
  | @cons p q ps qs h t ih =>
    obtain ⟨h1, _, h2⟩ := h
    by_cases e : p.1 = k
    · have e' : q.1 = k := h1.symm.trans e
      have b : atKey (q :: qs) k = some q.2 := by simp [atKey, List.find?_cons, e']
      rw [valV_pos e, b]; exact h2
    · have e' : ¬ q.1 = k := fun z => e (h1.trans z)
      have b : atKey (q :: qs) k = atKey qs k := by simp [atKey, List.find?_cons, e']
      rw [valV_neg e, b]; exact ih
theorem KT.repl {H : Hp} {kvs : List (List Key × V)} {xs : List (List Key × Addr × Value)} (r : KT H kvs xs) (k : List Key) {y : V} {u : Value} (ry : RelV y u) :
    KT H (kvs.map fun kv => if kv.1 = k then (kv.1, y) else kv) (xs.map (putAt k u)) := by
  induction r with
  | nil => exact .nil
  | @cons p q ps qs h t ih =>
    rw [List.map_cons, List.map_cons]
    refine .cons ?_ ih
    obtain ⟨h1, h2, h3⟩ := h
    unfold putAt
    by_cases e : p.1 = k
    · rw [if_pos e, if_pos (h1.symm.trans e)]; exact ⟨h1, h2, ry⟩
    · rw [if_neg e, if_neg (fun z => e (h1.trans z))]; exact ⟨h1, h2, h3⟩
theorem KT.put {H : Hp} {kvs : List (List Key × V)} {xs : List (List Key × Addr × Value)} (r : KT H kvs xs) (k : List Key) {b : Addr} {y : V} {u : Value} (hb : H b = some (.tup (k.map kV))) (ry : RelV y u) :
    KT H (putK kvs k y) (storedH xs k b u) := by
  have e : (kvs.any fun kv => decide (kv.1 = k)) = (atKey xs k).isSome := by
    rw [valV_any, (r.val k).isSome_eq, Option.isSome_map]
  unfold putK storedH
  rw [e]
  by_cases q : (atKey xs k).isSome = true
  · rw [if_pos q, if_pos q]; exact r.repl k ry
  · rw [if_neg q, if_neg q]; exact Paired.snoc r ⟨rfl, hb, ry⟩
theorem KT.keeps {H H' : Hp} {kvs : List (List Key × V)} {xs : List (List Key × Addr × Value)} (r : KT H kvs xs) (ht : ∀ b ys, H b = some (.tup ys) → H' b = some (.tup ys)) : KT H' kvs xs :=
  Paired.mapP r fun _ _ z => ⟨z.1, ht _ _ z.2.1, z.2.2⟩
def DGet (H : Hp) (a : Addr) (y : V) (r : Option V) : Prop :=
  (∃ kvs k, Rd H a (.dK kvs) ∧ y = kV k ∧ r = valV kvs k) ∨ ∃ kvs k b, Rd H a (.dT kvs) ∧ y = .ref b ∧ H b = some (.tup (k.map kV)) ∧ r = valV kvs k
def DPut (H : Hp) (a : Addr) (y v : V) (H' : Hp) : Prop :=
  (∃ kvs k, H a = some (.dK kvs) ∧ y = kV k ∧ kvs.length < sizeLine ∧ H' = upd H a (.dK (putK kvs k v))) ∨
  ∃ kvs k b, H a = some (.dT kvs) ∧ y = .ref b ∧ H b = some (.tup (k.map kV)) ∧ kvs.length < sizeLine ∧ H' = upd H a (.dT (putK kvs k v))
theorem DGet.k {H : Hp} {a : Addr} {kvs : List (Key × V)} {k : Key} (e : H a = some (.dK kvs)) : DGet H a (kV k) (valV kvs k) := .inl ⟨kvs, k, .inl e, rfl, rfl⟩
theorem DGet.t {H : Hp} {a b : Addr} {kvs : List (List Key × V)} {k : List Key} (e : H a = some (.dT kvs)) (eb : H b = some (.tup (k.map kV))) : DGet H a (.ref b) (valV kvs k) := .inr ⟨kvs, k, b, .inl e, rfl, eb, rfl⟩
theorem DPut.k {H : Hp} {a : Addr} {kvs : List (Key × V)} {k : Key} {v : V} (e : H a = some (.dK kvs)) (hl : kvs.length < sizeLine) : DPut H a (kV k) v (upd H a (.dK (putK kvs k v))) := .inl ⟨kvs, k, e, rfl, hl, rfl⟩
theorem DPut.t {H : Hp} {a b : Addr} {kvs : List (List Key × V)} {k : List Key} {v : V} (e : H a = some (.dT kvs)) (eb : H b = some (.tup (k.map kV))) (hl : kvs.length < sizeLine) :
    DPut H a (.ref b) v (upd H a (.dT (putK kvs k v))) := .inr ⟨kvs, k, b, e, rfl, eb, hl, rfl⟩
abbrev VV : List (V × V) → List (Value × Value) → Prop := Paired fun p q => RelV p.1 q.1 ∧ RelV p.2 q.2
def mergeK (kvs more : List (Key × V)) : List (Key × V) := more.foldl (fun acc kv => putK acc kv.1 kv.2) kvs
theorem KV.merge : ∀ {more : List (Key × V)} {rs : List (Key × Value)} {kvs : List (Key × V)} {vs : List (Key × Value)}, KV more rs → KV kvs vs → KV (mergeK kvs more) (merged vs rs) := by
  intro more rs kvs vs r
  unfold KV at r
  induction r generalizing kvs vs with
  | nil => intro q; exact q
  | @cons p q ps qs h t ih =>
    intro r0
    have e : KV (putK kvs p.1 p.2) (stored vs q.1 q.2) := by
      have := r0.put p.1 h.2
      rw [← h.1]; exact this
    exact ih e
structure M1 (X : Cx) (o : Expr) (m : Str) (apos : Pos) (e : Expr) (cpos : Pos) : Prop where
  base : attributeBase o m X.env (eval o X.env) = eval o X.env
  few : ((backTo cpos (starEach [e] X.env)).all (fun x => !x.1) && (backToKw cpos (keywordEach [] X.env)).all (fun x => x.1.isSome)
    && decide (([e] : List Expr).length + ([] : List Keyword).length + (if ([] : List Keyword).isEmpty then 0 else 1) < 30)) = true
  line : (apos.endLine == cpos.line) = true
  trees : backTo cpos (starEach [e] X.env) = [(false, eval e X.env)]
structure M2 (X : Cx) (o : Expr) (m : Str) (apos : Pos) (e f : Expr) (cpos : Pos) : Prop where
  base : attributeBase o m X.env (eval o X.env) = eval o X.env
  few : ((backTo cpos (starEach [e, f] X.env)).all (fun x => !x.1) && (backToKw cpos (keywordEach [] X.env)).all (fun x => x.1.isSome)
    && decide (([e, f] : List Expr).length + ([] : List Keyword).length + (if ([] : List Keyword).isEmpty then 0 else 1) < 30)) = true
  line : (apos.endLine == cpos.line) = true
  trees : backTo cpos (starEach [e, f] X.env) = [(false, eval e X.env), (false, eval f X.env)]
end L2
namespace PM
def g3 (x y z : Int) : Nat := Int.gcd (Int.gcd x y : Int) z
end PM
namespace PX
open PySem PySem.W PySem.Spec PySem.Calls PyProof.Rows PySem.Builtin.ObjectAttr PySem.Builtin.Getset_descriptor
def ExcAt (e c : Addr) (h : Heap) : Prop := ∃ o vs, h.get? e = some o ∧ o.cls = .ref c ∧ o.data = .fields vs
theorem ExcAt.ty {M : Model} {e c : Addr} {h : Heap} (p : ExcAt e c h) : Looks M h (typeOf (.ref e)) (.ref c) := by
  obtain ⟨o, vs, h1, h2, _⟩ := p
  exact h2 ▸ (Looks.ld h1).andThen .now
def excK (K : Frag) (c : Addr) : Bool :=
  (clsIn K c).isSome && findIn K (.ref c) "__getattribute__" == some (some (.builtin "BaseException.__getattribute__"))
  && findIn K (.ref c) "__getattr__" == some none && findIn K (.ref c) "__class__" == some (some (.builtin "object.__class__"))
  && specialIn K (.builtin "object.__class__") "__get__" == some (some (.builtin "getset_descriptor.__get__"))
  && takesIn K (.builtin "object.__class__") == some true
  && mroIn K c (.type "object") == some true && mroIn K c (.type "BaseException") == some true
  && kitOne K (.ref c) (.type "int") == some false && kitOne K (.ref c) (.type "bool") == some false && kitOne K (.ref c) (.type "tuple") == some false
  && kitOne K (.ref c) (.type "list") == some false && kitOne K (.ref c) (.type "str") == some false
def objK (K : Frag) (c : Addr) : Bool :=
  plainGet K c "__class__" && hasDictIn K c && findIn K (.ref c) "__class__" == some (some (.builtin "object.__class__"))
  && specialIn K (.builtin "object.__class__") "__get__" == some (some (.builtin "getset_descriptor.__get__"))
  && takesIn K (.builtin "object.__class__") == some true && mroIn K c (.type "object") == some true
  && kitOne K (.ref c) (.type "int") == some false && kitOne K (.ref c) (.type "bool") == some false && kitOne K (.ref c) (.type "tuple") == some false
  && kitOne K (.ref c) (.type "list") == some false && kitOne K (.ref c) (.type "str") == some false
structure ObjK (K : Frag) (c : Addr) : Prop where
  pg : plainGet K c "__class__" = true
  hd : hasDictIn K c = true
  at_ : findIn K (.ref c) "__class__" = some (some (.builtin "object.__class__"))
  get : specialIn K (.builtin "object.__class__") "__get__" = some (some (.builtin "getset_descriptor.__get__"))
  takes : takesIn K (.builtin "object.__class__") = some true
  obj : mroIn K c (.type "object") = some true
  not : ∀ T, (T = "int" ∨ T = "bool" ∨ T = "tuple" ∨ T = "list" ∨ T = "str") → kitOne K (.ref c) (.type T) = some false
theorem ObjK.of {K : Frag} {c : Addr} (h : objK K c = true) : ObjK K c := by
  unfold objK at h
  simp only [Bool.and_eq_true, beq_iff_eq] at h
  obtain ⟨⟨⟨⟨⟨⟨⟨⟨⟨⟨h1, h2⟩, h3⟩, h4⟩, h5⟩, h6⟩, h9⟩, h10⟩, h11⟩, h12⟩, h13⟩ := h
  exact ⟨h1, h2, h3, h4, h5, h6, fun T hT => by rcases hT with e | e | e | e | e <;> subst e <;> assumption⟩
structure ExcK (K : Frag) (c : Addr) : Prop where
  cls : (clsIn K c).isSome = true
  ga : findIn K (.ref c) "__getattribute__" = some (some (.builtin "BaseException.__getattribute__"))
  hook : findIn K (.ref c) "__getattr__" = some none
  at_ : findIn K (.ref c) "__class__" = some (some (.builtin "object.__class__"))
  get : specialIn K (.builtin "object.__class__") "__get__" = some (some (.builtin "getset_descriptor.__get__"))
  takes : takesIn K (.builtin "object.__class__") = some true
  obj : mroIn K c (.type "object") = some true
  exc : mroIn K c (.type "BaseException") = some true
  not : ∀ T, (T = "int" ∨ T = "bool" ∨ T = "tuple" ∨ T = "list" ∨ T = "str") → kitOne K (.ref c) (.type T) = some false
theorem ExcK.of {K : Frag} {c : Addr} (h : excK K c = true) : ExcK K c := by
  unfold excK at h
  simp only [Bool.and_eq_true, beq_iff_eq] at h
  obtain ⟨⟨⟨⟨⟨⟨⟨⟨⟨⟨⟨⟨h1, h2⟩, h3⟩, h4⟩, h5⟩, h6⟩, h7⟩, h8⟩, h9⟩, h10⟩, h11⟩, h12⟩, h13⟩ := h
  exact ⟨h1, h2, h3, h4, h5, h6, h7, h8, fun T hT => by rcases hT with e | e | e | e | e <;> subst e <;> assumption⟩
section
variable {prog : Program} {w : World} {A : Around} {E : Value → Shared → Prop} {s : Shared} {K : Frag} {e c : Addr}
theorem x_get {R : Result → Shared → Prop} {tp : Value} (X : K.In s.heap) (p : ExcAt e c s.heap) (hm : mroIn K c (.type "object") = some true) (hq : R (.ok (.ret (.ref c))) s) :
    codeAny (model prog w) A (.call (.builtin "getset_descriptor.__get__") ⟨[.builtin "object.__class__", .ref e, tp], []⟩) R s := by
  obtain ⟨h, g, dr, t, os⟩ := s
  have La := p.ty (M := model prog w)
  have Lb := looks_mroIn (M := model prog w) X hm
  refine codeAny_call_builtin (KF.slot_gs.plain) KF.entry_gs (KF.slot_gs.check _ _ _ _ _ _ _ _ KF.type_class (KF.args_gs _ _ _) ?_)
  unfold Builtin.«getset_descriptor.__get__» descrGet
  rw [dga_obj]
  refine wpAny_bind (wpAny_pure ?_)
  unfold descrGetter descrCheckInstance descrNameAndClass isInstance
  simp only [KF.owner_class]
  repeat lk
  refine ⟨Code.quiet_builtin _ (by decide +kernel), codeAny_builtin KF.entry_class ?_⟩
  unfold Builtin.«object.__class__» shownTypeOf
  repeat lk
  exact hq
theorem x_find {M : Model} {h : Heap} (k : ExcK K c) (X : K.In h) : Looks M h (find (.ref e) (.ref c) "__class__") (.bind (.builtin "getset_descriptor.__get__") (.builtin "object.__class__")) := by
  have La := looks_findIn (M := M) X k.at_
  have Lb : Looks M h (getOf (some (.builtin "object.__class__"))) (some (.builtin "getset_descriptor.__get__")) := looks_specialIn X k.get
  have Lc := looks_takesIn (M := M) X k.takes
  refine La.andThen (Lb.andThen ?_)
  exact (show Looks M h (dataDescriptor? (some (.builtin "object.__class__")) (some (.builtin "getset_descriptor.__get__"))) (some (.builtin "getset_descriptor.__get__", .builtin "object.__class__")) from Lc.andThen .now).andThen (Looks.tag .now)
theorem x_entry {tk : Tok} {Q : Fin → Shared → Prop} (k : ExcK K c) (X : K.In s.heap) (p : ExcAt e c s.heap) (hq : Q (.done (.ret (.ref c))) s) :
    wpAny (model prog w) A (Builtin.«object.__getattribute__» ⟨[.ref e, .str "__class__" tk], []⟩) Q E s := by
  obtain ⟨h, g, dr, t, os⟩ := s
  have La := p.ty (M := model prog w)
  have Lb := x_find (M := model prog w) (e := e) k X
  refine wpAny_bind (wpAny_pure ?_)
  refine wpAny_bind (wpAny_pure ?_)
  refine wpAny_bind (La.at (wpAny_bind (Lb.at ?_)))
  show wpAny _ _ (bindTo _ _ _ _) _ _ _
  unfold bindTo
  repeat (first | with_reducible refine wpAny_bind ?_ | with_reducible refine wpAny_holding ?_)
  refine wpAny_call (x_get X p k.obj ?_)
  exact wpAny_pure hq
theorem x_check {M : Model} {nv : Value} {Q : Unit → Shared → Prop} (k : ExcK K c) (X : K.In s.heap) (p : ExcAt e c s.heap) (hq : Q () s) :
    wpAny M A (checkBuiltinCall "BaseException.__getattribute__" ⟨[.ref e, nv], []⟩) Q E s := by
  obtain ⟨h, g, dr, t, os⟩ := s
  have hk : builtinKind "BaseException.__getattribute__" = some .slot := by decide +kernel
  have hsp : splitId "BaseException.__getattribute__" = some ("BaseException", "__getattribute__") := by decide +kernel
  have ha := F.args_bexc_ga (.ref e) nv
  have La := p.ty (M := M)
  have Lb := looks_mroIn (M := M) X k.exc
  have Li : Looks M h (isInstance (.ref e) (.type "BaseException")) true := La.andThen Lb
  simp only [checkBuiltinCall, hk, hsp]
  refine wpAny_bind (Li.at ?_)
  repeat (first | wp_step)
  exact hq
theorem x_call {tk : Tok} {R : Result → Shared → Prop} (k : ExcK K c) (X : K.In s.heap) (p : ExcAt e c s.heap) (hq : R (.ok (.ret (.ref c))) s) :
    codeAny (model prog w) A (.call (.builtin "BaseException.__getattribute__") ⟨[.ref e, .str "__class__" tk], []⟩) R s :=
  codeAny_call_builtin F.excAttr_ValueError.ga.plain F.entry_bexc_ga (x_check k X p (x_entry k X p hq))
theorem x_attr {Q : Option Value → Shared → Prop} (k : ExcK K c) (X : K.In s.heap) (p : ExcAt e c s.heap) (hq : Q (some (.ref c)) { s with toks := s.toks + 1 }) :
    wpAny (model prog w) A (getAttr? (.ref e) "__class__") Q E s := by
  obtain ⟨h, g, dr, t, os⟩ := s
  have La := p.ty (M := model prog w)
  have Lb := looks_findIn (M := model prog w) X k.ga
  have Lc := looks_findIn (M := model prog w) X k.hook
  have f3 := F.excAttr_ValueError.ga.bind (.ref e)
  unfold getAttr? getAttrBy? getAttrBy
  refine wpAny_bind (wpAny_mkText (wpAny_bind (wpAny_attempt (wpAny_holding (wpAny_bind (La.at (wpAny_bind (Lb.at ?_))))))))
  have hne : (Value.builtin "BaseException.__getattribute__" == Value.builtin "object.__getattribute__") = false := by decide +kernel
  simp only [onTheHeap, Bool.true_and, hne, Bool.false_eq_true, if_false]
  unfold getAttrByItsOwn hookBefore
  simp only [onTheHeap, if_true]
  refine wpAny_bind (Lc.at ?_)
  refine wpAny_bind (wpAny_attempt (wpAny_holding ?_))
  unfold callGetattribute boundAndCalled
  simp only [Bool.false_and, Bool.false_eq_true, if_false]
  refine wpAny_bind (wpAny_of_eq f3 ?_)
  refine wpAny_call (x_call k X p ?_)
  refine wpAny_pure (a := Value.ref c) ?_
  exact wpAny_pure hq
theorem kitx_exc (k : ExcK K c) : KitX K (.ref e) (.ref c) (ExcAt e c) where
  ty := fun _ _ _ p => p.ty
  it := fun _ _ X _ => by
    have h := k.cls
    unfold clsIn at h
    split at h
    · rename_i c' d' cd' sl' ho
      intro A' Q' E' s' kk q
      unfold isType loadHead
      exact wpAny_bind (wpAny_loadPart (kk _ _ (X _ _ ho)) (wpAny_pure q))
    · cases h
  ne := fun h tp dd its n sl X htp => by
    have h := k.cls
    refine Bool.eq_false_iff.mpr fun q => ?_
    have z : c = tp := Value.ref.inj (beq_iff_eq.mp q)
    subst z
    unfold clsIn at h
    split at h
    · rename_i c' d' cd' sl' ho
      cases (X _ _ ho).symm.trans htp
    · cases h
  ca := fun X p kk => x_attr k X p kk
end
end PX
namespace PD
open PySem PySem.Spec PyProof.Rows L2 PX
abbrev St := L2.St
def NT : HO → Prop
  | .tbl _ => False
  | _ => True
def lamQ : Str := "lightest.<locals>.<lambda>"
def CodeAt (c : Addr) : Heap → Prop := fun h => h.CodeRec (.ref c) lamQ
def TabOk (H : Hp) : Prop := ∀ P ps, H P = some (.tbl ps) → TriplesOk ps.toList ∧ ∀ pos cv, codeAmong pos ps.toList = some cv → ∃ c, cv = .ref c ∧ H c = some (.ext (CodeAt c))
def tabOf (K : PySem.W.Frag) : Option Addr :=
  match PySem.W.nsIn K mainGlobals "lightest" with
  | some (some (.ref f)) => (match K.lookup f with
    | some ⟨_, _, .func fd, _⟩ => (match fd.code with
      | .ref c => (match K.lookup c with
        | some ⟨_, _, .fields vs, _⟩ => (match (vs[11]? : Option Value) with
          | some (.ref P) => if (K.lookup P).isNone = true then some P else none
          | _ => none)
        | _ => none)
      | _ => none)
    | _ => none)
  | _ => none
structure Same (H H' : Hp) : Prop where
  kp : ∀ b o, H b = some o → NT o → H' b = some o
  tb : ∀ b ps, H b = some (.tbl ps) → ∃ more, H' b = some (.tbl (ps ++ more))
  ok : TabOk H → TabOk H'
theorem Same.app {H H' : Hp} (e : Same H H') (b : Addr) (o : HO) (h : H b = some o) (nt : NT o := by first | exact True.intro | assumption) : H' b = some o := e.kp b o h nt
instance {H H' : Hp} : CoeFun (Same H H') (fun _ => ∀ (b : Addr) (o : HO), H b = some o → (nt : NT o := by first | exact True.intro | assumption) → H' b = some o) := ⟨@Same.app H H'⟩
theorem Same.refl (H : Hp) : Same H H := ⟨fun _ _ h _ => h, fun _ ps h => ⟨#[], by rw [h]; simp⟩, id⟩
theorem Same.trans {H H1 H2 : Hp} (a : Same H H1) (b : Same H1 H2) : Same H H2 := ⟨fun c o h n => b.kp c o (a.kp c o h n) n, fun c ps h => by
  obtain ⟨m1, e1⟩ := a.tb c ps h
  obtain ⟨m2, e2⟩ := b.tb c _ e1
  exact ⟨m1 ++ m2, by rw [e2, Array.append_assoc]⟩, fun h => b.ok (a.ok h)⟩
theorem Same.ex {H H' : Hp} (e : Same H H') {b : Addr} {o : HO} (h : H b = some o) : ∃ o', H' b = some o' := by
  by_cases n : NT o
  · exact ⟨o, e.kp b o h n⟩
  · cases o with
    | tbl ps =>
      obtain ⟨m, q⟩ := e.tb b ps h
      exact ⟨_, q⟩
    | _ => exact absurd True.intro n
theorem Same.free {H H' : Hp} (e : Same H H') {l : Addr} (h : H' l = Option.none) : H l = Option.none := by
  cases q : H l with
  | none => rfl
  | some o =>
    obtain ⟨o', z⟩ := e.ex q
    rw [h] at z; cases z
theorem Same.seq {K : PySem.W.Frag} {H H' : Hp} {a : Addr} {xs : List V} (e : Same H H') (h : SqL K H a xs) : SqL K H' a xs := by
  rcases h with (h | ⟨o, h⟩) | h
  · exact .inl (.inl (e _ _ h))
  · exact .inl (.inr ⟨o, e _ _ h⟩)
  · exact .inr h
theorem TabOk.upd {H : Hp} {p : Addr} {o : HO} (n : NT o) (hp : H p = none ∨ ∃ u, H p = some u ∧ (∀ φ, u ≠ .ext φ) ∧ NT u) (h : TabOk H) : TabOk (upd H p o) := by
  intro P ps e
  have hne : P ≠ p := fun z => by
    subst z
    rw [upd_same] at e
    cases e
    exact n
  rw [upd_ne hne] at e
  obtain ⟨h1, h2⟩ := h P ps e
  refine ⟨h1, fun pos cv q => ?_⟩
  obtain ⟨c, e1, e2⟩ := h2 pos cv q
  refine ⟨c, e1, ?_⟩
  rw [upd_ne fun z => ?_]
  · exact e2
  · subst z
    rcases hp with hp | ⟨u, hp, hu, _⟩
    · rw [hp] at e2; cases e2
    · rw [hp] at e2; cases e2; exact hu _ rfl
structure TabK (K : PySem.W.Frag) (H : Hp) : Prop where
  ok : TabOk H
  at' : ∀ P, tabOf K = some P → ∃ ps, H P = some (.tbl ps)
theorem TabK.same {K : PySem.W.Frag} {H H' : Hp} (h : TabK K H) (e : Same H H') : TabK K H' := ⟨e.ok h.ok, fun P q => by
  obtain ⟨ps, z⟩ := h.at' P q
  obtain ⟨m, z⟩ := e.tb P ps z
  exact ⟨_, z⟩⟩
theorem TabK.upd {K : PySem.W.Frag} {H : Hp} {p : Addr} {o : HO} (h : TabK K H) (n : NT o) (hp : H p = none ∨ ∃ u, H p = some u ∧ (∀ φ, u ≠ .ext φ) ∧ NT u) : TabK K (upd H p o) := ⟨TabOk.upd n hp h.ok, fun P q => by
  obtain ⟨ps, z⟩ := h.at' P q
  refine ⟨ps, ?_⟩
  rw [upd_ne fun e => ?_]
  · exact z
  · subst e
    rcases hp with hp | ⟨u, hp, _, hu⟩
    · rw [hp] at z; cases z
    · rw [hp] at z; cases z; exact hu⟩
inductive D where
  | non | bl (b : Bool) | int (i : Int) | str (x : Str) | tup (ds : List D) | lst (t : Bool) (ds : List D) | exc (c : Addr) | obj (C : Addr) (ns : List Str) (ds : List D) | dic | dik (ks : List Int) (ds : List D)
def Sol : HO → Prop
  | .ext _ => True | .ins _ _ _ => True | .frz _ (.dK _) => True | _ => False
theorem Sol.nt {o : HO} (h : Sol o) : NT o := by cases o <;> first | exact True.intro | exact h.elim
def SqG (K : PySem.W.Frag) (H : Hp) (t : Bool) (a : Addr) (vs : List V) : Prop := SqL K H a vs ∧ (t = true → H a = some (.lst vs) ∧ K.lookup a = none)
theorem SqG.same {K : PySem.W.Frag} {H H' : Hp} {t : Bool} {a : Addr} {vs : List V} (e : Same H H') (q : SqG K H t a vs) : SqG K H' t a vs := ⟨e.seq q.1, fun z => ⟨e _ _ (q.2 z).1, (q.2 z).2⟩⟩
theorem SqG.any {K : PySem.W.Frag} {H : Hp} {a : Addr} {vs : List V} (q : SqL K H a vs) : SqG K H false a vs := ⟨q, fun z => by cases z⟩
theorem SqG.new {K : PySem.W.Frag} {H : Hp} {t : Bool} {a : Addr} {vs : List V} (q : H a = some (.lst vs)) (k : K.lookup a = none) : SqG K H t a vs := ⟨SqL.of q, fun _ => ⟨q, k⟩⟩
def SqT (_ : PySem.W.Frag) (H : Hp) (a : Addr) (xs : List V) : Prop := H a = some (.tup xs)
theorem SqT.w {K : PySem.W.Frag} {H : Hp} {a : Addr} {xs : List V} (h : SqT K H a xs) : L2.SqT K H a xs := .inl (.inl h)
theorem SqT.of {K : PySem.W.Frag} {H : Hp} {a : Addr} {xs : List V} (h : H a = some (.tup xs)) : SqT K H a xs := h
mutual
def Den (K : PySem.W.Frag) (P : Bool → Addr → Prop) (H : Hp) : D → V → Prop
  | .non, v => v = .non
  | .bl b, v => v = .bl b
  | .int i, v => v = .int i
  | .str x, v => v = .str x
  | .tup ds, v => ∃ a vs, v = .ref a ∧ SqT K H a vs ∧ Dens K P H ds vs
  | .lst t ds, v => ∃ a vs, v = .ref a ∧ ¬ P t a ∧ SqG K H t a vs ∧ Dens K P H ds vs
  | .exc c, v => ∃ e, v = .ref e ∧ H e = some (.ext (ExcAt e c)) ∧ ExcK K c
  | .dic, v => ∃ a, v = .ref a ∧ H a = some (.ext (PySem.W.KitAt a "dict"))
  | .obj C ns ds, v => ∃ a dx vs, v = .ref a ∧ H a = some (.ins C dx (ns.zip vs)) ∧ vs.length = ns.length ∧ ObjK K C ∧ Dens K P H ds vs
  | .dik ks ds, v => ∃ a o kws vs, v = .ref a ∧ H a = some (.frz o (.dK kws)) ∧ kws = (ks.map Sum.inl).zip vs ∧ vs.length = ks.length ∧ Dens K P H ds vs
def Dens (K : PySem.W.Frag) (P : Bool → Addr → Prop) (H : Hp) : List D → List V → Prop
  | [], vs => vs = []
  | d :: ds, vs => ∃ v r, vs = v :: r ∧ Den K P H d v ∧ Dens K P H ds r
end
section
variable {K : PySem.W.Frag} {P P' : Bool → Addr → Prop} {H H' : Hp}
mutual
theorem Den.map (hT : ∀ a vs, SqT K H a vs → SqT K H' a vs) (hL : ∀ t a vs, ¬ P t a → SqG K H t a vs → ¬ P' t a ∧ SqG K H' t a vs) (hX : ∀ a o, Sol o → H a = some o → H' a = some o) : ∀ (d : D) (v : V), Den K P H d v → Den K P' H' d v
  | .non, _, h => by simpa only [Den] using h
  | .bl _, _, h => by simpa only [Den] using h
  | .int _, _, h => by simpa only [Den] using h
  | .str _, _, h => by simpa only [Den] using h
  | .tup ds, _, h => by
    simp only [Den] at h ⊢
    obtain ⟨a, vs, e, q, r⟩ := h
    exact ⟨a, vs, e, hT a vs q, Dens.map hT hL hX ds vs r⟩
  | .lst t ds, _, h => by
    simp only [Den] at h ⊢
    obtain ⟨a, vs, e, p, q, r⟩ := h
    exact ⟨a, vs, e, (hL t a vs p q).1, (hL t a vs p q).2, Dens.map hT hL hX ds vs r⟩
  | .exc c, _, h => by
    simp only [Den] at h ⊢
    obtain ⟨a, e, q, k⟩ := h
    exact ⟨a, e, hX a _ True.intro q, k⟩
  | .obj C ns ds, _, h => by
    simp only [Den] at h ⊢
    obtain ⟨a, dx, vs, e, q, l, k, r⟩ := h
    exact ⟨a, dx, vs, e, hX a _ True.intro q, l, k, Dens.map hT hL hX ds vs r⟩
  | .dic, _, h => by
    simp only [Den] at h ⊢
    obtain ⟨a, e, q⟩ := h
    exact ⟨a, e, hX a _ True.intro q⟩
  | .dik ks ds, _, h => by
    simp only [Den] at h ⊢
    obtain ⟨a, o, kws, vs, e, q, l, k, r⟩ := h
    exact ⟨a, o, kws, vs, e, hX a _ True.intro q, l, k, Dens.map hT hL hX ds vs r⟩
theorem Dens.map (hT : ∀ a vs, SqT K H a vs → SqT K H' a vs) (hL : ∀ t a vs, ¬ P t a → SqG K H t a vs → ¬ P' t a ∧ SqG K H' t a vs) (hX : ∀ a o, Sol o → H a = some o → H' a = some o) : ∀ (ds : List D) (vs : List V), Dens K P H ds vs → Dens K P' H' ds vs
  | [], _, h => by simpa only [Dens] using h
  | d :: ds, _, h => by
    simp only [Dens] at h ⊢
    obtain ⟨v, r, e, h1, h2⟩ := h
    exact ⟨v, r, e, Den.map hT hL hX d v h1, Dens.map hT hL hX ds r h2⟩
end
end
theorem SqT.same {K : PySem.W.Frag} {H H' : Hp} {a : Addr} {xs : List V} (e : Same H H') (h : SqT K H a xs) : SqT K H' a xs := e _ _ h
section
variable {K : PySem.W.Frag} {P : Bool → Addr → Prop} {H H' : Hp}
theorem Den.same {d : D} {v : V} (e : Same H H') (h : Den K P H d v) : Den K P H' d v := Den.map (fun _ _ q => SqT.same e q) (fun _ _ _ p q => ⟨p, q.same e⟩) (fun a _ n q => e.kp a _ q n.nt) d v h
theorem Dens.same {ds : List D} {vs : List V} (e : Same H H') (h : Dens K P H ds vs) : Dens K P H' ds vs := Dens.map (fun _ _ q => SqT.same e q) (fun _ _ _ p q => ⟨p, q.same e⟩) (fun a _ n q => e.kp a _ q n.nt) ds vs h
theorem Den.fewer {P' : Bool → Addr → Prop} {d : D} {v : V} (e : ∀ t a, P' t a → P t a) (h : Den K P H d v) : Den K P' H d v := Den.map (fun _ _ q => q) (fun _ _ _ p q => ⟨fun z => p (e _ _ z), q⟩) (fun _ _ _ q => q) d v h
theorem Dens.fewer {P' : Bool → Addr → Prop} {ds : List D} {vs : List V} (e : ∀ t a, P' t a → P t a) (h : Dens K P H ds vs) : Dens K P' H ds vs := Dens.map (fun _ _ q => q) (fun _ _ _ p q => ⟨fun z => p (e _ _ z), q⟩) (fun _ _ _ q => q) ds vs h
theorem Dens.len : ∀ {ds : List D} {vs : List V}, Dens K P H ds vs → vs.length = ds.length
  | [], _, h => by simp only [Dens] at h; subst h; rfl
  | d :: ds, _, h => by
    simp only [Dens] at h
    obtain ⟨v, r, rfl, _, h2⟩ := h
    simp [Dens.len h2]
theorem Dens.get : ∀ {ds : List D} {vs : List V} {i : Nat} {d : D}, Dens K P H ds vs → ds[i]? = some d → ∃ v, vs[i]? = some v ∧ Den K P H d v
  | [], _, _, _, _, e => by simp at e
  | d :: ds, _, 0, _, h, e => by
    simp only [Dens] at h
    obtain ⟨v, r, rfl, h1, _⟩ := h
    simp at e; subst e
    exact ⟨v, rfl, h1⟩
  | d :: ds, _, i + 1, x, h, e => by
    simp only [Dens] at h
    obtain ⟨v, r, rfl, _, h2⟩ := h
    obtain ⟨u, e1, e2⟩ := Dens.get (i := i) (d := x) h2 (by simpa using e)
    exact ⟨u, by simpa using e1, e2⟩
theorem Dens.getV : ∀ {ds : List D} {vs : List V} {i : Nat} {v : V}, Dens K P H ds vs → vs[i]? = some v → ∃ d, ds[i]? = some d ∧ Den K P H d v
  | [], _, _, _, h, e => by simp only [Dens] at h; subst h; simp at e
  | d :: ds, _, 0, _, h, e => by
    simp only [Dens] at h
    obtain ⟨v, r, rfl, h1, _⟩ := h
    simp at e; subst e
    exact ⟨d, rfl, h1⟩
  | d :: ds, _, i + 1, x, h, e => by
    simp only [Dens] at h
    obtain ⟨v, r, rfl, _, h2⟩ := h
    obtain ⟨u, e1, e2⟩ := Dens.getV (i := i) (v := x) h2 (by simpa using e)
    exact ⟨u, by simpa using e1, e2⟩
theorem Dens.append : ∀ {ds es : List D} {vs us : List V}, Dens K P H ds vs → Dens K P H es us → Dens K P H (ds ++ es) (vs ++ us)
  | [], _, _, _, h, h' => by simp only [Dens] at h; subst h; exact h'
  | d :: ds, _, _, _, h, h' => by
    simp only [Dens] at h
    obtain ⟨v, r, rfl, h1, h2⟩ := h
    simp only [List.cons_append, Dens]
    exact ⟨v, _, rfl, h1, Dens.append h2 h'⟩
theorem Dens.one {d : D} {v : V} (h : Den K P H d v) : Dens K P H [d] [v] := by
  simp only [Dens]
  exact ⟨v, [], rfl, h, rfl⟩
theorem Dens.nil : Dens K P H [] [] := by simp only [Dens]
theorem Dens.cons {d : D} {v : V} {ds : List D} {vs : List V} (h : Den K P H d v) (h' : Dens K P H ds vs) : Dens K P H (d :: ds) (v :: vs) := by
  simp only [Dens]
  exact ⟨v, vs, rfl, h, h'⟩
theorem Den.int_ {i : Int} {v : V} (h : Den K P H (.int i) v) : v = .int i := by simpa only [Den] using h
theorem Den.bl_ {b : Bool} {v : V} (h : Den K P H (.bl b) v) : v = .bl b := by simpa only [Den] using h
theorem Den.non_ {v : V} (h : Den K P H .non v) : v = .non := by simpa only [Den] using h
theorem Den.str_ {x : Str} {v : V} (h : Den K P H (.str x) v) : v = .str x := by simpa only [Den] using h
theorem Den.int (i : Int) : Den K P H (.int i) (.int i) := by simp only [Den]
theorem Den.bl (b : Bool) : Den K P H (.bl b) (.bl b) := by simp only [Den]
theorem Den.non : Den K P H .non .non := by simp only [Den]
theorem Den.str (x : Str) : Den K P H (.str x) (.str x) := by simp only [Den]
theorem Den.tup_ {ds : List D} {v : V} (h : Den K P H (.tup ds) v) : ∃ a vs, v = .ref a ∧ SqT K H a vs ∧ Dens K P H ds vs := by simpa only [Den] using h
theorem Den.lstG_ {t : Bool} {ds : List D} {v : V} (h : Den K P H (.lst t ds) v) : ∃ a vs, v = .ref a ∧ ¬ P t a ∧ SqG K H t a vs ∧ Dens K P H ds vs := by simpa only [Den] using h
theorem Den.lst_ {t : Bool} {ds : List D} {v : V} (h : Den K P H (.lst t ds) v) : ∃ a vs, v = .ref a ∧ ¬ P t a ∧ SqL K H a vs ∧ Dens K P H ds vs := by
  obtain ⟨a, vs, h1, h2, h3, h4⟩ := h.lstG_
  exact ⟨a, vs, h1, h2, h3.1, h4⟩
theorem Den.dic_ {v : V} (h : Den K P H .dic v) : ∃ a, v = .ref a ∧ H a = some (.ext (PySem.W.KitAt a "dict")) := by simpa only [Den] using h
theorem Den.dic {a : Addr} (h : H a = some (.ext (PySem.W.KitAt a "dict"))) : Den K P H .dic (.ref a) := by simp only [Den]; exact ⟨a, rfl, h⟩
theorem Den.obj_ {C : Addr} {ns : List Str} {ds : List D} {v : V} (h : Den K P H (.obj C ns ds) v) : ∃ a dx vs, v = .ref a ∧ H a = some (.ins C dx (ns.zip vs)) ∧ vs.length = ns.length ∧ ObjK K C ∧ Dens K P H ds vs := by simpa only [Den] using h
theorem Den.obj {C a dx : Addr} {ns : List Str} {ds : List D} {vs : List V} (h : H a = some (.ins C dx (ns.zip vs))) (l : vs.length = ns.length) (k : ObjK K C) (d : Dens K P H ds vs) : Den K P H (.obj C ns ds) (.ref a) := by simp only [Den]; exact ⟨a, dx, vs, rfl, h, l, k, d⟩
theorem Den.dik_ {ks : List Int} {ds : List D} {v : V} (h : Den K P H (.dik ks ds) v) : ∃ a o kws vs, v = .ref a ∧ H a = some (.frz o (.dK kws)) ∧ kws = (ks.map Sum.inl).zip vs ∧ vs.length = ks.length ∧ Dens K P H ds vs := by simpa only [Den] using h
theorem Den.dik {a : Addr} {o : Obj} {ks : List Int} {ds : List D} {vs : List V} (h : H a = some (.frz o (.dK ((ks.map Sum.inl).zip vs)))) (l : vs.length = ks.length) (d : Dens K P H ds vs) : Den K P H (.dik ks ds) (.ref a) := by simp only [Den]; exact ⟨a, o, _, vs, rfl, h, rfl, l, d⟩
theorem Den.exc_ {c : Addr} {v : V} (h : Den K P H (.exc c) v) : ∃ e, v = .ref e ∧ H e = some (.ext (ExcAt e c)) ∧ ExcK K c := by simpa only [Den] using h
theorem Den.exc {c e : Addr} (h : H e = some (.ext (ExcAt e c))) (k : ExcK K c) : Den K P H (.exc c) (.ref e) := by simp only [Den]; exact ⟨e, rfl, h, k⟩
theorem Den.tup {ds : List D} {a : Addr} {vs : List V} (h : SqT K H a vs) (h' : Dens K P H ds vs) : Den K P H (.tup ds) (.ref a) := by simp only [Den]; exact ⟨a, vs, rfl, h, h'⟩
theorem Den.lst {t : Bool} {ds : List D} {a : Addr} {vs : List V} (p : ¬ P t a) (h : SqG K H t a vs) (h' : Dens K P H ds vs) : Den K P H (.lst t ds) (.ref a) := by simp only [Den]; exact ⟨a, vs, rfl, p, h, h'⟩
end
inductive LI where
  | own (ds : List D) | val (d : D)
inductive OS where
  | lst (ds : List D) | dk (kvs : List (Key × D)) | dt (kvs : List (List Key × D)) | ll (xs : List LI)
inductive Sl where
  | val (d : D)
  | ob (x : OS)
abbrev Sl.own (ds : List D) : Sl := .ob (.lst ds)
def LDens (K : PySem.W.Frag) (P : Bool → Addr → Prop) (H : Hp) (B : Nat → Option Addr) : Nat → List LI → List V → Prop
  | _, [], vs => vs = []
  | k, .own ds :: r, vs => ∃ b us u, vs = .ref b :: u ∧ B k = some b ∧ H b = some (.lst us) ∧ Dens K P H ds us ∧ LDens K P H B (k + 1) r u
  | k, .val d :: r, vs => ∃ v u, vs = v :: u ∧ Den K P H d v ∧ LDens K P H B (k + 1) r u
theorem LDens.map {K : PySem.W.Frag} {P P' : Bool → Addr → Prop} {H H' : Hp} {B B' : Nat → Option Addr} (hd : ∀ ds vs, Dens K P H ds vs → Dens K P' H' ds vs) (hB : ∀ k b, B k = some b → B' k = some b ∧ ∀ us, H b = some (.lst us) → H' b = some (.lst us)) : ∀ {k : Nat} {xs : List LI} {vs : List V}, LDens K P H B k xs vs → LDens K P' H' B' k xs vs
  | _, [], _, h => by simpa only [LDens] using h
  | k, .own ds :: r, _, h => by
    simp only [LDens] at h ⊢
    obtain ⟨b, us, u, e, h1, h2, h3, h4⟩ := h
    exact ⟨b, us, u, e, (hB k b h1).1, (hB k b h1).2 us h2, hd ds us h3, LDens.map hd hB h4⟩
  | k, .val d :: r, _, h => by
    simp only [LDens] at h ⊢
    obtain ⟨v, u, e, h1, h2⟩ := h
    have h3 := hd [d] [v] (Dens.one h1)
    simp only [Dens] at h3
    obtain ⟨v', r', e', h4, _⟩ := h3
    cases e'
    exact ⟨v, u, e, h4, LDens.map hd hB h2⟩
theorem LDens.len {K : PySem.W.Frag} {P : Bool → Addr → Prop} {H : Hp} {B : Nat → Option Addr} : ∀ {k : Nat} {xs : List LI} {vs : List V}, LDens K P H B k xs vs → vs.length = xs.length
  | _, [], _, h => by simp only [LDens] at h; subst h; rfl
  | k, .own ds :: r, _, h => by
    simp only [LDens] at h
    obtain ⟨b, us, u, rfl, _, _, _, h4⟩ := h
    simp [LDens.len h4]
  | k, .val d :: r, _, h => by
    simp only [LDens] at h
    obtain ⟨v, u, rfl, _, h2⟩ := h
    simp [LDens.len h2]
inductive OwnD (K : PySem.W.Frag) (P : Bool → Addr → Prop) (H : Hp) (B : Nat → Option Addr) : OS → HO → Prop where
  | lst {ds : List D} {vs : List V} (h : Dens K P H ds vs) : OwnD K P H B (.lst ds) (.lst vs)
  | ll {xs : List LI} {vs : List V} (h : LDens K P H B 0 xs vs) : OwnD K P H B (.ll xs) (.lst vs)
  | dk {kvs : List (Key × D)} {kws : List (Key × V)} (e : kws.map (·.1) = kvs.map (·.1)) (h : Dens K P H (kvs.map (·.2)) (kws.map (·.2))) : OwnD K P H B (.dk kvs) (.dK kws)
  | dt {kvs : List (List Key × D)} {kws : List (List Key × V)} (e : kws.map (·.1) = kvs.map (·.1)) (h : Dens K P H (kvs.map (·.2)) (kws.map (·.2))) : OwnD K P H B (.dt kvs) (.dT kws)
def MutO : HO → Prop
  | .lst _ => True | .dK _ => True | .dT _ => True | _ => False
theorem MutO.nt {o : HO} (h : MutO o) : NT o := by cases o <;> first | exact True.intro | exact h.elim
theorem MutO.sol {o : HO} (h : MutO o) : ¬ Sol o := by cases o <;> first | exact h.elim | exact fun z => z
theorem MutO.ne {o : HO} (h : MutO o) : ∀ φ, o ≠ .ext φ := fun _ e => by subst e; exact h
section
variable {K : PySem.W.Frag} {P P' : Bool → Addr → Prop} {H H' : Hp} {B B' : Nat → Option Addr} {x : OS} {o : HO}
theorem OwnD.map (k : ∀ ds vs, Dens K P H ds vs → Dens K P' H' ds vs) (hB : ∀ k b, B k = some b → B' k = some b ∧ ∀ us, H b = some (.lst us) → H' b = some (.lst us)) (h : OwnD K P H B x o) : OwnD K P' H' B' x o := by
  cases h with
  | lst h => exact .lst (k _ _ h)
  | ll h => exact .ll (h.map k hB)
  | dk e h => exact .dk e (k _ _ h)
  | dt e h => exact .dt e (k _ _ h)
theorem OwnD.same (e : Same H H') (h : OwnD K P H B x o) : OwnD K P H' B x o := h.map (fun _ _ z => z.same e) fun _ _ q => ⟨q, fun _ z => e _ _ z⟩
theorem OwnD.fewer (e : ∀ t a, P' t a → P t a) (hB : ∀ k b, B k = some b → B' k = some b) (h : OwnD K P H B x o) : OwnD K P' H B' x o := h.map (fun _ _ z => z.fewer e) fun k b q => ⟨hB k b q, fun _ z => z⟩
theorem OwnD.mut (h : OwnD K P H B x o) : MutO o := by cases h <;> exact True.intro
theorem OwnD.lst_ {ds : List D} (h : OwnD K P H B (.lst ds) o) : ∃ vs, o = .lst vs ∧ Dens K P H ds vs := by
  cases h with
  | lst h => exact ⟨_, rfl, h⟩
end
abbrev Ro := List (Option Sl)
structure Own where
  B : Addr → Prop
  O : Nat → Option Addr
  S : Addr → Prop
def Own.bad (W : Own) (t : Bool) (a : Addr) : Prop := W.B a ∨ (∃ i, W.O i = some a) ∨ (t = true ∧ W.S a)
def Own.drop (W : Own) (i : Nat) : Own := ⟨W.B, fun j => if j = i then none else W.O j, W.S⟩
def Own.put (W : Own) (i : Nat) (a : Addr) : Own := ⟨W.B, fun j => if j = i then some a else W.O j, W.S⟩
theorem Own.drop_bad {W : Own} {i : Nat} {t : Bool} {a : Addr} (h : (W.drop i).bad t a) : W.bad t a := by
  rcases h with h | ⟨j, h⟩ | h
  · exact .inl h
  · have h' : (if j = i then none else W.O j) = some a := h
    by_cases e : j = i
    · rw [if_pos e] at h'; cases h'
    · rw [if_neg e] at h'; exact .inr (.inl ⟨j, h'⟩)
  · exact .inr (.inr h)
theorem Own.bad_up {W : Own} {t : Bool} {a : Addr} (h : W.bad false a) : W.bad t a := by
  rcases h with h | h | ⟨h, _⟩
  · exact .inl h
  · exact .inr (.inl h)
  · cases h
def vix (n i k : Nat) : Nat := n * (k + 1) + i
theorem vix_ne {n i j k : Nat} (h : j < n) : vix n i k ≠ j := fun e => by
  unfold vix at e
  rw [Nat.mul_add] at e
  omega
abbrev Own.sub (W : Own) (n i : Nat) (k : Nat) : Option Addr := W.O (vix n i k)
theorem Own.drop_sub {W : Own} {n i j : Nat} (h : i < n) (k : Nat) (b : Addr) (e : W.sub n j k = some b) : (W.drop i).sub n j k = some b := by
  show (if vix n j k = i then none else W.O (vix n j k)) = _
  rw [if_neg (vix_ne h)]
  exact e
structure Rel (X : Cx) (W : Own) (H : Hp) (σ : St) (ρ : Ro) : Prop where
  val : ∀ (i : Nat) (d : D), ρ[i]? = some (some (Sl.val d)) → ∃ v, σ[i]? = some (some v) ∧ Den X.K W.bad H d v
  own : ∀ (i : Nat) (x : OS), ρ[i]? = some (some (Sl.ob x)) → ∃ a o, W.O i = some a ∧ σ[i]? = some (some (.ref a)) ∧ H a = some o ∧ OwnD X.K W.bad H (W.sub σ.length i) x o
  inj : ∀ i j a, W.O i = some a → W.O j = some a → i = j
  kn : ∀ i a, W.O i = some a → X.K.lookup a = none ∧ (¬ W.B a ∧ ¬ W.S a) ∧ ∃ o, H a = some o ∧ MutO o
  ke : ∀ i a, W.O i = some a → X.H₀ a = none
  bt : ∀ a, W.B a → ∃ o, H a = some o
  st : ∀ a, W.S a → ∃ o, H a = some o
  ent : Same X.H₀ H
  tab : TabK X.K H
theorem Rel.same {X : Cx} {W : Own} {H H' : Hp} {σ : St} {ρ : Ro} (r : Rel X W H σ ρ) (e : Same H H') : Rel X W H' σ ρ where
  val := fun i d h => let ⟨v, h1, h2⟩ := r.val i d h; ⟨v, h1, h2.same e⟩
  own := fun i ds h => let ⟨a, vs, h1, h2, h3, h4⟩ := r.own i ds h; ⟨a, vs, h1, h2, e.kp _ _ h3 h4.mut.nt, h4.same e⟩
  inj := r.inj
  kn := fun i a h => let ⟨h1, h2, o, h3, h4⟩ := r.kn i a h; ⟨h1, h2, o, e.kp _ _ h3 h4.nt, h4⟩
  ke := r.ke
  bt := fun a h => let ⟨_, q⟩ := r.bt a h; e.ex q
  st := fun a h => let ⟨_, q⟩ := r.st a h; e.ex q
  ent := r.ent.trans e
  tab := r.tab.same e
theorem Rel.ownL {X : Cx} {W : Own} {H : Hp} {σ : St} {ρ : Ro} (r : Rel X W H σ ρ) (i : Nat) (ds : List D) (h : ρ[i]? = some (some (Sl.own ds))) : ∃ a vs, W.O i = some a ∧ σ[i]? = some (some (.ref a)) ∧ H a = some (.lst vs) ∧ Dens X.K W.bad H ds vs := by
  obtain ⟨a, o, h1, h2, h3, h4⟩ := r.own i _ h
  obtain ⟨vs, e, h5⟩ := h4.lst_
  subst e
  exact ⟨a, vs, h1, h2, h3, h5⟩
theorem Rel.tracked {X : Cx} {W : Own} {H : Hp} {σ : St} {ρ : Ro} (r : Rel X W H σ ρ) (t : Bool) (a : Addr) (h : W.bad t a) : ∃ o, H a = some o := by
  rcases h with h | ⟨i, h⟩ | ⟨_, h⟩
  · exact r.bt a h
  · obtain ⟨_, _, o, q, _⟩ := r.kn i a h
    exact ⟨_, q⟩
  · exact r.st a h
theorem Rel.fresh {X : Cx} {W : Own} {H : Hp} {σ : St} {ρ : Ro} (r : Rel X W H σ ρ) {t : Bool} {p : Addr} (h : H p = none) : ¬ W.bad t p := fun z => by
  obtain ⟨o, q⟩ := r.tracked t p z
  rw [h] at q; cases q
structure Fwd (W : Own) (H : Hp) (W' : Own) (H' : Hp) : Prop where
  B : W'.B = W.B
  S : W'.S = W.S
  kp : ∀ b o, (∀ i, W.O i ≠ some b) → H b = some o → NT o → H' b = some o
  new : ∀ i a, W'.O i = some a → (∃ j, W.O j = some a) ∨ H a = none
  tb : ∀ b ps, H b = some (.tbl ps) → ∃ more, H' b = some (.tbl (ps ++ more))
  ok : TabOk H → TabOk H'
theorem Fwd.keep {W W' : Own} {H H' : Hp} (f : Fwd W H W' H') (b : Addr) (o : HO) (h : ∀ i, W.O i ≠ some b) (q : H b = some o) (nt : NT o := by first | exact True.intro | assumption) : H' b = some o := f.kp b o h q nt
theorem Fwd.ex {W W' : Own} {H H' : Hp} (f : Fwd W H W' H') {b : Addr} {o : HO} (h : ∀ i, W.O i ≠ some b) (q : H b = some o) : ∃ o', H' b = some o' := by
  by_cases n : NT o
  · exact ⟨o, f.kp b o h q n⟩
  · cases o with
    | tbl ps =>
      obtain ⟨m, e⟩ := f.tb b ps q
      exact ⟨_, e⟩
    | _ => exact absurd True.intro n
theorem Fwd.refl (W : Own) (H : Hp) : Fwd W H W H := ⟨rfl, rfl, fun _ _ _ h _ => h, fun i _ h => .inl ⟨i, h⟩, fun _ ps h => ⟨#[], by rw [h]; simp⟩, id⟩
theorem Fwd.trans {W W1 W2 : Own} {H H1 H2 : Hp} (a : Fwd W H W1 H1) (b : Fwd W1 H1 W2 H2) : Fwd W H W2 H2 := by
  refine ⟨b.B.trans a.B, b.S.trans a.S, fun x o n h t => b.kp x o (fun i z => ?_) (a.kp x o n h t) t, fun i x h => ?_, fun c ps h => ?_, fun h => b.ok (a.ok h)⟩
  · rcases a.new i x z with ⟨j, q⟩ | q
    · exact n j q
    · rw [h] at q; cases q
  · rcases b.new i x h with ⟨j, q⟩ | q
    · exact a.new j x q
    · by_cases z : ∃ j, W.O j = some x
      · exact .inl z
      · refine .inr ?_
        cases e : H x with
        | none => rfl
        | some o =>
          obtain ⟨o', this⟩ := a.ex (fun i w => z ⟨i, w⟩) e
          rw [this] at q; cases q
  · obtain ⟨m1, e1⟩ := a.tb c ps h
    obtain ⟨m2, e2⟩ := b.tb c _ e1
    exact ⟨m1 ++ m2, by rw [e2, Array.append_assoc]⟩
theorem Fwd.same {W : Own} {H H' : Hp} (e : Same H H') : Fwd W H W H' := ⟨rfl, rfl, fun _ _ _ h n => e.kp _ _ h n, fun i _ h => .inl ⟨i, h⟩, e.tb, e.ok⟩
theorem Same.ins {H₀ H : Hp} (e : Same H₀ H) {a : Addr} {o o' : HO} (h0 : H₀ a = none) (ha : H a = some o) (hm : MutO o) (hn : NT o') : Same H₀ (upd H a o') :=
  ⟨fun b u h n => by rw [upd_ne (ne_of_none h h0)]; exact e.kp b u h n, fun b ps h => by rw [upd_ne (ne_of_none h h0)]; exact e.tb b ps h, fun h => TabOk.upd hn (.inr ⟨o, ha, hm.ne, hm.nt⟩) (e.ok h)⟩
theorem Fwd.upd {W : Own} {H : Hp} {i : Nat} {a : Addr} {o o' : HO} (oa : W.O i = some a) (ha : H a = some o) (hm : MutO o) (hn : NT o') : Fwd W H W (upd H a o') :=
  ⟨rfl, rfl, fun b u n h _ => by rw [upd_ne fun e => n i (by rw [e]; exact oa)]; exact h, fun j _ h => .inl ⟨j, h⟩, fun b ps h => ⟨#[], by rw [upd_ne (fun e => by subst e; rw [ha] at h; cases h; exact hm), h]; simp⟩, TabOk.upd hn (.inr ⟨o, ha, hm.ne, hm.nt⟩)⟩
structure DEnds where
  nx : Ro → Prop
  rt : D → Prop
  bk : Ro → Prop := fun _ => False
  ct : Ro → Prop := fun _ => False
abbrev DE := Ro → (D → Prop) → Prop
abbrev DT := Ro → (Bool → Prop) → Prop
abbrev DA := Ro → (List D → Prop) → Prop
abbrev DS := DEnds → Ro → Prop
inductive DP (X : Cx) (pins : List (Addr × Obj)) (σ : St) (W : Own) (H : Hp) (Q : D → Prop) (u : Value) (s' : Shared) : Prop
  | mk (v : V) (H' : Hp) (d : D) (_ : Inv X pins σ H' s') (_ : RelV v u) (_ : Same H H') (_ : Den X.K W.bad H' d v) (_ : Q d)
inductive DTP (X : Cx) (pins : List (Addr × Obj)) (σ : St) (H : Hp) (Q : Bool → Prop) (b : Bool) (s' : Shared) : Prop
  | mk (H' : Hp) (_ : Inv X pins σ H' s') (_ : Same H H') (_ : Q b)
inductive DAP (X : Cx) (pins : List (Addr × Obj)) (σ : St) (W : Own) (H : Hp) (Q : List D → Prop) (us : List Value) (s' : Shared) : Prop
  | mk (vs : List V) (H' : Hp) (ds : List D) (_ : Inv X pins σ H' s') (_ : Vals vs us) (_ : Same H H') (_ : Dens X.K W.bad H' ds vs) (_ : Q ds)
def SPf (X : Cx) (E : DEnds) (W' : Own) (σ' : St) (H' : Hp) (f : Flow) : Prop :=
  match f with
  | .next => ∃ ρ', Rel X W' H' σ' ρ' ∧ E.nx ρ'
  | .brk => ∃ ρ', Rel X W' H' σ' ρ' ∧ E.bk ρ'
  | .cont => ∃ ρ', Rel X W' H' σ' ρ' ∧ E.ct ρ'
  | .ret u => ∃ v d, RelV v u ∧ Den X.K W'.bad H' d v ∧ E.rt d
inductive SPD (X : Cx) (pins : List (Addr × Obj)) (W : Own) (H : Hp) (E : DEnds) (f : Flow) (s' : Shared) : Prop
  | mk (W' : Own) (σ' : St) (H' : Hp) (_ : Inv X pins σ' H' s') (_ : Fwd W H W' H') (_ : SPf X E W' σ' H' f)
def PED (X : Cx) (e : Expr) (t : DE) : Prop :=
  ∀ (pins : List (Addr × Obj)) (s : Shared) (σ : St) (H : Hp) (W : Own) (ρ : Ro) (Q : D → Prop), Inv X pins σ H s → Rel X W H σ ρ → t ρ Q →
    wpAny (model X.prog X.w) X.A (eval e X.env) (DP X pins σ W H Q) X.xe s
def PTD (X : Cx) (e : Expr) (t : DT) : Prop :=
  ∀ (pins : List (Addr × Obj)) (s : Shared) (σ : St) (H : Hp) (W : Own) (ρ : Ro) (Q : Bool → Prop), Inv X pins σ H s → Rel X W H σ ρ → t ρ Q →
    wpAny (model X.prog X.w) X.A (isTrue e X.env (eval e X.env)) (DTP X pins σ H Q) X.xe s
def PWD (X : Cx) (e : Expr) (t : DT) : Prop :=
  ∀ (whole : Sem Value) (pins : List (Addr × Obj)) (s : Shared) (σ : St) (H : Hp) (W : Own) (ρ : Ro) (Q : Bool → Prop), Inv X pins σ H s → Rel X W H σ ρ → t ρ Q →
    wpAny (model X.prog X.w) X.A (isTrue e X.env whole) (DTP X pins σ H Q) X.xe s
theorem PWD.pt {X : Cx} {e : Expr} {t : DT} (h : PWD X e t) : PTD X e t := h _
def PAD (X : Cx) (es : List Expr) (t : DA) : Prop :=
  ∀ (pos : Pos) (pins : List (Addr × Obj)) (s : Shared) (σ : St) (H : Hp) (W : Own) (ρ : Ro) (Q : List D → Prop), Inv X pins σ H s → Rel X W H σ ρ → t ρ Q →
    wpAny (model X.prog X.w) X.A (spliced (backTo pos (starEach es X.env))) (DAP X pins σ W H Q) X.xe s
def PSD (X : Cx) (st : Stmt) (t : DS) : Prop :=
  ∀ (pins : List (Addr × Obj)) (s : Shared) (σ : St) (H : Hp) (W : Own) (ρ : Ro) (E : DEnds), Inv X pins σ H s → Rel X W H σ ρ → t E ρ →
    wpAny (model X.prog X.w) X.A (exec st X.env) (SPD X pins W H E) X.xe s
def PSDs (X : Cx) (st : List Stmt) (t : DS) : Prop :=
  ∀ (pins : List (Addr × Obj)) (s : Shared) (σ : St) (H : Hp) (W : Own) (ρ : Ro) (E : DEnds), Inv X pins σ H s → Rel X W H σ ρ → t E ρ →
    wpAny (model X.prog X.w) X.A (execs st X.env) (SPD X pins W H E) X.xe s
def liftE (X : Cx) (t : DE) : TE := fun σ H Q => ∃ W ρ Qd, Rel X W H σ ρ ∧ t ρ Qd ∧ ∀ v H' d, Same H H' → Den X.K W.bad H' d v → Qd d → Q v H'
def liftS (X : Cx) (t : DS) : TS := fun D σ H => ∃ W ρ Ed, Rel X W H σ ρ ∧ t Ed ρ ∧
  (∀ W' σ' H' ρ', Fwd W H W' H' → Rel X W' H' σ' ρ' → Ed.nx ρ' → D.nx σ' H') ∧
  (∀ W' H' v d, Fwd W H W' H' → Den X.K W'.bad H' d v → Ed.rt d → D.rt v H') ∧
  (∀ W' σ' H' ρ', Fwd W H W' H' → Rel X W' H' σ' ρ' → Ed.bk ρ' → D.bk σ' H') ∧
  (∀ W' σ' H' ρ', Fwd W H W' H' → Rel X W' H' σ' ρ' → Ed.ct ρ' → D.ct σ' H')
section
variable {X : Cx}
theorem PED.pe {e : Expr} {t : DE} (h : PED X e t) : PE X e (liftE X t) := by
  intro pins s σ H Q I q
  obtain ⟨W, ρ, Qd, r, ht, k⟩ := q
  exact thn (h pins s σ H W ρ Qd I r ht) fun u s1 ⟨v, H', d, I1, rv, e1, hd, qd⟩ => ⟨v, H', I1, rv, k v H' d e1 hd qd⟩
theorem PSDs.ps {st : List Stmt} {t : DS} (h : PSDs X st t) : PSs X st (liftS X t) := by
  intro pins s σ H D I q
  obtain ⟨W, ρ, Ed, r, ht, k1, k2, k3, k4⟩ := q
  refine thn (h pins s σ H W ρ Ed I r ht) fun f s1 ⟨W', σ', H', I1, fw, q⟩ => ?_
  cases f with
  | next => obtain ⟨ρ', r', q'⟩ := q; exact ⟨σ', H', I1, k1 W' σ' H' ρ' fw r' q'⟩
  | brk => obtain ⟨ρ', r', q'⟩ := q; exact ⟨σ', H', I1, k3 W' σ' H' ρ' fw r' q'⟩
  | cont => obtain ⟨ρ', r', q'⟩ := q; exact ⟨σ', H', I1, k4 W' σ' H' ρ' fw r' q'⟩
  | ret u => obtain ⟨v, d, rv, hd, q'⟩ := q; exact ⟨v, σ', H', I1, rv, k2 W' H' v d fw hd q'⟩
theorem PED.of {e : Expr} {te : TE} {t : DE} (h : PE X e te) (k : ∀ σ H W ρ Q, Rel X W H σ ρ → t ρ Q → te σ H fun v H' => Same H H' ∧ ∃ d, Den X.K W.bad H' d v ∧ Q d) : PED X e t := by
  intro pins s σ H W ρ Q I r ht
  exact thn (h pins s σ H _ I (k σ H W ρ Q r ht)) fun u s1 ⟨v, H', I1, rv, e1, d, hd, q⟩ => ⟨v, H', d, I1, rv, e1, hd, q⟩
end
section
variable {X : Cx} {a b c : Expr} {ta tb : DE} {pos : Pos}
def dVar (i : Nat) : DE := fun ρ Q => match ρ[i]? with
  | some (some (.val d)) => Q d
  | _ => False
theorem dVar_ex {i : Nat} {ρ : Ro} {Q : D → Prop} (h : dVar i ρ Q) : ∃ d, ρ[i]? = some (some (.val d)) ∧ Q d := by
  unfold dVar at h
  split at h
  · rename_i d e; exact ⟨d, e, h⟩
  · exact h.elim
def dC (d : D) : DE := fun _ Q => Q d
theorem dv (i : Nat) {x : Str} {pos : Pos} (hN : X.N[i]? = some x := by rfl) (hv : Vis X.env.scope x := by first | exact Or.inl rfl | exact Or.inr (Or.inl rfl) | exact Or.inr (Or.inr rfl)) (hd : (x == ("__debug__" : Str)) = false := by decide)
    (hcd : (x == ("__classdict__" : Str)) = false := by decide) : PED X (.Name x pos) (dVar i) :=
  PED.of (pe_var hN hv hd hcd) fun σ H W ρ Q r ht => by
    obtain ⟨d, e, q⟩ := dVar_ex ht
    obtain ⟨v, e1, e2⟩ := r.val i d e
    exact ⟨v, e1, Same.refl H, d, e2, q⟩
theorem de_int {i j pos} : PED X (.Constant (.int i) j pos) (dC (.int i)) := PED.of pe_int fun _ H _ _ _ _ q => ⟨Same.refl H, _, Den.int i, q⟩
theorem de_bl {i j pos} : PED X (.Constant (.bool i) j pos) (dC (.bl i)) := PED.of pe_bl fun _ H _ _ _ _ q => ⟨Same.refl H, _, Den.bl i, q⟩
theorem de_non {j pos} : PED X (.Constant .none j pos) (dC .non) := PED.of pe_non fun _ H _ _ _ _ q => ⟨Same.refl H, _, Den.non, q⟩
theorem de_str {x j pos} : PED X (.Constant (.str x) j pos) (dC (.str x)) := PED.of pe_str fun _ H _ _ _ _ q => ⟨Same.refl H, _, Den.str x, q⟩
abbrev RD2 := D → D → (D → Prop) → Prop
def OpD (X : Cx) (f : Value → Value → Sem Value) (r : RD2) : Prop :=
  ∀ (pins : List (Addr × Obj)) (s : Shared) (σ : St) (H : Hp) (W : Own) (x y : D) (v u : V) (vv uu : Value) (Q : D → Prop), Inv X pins σ H s → (∀ t a, W.bad t a → ∃ o, H a = some o) → RelV v vv → RelV u uu → Den X.K W.bad H x v → Den X.K W.bad H y u → r x y Q →
    wpAny (model X.prog X.w) X.A (f vv uu) (DP X pins σ W H Q) X.xe s
def dOp (r : RD2) (ta tb : DE) : DE := fun ρ Q => ta ρ fun x => tb ρ fun y => r x y Q
theorem bind2 (ha : PED X a ta) (hb : PED X b tb) {pins : List (Addr × Obj)} {s : Shared} {σ : St} {H : Hp} {W : Own} {ρ : Ro} {R : D → D → Prop} (I : Inv X pins σ H s) (r : Rel X W H σ ρ) (h : ta ρ fun x => tb ρ fun y => R x y)
    {α : Type} {Q : α → Shared → Prop} {f : Value → Value → Sem α}
    (hf : ∀ vv uu s2 v u x y H2, Inv X pins σ H2 s2 → Same H H2 → RelV v vv → RelV u uu → Den X.K W.bad H2 x v → Den X.K W.bad H2 y u → R x y → wpAny (model X.prog X.w) X.A (f vv uu) Q X.xe s2) :
    wpAny (model X.prog X.w) X.A (eval a X.env) (fun v s₁ => wpAny (model X.prog X.w) X.A (eval b X.env) (fun u s₂ => wpAny (model X.prog X.w) X.A (f v u) Q X.xe s₂) X.xe s₁) X.xe s := by
  refine thn (ha pins s σ H W ρ _ I r h) fun vv s1 ⟨v, H1, x, I1, rv, e1, hx, q1⟩ => ?_
  refine thn (hb pins s1 σ H1 W ρ _ I1 (r.same e1) q1) fun uu s2 ⟨u, H2, y, I2, ru, e2, hy, q2⟩ => ?_
  exact hf vv uu s2 v u x y H2 I2 (e1.trans e2) rv ru (hx.same e2) hy q2
theorem DP.up {pins : List (Addr × Obj)} {σ : St} {W : Own} {H H1 : Hp} {Q : D → Prop} {u : Value} {s' : Shared} (e : Same H H1) (h : DP X pins σ W H1 Q u s') : DP X pins σ W H Q u s' := by
  obtain ⟨v, H', d, I, r, e1, hd, q⟩ := h
  exact ⟨v, H', d, I, r, e.trans e1, hd, q⟩
theorem de_op {op : Operator} {r : RD2} (ho : OpD X (binaryOp op) r) (ha : PED X a ta) (hb : PED X b tb) : PED X (.BinOp a op b pos) (dOp r ta tb) := by
  intro pins s σ H W ρ Q I rr h
  refine wpAny_BinOp (bind2 ha hb I rr h fun vv uu s2 v u x y H2 I2 e rv ru hx hy q => ?_)
  exact thn (ho pins s2 σ H2 W x y v u vv uu Q I2 (rr.same e).tracked rv ru hx hy q) fun _ _ z => z.up e
def ownQ : Option (Option Sl) → (List D → Prop) → Prop
  | some (some (.ob (.lst ds))), R => R ds
  | _, _ => False
theorem ownQ_ex {x : Option (Option Sl)} {R : List D → Prop} (h : ownQ x R) : ∃ ds, x = some (some (.own ds)) ∧ R ds := by
  unfold ownQ at h
  split at h
  · exact ⟨_, rfl, h⟩
  · exact h.elim
theorem ownQ_0 (ds : List D) (r : Ro) (R : List D → Prop) : ownQ (some (Sl.own ds) :: r)[0]? R = R ds := rfl
theorem ownQ_S (n : Nat) (x : Option Sl) (r : Ro) (R : List D → Prop) : ownQ (x :: r)[n + 1]? R = ownQ r[n]? R := rfl
def blQ : D → (Bool → Prop) → Prop
  | .bl k, Q => Q k
  | _, _ => False
theorem blQ_ex {x : D} {Q : Bool → Prop} (h : blQ x Q) : ∃ k, x = .bl k ∧ Q k := by
  cases x <;> first | exact False.elim h | exact ⟨_, rfl, h⟩
theorem blQ_b (k : Bool) (Q : Bool → Prop) : blQ (.bl k) Q = Q k := rfl
def dNeg (ta : DE) : DE := fun ρ Q => ta ρ fun x => ∃ i, x = .int i ∧ Q (.int (-i))
theorem OpD.of {f : Value → Value → Sem Value} {r : R2} {rd : RD2} (h : OpR X f r) (k : ∀ P H x y v u Q, Den X.K P H x v → Den X.K P H y u → rd x y Q → r v u H fun v' H' => Same H H' ∧ ∃ d', Den X.K P H' d' v' ∧ Q d') : OpD X f rd := by
  intro pins s σ H W x y v u vv uu Q I _ rv ru hx hy q
  exact thn (h pins s σ H v u vv uu _ I rv ru (k _ H x y v u Q hx hy q)) fun _ s2 ⟨w', H2, I2, r2, e2, d, hd, q2⟩ => ⟨w', H2, d, I2, r2, e2, hd, q2⟩
def rdI (C : Int → Int → Prop) (g : Int → Int → D) : RD2 := fun x y Q => match x, y with
  | .int i, .int j => C i j ∧ Q (g i j)
  | _, _ => False
def rdI0 (g : Int → Int → D) : RD2 := fun x y Q => match x, y with
  | .int i, .int j => Q (g i j)
  | _, _ => False
theorem rdI_ex {C : Int → Int → Prop} {g : Int → Int → D} {x y : D} {Q : D → Prop} (h : rdI C g x y Q) : ∃ i j, x = .int i ∧ y = .int j ∧ C i j ∧ Q (g i j) := by
  unfold rdI at h
  split at h
  · exact ⟨_, _, rfl, rfl, h⟩
  · exact h.elim
theorem rdI0_ex {g : Int → Int → D} {x y : D} {Q : D → Prop} (h : rdI0 g x y Q) : ∃ i j, x = .int i ∧ y = .int j ∧ Q (g i j) := by
  unfold rdI0 at h
  split at h
  · exact ⟨_, _, rfl, rfl, h⟩
  · exact h.elim
theorem OpD.ofI {f : Value → Value → Sem Value} {C : Int → Int → Prop} {g : Int → Int → Int} (h : OpR X f (rI C fun i j => .int (g i j))) : OpD X f (rdI C fun i j => .int (g i j)) :=
  OpD.of h fun P H x y v u Q hx hy z => by
    obtain ⟨i, j, e1, e2, hc, q⟩ := rdI_ex z
    subst e1 e2
    exact ⟨i, j, hx.int_, hy.int_, hc, Same.refl H, _, Den.int _, q⟩
theorem OpD.ofI0 {f : Value → Value → Sem Value} {g : Int → Int → Int} (h : OpR X f (rI0 fun i j => .int (g i j))) : OpD X f (rdI0 fun i j => .int (g i j)) :=
  OpD.of h fun P H x y v u Q hx hy z => by
    obtain ⟨i, j, e1, e2, q⟩ := rdI0_ex z
    subst e1 e2
    exact ⟨i, j, hx.int_, hy.int_, Same.refl H, _, Den.int _, q⟩
theorem OpD.ofB0 {f : Value → Value → Sem Value} {g : Int → Int → Bool} (h : OpR X f (rI0 fun i j => .bl (g i j))) : OpD X f (rdI0 fun i j => .bl (g i j)) :=
  OpD.of h fun P H x y v u Q hx hy z => by
    obtain ⟨i, j, e1, e2, q⟩ := rdI0_ex z
    subst e1 e2
    exact ⟨i, j, hx.int_, hy.int_, Same.refl H, _, Den.bl _, q⟩
theorem od_add : OpD X (binaryOp .Add) (rdI0 fun i j => .int (i + j)) := OpD.ofI0 op_add
theorem od_sub : OpD X (binaryOp .Sub) (rdI0 fun i j => .int (i - j)) := OpD.ofI0 op_sub
theorem od_lt : OpD X (compareOp .Lt) (rdI0 fun i j => .bl (decide (i < j))) := OpD.ofB0 op_lt
theorem od_gt : OpD X (compareOp .Gt) (rdI0 fun i j => .bl (decide (j < i))) := OpD.ofB0 op_gt
def Bd (n : Nat) (x : Int) : Prop := x.natAbs < 2 ^ n
theorem Bd.mono {m n : Nat} {x : Int} (h : Bd m x) (l : m ≤ n) : Bd n x := Nat.lt_of_lt_of_le h (Nat.pow_le_pow_right (by decide) l)
theorem Bd.sub {m : Nat} {x y : Int} (h : Bd m x) (h' : Bd m y) : Bd (m + 1) (x - y) := by
  unfold Bd at *
  rw [Nat.pow_succ]
  have := Int.natAbs_sub_le x y
  omega
theorem Bd.bits {n : Nat} {x : Int} (h : Bd n x) : Builtin.Int.intBits x ≤ n := by
  unfold Bd at h
  unfold Builtin.Int.intBits
  split
  · exact Nat.zero_le _
  · rename_i hz
    have hp : x.natAbs ≠ 0 := by
      intro e
      apply hz
      have : x = 0 := Int.natAbs_eq_zero.mp e
      simp [this]
    have := (Nat.log2_lt hp).mpr h
    omega
def CM (i j : Int) : Prop := Bd 64 i ∨ Bd 64 j ∨ (Bd 100000 i ∧ Bd 100000 j)
theorem CM.ok {i j : Int} (h : CM i j) : IntMulOk i j := by
  rcases h with h | h | ⟨h, h'⟩
  · exact .of_left h.bits
  · exact .of_right h.bits
  · exact .of_bits (Nat.le_trans h.bits (by decide)) (Nat.le_trans h'.bits (by decide))
theorem op_mulM : OpR X (binaryOp .Mult) (rI CM fun i j => .int (i * j)) := opI fun _ _ _ _ _ _ _ hc q => mul_int q hc.ok
theorem od_mul : OpD X (binaryOp .Mult) (rdI CM fun i j => .int (i * j)) := OpD.ofI op_mulM
def CD (_ : Int) (j : Int) : Prop := j ≠ 0 ∧ Bd 8000 j
theorem CD.noPy {i j : Int} (h : CD i j) : Builtin.divisionGoesByPylong i j = false := by
  refine PyProof.noPylong_of_log2 ?_
  have hz : j.natAbs ≠ 0 := fun e => h.1 (Int.natAbs_eq_zero.mp e)
  have := (Nat.log2_lt hz).mpr h.2
  omega
theorem op_fdivM : OpR X (binaryOp .FloorDiv) (rI CD fun i j => .int (i.fdiv j)) := opI fun _ _ _ _ _ _ _ hc q => floordiv_int hc.1 q (.inl hc.noPy)
theorem od_fdiv : OpD X (binaryOp .FloorDiv) (rdI CD fun i j => .int (i.fdiv j)) := OpD.ofI op_fdivM
theorem od_mod : OpD X (binaryOp .Mod) (rdI (fun _ j => j ≠ 0) fun i j => .int (i.fmod j)) := OpD.ofI op_modN
theorem od_pow : OpD X (binaryOp .Pow) (rdI CPow fun i j => .int (i ^ j.toNat)) := OpD.ofI op_pow
def dB (t : DE) : DT := fun ρ Q => t ρ fun x => blQ x Q
theorem de_cmp {op : CmpOp} {r : RD2} (ho : OpD X (compareOp op) r) (ha : PED X a ta) (hb : PED X b tb) (hm : behindInMarks op b = false := by first | exact nobehind _ (by decide) (by decide) | rfl) : PED X (.Compare a [op] [b] pos) (dOp r ta tb) := by
  intro pins s σ H W ρ Q I rr h
  refine wpAny_Compare1 (bind2 ha hb I rr h fun vv uu s2 v u x y H2 I2 e rv ru hx hy q => ?_) hm
  exact thn (ho pins s2 σ H2 W x y v u vv uu Q I2 (rr.same e).tracked rv ru hx hy q) fun _ _ z => z.up e
theorem dt_cmp {op : CmpOp} {r : RD2} (ho : OpD X (compareOp op) r) (ha : PED X a ta) (hb : PED X b tb) (hm : behindInMarks op b = false := by first | exact nobehind _ (by decide) (by decide) | rfl) : PTD X (.Compare a [op] [b] pos) (dB (dOp r ta tb)) := by
  intro pins s σ H W ρ Q I rr h
  refine wpAny_isTrue_Compare1 (thn (ha pins s σ H W ρ _ I rr h) fun vv s1 ⟨v, H1, x, I1, rv, e1, hx, q1⟩ => thn (hb pins s1 σ H1 W ρ _ I1 (rr.same e1) q1) fun uu s2 ⟨u, H2, y, I2, ru, e2, hy, q2⟩ =>
    thn (ho pins s2 σ H2 W x y v u vv uu _ I2 ((rr.same e1).same e2).tracked rv ru (hx.same e2) hy q2) fun c s3 ⟨z, H3, d, I3, r3, e3, hd, q3⟩ => ?_) hm
  obtain ⟨k, ek, q3⟩ := blQ_ex q3
  subst ek
  have hz := hd.bl_
  subst hz
  cases r3
  exact wpAny_truthy_bool ⟨H3, I3, e1.trans (e2.trans e3), q3⟩
theorem dt_val {e : Expr} {t : DE} (h : PED X e t) (he : ∀ whole, isTrue e X.env whole = (do let v ← whole; standAt e.pos; holding [v] (truthy v)) := by intro _; rfl) : PTD X e (dB t) := by
  intro pins s σ H W ρ Q I rr hw
  refine isTrue_plain (thn (h pins s σ H W ρ _ I rr hw) fun vv s1 ⟨v, H1, x, I1, rv, e1, hx, q⟩ => ?_) (he _)
  obtain ⟨k, ek, q⟩ := blQ_ex q
  subst ek
  have hz := hx.bl_
  subst hz
  cases rv
  exact wpAny_truthy_bool ⟨H1, I1, e1, q⟩
variable {tA tB' : DT} {rest : List Expr}
def dAnd (t u : DT) : DT := fun ρ Q => t ρ fun c => if c = true then u ρ Q else Q false
def dOr (t u : DT) : DT := fun ρ Q => t ρ fun c => if c = true then Q true else u ρ Q
def dNot (t : DT) : DT := fun ρ Q => t ρ fun c => Q (!c)
theorem dw_or1 (ha : PTD X a tA) : PWD X (.BoolOp .Or [a] pos) tA := by
  intro wh pins s σ H W ρ Q I rr h
  refine isTrue_or (thn (ha pins s σ H W ρ Q I rr h) fun c s1 e => ?_)
  cases c with
  | false => exact isTrue_or_nil e
  | true => exact e
theorem dw_or (ha : PTD X a tA) (hb : PWD X (.BoolOp .Or (b :: rest) pos) tB') : PWD X (.BoolOp .Or (a :: b :: rest) pos) (dOr tA tB') := by
  intro wh pins s σ H W ρ Q I rr h
  refine isTrue_or (thn (ha pins s σ H W ρ _ I rr h) fun c s1 ⟨H1, I1, e1, q1⟩ => ?_)
  cases c with
  | true => exact ⟨H1, I1, e1, q1⟩
  | false => exact thn (hb wh pins s1 σ H1 W ρ Q I1 (rr.same e1) q1) fun _ _ ⟨H2, I2, e2, q2⟩ => ⟨H2, I2, e1.trans e2, q2⟩
theorem dt_not (ha : PTD X a tA) : PTD X (.UnaryOp .Not a pos) (dNot tA) := by
  intro pins s σ H W ρ Q I rr h
  exact isTrue_not (thn (ha pins s σ H W ρ (fun c => Q (!c)) I rr h) fun _ _ ⟨a, b, c, d⟩ => ⟨a, b, c, d⟩)
def dAndV (ta tb : DE) : DE := fun ρ Q => ta ρ fun x => blQ x fun c => if c = true then tb ρ Q else Q (.bl false)
def dOrV (ta tb : DE) : DE := fun ρ Q => ta ρ fun x => blQ x fun c => if c = true then Q (.bl true) else tb ρ Q
def dNotV (ta : DE) : DE := fun ρ Q => ta ρ fun x => blQ x fun c => Q (.bl (!c))
theorem de_one {op} {t : DE} (h : PED X a t) : PED X (.BoolOp op [a] pos) t := fun pins s σ H W ρ Q I rr hw => BoolOp_one (h pins s σ H W ρ Q I rr hw)
theorem de_and (ha : PED X a ta) (hb : PED X (.BoolOp .And (b :: rest) pos) tb) : PED X (.BoolOp .And (a :: b :: rest) pos) (dAndV ta tb) := by
  intro pins s σ H W ρ Q I rr h
  refine BoolOp_and (thn (ha pins s σ H W ρ _ I rr h) fun vv s1 ⟨v, H1, x, I1, rv, e1, hx, q1⟩ => ?_)
  obtain ⟨c, ec, q1⟩ := blQ_ex q1
  subst ec
  have hz := hx.bl_
  subst hz
  cases rv
  refine wpAny_truthy_bool ?_
  cases c with
  | true => exact thn (hb pins s1 σ H1 W ρ Q I1 (rr.same e1) q1) fun _ _ z => z.up e1
  | false => exact ⟨.bl false, H1, _, I1, rfl, e1, Den.bl _, q1⟩
theorem de_not (ha : PED X a ta) : PED X (.UnaryOp .Not a pos) (dNotV ta) := by
  intro pins s σ H W ρ Q I rr h
  refine UnaryOp_ (thn (ha pins s σ H W ρ _ I rr h) fun vv s1 ⟨v, H1, x, I1, rv, e1, hx, q1⟩ => ?_)
  obtain ⟨c, ec, q1⟩ := blQ_ex q1
  subst ec
  have hz := hx.bl_
  subst hz
  cases rv
  exact not_of (wpAny_truthy_bool ⟨.bl (!c), H1, _, I1, rfl, e1, Den.bl _, q1⟩)
def dIf (t : DT) (ta tb : DE) : DE := fun ρ Q => t ρ fun c => if c = true then ta ρ Q else tb ρ Q
theorem de_ifExp (hc : PTD X c tA) (ha : PED X a ta) (hb : PED X b tb) : PED X (.IfExp c a b pos) (dIf tA ta tb) := by
  intro pins s σ H W ρ Q I rr h
  refine wpAny_IfExp (thn (hc pins s σ H W ρ _ I rr h) fun d s1 ⟨H1, I1, e1, q1⟩ => ?_)
  cases d with
  | true => exact thn (ha pins s1 σ H1 W ρ Q I1 (rr.same e1) q1) fun _ _ z => z.up e1
  | false => exact thn (hb pins s1 σ H1 W ρ Q I1 (rr.same e1) q1) fun _ _ z => z.up e1
def ixQ (ds : List D) : Int → (D → Prop) → Prop
  | .ofNat n, Q => match ds[n]? with
    | some d => Q d
    | none => False
  | i, Q => ∃ d, atI ds i = some d ∧ Q d
theorem ixQ_eq (ds : List D) (i : Int) (Q : D → Prop) : ixQ ds i Q = ∃ d, atI ds i = some d ∧ Q d := by
  cases i with
  | ofNat n =>
    show (match ds[n]? with
      | some d => Q d
      | none => False) = _
    by_cases h : n < ds.length
    · have e : atI ds (Int.ofNat n) = some ds[n] := atI_nat (by simp [h])
      rw [e, List.getElem?_eq_getElem h]
      exact propext ⟨fun q => ⟨_, rfl, q⟩, fun ⟨_, q, z⟩ => by cases q; exact z⟩
    · rw [List.getElem?_eq_none (Nat.not_lt.mp h)]
      refine propext ⟨False.elim, fun ⟨d, q, z⟩ => ?_⟩
      replace q : atI ds (n : Int) = some d := q
      unfold atI ixN at q
      rw [if_pos (Int.natCast_nonneg n), if_neg (by omega)] at q
      cases q
  | negSucc n => rfl
def rdIx : RD2 := fun x y Q => match x, y with
  | .tup ds, .int i => ixQ ds i Q
  | .lst _ ds, .int i => ixQ ds i Q
  | _, _ => False
theorem rdIx_ex {x y : D} {Q : D → Prop} (h : rdIx x y Q) : ∃ ds i d, (x = .tup ds ∨ ∃ t, x = .lst t ds) ∧ y = .int i ∧ atI ds i = some d ∧ Q d := by
  unfold rdIx at h
  split at h
  · rw [ixQ_eq] at h; obtain ⟨d, h⟩ := h; exact ⟨_, _, d, .inl rfl, rfl, h⟩
  · rw [ixQ_eq] at h; obtain ⟨d, h⟩ := h; exact ⟨_, _, d, .inr ⟨_, rfl⟩, rfl, h⟩
  · exact h.elim
theorem atI_dens {K : PySem.W.Frag} {P : Bool → Addr → Prop} {H : Hp} {ds : List D} {vs : List V} {i : Int} {d : D} (h : Dens K P H ds vs) (e : atI ds i = some d) : ∃ v, atI vs i = some v ∧ Den K P H d v := by
  unfold atI at e ⊢
  rw [h.len]
  cases q : ixN ds.length i with
  | none => rw [q] at e; cases e
  | some j =>
    rw [q] at e
    exact h.get e
theorem de_ix (ha : PED X a ta) (hb : PED X b tb) (hs : PlainIx b := by intro _ _; rfl) : PED X (.Subscript a b pos) (dOp rdIx ta tb) := by
  intro pins s σ H W ρ Q I rr h
  refine Subscript_ (bind2 ha hb I rr h fun vv uu s2 v u x y H2 I2 e rv ru hx hy q => ?_)
  replace q := rdIx_ex q
  obtain ⟨ds, i, d, ex, ey, ei, q⟩ := q
  subst ey
  have hu := hy.int_
  subst hu
  have fin : ∀ (v' : V), Den X.K W.bad H2 d v' → Same H2 H2 ∧ ∃ d', Den X.K W.bad H2 d' v' ∧ Q d' := fun v' hd => ⟨Same.refl _, d, hd, q⟩
  rcases ex with ex | ⟨tg, ex⟩
  · subst ex
    obtain ⟨p, vs, ev, hq, hd⟩ := hx.tup_
    subst ev
    obtain ⟨v', e1, e2⟩ := atI_dens hd ei
    exact thn (ix_tup a b pins s2 σ H2 _ _ vv uu (fun v' H' => Same H2 H' ∧ ∃ d', Den X.K W.bad H' d' v' ∧ Q d') I2 rv ru ⟨p, vs, i, v', rfl, rfl, hq.w, e1, fin v' e2⟩ (hs _ _))
      fun _ s3 ⟨w', H3, I3, r3, e3, d', hd', q'⟩ => ⟨w', H3, d', I3, r3, e.trans e3, hd', q'⟩
  · subst ex
    obtain ⟨p, vs, ev, _, hq, hd⟩ := hx.lst_
    subst ev
    obtain ⟨v', e1, e2⟩ := atI_dens hd ei
    exact thn (ix_list a b pins s2 σ H2 _ _ vv uu (fun v' H' => Same H2 H' ∧ ∃ d', Den X.K W.bad H' d' v' ∧ Q d') I2 rv ru ⟨p, vs, i, v', rfl, rfl, hq, e1, fin v' e2⟩ (hs _ _))
      fun _ s3 ⟨w', H3, I3, r3, e3, d', hd', q'⟩ => ⟨w', H3, d', I3, r3, e.trans e3, hd', q'⟩
end
section
variable {X : Cx} {e : Expr} {es : List Expr} {te : DE} {t : DA} {pos : Pos}
def dNil : DA := fun _ Q => Q []
def dCons (ta : DE) (tr : DA) : DA := fun ρ Q => ta ρ fun x => tr ρ fun xs => Q (x :: xs)
theorem da_nil : PAD X [] dNil := fun _ _ _ _ H W ρ Q I _ h => Calls.spliced_nil ⟨[], H, [], I, .nil, Same.refl H, Dens.nil, h⟩
theorem da_cons (ha : PED X e te) (hr : PAD X es t) (hs : starEach (e :: es) X.env = (false, eval e X.env) :: starEach es X.env := by rfl) : PAD X (e :: es) (dCons te t) := by
  intro pos pins s σ H W ρ Q I rr h
  rw [hs]
  show wpAny _ _ (spliced ((false, eval e X.env) :: backTo pos (starEach es X.env))) _ _ s
  refine Calls.spliced_cons (thn (ha pins s σ H W ρ _ I rr h) fun u s1 ⟨v, H1, x, I1, r1, e1, hx, q1⟩ => ?_)
  exact thn (hr pos pins s1 σ H1 W ρ _ I1 (rr.same e1) q1) fun us s2 ⟨vs, H2, xs, I2, r2, e2, hxs, q2⟩ => ⟨v :: vs, H2, x :: xs, I2, .cons r1 r2, e1.trans e2, Dens.cons (hx.same e2) hxs, q2⟩
theorem Same.upd {H : Hp} {p : Addr} {o : HO} (h : H p = none) (n : NT o := by exact True.intro) : Same H (upd H p o) := ⟨fun b u e _ => by rw [upd_ne (ne_of_none e h)]; exact e, fun b ps e => ⟨#[], by rw [upd_ne (ne_of_none e h), e]; simp⟩, TabOk.upd n (.inl h)⟩
def dTup (t : DA) : DE := fun ρ Q => t ρ fun ds => ds.length ≤ sizeLine ∧ Q (.tup ds)
def dLst (t : DA) : DE := fun ρ Q => t ρ fun ds => ds.length ≤ sizeLine ∧ Q (.lst true ds)
theorem de_tup {x1} (h : PAD X es t) : PED X (.Tuple es x1 pos) (dTup t) := by
  intro pins s σ H W ρ Q I rr hq
  refine wpAny_Tuple_spliced (thn (h pos pins s σ H W ρ _ I rr hq) fun us s1 ⟨vs, H1, ds, I1, r, e1, hd, z, q⟩ => ?_)
  rw [← hd.len] at z
  refine ⟨by rw [← r.length]; exact z, ?_⟩
  have hf : H1 s1.heap.objs.size = none := I1.hok.fresh (Nat.le_refl _)
  refine ⟨.ref s1.heap.objs.size, L2.upd H1 s1.heap.objs.size (.tup vs), _, I1.laid (t' := s1.toks) (fun b u e => Heap.get?_push_of_some _ e) (Nat.le_refl _) ⟨z, us, r, ⟨_, Heap.get?_push_size _ rfl, rfl, _, rfl⟩⟩, rfl, e1.trans (Same.upd hf), Den.tup (SqT.of upd_same) (hd.same (Same.upd hf)), q⟩
theorem Inv.kfresh {pins : List (Addr × Obj)} {σ : St} {H : Hp} {s : Shared} (I : Inv X pins σ H s) : X.K.lookup s.heap.objs.size = none := by
  cases e : X.K.lookup s.heap.objs.size with
  | none => rfl
  | some o => exact absurd (Heap.lt_size (I.kIn _ _ e)) (Nat.lt_irrefl _)
theorem de_lst (h : PAD X es t) : PED X (.List es pos) (dLst t) := by
  intro pins s σ H W ρ Q I rr hq
  refine wpAny_List_spliced (thn (h pos pins s σ H W ρ _ I rr hq) fun us s1 ⟨vs, H1, ds, I1, r, e1, hd, z, q⟩ => ?_)
  rw [← hd.len] at z
  refine ⟨by rw [← r.length]; exact z, ?_⟩
  have hf : H1 s1.heap.objs.size = none := I1.hok.fresh (Nat.le_refl _)
  exact ⟨.ref s1.heap.objs.size, L2.upd H1 s1.heap.objs.size (.lst vs), _, I1.laid (t' := s1.toks) (fun b u e => Heap.get?_push_of_some _ e) (Nat.le_refl _) ⟨z, us, 0, r, Heap.get?_push_size _ rfl⟩, rfl, e1.trans (Same.upd hf),
    Den.lst ((rr.same e1).fresh hf) (.new upd_same (Inv.kfresh I1)) (hd.same (Same.upd hf)), q⟩
end
abbrev DSp := List D → (D → Prop) → (Value → Prop) → Prop
def spOf (K : PySem.W.Frag) (sp : DSp) : Sp := fun vs H Q E => ∃ (P : Addr → Prop) (ds : List D) (Qd : D → Prop) (Ed : Value → Prop), TabK K H ∧ (∀ a, P a → ∃ o, H a = some o) ∧ Dens K (fun t a => t = true ∨ P a) H ds vs ∧ sp ds Qd Ed ∧
  (∀ d v H', Same H H' → Den K (fun t a => P a ∨ (t = true ∧ ∃ o, H a = some o)) H' d v → Qd d → Q v H') ∧ ∀ c a H', Same H H' → Ed c → E c a H'
mutual
def untag : D → D
  | .tup ds => .tup (untags ds)
  | .lst _ ds => .lst false (untags ds)
  | .obj C ns ds => .obj C ns (untags ds)
  | .dic => .dic
  | .dik ks ds => .dik ks (untags ds)
  | .non => .non | .bl b => .bl b | .int i => .int i | .str x => .str x | .exc c => .exc c
def untags : List D → List D
  | [] => []
  | d :: ds => untag d :: untags ds
end
section
variable {K : PySem.W.Frag} {P : Bool → Addr → Prop} {P' : Addr → Prop} {H : Hp}
mutual
theorem Den.untag (h : ∀ t a, P' a → P t a) : ∀ (d : D) (v : V), Den K P H d v → Den K (fun t a => t = true ∨ P' a) H (PD.untag d) v
  | .non, _, q => by simpa only [Den, PD.untag] using q
  | .bl _, _, q => by simpa only [Den, PD.untag] using q
  | .int _, _, q => by simpa only [Den, PD.untag] using q
  | .str _, _, q => by simpa only [Den, PD.untag] using q
  | .exc _, _, q => by simpa only [Den, PD.untag] using q
  | .tup ds, _, q => by
    simp only [Den, PD.untag] at q ⊢
    obtain ⟨a, vs, e, q1, q2⟩ := q
    exact ⟨a, vs, e, q1, Dens.untag h ds vs q2⟩
  | .obj C ns ds, _, q => by
    simp only [Den, PD.untag] at q ⊢
    obtain ⟨a, dx, vs, e, q1, l, k, q2⟩ := q
    exact ⟨a, dx, vs, e, q1, l, k, Dens.untag h ds vs q2⟩
  | .dic, _, q => by simpa only [Den, PD.untag] using q
  | .dik ks ds, _, q => by
    simp only [Den, PD.untag] at q ⊢
    obtain ⟨a, o, kws, vs, e, q1, l, k, q2⟩ := q
    exact ⟨a, o, kws, vs, e, q1, l, k, Dens.untag h ds vs q2⟩
  | .lst t ds, _, q => by
    simp only [Den, PD.untag] at q ⊢
    obtain ⟨a, vs, e, p, q1, q2⟩ := q
    exact ⟨a, vs, e, fun z => z.elim (fun z => by cases z) fun z => p (h t a z), .any q1.1, Dens.untag h ds vs q2⟩
theorem Dens.untag (h : ∀ t a, P' a → P t a) : ∀ (ds : List D) (vs : List V), Dens K P H ds vs → Dens K (fun t a => t = true ∨ P' a) H (PD.untags ds) vs
  | [], _, q => by simpa only [Dens, PD.untags] using q
  | d :: ds, _, q => by
    simp only [Dens, PD.untags] at q ⊢
    obtain ⟨v, r, e, h1, h2⟩ := q
    exact ⟨v, r, e, Den.untag h d v h1, Dens.untag h ds r h2⟩
end
end
theorem Den.back {K : PySem.W.Frag} {W : Own} {H H' : Hp} {d : D} {v : V} (tr : ∀ t a, W.bad t a → ∃ o, H a = some o) (h : Den K (fun t a => W.bad false a ∨ (t = true ∧ ∃ o, H a = some o)) H' d v) : Den K W.bad H' d v :=
  h.fewer fun t a z => by
    cases t with
    | false => exact .inl z
    | true => exact .inr ⟨rfl, tr true a z⟩
section
variable {X : Cx} {CX : CXT} {k : Nat} {f : Addr} {fd : FuncData} {ps : List Str} {sp : DSp} {x : Str} {p pos : Pos} {e : Expr} {es : List Expr} {t : DA}
def dCall (sp : DSp) (dds : List D) (t : DA) : DE := fun ρ Q => t ρ fun ds => sp (untags ds ++ dds) Q fun _ => False
def dval : D → V
  | .non => .non | .bl b => .bl b | .int i => .int i | .str x => .str x | _ => .non
def scalD : D → Prop
  | .tup _ => False | .lst _ _ => False | .exc _ => False | .obj _ _ _ => False | .dic => False | .dik _ _ => False | _ => True
theorem Dens.scal {K : PySem.W.Frag} {P : Bool → Addr → Prop} {H : Hp} : ∀ {dds : List D}, (∀ d ∈ dds, scalD d) → Dens K P H dds (dds.map dval)
  | [], _ => Dens.nil
  | d :: r, h => by
    refine Dens.cons ?_ (Dens.scal fun x hx => h x (List.mem_cons_of_mem _ hx))
    have := h d List.mem_cons_self
    cases d with
    | non => exact Den.non
    | bl b => exact Den.bl b
    | int i => exact Den.int i
    | str x => exact Den.str x
    | tup _ => exact this.elim
    | lst _ _ => exact this.elim
    | exc _ => exact this.elim
    | obj _ _ _ => exact this.elim
    | dic => exact this.elim
    | dik _ _ => exact this.elim
theorem run_d {dds : List D} {dsv : List Value} (F : FnOk X.prog X.w X.K X.mg X.base CX k f fd ps (spOf X.K sp)) (hr : Room k X.A) (hb : Binds X.K fd ps dsv) (hd : Vals (dds.map dval) dsv) (hs : ∀ d ∈ dds, scalD d) (hx : Passes CX X E0)
    {pins : List (Addr × Obj)} {σ : St} {H : Hp} {s : Shared} {W : Own} {ρ : Ro} {us : List Value} {vs : List V} {ds : List D} {Q : D → Prop} (I : Inv X pins σ H s) (rr : Rel X W H σ ρ) (r : Vals vs us) (hds : Dens X.K W.bad H ds vs)
    (q : sp (untags ds ++ dds) Q fun _ => False) : wpAny (model X.prog X.w) X.A (call (.ref f) us) (DP X pins σ W H Q) X.xe s := by
  refine thn (run_fn (Q := fun v H' => Same H H' ∧ ∃ d, Den X.K W.bad H' d v ∧ Q d) F hr hb hd hx I r ⟨W.bad false, untags ds ++ dds, Q, fun _ => False, rr.tab, rr.tracked false, (Dens.untag (fun _ _ => Own.bad_up) ds vs hds).append (Dens.scal hs), q, fun d v H' e h1 h2 => ⟨e, d, Den.back rr.tracked h1, h2⟩, fun _ _ _ _ z => z.elim⟩)
    fun u s2 ⟨v, H2, I2, r2, e2, d, h1, h2⟩ => ⟨v, H2, d, I2, r2, e2, h1, h2⟩
theorem de_callD {dds : List D} {dsv : List Value} (F : FnOk X.prog X.w X.K X.mg X.base CX k f fd ps (spOf X.K sp)) (hr : Room k X.A) (hg : Gl X x) (hm : X.mg x = some (.ref f)) (hk : PySem.W.keepIn X.K (.ref f) = true) (hb : Binds X.K fd ps dsv) (hd : Vals (dds.map dval) dsv) (hs : ∀ d ∈ dds, scalD d) (hx : Passes CX X E0)
    (ha : PAD X (e :: es) t) (hdb : (x == ("__debug__" : Str)) = false := by decide) (he : starEach (e :: es) X.env = (false, eval e X.env) :: starEach es X.env := by rfl) (hpl : (backTo pos (starEach es X.env)).any (·.1) = false := by rfl) :
    PED X (.Call (.Name x p) (e :: es) [] pos) (dCall sp dds t) := by
  intro pins s σ H W ρ Q I rr h
  refine wpAny_Call_Name_kw (ld_glob I hg hm ?_ hdb)
  refine PySem.W.callWith_K (h₀ := X.base) I.ok.mod.kin hk (thn (ha pos pins s σ H W ρ _ I rr h) fun us s1 ⟨vs, H1, ds, I1, r, e1, hds, q⟩ => ⟨I1.kIn, ?_⟩) he hpl
  exact thn (run_d F hr hb hd hs hx I1 (rr.same e1) r hds q) fun _ _ z => z.up e1
def dCB (r : List D → (D → Prop) → Prop) (t : DA) : DE := fun ρ Q => t ρ fun ds => r ds Q
def CallD (X : Cx) (f : Value) (r : List D → (D → Prop) → Prop) : Prop :=
  ∀ (pins : List (Addr × Obj)) (s : Shared) (σ : St) (H : Hp) (W : Own) (ds : List D) (vs : List V) (us : List Value) (Q : D → Prop), Inv X pins σ H s → (∀ t a, W.bad t a → ∃ o, H a = some o) → Vals vs us → Dens X.K W.bad H ds vs → r ds Q →
    wpAny (model X.prog X.w) X.A (call f us) (DP X pins σ W H Q) X.xe s
theorem CallD.of {f : Value} {r : List V → Hp → VK → Prop} {rd : List D → (D → Prop) → Prop} (h : CallR X f r) (k : ∀ P H ds vs Q, (∀ t a, P t a → ∃ o, H a = some o) → Dens X.K P H ds vs → rd ds Q → r vs H fun v' H' => Same H H' ∧ ∃ d', Den X.K P H' d' v' ∧ Q d') : CallD X f rd := by
  intro pins s σ H W ds vs us Q I tr r hd q
  exact thn (h pins s σ H vs us _ I r (k _ H ds vs Q tr hd q)) fun _ s2 ⟨w', H2, I2, r2, e2, d, hd, q2⟩ => ⟨w', H2, d, I2, r2, e2, hd, q2⟩
variable {id T : String} {r : List D → (D → Prop) → Prop}
theorem de_callB (hc : CallD X (.builtin id) r) (hg : Gl X x) (hm : X.mg x = none) (hv : bootBuiltins x = some (.builtin id)) (ha : PAD X (e :: es) t) (hn : x ≠ "__name__" := by decide) (hdb : (x == ("__debug__" : Str)) = false := by decide)
    (hst : starEach (e :: es) X.env = (false, eval e X.env) :: starEach es X.env := by rfl) (hpl : (backTo pos (starEach es X.env)).any (·.1) = false := by rfl) :
    PED X (.Call (.Name x p) (e :: es) [] pos) (dCB r t) := by
  intro pins s σ H W ρ Q I rr h
  refine wpAny_Call_Name_kw (ld_blt I hg hm hv ?_ hn hdb)
  exact PyProof.Rows.callWith_builtin1 (thn (ha pos pins s σ H W ρ _ I rr h) fun us s1 ⟨vs, H1, ds, I1, rv, e1, hd, q⟩ => thn (hc pins s1 σ H1 W ds vs us Q I1 (rr.same e1).tracked rv hd q) fun _ _ z => z.up e1) hst hpl
theorem de_callTy (hc : CallD X (.type T) r) (hg : Gl X x) (hm : X.mg x = none) (hv : bootBuiltins x = some (.type T)) (ha : PAD X (e :: es) t) (hn : x ≠ "__name__" := by decide) (hdb : (x == ("__debug__" : Str)) = false := by decide)
    (hst : starEach (e :: es) X.env = (false, eval e X.env) :: starEach es X.env := by rfl) (hpl : (backTo pos (starEach es X.env)).any (·.1) = false := by rfl) :
    PED X (.Call (.Name x p) (e :: es) [] pos) (dCB r t) := by
  intro pins s σ H W ρ Q I rr h
  refine wpAny_Call_Name_kw (ld_blt I hg hm hv ?_ hn hdb)
  exact PyProof.Rows.callWith_type1 (thn (ha pos pins s σ H W ρ _ I rr h) fun us s1 ⟨vs, H1, ds, I1, rv, e1, hd, q⟩ => thn (hc pins s1 σ H1 W ds vs us Q I1 (rr.same e1).tracked rv hd q) fun _ _ z => z.up e1) hst hpl
end
mutual
def pyD : D → PyData
  | .non => .none
  | .bl b => .bool b
  | .int i => .int i
  | .str x => .str x
  | .tup ds => .tuple (pyDs ds)
  | .lst _ ds => .list (pyDs ds)
  | .exc _ => .none
  | .obj _ _ _ => .none
  | .dik _ _ => .none
  | .dic => .none
def pyDs : List D → List PyData
  | [] => []
  | d :: ds => pyD d :: pyDs ds
end
mutual
def plD : D → Bool
  | .tup ds => plDs ds
  | .lst _ ds => plDs ds
  | .exc _ => false
  | .obj _ _ _ => false
  | .dik _ _ => false
  | .dic => false
  | _ => true
def plDs : List D → Bool
  | [] => true
  | d :: ds => plD d && plDs ds
end
def eqD (x y : D) : Bool := PyData.eqv (pyD x) (pyD y)
def okD (x : D) : Prop := plD x = true ∧ SeqAt.shaped (pyD x) = true
section
variable {X : Cx} {pins : List (Addr × Obj)} {σ : St} {H : Hp} {s : Shared} {P : Bool → Addr → Prop}
mutual
theorem den_reads (I : Inv X pins σ H s) : ∀ (d : D) (v : V) (u : Value), Den X.K P H d v → RelV v u → plD d = true → ∃ as, Reads s.heap u (pyD d) as
  | .non, _, _, h, r, _ => by have e := h.non_; subst e; cases r; rw [pyD]; exact ⟨_, .none⟩
  | .bl b, _, _, h, r, _ => by have e := h.bl_; subst e; cases r; rw [pyD]; exact ⟨_, .bool b⟩
  | .int i, _, _, h, r, _ => by have e := h.int_; subst e; obtain ⟨t, rfl⟩ := r; rw [pyD]; exact ⟨_, .int i t⟩
  | .str x, _, _, h, r, _ => by have e := h.str_; subst e; obtain ⟨t, rfl⟩ := r; rw [pyD]; exact ⟨_, .str x t⟩
  | .tup ds, _, _, h, r, pl => by
    rw [plD] at pl
    obtain ⟨a, vs, e, hq, hd⟩ := h.tup_
    subst e
    cases r
    obtain ⟨its, rv, ⟨o, h1, h2, n, h3⟩, _⟩ := I.tuple hq.w
    obtain ⟨as, q⟩ := dens_reads I ds vs its hd rv pl
    rw [pyD]
    exact ⟨as, reads_tuple_at h1 h2 h3 (by simpa using q)⟩
  | .lst _ ds, _, _, h, r, pl => by
    rw [plD] at pl
    obtain ⟨a, vs, e, _, hq, hd⟩ := h.lst_
    subst e
    cases r
    obtain ⟨its, rv, ⟨o, n, h1, h2, _, h3⟩, _⟩ := I.list hq
    obtain ⟨as, q⟩ := dens_reads I ds vs its hd rv pl
    rw [pyD]
    exact ⟨_, reads_list_at h1 h2 h3 (by simpa using q)⟩
  | .exc _, _, _, _, _, pl => by rw [plD] at pl; cases pl
  | .obj _ _ _, _, _, _, _, pl => by rw [plD] at pl; cases pl
  | .dik _ _, _, _, _, _, pl => by rw [plD] at pl; cases pl
  | .dic, _, _, _, _, pl => by rw [plD] at pl; cases pl
theorem dens_reads (I : Inv X pins σ H s) : ∀ (ds : List D) (vs : List V) (us : List Value), Dens X.K P H ds vs → Vals vs us → plDs ds = true → ∃ as, ReadsAll s.heap us (pyDs ds) as
  | [], _, _, h, r, _ => by simp only [Dens] at h; subst h; cases r; rw [pyDs]; exact ⟨_, .nil⟩
  | d :: ds, _, _, h, r, pl => by
    rw [plDs, Bool.and_eq_true] at pl
    simp only [Dens] at h
    obtain ⟨v, r', rfl, h1, h2⟩ := h
    cases r with
    | cons ra rb =>
      obtain ⟨as, q⟩ := den_reads I d v _ h1 ra pl.1
      obtain ⟨bs, q'⟩ := dens_reads I ds _ _ h2 rb pl.2
      rw [pyDs]
      exact ⟨_, .cons q q'⟩
end
def rdEq : RD2 := fun x y Q => okD x ∧ okD y ∧ Q (.bl (eqD x y))
def rdNe : RD2 := fun x y Q => okD x ∧ okD y ∧ Q (.bl (!eqD x y))
theorem od_eq (hu : X.A.units + 64 < cLine) : OpD X (compareOp .Eq) rdEq := by
  intro pins s σ H W x y v u vv uu Q I _ rv ru hx hy q
  obtain ⟨h1, h2, q⟩ := q
  obtain ⟨as, ra⟩ := den_reads I x v vv hx rv h1.1
  obtain ⟨bs, rb⟩ := den_reads I y u uu hy ru h2.1
  exact eq_dataH ra rb h1.2 h2.2 hu ⟨.bl _, H, _, I, rfl, Same.refl H, Den.bl _, q⟩
theorem od_ne (hu : X.A.units + 64 < cLine) : OpD X (compareOp .NotEq) rdNe := by
  intro pins s σ H W x y v u vv uu Q I _ rv ru hx hy q
  obtain ⟨h1, h2, q⟩ := q
  obtain ⟨as, ra⟩ := den_reads I x v vv hx rv h1.1
  obtain ⟨bs, rb⟩ := den_reads I y u uu hy ru h2.1
  exact ne_dataH ra rb h1.2 h2.2 hu ⟨.bl _, H, _, I, rfl, Same.refl H, Den.bl _, q⟩
theorem od_eqI : OpD X (compareOp .Eq) (rdI0 fun i j => .bl (decide (i = j))) := OpD.of op_eq fun P H x y v u Q hx hy z => by
  obtain ⟨i, j, e1, e2, q⟩ := rdI0_ex z
  subst e1 e2
  have a := hx.int_
  have b := hy.int_
  subst a b
  refine ⟨rfl, Same.refl H, _, Den.bl _, ?_⟩
  rw [show decide (V.int i = V.int j) = decide (i = j) from by rw [dec_int]; rfl]
  exact q
theorem od_neI : OpD X (compareOp .NotEq) (rdI0 fun i j => .bl (!decide (i = j))) := OpD.of op_ne fun P H x y v u Q hx hy z => by
  obtain ⟨i, j, e1, e2, q⟩ := rdI0_ex z
  subst e1 e2
  have a := hx.int_
  have b := hy.int_
  subst a b
  refine ⟨rfl, Same.refl H, _, Den.bl _, ?_⟩
  rw [show decide (V.int i = V.int j) = decide (i = j) from by rw [dec_int]; rfl]
  exact q
def isNon : D → Bool
  | .non => true
  | _ => false
theorem den_isNon {K : PySem.W.Frag} {d : D} {v : V} (h : Den K P H d v) : decide (v = .non) = isNon d := by
  cases d with
  | non => have := h.non_; subst this; rfl
  | bl b => have := h.bl_; subst this; rfl
  | int b => have := h.int_; subst this; rfl
  | str b => have := h.str_; subst this; rfl
  | tup ds => obtain ⟨a, vs, e, _⟩ := h.tup_; subst e; rfl
  | lst _ ds => obtain ⟨a, vs, e, _⟩ := h.lst_; subst e; rfl
  | exc c => obtain ⟨a, e, _⟩ := h.exc_; subst e; rfl
  | obj C ns ds => obtain ⟨a, dx, vs, e, _⟩ := h.obj_; subst e; rfl
  | dic => obtain ⟨a, e, _⟩ := h.dic_; subst e; rfl
  | dik ks ds => obtain ⟨a, _, _, vs, e, _⟩ := h.dik_; subst e; rfl
theorem od_isN : OpD X (compareOp .Is) (fun x y Q => y = .non ∧ Q (.bl (isNon x))) := OpD.of op_isN fun P H x y v u Q hx hy ⟨e, q⟩ => by
  subst e
  refine ⟨hy.non_, Same.refl H, _, Den.bl _, ?_⟩
  rw [den_isNon hx]
  exact q
end
section
variable {X : Cx}
theorem cd_abs : CallD X (.builtin "abs") (fun ds Q => ∃ i : Int, ds = [.int i] ∧ Q (.int (i.natAbs : Int))) := CallD.of call_abs fun P H ds vs Q _ hd ⟨i, e, q⟩ => by
  subst e
  obtain ⟨v, r, rfl, h1, h2⟩ : ∃ v r, vs = v :: r ∧ Den X.K P H (.int i) v ∧ Dens X.K P H [] r := by simpa only [Dens] using hd
  have e1 := h1.int_
  have e2 : r = [] := by simpa only [Dens] using h2
  subst e1 e2
  refine ⟨i, rfl, Same.refl H, _, Den.int _, ?_⟩
  have : (if i < 0 then -i else i) = (i.natAbs : Int) := by split <;> omega
  rw [this]
  exact q
theorem dens2 {K : PySem.W.Frag} {P : Bool → Addr → Prop} {H : Hp} {x y : D} {vs : List V} (h : Dens K P H [x, y] vs) : ∃ v u, vs = [v, u] ∧ Den K P H x v ∧ Den K P H y u := by
  simp only [Dens] at h
  obtain ⟨v, r, e, h1, u, r', e', h2, e''⟩ := h
  subst e' e'' e
  exact ⟨v, u, rfl, h1, h2⟩
theorem dens1 {K : PySem.W.Frag} {P : Bool → Addr → Prop} {H : Hp} {x : D} {vs : List V} (h : Dens K P H [x] vs) : ∃ v, vs = [v] ∧ Den K P H x v := by
  simp only [Dens] at h
  obtain ⟨v, r, e, h1, e'⟩ := h
  subst e' e
  exact ⟨v, rfl, h1⟩
def lenQ (ds : List D) (Q : D → Prop) : Prop := match ds with
  | [.lst _ xs] => Q (.int (xs.length : Int))
  | [.tup xs] => Q (.int (xs.length : Int))
  | _ => False
theorem lenQ_l (t : Bool) (xs : List D) (Q : D → Prop) : lenQ [.lst t xs] Q = Q (.int (xs.length : Int)) := rfl
theorem lenQ_t (xs : List D) (Q : D → Prop) : lenQ [.tup xs] Q = Q (.int (xs.length : Int)) := rfl
theorem lenQ_ex {ds : List D} {Q : D → Prop} (h : lenQ ds Q) : ∃ xs, ((∃ t, ds = [.lst t xs]) ∨ ds = [.tup xs]) ∧ Q (.int (xs.length : Int)) := by
  unfold lenQ at h
  split at h
  · exact ⟨_, .inl ⟨_, rfl⟩, h⟩
  · exact ⟨_, .inr rfl, h⟩
  · exact h.elim
theorem cd_len : CallD X (.builtin "len") lenQ := CallD.of call_len_seq fun P H ds vs Q _ hd h => by
  obtain ⟨xs, e, q⟩ := lenQ_ex h
  rcases e with ⟨tg, e⟩ | e
  · subst e
    obtain ⟨v, rfl, h1⟩ := dens1 hd
    obtain ⟨a, ws, e, _, hq, hw⟩ := h1.lst_
    subst e
    refine ⟨a, ws, rfl, .inl hq, Same.refl H, _, Den.int _, ?_⟩
    rw [hw.len]
    exact q
  · subst e
    obtain ⟨v, rfl, h1⟩ := dens1 hd
    obtain ⟨a, ws, e, hq, hw⟩ := h1.tup_
    subst e
    refine ⟨a, ws, rfl, .inr hq.w, Same.refl H, _, Den.int _, ?_⟩
    rw [hw.len]
    exact q
def tyD : D → String
  | .non => "NoneType" | .bl _ => "bool" | .int _ => "int" | .str _ => "str" | .tup _ => "tuple" | .lst _ _ => "list" | .exc _ => "object" | .obj _ _ _ => "object" | .dic => "dict" | .dik _ _ => "dict"
def tyV : D → Value
  | .exc c => .ref c
  | .obj C _ _ => .ref C
  | d => .type (tyD d)
variable {e : Expr} {te : DE} {p p' pos : Pos} {T : String} {x : Str}
theorem inst_at {P : Program} {w : World} {H : Hp} {h : Heap} {a C dx : Addr} {fs : List (Str × V)} (x : ObjOk P w H h a (.ins C dx fs)) : ∃ od, PySem.W.InstAt h a (PySem.W.instObj C dx) C (some od) := by
  obtain ⟨d, z, ne, ob, mA, n, r, q⟩ := x
  obtain ⟨od, hI, _⟩ := ObjM.look ⟨ob, n, ne⟩
  exact ⟨od, hI⟩
theorem isinst_d {pins : List (Addr × Obj)} {σ : St} {H : Hp} {s : Shared} {P : Bool → Addr → Prop} {A : Around} {E : Value → Shared → Prop} {Q : Value → Shared → Prop} {c : Value} {b : Bool} {d : D} {v : V} {u : Value} (I : Inv X pins σ H s) (h : Den X.K P H d v) (r : RelV v u)
    (e : PySem.W.kitOne X.K (tyV d) c = some b) (q : ∀ tk, Q (.bool b) { s with toks := tk }) : wpAny (model X.prog X.w) A (call (.builtin "isinstance") [u, c]) Q E s := by
  cases d with
  | non => have z := h.non_; subst z; cases r; exact PySem.W.kia_one PySem.W.kitx_none I.kIn True.intro e (fun z => nomatch z) q
  | bl y => have z := h.bl_; subst z; cases r; exact PySem.W.kia_one PySem.W.kitx_bool I.kIn True.intro e (fun z => nomatch z) q
  | int i => have z := h.int_; subst z; obtain ⟨t, rfl⟩ := r; exact PySem.W.kia_one PySem.W.kitx_int I.kIn True.intro e (fun z => nomatch z) q
  | str y => have z := h.str_; subst z; obtain ⟨t, rfl⟩ := r; exact PySem.W.kia_one PySem.W.kitx_str I.kIn True.intro e (fun z => nomatch z) q
  | tup ds =>
    obtain ⟨a, vs, z, hq, _⟩ := h.tup_
    subst z
    cases r
    obtain ⟨its, rv, ⟨o, h1, h2, n, h3⟩, _⟩ := I.tuple hq.w
    exact PySem.W.kia_one PySem.W.kitx_tuple I.kIn ⟨o, h1, h2⟩ e (fun z => nomatch z) q
  | lst _ ds =>
    obtain ⟨a, vs, z, _, hq, _⟩ := h.lst_
    subst z
    cases r
    obtain ⟨its, rv, ⟨o, n, h1, h2, _, h3⟩, _⟩ := I.list hq
    exact PySem.W.kia_one PySem.W.kitx_list I.kIn ⟨o, h1, h2⟩ e (fun z => nomatch z) q
  | exc c' =>
    obtain ⟨a, z, hq, k⟩ := h.exc_
    subst z
    cases r
    exact PySem.W.kia_one (kitx_exc k) I.kIn (I.hok a _ hq).1 e (fun z => nomatch z) q
  | obj C ns ds =>
    obtain ⟨a, dx, vs, z, hq, _, k, _⟩ := h.obj_
    subst z
    cases r
    obtain ⟨od, hI⟩ := inst_at (I.hok a _ hq)
    exact PySem.W.kia_one (PySem.W.kitx_own k.pg k.hd k.at_ k.get k.takes k.obj) I.kIn hI e (fun z => nomatch z) q
  | dic =>
    obtain ⟨a, z, hq⟩ := h.dic_
    subst z
    cases r
    exact PySem.W.kia_one PySem.W.kitx_dict I.kIn (I.hok a _ hq).1 e (fun z => nomatch z) q
  | dik ks ds =>
    obtain ⟨a, o, kws, vs, z, hq, _⟩ := h.dik_
    subst z
    cases r
    obtain ⟨_, _, _, _, _, q', _, _, hq', hx, _⟩ := I.hok a _ hq
    exact PySem.W.kia_one PySem.W.kitx_dict I.kIn ⟨q', hq', hx.1⟩ e (fun z => nomatch z) q
theorem kitOne_type (K : PySem.W.Frag) (S T : String) : PySem.W.kitOne K (.type S) (.type T) = if S = T then some true else if PySem.W.kitMeta T = true then (fastBuiltinMro S).map (·.contains (.type T)) else none := by
  unfold PySem.W.kitOne PySem.W.kitCls PySem.W.subIn
  by_cases h : S = T
  · subst h; simp
  · have : (Value.type S == Value.type T) = false := by
      rw [beq_eq_false_iff_ne]
      intro e
      injection e with e
      exact h e
    rw [this, if_neg Bool.false_ne_true, if_neg h]
def isT (T : String) (d : D) : Bool := tyD d == T || (tyD d == "bool" && T == "int")
theorem kit_ans (K : PySem.W.Frag) (d : D) (hk : ∀ c, d = .exc c → ExcK K c) (ho : ∀ C ns ds, d = .obj C ns ds → ObjK K C) (hT : T = "int" ∨ T = "bool" ∨ T = "tuple" ∨ T = "list" ∨ T = "str") : PySem.W.kitOne K (tyV d) (.type T) = some (isT T d) := by
  by_cases hx : ∃ c, d = .exc c
  · obtain ⟨c, rfl⟩ := hx
    show PySem.W.kitOne K (.ref c) (.type T) = _
    rw [(hk c rfl).not T hT]
    show _ = some ("object" == T || ("object" == "bool" && T == "int"))
    rcases hT with e | e | e | e | e <;> subst e <;> decide +kernel
  by_cases hy : ∃ C ns ds, d = .obj C ns ds
  · obtain ⟨C, ns, ds, rfl⟩ := hy
    show PySem.W.kitOne K (.ref C) (.type T) = _
    rw [(ho C ns ds rfl).not T hT]
    show _ = some ("object" == T || ("object" == "bool" && T == "int"))
    rcases hT with e | e | e | e | e <;> subst e <;> decide +kernel
  have hv : tyV d = .type (tyD d) := by cases d <;> first | rfl | exact absurd ⟨_, rfl⟩ hx | exact absurd ⟨_, _, _, rfl⟩ hy
  rw [hv, kitOne_type]
  unfold isT
  have hS : tyD d = "NoneType" ∨ tyD d = "bool" ∨ tyD d = "int" ∨ tyD d = "str" ∨ tyD d = "tuple" ∨ tyD d = "list" ∨ tyD d = "dict" := by cases d <;> first | exact absurd ⟨_, rfl⟩ hx | exact absurd ⟨_, _, _, rfl⟩ hy | simp [tyD]
  generalize tyD d = S at hS ⊢
  rcases hT with e | e | e | e | e <;> subst e <;> rcases hS with e | e | e | e | e | e | e <;> subst e <;> decide +kernel
def dIs (T : String) (te : DE) : DE := fun ρ Q => te ρ fun d => Q (.bl (isT T d))
theorem de_isinst (hg : Gl X "isinstance") (hm : X.mg "isinstance" = none) (hgT : Gl X x) (hmT : X.mg x = none) (hv : bootBuiltins x = some (.type T)) (hT : T = "int" ∨ T = "bool" ∨ T = "tuple" ∨ T = "list" ∨ T = "str") (he : PED X e te)
    (hn : x ≠ "__name__" := by decide) (hdb : (x == ("__debug__" : Str)) = false := by decide)
    (hst : starEach [e, .Name x p'] X.env = (false, eval e X.env) :: starEach [.Name x p'] X.env := by rfl) (hst2 : starEach [.Name x p'] X.env = (false, eval (.Name x p') X.env) :: starEach [] X.env := by rfl) (hst3 : (backTo pos (starEach [.Name x p'] X.env)).any (·.1) = false := by rfl) :
    PED X (.Call (.Name "isinstance" p) [e, .Name x p'] [] pos) (dIs T te) := by
  intro pins s σ H W ρ Q I rr h
  have hpa : PA X [e, .Name x p'] (tCons (liftE X te) (tCons (tC (.ty T)) tNil)) := pa_cons he.pe (pa_cons (pe_bltn hgT hmT hv rfl hn hdb) pa_nil hst2) hst
  refine wpAny_Call_Name_kw (ld_blt I hg hm boot_isinstance ?_ (by decide) (by decide))
  refine PyProof.Rows.callWith_builtin1 (thn (hpa pos pins s σ H (fun vs H1 => ∃ v d, vs = [v, .ty T] ∧ Same H H1 ∧ Den X.K W.bad H1 d v ∧ Q (.bl (isT T d))) I ⟨W, ρ, _, rr, h, fun v H1 d e1 hd q1 => ⟨v, d, rfl, e1, hd, q1⟩⟩) fun us s1 ⟨vs, H1, I1, rv, v, d, ev, e1, hd, q1⟩ => ?_) hst hst3
  subst ev
  cases rv with
  | cons r1 rr =>
    cases rr with
    | cons r2 rr =>
      cases rr
      cases (show _ = Value.type T from r2)
      exact isinst_d I1 hd r1 (kit_ans X.K d (fun c z => by subst z; exact hd.exc_.choose_spec.2.2) (fun C ns ds z => by subst z; obtain ⟨_, _, _, _, _, _, k, _⟩ := hd.obj_; exact k) hT) fun tk => ⟨.bl _, H1, _, I1.tok tk, rfl, e1, Den.bl _, q1⟩
end
section
variable {X : Cx} {pos : Pos}
theorem SPD.up {pins : List (Addr × Obj)} {W0 W : Own} {H0 H : Hp} {E : DEnds} {f : Flow} {s' : Shared} (g : Fwd W0 H0 W H) (h : SPD X pins W H E f s') : SPD X pins W0 H0 E f s' := by
  obtain ⟨W', σ', H', I, fw, q⟩ := h
  exact ⟨W', σ', H', I, g.trans fw, q⟩
variable {st : Stmt} {rest : List Stmt} {t u : DS} {e : Expr} {te : DE}
def dNext : DS := fun E ρ => E.nx ρ
def dSeq (t u : DS) : DS := fun E ρ => t { E with nx := u E } ρ
theorem dss_nil : PSDs X [] dNext := fun _ _ σ H W ρ E I r h => wpAny_execs_nil ⟨W, σ, H, I, Fwd.refl W H, ρ, r, h⟩
theorem dss_cons (h1 : PSD X st t) (h2 : PSDs X rest u) : PSDs X (st :: rest) (dSeq t u) := by
  intro pins s σ H W ρ E I r h
  refine wpAny_execs_cons (thn (h1 pins s σ H W ρ { E with nx := u E } I r h) fun f s1 ⟨W', σ', H', I', fw, q⟩ => ?_)
  cases f with
  | next =>
    obtain ⟨ρ', r', q⟩ := q
    exact thn (h2 pins s1 σ' H' W' ρ' E I' r' q) fun _ _ z => z.up fw
  | ret v => exact ⟨W', σ', H', I', fw, q⟩
  | brk => exact ⟨W', σ', H', I', fw, q⟩
  | cont => exact ⟨W', σ', H', I', fw, q⟩
theorem dss_one (h1 : PSD X st t) : PSDs X [st] t := by
  intro pins s σ H W ρ E I r h
  refine wpAny_execs_cons (thn (h1 pins s σ H W ρ E I r h) fun f s1 q => ?_)
  cases f with
  | next => exact wpAny_execs_nil q
  | ret v => exact q
  | brk => exact q
  | cont => exact q
def dRet (te : DE) : DS := fun E ρ => te ρ E.rt
theorem ds_ret (he : PED X e te) : PSD X (.Return (some e) pos) (dRet te) := by
  intro pins s σ H W ρ E I r h
  exact wpAny_Return_some (thn (he pins s σ H W ρ _ I r h) fun u s1 ⟨v, H1, d, I1, r1, e1, hd, q1⟩ => ⟨W, σ, H1, I1, Fwd.same e1, v, d, r1, hd, q1⟩)
def dDrop (te : DE) : DS := fun E ρ => te ρ fun _ => E.nx ρ
theorem ds_expr (he : PED X e te) (hs : swapsWith e none pos.line X.env = pure false := by rfl) : PSD X (.Expr e pos) (dDrop te) := by
  intro pins s σ H W ρ E I r h
  exact wpAny_Expr_any (thn (he pins s σ H W ρ _ I r h) fun u s1 ⟨v, H1, d, I1, r1, e1, hd, q1⟩ => ⟨W, σ, H1, I1, Fwd.same e1, ρ, r.same e1, q1⟩) I.quiet hs
def dIfS (c : DT) (t u : DS) : DS := fun E ρ => c ρ fun b => if b = true then t E ρ else u E ρ
theorem ds_if {c : Expr} {a b : List Stmt} {tc : DT} (hc : PTD X c tc) (ha : PSDs X a t) (hb : PSDs X b u) : PSD X (.If c a b pos) (dIfS tc t u) := by
  intro pins s σ H W ρ E I r h
  refine wpAny_If (thn (hc pins s σ H W ρ _ I r h) fun d s1 ⟨H1, I1, e1, q1⟩ => ?_)
  cases d with
  | true => exact thn (ha pins s1 σ H1 W ρ E I1 (r.same e1) q1) fun _ _ z => z.up (Fwd.same e1)
  | false => exact thn (hb pins s1 σ H1 W ρ E I1 (r.same e1) q1) fun _ _ z => z.up (Fwd.same e1)
theorem Rel.put {X : Cx} {W : Own} {H : Hp} {σ : St} {ρ : Ro} {i : Nat} {d : D} {v : V} (r : Rel X W H σ ρ) (hi : i < σ.length) (hd : Den X.K W.bad H d v) : Rel X (W.drop i) H (σ.set i (some v)) (ρ.set i (some (.val d))) where
  val := fun j x h => by
    by_cases hj : j = i
    · subst hj
      refine ⟨v, by simp [hi], ?_⟩
      by_cases hl : j < ρ.length
      · rw [List.getElem?_set_self hl] at h
        cases h
        exact hd.fewer fun _ _ => Own.drop_bad
      · rw [List.getElem?_eq_none (by simpa using hl)] at h
        cases h
    · rw [List.getElem?_set_ne (Ne.symm hj)] at h
      obtain ⟨w, h1, h2⟩ := r.val j x h
      exact ⟨w, by rw [List.getElem?_set_ne (Ne.symm hj)]; exact h1, h2.fewer fun _ _ => Own.drop_bad⟩
  own := fun j x h => by
    by_cases hj : j = i
    · subst hj
      by_cases hl : j < ρ.length
      · rw [List.getElem?_set_self hl] at h; cases h
      · rw [List.getElem?_eq_none (by simpa using hl)] at h; cases h
    · rw [List.getElem?_set_ne (Ne.symm hj)] at h
      obtain ⟨a, vs, h1, h2, h3, h4⟩ := r.own j x h
      exact ⟨a, vs, by show (if j = i then none else W.O j) = _; rw [if_neg hj]; exact h1, by rw [List.getElem?_set_ne (Ne.symm hj)]; exact h2, h3, by rw [List.length_set]; exact h4.fewer (fun _ _ => Own.drop_bad) (Own.drop_sub hi)⟩
  inj := fun j k a h1 h2 => by
    have h1' : (if j = i then none else W.O j) = some a := h1
    have h2' : (if k = i then none else W.O k) = some a := h2
    by_cases e1 : j = i
    · rw [if_pos e1] at h1'; cases h1'
    · by_cases e2 : k = i
      · rw [if_pos e2] at h2'; cases h2'
      · rw [if_neg e1] at h1'
        rw [if_neg e2] at h2'
        exact r.inj j k a h1' h2'
  kn := fun j a h1 => by
    have h1' : (if j = i then none else W.O j) = some a := h1
    by_cases e1 : j = i
    · rw [if_pos e1] at h1'; cases h1'
    · rw [if_neg e1] at h1'
      exact r.kn j a h1'
  ke := fun j a h1 => by
    have h1' : (if j = i then none else W.O j) = some a := h1
    by_cases e1 : j = i
    · rw [if_pos e1] at h1'; cases h1'
    · rw [if_neg e1] at h1'
      exact r.ke j a h1'
  bt := r.bt
  st := r.st
  ent := r.ent
  tab := r.tab
theorem Fwd.drop (W : Own) (H : Hp) (i : Nat) : Fwd W H (W.drop i) H := ⟨rfl, rfl, fun _ _ _ h _ => h, fun j a h => by
  have h' : (if j = i then none else W.O j) = some a := h
  by_cases e1 : j = i
  · rw [if_pos e1] at h'; cases h'
  · rw [if_neg e1] at h'; exact .inl ⟨j, h'⟩, fun _ ps h => ⟨#[], by rw [h]; simp⟩, id⟩
theorem Inv.ilt {pins : List (Addr × Obj)} {σ : St} {H : Hp} {s : Shared} {i : Nat} {x : Str} (I : Inv X pins σ H s) (hi : X.N[i]? = some x) : i < σ.length := by
  rw [I.len]
  exact (List.getElem?_eq_some_iff.mp hi).1
def dSet (i : Nat) (te : DE) : DS := fun E ρ => te ρ fun d => E.nx (ρ.set i (some (.val d)))
theorem ds_set {x : Str} {pos' : Pos} (i : Nat) (hN : X.N.Nodup) (he : PED X e te) (hi : X.N[i]? = some x := by rfl) (hx : Loc X.env.scope x := by first | exact Or.inl rfl | exact Or.inr rfl) (hs : swapsWith e (some (.Name x pos')) pos.line X.env = pure false := by rfl)
    (hf : X.fn x = true ∨ X.env.scope.names.lookup x = some .local := by first | exact .inl rfl | exact .inr rfl | assumption) : PSD X (.Assign [.Name x pos'] e pos) (dSet i te) := by
  intro pins s σ H W ρ E I r h
  refine wpAny_Assign_Name (thn (he pins s σ H W ρ _ I r h) fun u s1 ⟨v, H1, d, I1, r1, e1, hd, q1⟩ => ?_) hs
  exact store_ok I1 hN hi hx r1 (fun s2 I2 => ⟨W.drop i, _, H1, I2, (Fwd.same e1).trans (Fwd.drop W H1 i), _, (r.same e1).put (Inv.ilt I1 hi) hd, q1⟩) hf
theorem PSD.of {ts : TS} {t : DS} (h : PS X st ts) (k : ∀ σ H W ρ E, Rel X W H σ ρ → σ.length = X.N.length → t E ρ → ts ⟨(fun σ' H' => ∃ W' ρ', Fwd W H W' H' ∧ Rel X W' H' σ' ρ' ∧ E.nx ρ'), (fun v H' => ∃ W' d, Fwd W H W' H' ∧ Den X.K W'.bad H' d v ∧ E.rt d),
      (fun σ' H' => ∃ W' ρ', Fwd W H W' H' ∧ Rel X W' H' σ' ρ' ∧ E.bk ρ'), (fun σ' H' => ∃ W' ρ', Fwd W H W' H' ∧ Rel X W' H' σ' ρ' ∧ E.ct ρ')⟩ σ H) : PSD X st t := by
  intro pins s σ H W ρ E I r ht
  refine thn (h pins s σ H _ I (k σ H W ρ E r I.len ht)) fun f s1 q => ?_
  cases f with
  | next => obtain ⟨σ', H', I', W', ρ', fw, r', q⟩ := q; exact ⟨W', σ', H', I', fw, ρ', r', q⟩
  | brk => obtain ⟨σ', H', I', W', ρ', fw, r', q⟩ := q; exact ⟨W', σ', H', I', fw, ρ', r', q⟩
  | cont => obtain ⟨σ', H', I', W', ρ', fw, r', q⟩ := q; exact ⟨W', σ', H', I', fw, ρ', r', q⟩
  | ret u => obtain ⟨v, σ', H', I', rv, W', d, fw, hd, q⟩ := q; exact ⟨W', σ', H', I', fw, v, d, rv, hd, q⟩
theorem fwdX {X : Cx} {W W' : Own} {H H' : Hp} {σ : St} {ρ : Ro} (r : Rel X W H σ ρ) (f : Fwd W H W' H') (a : Addr) (o : HO) (n : Sol o) (q : H a = some o) : H' a = some o :=
  f.kp a _ (fun i z => by obtain ⟨_, _, o', q', m⟩ := r.kn i a z; rw [q] at q'; cases q'; exact m.sol n) q n.nt
theorem fwdT {X : Cx} {W W' : Own} {H H' : Hp} {σ : St} {ρ : Ro} (r : Rel X W H σ ρ) (f : Fwd W H W' H') (a : Addr) (vs : List V) (q : SqT X.K H a vs) : SqT X.K H' a vs := by
  exact f.keep a _ (fun i e => by
    obtain ⟨_, _, o', q', m⟩ := r.kn i a e
    have q2 : H a = some (.tup vs) := q
    rw [q'] at q2
    cases q2
    exact m) q
theorem fwdL {X : Cx} {W W' : Own} {H H' : Hp} {σ' : St} {ρ' : Ro} (r' : Rel X W' H' σ' ρ') (f : Fwd W H W' H') (t : Bool) (a : Addr) (vs : List V) (p : ¬ W.bad t a) (q : SqG X.K H t a vs) : ¬ W'.bad t a ∧ SqG X.K H' t a vs := by
  have no : ∀ i, W.O i ≠ some a := fun i e => p (.inr (.inl ⟨i, e⟩))
  refine ⟨fun b => ?_, ?_, fun z => ⟨f.keep a _ no (q.2 z).1, (q.2 z).2⟩⟩
  · rcases b with b | ⟨i, b⟩ | ⟨e, b⟩
    · rw [f.B] at b; exact p (.inl b)
    · rcases f.new i a b with ⟨j, z⟩ | z
      · exact no j z
      · rcases q.1 with (q | ⟨o, q⟩) | ⟨o, its, n, q, _⟩
        · rw [z] at q; cases q
        · rw [z] at q; cases q
        · rw [(r'.kn i a b).1] at q; cases q
    · rw [f.S] at b; exact p (.inr (.inr ⟨e, b⟩))
  · rcases q.1 with (q | ⟨o, q⟩) | q
    · exact .inl (.inl (f.keep a _ no q))
    · exact .inl (.inr ⟨o, f.keep a _ no q⟩)
    · exact .inr q
theorem Den.fwd {X : Cx} {W W' : Own} {H H' : Hp} {σ σ' : St} {ρ ρ' : Ro} {d : D} {v : V} (r : Rel X W H σ ρ) (r' : Rel X W' H' σ' ρ') (f : Fwd W H W' H') (h : Den X.K W.bad H d v) : Den X.K W'.bad H' d v :=
  Den.map (fwdT r f) (fwdL r' f) (fwdX r f) d v h
theorem SqL.fwd {K : PySem.W.Frag} {W W' : Own} {H H' : Hp} {a : Addr} {vs : List V} {t : Bool} (f : Fwd W H W' H') (p : ¬ W.bad t a) (q : SqL K H a vs) : SqL K H' a vs := by
  have no : ∀ i, W.O i ≠ some a := fun i e => p (.inr (.inl ⟨i, e⟩))
  rcases q with (q | ⟨o, q⟩) | q
  · exact .inl (.inl (f.keep a _ no q))
  · exact .inl (.inr ⟨o, f.keep a _ no q⟩)
  · exact .inr q
abbrev DG := D → Ro → (Ro → Prop) → Prop
inductive GP (X : Cx) (pins : List (Addr × Obj)) (W : Own) (H : Hp) (Q : Ro → Prop) (s' : Shared) : Prop
  | mk (W' : Own) (σ' : St) (H' : Hp) (ρ' : Ro) (_ : Inv X pins σ' H' s') (_ : Fwd W H W' H') (_ : Rel X W' H' σ' ρ') (_ : Q ρ')
abbrev GDP {α : Type} (X : Cx) (pins : List (Addr × Obj)) (W : Own) (H : Hp) (Q : Ro → Prop) (_ : α) (s' : Shared) : Prop := GP X pins W H Q s'
def PGD (X : Cx) (target : Expr) (g : DG) : Prop :=
  ∀ (pins : List (Addr × Obj)) (s : Shared) (σ : St) (H : Hp) (W : Own) (ρ : Ro) (d : D) (v : V) (u : Value) (Q : Ro → Prop), Inv X pins σ H s → Rel X W H σ ρ → RelV v u → Den X.K W.bad H d v → g d ρ Q →
    wpAny (model X.prog X.w) X.A (assign target X.env u) (GDP X pins W H Q) X.xe s
abbrev DGs := List D → Ro → (Ro → Prop) → Prop
def PGDs (X : Cx) (ts : List Expr) (t : DGs) : Prop :=
  ∀ (pins : List (Addr × Obj)) (s : Shared) (σ : St) (H : Hp) (W : Own) (ρ : Ro) (ds : List D) (vs : List V) (us : List Value) (Q : Ro → Prop), Inv X pins σ H s → Rel X W H σ ρ → Vals vs us → Dens X.K W.bad H ds vs → t ds ρ Q →
    wpAny (model X.prog X.w) X.A (assignInOrder ((assignEach ts X.env).map (·.2)) us) (GDP X pins W H Q) X.xe s
theorem Dens.fwd {X : Cx} {W W' : Own} {H H' : Hp} {σ σ' : St} {ρ ρ' : Ro} (r : Rel X W H σ ρ) (r' : Rel X W' H' σ' ρ') (f : Fwd W H W' H') : ∀ {ds : List D} {vs : List V}, Dens X.K W.bad H ds vs → Dens X.K W'.bad H' ds vs
  | [], _, h => by simpa only [Dens] using h
  | d :: ds, _, h => by
    simp only [Dens] at h ⊢
    obtain ⟨v, q, e, h1, h2⟩ := h
    exact ⟨v, q, e, Den.fwd r r' f h1, Dens.fwd r r' f h2⟩
def gdName (i : Nat) : DG := fun d ρ Q => Q (ρ.set i (some (.val d)))
theorem gd_name {x : Str} (i : Nat) (hN : X.N.Nodup) (hi : X.N[i]? = some x := by rfl) (hx : Loc X.env.scope x := by first | exact Or.inl rfl | exact Or.inr rfl)
    (hf : X.fn x = true ∨ X.env.scope.names.lookup x = some .local := by first | exact .inl rfl | exact .inr rfl | assumption) : PGD X (.Name x pos) (gdName i) := by
  intro pins s σ H W ρ d v u Q I r rv hd h
  exact wpAny_assign_Name (store_ok I hN hi hx rv (fun s' I' => ⟨W.drop i, _, H, _, I', Fwd.drop W H i, r.put (Inv.ilt I hi) hd, h⟩) hf)
def gdNil : DGs := fun ds ρ Q => ds = [] ∧ Q ρ
def gdCons (g : DG) (u : DGs) : DGs := fun ds ρ Q => ∃ d r, ds = d :: r ∧ g d ρ fun ρ' => u r ρ' Q
theorem gds_nil : PGDs X [] gdNil := by
  intro pins s σ H W ρ ds vs us Q I r rv hd h
  obtain ⟨e, h⟩ := h
  subst e
  simp only [Dens] at hd
  subst hd
  cases rv
  exact assignInOrder_nil ⟨W, σ, H, ρ, I, Fwd.refl W H, r, h⟩
theorem gds_cons {e : Expr} {es : List Expr} {g : DG} {u : DGs} (h1 : PGD X e g) (h2 : PGDs X es u) (hs : (assignEach (e :: es) X.env).map (·.2) = assign e X.env :: (assignEach es X.env).map (·.2) := by rfl) : PGDs X (e :: es) (gdCons g u) := by
  intro pins s σ H W ρ ds vs us Q I r rv hd h
  obtain ⟨d, dr, e1, h⟩ := h
  subst e1
  simp only [Dens] at hd
  obtain ⟨v, vr, e2, hd1, hd2⟩ := hd
  subst e2
  cases rv with
  | cons ra rb =>
    rw [hs]
    refine assignInOrder_cons (thn (h1 pins s σ H W ρ d v _ _ I r ra hd1 h) fun _ s1 ⟨W1, σ1, H1, ρ1, I1, f1, r1, q1⟩ => ?_)
    exact thn (h2 pins s1 σ1 H1 W1 ρ1 dr vr _ Q I1 r1 rb (Dens.fwd r r1 f1 hd2) q1) fun _ s2 ⟨W2, σ2, H2, ρ2, I2, f2, r2, q2⟩ => ⟨W2, σ2, H2, ρ2, I2, f1.trans f2, r2, q2⟩
theorem isL_same {h h' : Heap} {it l : Addr} {items : Array Value} (hl : h.IsList l items) (hs : Heap.SameBut it h h') (hne : l ≠ it) : h'.IsList l items := by
  obtain ⟨o, ho, r⟩ := hl
  exact ⟨o, (hs.2 l hne).trans ho, r⟩
theorem draw_list {prog : Program} {w : World} {A : Around} {E : Value → Shared → Prop} {it l : Addr} {items : Array Value} (hne : l ≠ it) : ∀ (n i : Nat) (s : Shared) (Q : List Value → Shared → Prop), s.heap.IsListIter it l i → s.heap.IsList l items → i + n ≤ items.size →
    (∀ h', h'.IsListIter it l (i + n) → Heap.SameBut it s.heap h' → Q ((items.toList.drop i).take n) { s with heap := h' }) → wpAny (model prog w) A (draw (.ref it) n) Q E s
  | 0, i, s, Q, hit, _, _, hQ => by
    show wpAny _ _ (pure []) Q E s
    exact wpAny_pure (by simpa using hQ s.heap hit (Heap.SameBut.refl ..))
  | n + 1, i, s, Q, hit, hl, hle, hQ => by
    have hlt : i < items.size := by omega
    show wpAny _ _ (pyNext (.ref it) >>= _) Q E s
    refine wpAny_bind (wpAny_pyNext_list_item hit hl (x := items[i]) (by simp [hlt]) fun h₁ hit₁ hs₁ => ?_)
    refine wpAny_bind (wpAny_holding (draw_list hne n (i + 1) _ _ hit₁ (isL_same hl hs₁ hne) (by omega) fun h₂ hit₂ hs₂ => wpAny_pure ?_))
    have hd : items.toList.drop i = items[i] :: items.toList.drop (i + 1) := by simp [List.drop_eq_getElem_cons, hlt]
    have := hQ h₂ (by rw [show i + (n + 1) = i + 1 + n by omega]; exact hit₂) (hs₁.trans hs₂)
    rw [hd, List.take_succ_cons] at this
    exact this
theorem unpackItems_list {prog : Program} {w : World} {A : Around} {E : Value → Shared → Prop} {s : Shared} {l : Addr} {items : Array Value} {Q : List Value → Shared → Prop} (hh : A.handled = none) (hl : s.heap.IsList l items)
    (hQ : ∀ h', Heap.ExtBut s.heap.objs.size s.heap h' → Q items.toList { s with heap := h' }) : wpAny (model prog w) A (unpackItems (.ref l) items.size none) Q E s := by
  have hlt : l ≠ s.heap.objs.size := by obtain ⟨o, ho, _⟩ := hl; exact Nat.ne_of_lt (Heap.lt_size ho)
  unfold unpackItems
  refine wpAny_bind ?_
  · unfold notIterableAtAll
    refine wpAny_bind (wpAny_specialOf hl.typeIs F.slot_list_iter.lookup ?_)
    refine wpAny_pure ?_
    simp only [Bool.false_eq_true, if_false]
    refine wpAny_bind (wpAny_holding (wpAny_pyIter_list hl ?_))
    have hl0 : (s.heap.push { cls := .type "list_iterator", data := .fields #[.ref l, rawInt 0] }).IsList l items := by
      obtain ⟨o, ho, r⟩ := hl
      exact ⟨o, Heap.get?_push_of_some _ ho, r⟩
    refine wpAny_bind (wpAny_holding (draw_list hlt items.size 0 _ _ ⟨_, Heap.get?_push_size _ rfl, rfl, rfl⟩ hl0 (by omega) fun h₁ hit₁ hs₁ => ?_))
    have hall : List.take items.size (List.drop 0 items.toList) = items.toList := by
      rw [List.drop_zero]; exact List.take_of_length_le (by simp)
    rw [hall]
    rw [if_neg (by simp)]
    have hl₁ : h₁.IsList l items := isL_same hl0 hs₁ hlt
    refine wpAny_bind (wpAny_holding (wpAny_pyNext_list_end hh hit₁ hl₁ (by simp) fun h₂ he₂ => ?_))
    simp only [Option.isSome_none, Bool.false_eq_true, if_false]
    refine wpAny_pure (hQ h₂ fun b o hb e => he₂ b o hb (hs₁.extBut b o hb (Heap.get?_push_of_some _ e)))
def gdSeq (n : Nat) (t : DGs) : DG := fun d ρ Q => ∃ ds, (d = .tup ds ∨ ∃ t, d = .lst t ds) ∧ ds.length = n ∧ t ds ρ Q
theorem gd_tup {es : List Expr} {k : Nat} {t : DGs} {n : Nat} (hc : X.calm = true) (h : PGDs X es t) (hn : (assignEach es X.env).length = n := by rfl) (hst : (assignEach es X.env).findIdx? (·.1) = none := by rfl) : PGD X (.Tuple es k pos) (gdSeq n t) := by
  intro pins s σ H W ρ d v u Q I r rv hd hw
  obtain ⟨ds, ed, hl, hw⟩ := hw
  rcases ed with ed | ⟨tg, ed⟩
  · subst ed
    obtain ⟨a, vs, e1, hq, hds⟩ := hd.tup_
    subst e1
    cases rv
    obtain ⟨its, rvs, ht, hz⟩ := I.tuple hq.w
    refine assign_Tuple_tuple (I.ok.hd hc) ht (by simp [hn, ← hl, ← rvs.length, hds.len]) hst fun h' hx => ?_
    have I1 : Inv X pins σ H { s with heap := h' } := I.kept (t' := s.toks) fun b o e => hx b o (Nat.ne_of_lt (Heap.lt_size e)) e
    exact h pins _ σ H W ρ ds vs _ Q I1 r (by simpa using rvs) hds hw
  · subst ed
    obtain ⟨a, vs, e1, _, hq, hds⟩ := hd.lst_
    subst e1
    cases rv
    obtain ⟨its, rvs, ht, hz⟩ := I.list hq
    rw [assign_Tuple]
    refine wpAny_bind (wpAny_standAt ?_)
    unfold unpack
    rw [hst, show (assignEach es X.env).length = its.toArray.size by simp [hn, ← hl, ← rvs.length, hds.len]]
    refine wpAny_bind (wpAny_holding (unpackItems_list (I.ok.hd hc) ht.isList fun h' hx => ?_))
    have I1 : Inv X pins σ H { s with heap := h' } := I.kept (t' := s.toks) fun b o e => hx b o (Nat.ne_of_lt (Heap.lt_size e)) e
    exact h pins _ σ H W ρ ds vs _ Q I1 r (by simpa using rvs) hds hw
def dAsg (te : DE) (g : DG) : DS := fun E ρ => te ρ fun d => g d ρ E.nx
def YD (K : PySem.W.Frag) (W : Own) (H : Hp) (J : It) (ds : List D) : Prop := ∀ (P' : Bool → Addr → Prop) (H' : Hp), (∀ a vs, SqT K H a vs → SqT K H' a vs) → (∀ t a vs, ¬ W.bad t a → SqG K H t a vs → ¬ P' t a ∧ SqG K H' t a vs) → (∀ a o, Sol o → H a = some o → H' a = some o) → ∀ i, (i < ds.length → J.go i H') ∧ (∀ x H3, J.yld i H' x H3 → i < ds.length → Same H' H3 ∧ ∃ d, ds[i]? = some d ∧ Den K P' H3 d x) ∧ (ds.length ≤ i → J.stop i H')
inductive IDP (X : Cx) (pins : List (Addr × Obj)) (σ : St) (W : Own) (H : Hp) (tg : Expr) (R : List D → Prop) (itv : Value) (s2 : Shared) : Prop
  | mk (it : Addr) (fp : List Addr) (tn : Nat → Heap → Prop) (J : It) (H' : Hp) (ds : List D) (_ : itv = .ref it) (_ : Inv X pins σ H' s2) (_ : Same H H') (_ : Turn X.prog X.w X.K tg J fp it tn) (_ : tn 0 s2.heap) (_ : ∀ b ∈ fp, FpOk X pins H' b) (_ : YD X.K W H' J ds) (_ : R ds)
def PID (X : Cx) (tg iter : Expr) (wi : DA) : Prop :=
  ∀ (pins : List (Addr × Obj)) (s : Shared) (σ : St) (H : Hp) (W : Own) (ρ : Ro) (R : List D → Prop), Inv X pins σ H s → Rel X W H σ ρ → wi ρ R →
    wpAny (model X.prog X.w) X.A (eval iter X.env) (fun v s1 => wpAny (model X.prog X.w) X.A (pyIter v) (IDP X pins σ W H tg R) X.xe s1) X.xe s
theorem PID.of {tg iter : Expr} {wi : TI} {wd : DA} (h : PI X tg iter wi) (k : ∀ σ H W ρ R, Rel X W H σ ρ → wd ρ R → wi σ H fun J H' => Same H H' ∧ ∃ ds, YD X.K W H' J ds ∧ R ds) : PID X tg iter wd := by
  intro pins s σ H W ρ R I r hw
  refine thn (h pins s σ H _ I (k σ H W ρ R r hw)) fun v s1 h1 => thn h1 fun itv s2 h2 => ?_
  obtain ⟨it, fp, tn, J, H', e, I2, T, st, f2, e2, ds, y, q⟩ := h2
  exact ⟨it, fp, tn, J, H', ds, e, I2, e2, T, st, f2, y, q⟩
def lstQ : D → (List D → Prop) → Prop
  | .lst _ ds, R => R ds
  | _, _ => False
theorem lstQ_ex {x : D} {R : List D → Prop} (h : lstQ x R) : ∃ t ds, x = .lst t ds ∧ R ds := by
  cases x <;> first | exact False.elim h | exact ⟨_, _, rfl, h⟩
theorem lstQ_l (t : Bool) (ds : List D) (R : List D → Prop) : lstQ (.lst t ds) R = R ds := rfl
def dIter (ti : DE) : DA := fun ρ R => ti ρ fun d => lstQ d R
theorem id_list {tg iter : Expr} {ti : DE} (h : PED X iter ti) : PID X tg iter (dIter ti) := by
  refine PID.of (pi_list h.pe) fun σ H W ρ R r hw => ⟨W, ρ, _, r, hw, fun v H1 d e1 hd q => ?_⟩
  obtain ⟨tg', ds, rfl, q⟩ := lstQ_ex q
  obtain ⟨a, vs, rfl, na, hq, hds⟩ := hd.lstG_
  refine ⟨a, rfl, ⟨vs, hq.1⟩, e1, ds, ?_, q⟩
  intro P' H' hT hL hX i
  have hq' : SqL X.K H' a vs := (hL _ a vs na hq).2.1
  have hl := hds.len
  refine ⟨fun hi => ?_, fun x H3 y hi => ?_, fun hi => ⟨vs, hq', by omega⟩⟩
  · obtain ⟨v, hv, _⟩ := hds.get (i := i) (d := ds[i]) (by simp [hi])
    exact ⟨vs, v, hq', hv⟩
  · obtain ⟨e3, y⟩ := y
    subst e3
    obtain ⟨d, h1, h2⟩ := hds.getV (y vs hq')
    exact ⟨Same.refl _, d, h1, Den.map hT hL hX d _ h2⟩
def rngD (lo step : Int) (n : Nat) : List D := (List.range n).map fun (i : Nat) => D.int (lo + i * step)
theorem rngD_len (lo step : Int) (n : Nat) : (rngD lo step n).length = n := by simp [rngD]
theorem rngD_get {lo step : Int} {n i : Nat} (h : i < n) : (rngD lo step n)[i]? = some (D.int (lo + i * step)) := by simp [rngD, h]
def Itr3 (lo c : Int) (n : Nat) : It := ⟨fun i _ => i < n, fun i H x H' => H' = H ∧ x = .int (lo + i * c), fun i _ => n ≤ i⟩
theorem yd_range (K : PySem.W.Frag) (W : Own) (H : Hp) (lo c : Int) (n : Nat) : YD K W H (Itr3 lo c n) (rngD lo c n) := fun P' H' _ _ _ i => by
  rw [rngD_len]
  refine ⟨fun h => h, fun x H3 y hi => ?_, fun h => h⟩
  obtain ⟨e, ex⟩ := y
  subst e ex
  exact ⟨Same.refl _, _, rngD_get hi, Den.int _⟩
theorem turn_range3 {P : Program} {w : World} {K : PySem.W.Frag} {tg : Expr} (it : Addr) (lo c : Int) (n : Nat) : Turn P w K tg (Itr3 lo c n) [it] it (fun i h => IsRangeIter h it (lo + (i : Nat) * c) ((n : Int) - (i : Nat)) c) where
  mem := by simp
  obj := fun i h st b hb => by
    have e : b = it := by simpa using hb
    subst e
    exact ⟨_, st, fun v z => by
      have z' : Data.fields _ = Data.cell v := z
      cases z'⟩
  keep := fun i h h' st k => k it (by simp) _ st
  item := by
    intro X hP hw hK hc i pins s σ H E I hf st hg
    subst hP hw hK
    obtain ⟨f0, f1, f2, f3, f4, f5⟩ := hf it (by simp)
    have W := Walks.range (prog := X.prog) (w := X.w) (I.ok.hd hc) it lo c n
    refine W.item i s _ _ hg st fun v h' tk hv st' kk => ?_
    obtain ⟨t, rfl⟩ := hv
    have I1 : Inv X pins σ H { s with heap := h', toks := tk } := I.turned (fun b o hb e => kk b o (by simpa using hb) e) f0 f1 f3 f4 f5
    exact ⟨_, rfl, go_of (s := { s with heap := h', toks := tk }) (n := "range_iterator") st' rfl rfl (by decide) ⟨.int (lo + i * c), H, I1, ⟨t, rfl⟩, ⟨rfl, rfl⟩, st', fun b hb => (hf b hb).1⟩⟩
  done := by
    intro X hP hw hK hc i pins s σ H E I hf st hg
    subst hP hw hK
    obtain ⟨f0, f1, f2, f3, f4, f5⟩ := hf it (by simp)
    exact wpAny_pyNext_range_end (I.ok.hd hc) st (by have : n ≤ i := hg; omega) fun h' eb => ⟨rfl, I.turned (t' := s.toks) (fun b o hb e => eb b o hb e) f0 f1 f3 f4 f5⟩
  self := fun _ _ _ _ _ st h => wpAny_pyIter_rangeiter st h
def rngN (lo hi c : Int) : Nat := (Builtin.Range.rangeSize lo hi c).toNat
theorem small_pos {a b c : Int} (ha : -(2 ^ 40) ≤ a) (ha' : a < 2 ^ 40) (hb : -(2 ^ 40) ≤ b) (hb' : b < 2 ^ 40) (hc : 0 < c) (hc' : c < 2 ^ 20) : Builtin.Range.small a b c = true ∧ 0 ≤ Builtin.Range.rangeSize a b c := by
  have hd : a < b → 0 ≤ (b - a - 1) / c ∧ (b - a - 1) / c ≤ b - a - 1 := fun h => ⟨Int.ediv_nonneg (by omega) (by omega), Int.ediv_le_self _ (by omega)⟩
  have hm : a < b → (b - a - 1) / c * c ≤ b - a - 1 := fun h => Int.ediv_mul_le _ (by omega)
  unfold Builtin.Range.small Builtin.Range.rangeSize
  rw [if_pos (show c > 0 from hc)]
  by_cases h : a < b
  · obtain ⟨h1, h2⟩ := hd h
    have h3 := hm h
    rw [if_pos h]
    generalize (b - a - 1) / c = q at h1 h2 h3 ⊢
    have h4 : 0 ≤ q * c := Int.mul_nonneg h1 (by omega)
    simp only [Builtin.Range.rangeFitsLong, Bool.and_eq_true, Bool.or_eq_true, decide_eq_true_eq, beq_iff_eq]
    have e : (q + 1 - 1) * c = q * c := by rw [Int.add_sub_cancel]
    have e' : (q + 1) * c = q * c + c := by rw [Int.add_mul, Int.one_mul]
    constructor
    · rw [if_pos (show c > 0 from hc)]
      simp only [Bool.and_eq_true, decide_eq_true_eq]
      omega
    · omega
  · rw [if_neg h]
    simp only [Builtin.Range.rangeFitsLong, Bool.and_eq_true, Bool.or_eq_true, decide_eq_true_eq, beq_iff_eq]
    constructor
    · simp; omega
    · exact Int.le_refl _
theorem range_it3 {pins : List (Addr × Obj)} {σ : St} {H : Hp} {s : Shared} {W : Own} {R : List D → Prop} {E : Value → Shared → Prop} {tg : Expr} {lo hi c : Int} {t u v : Tok} {tk : Nat} (I : Inv X pins σ H s) (h1 : -(2 ^ 40) ≤ lo) (h2 : lo < 2 ^ 40) (h3 : -(2 ^ 40) ≤ hi) (h4 : hi < 2 ^ 40) (h5 : 0 < c) (h6 : c < 2 ^ 20)
    (q : R (rngD lo c (rngN lo hi c))) : wpAny (model X.prog X.w) X.A (pyIter (.ref s.heap.objs.size)) (IDP X pins σ W H tg R) E { s with heap := s.heap.push { cls := .type "range", data := .fields #[.int lo t, .int hi u, .int c v] }, toks := tk } := by
  obtain ⟨sm, nn⟩ := small_pos h1 h2 h3 h4 h5 h6
  refine wpAny_pyIter_range (IsRange.new ..) sm ?_
  have I1 : Inv X pins σ H { s with heap := s.heap.push { cls := .type "range", data := .fields #[.int lo t, .int hi u, .int c v] }, toks := tk } := I.kept fun b o e => Heap.get?_push_of_some _ e
  refine ⟨(s.heap.push { cls := .type "range", data := .fields #[.int lo t, .int hi u, .int c v] }).objs.size, [(s.heap.push { cls := .type "range", data := .fields #[.int lo t, .int hi u, .int c v] }).objs.size], _, _, H, _, rfl,
    I1.kept (t' := tk) fun b o e => Heap.get?_push_of_some _ e, Same.refl H, turn_range3 _ lo c (rngN lo hi c), ?_, fun b hb => ?_, yd_range _ _ _ _ _ _, q⟩
  · have e1 : lo + ((0 : Nat) : Int) * c = lo := by simp
    have e2 : ((rngN lo hi c : Nat) : Int) - ((0 : Nat) : Int) = Builtin.Range.rangeSize lo hi c := by unfold rngN; omega
    show IsRangeIter _ _ (lo + ((0 : Nat) : Int) * c) (((rngN lo hi c : Nat) : Int) - ((0 : Nat) : Int)) c
    rw [e1, e2]
    exact Heap.get?_push_size _ rfl
  · have e : b = (s.heap.push { cls := .type "range", data := .fields #[.int lo t, .int hi u, .int c v] }).objs.size := by simpa using hb
    subst e
    exact I1.fpOk (Nat.le_refl _) (I1.hok.fresh (Nat.le_refl _))
def CR3 (i : Int) : Prop := -(2 ^ 40) ≤ i ∧ i < 2 ^ 40
def dRng3 (ta : DA) : DA := fun ρ R => ta ρ fun ds => ∃ i j c : Int, ds = [.int i, .int j, .int c] ∧ CR3 i ∧ CR3 j ∧ 0 < c ∧ c < 2 ^ 20 ∧ R (rngD i c (rngN i j c))
def dRng2 (ta : DA) : DA := fun ρ R => ta ρ fun ds => ∃ i j : Int, ds = [.int i, .int j] ∧ CR3 i ∧ CR3 j ∧ R (rngD i 1 (rngN i j 1))
def dRng1 (ta : DA) : DA := fun ρ R => ta ρ fun ds => ∃ j : Int, ds = [.int j] ∧ CR3 j ∧ R (rngD 0 1 (rngN 0 j 1))
theorem id_range1 {tg a : Expr} {ta : DA} {p pos : Pos} (hg : Gl X "range") (hm : X.mg "range" = none) (ha : PAD X [a] ta) (hs : starEach [a] X.env = (false, eval a X.env) :: starEach [] X.env := by rfl) (hs2 : (backTo pos (starEach [] X.env)).any (·.1) = false := by rfl) :
    PID X tg (.Call (.Name "range" p) [a] [] pos) (dRng1 ta) := by
  intro pins s σ H W ρ R I r h
  refine Call_ (ld_blt I hg hm boot_range (PyProof.Rows.callWith_type1 (thn (ha pos pins s σ H W ρ _ I r h) fun us s1 ⟨vs, H1, ds, I1, r1, e1, hd, q1⟩ => ?_) hs hs2))
  obtain ⟨j, e, ⟨b1, b2⟩, q⟩ := q1
  subst e
  obtain ⟨v1, rfl, d1⟩ := dens1 hd
  have z1 := d1.int_
  subst z1
  cases r1 with
  | cons ra rr =>
    cases rr
    obtain ⟨t, rfl⟩ := ra
    refine call_range_1 ?_
    exact thn (range_it3 (W := W) (R := R) I1 (by decide) (by decide) b1 b2 (by decide) (by decide) q) fun itv s2 ⟨it, fp, tn, J, H', ds, x1, x2, x3, x4, x5, x6, x7, x8⟩ => ⟨it, fp, tn, J, H', ds, x1, x2, e1.trans x3, x4, x5, x6, x7, x8⟩
def dFor (wi : DA) (g : DG) (tb : DS) : DS := fun E ρ => wi ρ fun ds => ∃ Pv : Nat → Ro → Prop, Pv 0 ρ ∧
  (∀ j x ρ', ds[j]? = some x → Pv j ρ' → g x ρ' fun ρ2 => tb { E with nx := Pv (j + 1), ct := Pv (j + 1), bk := E.nx } ρ2) ∧ ∀ ρ', Pv ds.length ρ' → E.nx ρ'
theorem ds_for {tg iter : Expr} {body : List Stmt} {wi : DA} {g : DG} {tb : DS} (hp : PassesOwn (model X.prog X.w) X.A X.env X.xe) (hc : X.calm = true) (hi : PID X tg iter wi) (hg : PGD X tg g) (hb : PSDs X body tb)
    (hs : ∀ x, foldedSetIterable iter X.env x = pure x := by intro _; rfl) : PSD X (.For tg iter body [] pos) (dFor wi g tb) := by
  intro pins s σ H W ρ E I r h
  refine wpAny_For (thn (hi pins s σ H W ρ _ I r h) fun v s1 h1 => thn h1 fun itv s2 h2 => ?_) hs
  obtain ⟨it, fp, tn, J, H2, ds, e, I2, e2, T, st2, f2, yd, Pv, p0, turn, pd⟩ := h2
  subst e
  have r2 := r.same e2
  have stat : ∀ {H' : Hp}, (∀ b ∈ fp, H' b = none) → ∀ b ∈ fp, FpOk X pins H' b := fun hn b hb => ⟨hn b hb, (f2 b hb).2⟩
  refine codeAny_forLoop_any (fun n s' => ∃ i W' σ' H' ρ', n = ds.length - i ∧ i ≤ ds.length ∧ Inv X pins σ' H' s' ∧ tn i s'.heap ∧ (∀ b ∈ fp, H' b = none) ∧ Fwd W H2 W' H' ∧ Rel X W' H' σ' ρ' ∧ Pv i ρ') ?_ ds.length ⟨0, W, σ, H2, ρ, by simp, Nat.zero_le _, I2, st2, fun b hb => (f2 b hb).1, Fwd.refl W H2, r2, p0⟩
  rintro n s3 ⟨i, W3, σ3, H3, ρ3, en, hle, I3, st3, fr3, fw3, r3, p3⟩
  obtain ⟨yg, yy, ys⟩ := yd W3.bad H3 (fwdT r2 fw3) (fwdL r3 fw3) (fwdX r2 fw3) i
  by_cases hlt : i < ds.length
  · refine wpAny_passesOwn hp (thn (T.item X rfl rfl rfl hc i pins s3 σ3 H3 X.xe I3 (stat fr3) st3 (yg hlt)) fun rr s4 ⟨u, hr, h4⟩ => ?_)
    subst hr
    refine wpAny_passesOwn hp (thn h4 fun _ s5 ⟨x, H5, I5, r5, y5, st5, fr5⟩ => ?_)
    obtain ⟨e5, d, hd, hden⟩ := yy x H5 y5 hlt
    have I5' := I5.pinned (stat fr5) (T.obj _ _ st5)
    have rl5 := r3.same e5
    refine wpAny_passesOwn hp (thn (hg _ s5 σ3 H5 W3 ρ3 d x u _ I5' rl5 r5 hden (turn i d ρ3 hd p3)) fun _ s6 ⟨W6, σ6, H6, ρ6, I6, f6, r6, q6⟩ => ?_)
    refine wpAny_passesOwn hp (thn (hb _ s6 σ6 H6 W6 ρ6 _ I6 r6 q6) fun f s7 q7 => ?_)
    obtain ⟨W7, σ7, H7, I7, f7, q7⟩ := q7
    have fw7 : Fwd W H2 W7 H7 := fw3.trans ((Fwd.same e5).trans (f6.trans f7))
    have fw70 : Fwd W H W7 H7 := (Fwd.same e2).trans fw7
    have again : ∀ {ρ7 : Ro}, Rel X W7 H7 σ7 ρ7 → Pv (i + 1) ρ7 → ∃ m, m < n ∧ ∃ i W' σ' H' ρ', m = ds.length - i ∧ i ≤ ds.length ∧ Inv X pins σ' H' s7 ∧ tn i s7.heap ∧ (∀ b ∈ fp, H' b = none) ∧ Fwd W H2 W' H' ∧ Rel X W' H' σ' ρ' ∧ Pv i ρ' := fun {ρ7} r7 p7 => by
      refine ⟨ds.length - (i + 1), by omega, i + 1, W7, σ7, H7, ρ7, rfl, hlt, I7.unpinned, T.keep _ _ _ st5 fun b hb o e => (I7.pin (b, o) (List.mem_append_right _ (List.mem_append_right _ (mem_pinsAt hb e)))).1, fun b hb => ?_, fw7, r7, p7⟩
      obtain ⟨o, e, d⟩ := T.obj _ _ st5 b hb
      exact (I7.pin (b, o) (List.mem_append_right _ (List.mem_append_right _ (mem_pinsAt hb e)))).2.1
    cases f with
    | next => obtain ⟨ρ7, r7, n7⟩ := q7; exact again r7 n7
    | cont => obtain ⟨ρ7, r7, n7⟩ := q7; exact again r7 n7
    | brk => obtain ⟨ρ7, r7, q7⟩ := q7; exact ⟨W7, σ7, H7, I7.unpinned, fw70, ρ7, r7, q7⟩
    | ret v => obtain ⟨x7, d7, r7, h7, q7⟩ := q7; exact ⟨W7, σ7, H7, I7.unpinned, fw70, x7, d7, r7, h7, q7⟩
  · have e : i = ds.length := by omega
    refine wpAny_passesOwn hp (thn (T.done X rfl rfl rfl hc i pins s3 σ3 H3 X.xe I3 (stat fr3) st3 (ys (by omega))) fun rr s4 ⟨hr, I4⟩ => ?_)
    subst hr
    subst e
    exact wpAny_execs_nil ⟨W3, σ3, H3, I4, (Fwd.same e2).trans fw3, ρ3, r3, pd ρ3 p3⟩
def dPar (i j : Nat) (ta : DA) : DS := fun E ρ => ta ρ fun ds => ∃ d e, ds = [d, e] ∧ E.nx ((ρ.set i (some (.val d))).set j (some (.val e)))
end
def startD : List Str → List D → Ro
  | _ :: N, d :: ds => some (.val d) :: startD N ds
  | _ :: N, [] => none :: startD N []
  | [], ds => ds.map fun d => some (.val d)
theorem startD_eq : ∀ (N : List Str) (ds : List D), startD N ds = ds.map (fun d => some (.val d)) ++ List.replicate (N.length - ds.length) none
  | _ :: N, d :: ds => by rw [startD, startD_eq N ds, List.map_cons, List.length_cons, List.length_cons, Nat.add_sub_add_right]; rfl
  | _ :: N, [] => by rw [startD, startD_eq N []]; rfl
  | [], ds => by rw [startD, List.length_nil, Nat.zero_sub]; simp
theorem Rel.start {X : Cx} {P : Addr → Prop} {H : Hp} {N : List Str} {ds : List D} {vs : List V} (hP : ∀ a, P a → ∃ o, H a = some o) (h : Dens X.K (fun t a => t = true ∨ P a) H ds vs) (hH : X.H₀ = H) (hT : TabK X.K H) : Rel X ⟨P, fun _ => none, fun a => ∃ o, H a = some o⟩ H (start N vs) (startD N ds) where
  val := fun i d e => by
    rw [startD_eq] at e
    have hl := h.len
    by_cases hi : i < ds.length
    · rw [List.getElem?_append_left (by simpa using hi), List.getElem?_map] at e
      cases q : ds[i]? with
      | none => rw [q] at e; cases e
      | some d' =>
        rw [q] at e
        have e' : d' = d := by simpa using e
        subst e'
        obtain ⟨v, h1, h2⟩ := h.get q
        refine ⟨v, ?_, h2.fewer fun tg a z => ?_⟩
        · unfold L2.start
          rw [List.getElem?_append_left (by simpa [hl] using hi), List.getElem?_map, h1]
          rfl
        · rcases z with z | ⟨j, z⟩ | ⟨z, _⟩
          · exact .inr z
          · cases z
          · exact .inl z
    · rw [List.getElem?_append_right (by simpa using hi), List.getElem?_replicate] at e
      split at e <;> cases e
  own := fun i d e => by
    rw [startD_eq] at e
    by_cases hi : i < ds.length
    · rw [List.getElem?_append_left (by simpa using hi), List.getElem?_map] at e
      cases q : ds[i]? with
      | none => rw [q] at e; cases e
      | some d' => rw [q] at e; cases e
    · rw [List.getElem?_append_right (by simpa using hi), List.getElem?_replicate] at e
      split at e <;> cases e
  inj := fun i j a h _ => by cases h
  kn := fun i a h => by cases h
  ke := fun i a h => by cases h
  bt := hP
  st := fun _ z => z
  ent := by rw [hH]; exact Same.refl H
  tab := hT
theorem ObjOk.there {P : Program} {w : World} {H : Hp} {h : Heap} {a : Addr} {o : HO} (x : ObjOk P w H h a o) : ∃ u, h.get? a = some u := by
  cases o with
  | lst xs => obtain ⟨_, _, _, _, e⟩ := x; exact ⟨_, e⟩
  | tup xs => obtain ⟨_, _, _, ob, e, _⟩ := x; exact ⟨ob, e⟩
  | dK kvs => obtain ⟨_, _, _, _, ob, _, _, e, _⟩ := x; exact ⟨ob, e⟩
  | dT kvs => obtain ⟨_, _, _, _, ob, _, _, e, _⟩ := x; exact ⟨ob, e⟩
  | set S n => obtain ⟨ob, _, _, _, e, _⟩ := x; exact ⟨ob, e⟩
  | ins C dx fs => obtain ⟨_, _, _, e, _⟩ := x; exact ⟨_, e⟩
  | own y => exact x
  | xd fs => obtain ⟨_, ⟨ob, _, _, e, _⟩, _⟩ := x; exact ⟨ob, e⟩
  | rng lo hi => obtain ⟨_, _, _, e⟩ := x; exact ⟨_, e⟩
  | frz ob u => obtain ⟨e, _⟩ := x; exact ⟨ob, e⟩
  | tbl ps => exact ⟨_, x⟩
  | met f y => exact ⟨_, x⟩
  | ext φ => obtain ⟨_, e, _⟩ := x; exact e
theorem HOk.keptT {P : Program} {w : World} {H : Hp} {h h' : Heap} (x : HOk P w H h) (k : ∀ b u, (∃ o, H b = some o) → h.get? b = some u → h'.get? b = some u) : HOk P w H h' := fun a o e =>
  (x a o e).stay (fun b u hb q => k b u (by
    rcases hb with z | z
    · subst z; exact ⟨o, e⟩
    · exact ⟨_, z⟩) q) (fun _ q => q) fun _ _ q => q
structure Fl (P : Program) (w : World) (l : List Env) (h₀ : Heap) (H₀ H : Hp) (B h : Heap) : Prop where
  un : Un (frs l) [] H₀ H h₀ h
  hok : HOk P w H h
  fr : ∀ b ∈ frs l, H₀ b = none ∧ ∃ o, h₀.get? b = some o ∧ ∀ vs, o.data ≠ .fields vs
  cov : ∀ b o, h.get? b = some o → ((∃ u, H b = some u) ∨ ∃ o', h₀.get? b = some o') → b ∉ frs l → B.get? b = some o
section
variable {P : Program} {w : World} {l : List Env} {h₀ : Heap} {H₀ H : Hp} {B h h' : Heap}
theorem Fl.free (F : Fl P w l h₀ H₀ H B h) {b : Addr} (hb : b ∈ frs l) : H b = none := by
  obtain ⟨n, o, e, _⟩ := F.fr b hb
  exact F.un.free b o e n (by simp)
theorem Fl.step (F : Fl P w l h₀ H₀ H B h) (st : B.StaysIn h') (sl : h.UpToSlots h') : Fl P w l h₀ H₀ H B h' := by
  have fr1 : ∀ b o, b ∈ frs l → h₀.get? b = some o → ∃ s', h'.get? b = some { o with slots := s' } := fun b o hb e => by
    obtain ⟨n, o', e', hd⟩ := F.fr b hb
    rw [e] at e'
    cases e'
    obtain ⟨s1, e1⟩ := F.un.slot b o e n hb (by simp)
    obtain ⟨s2, e2⟩ := sl b _ e1 hd
    exact ⟨s2, e2⟩
  have kp : ∀ b o, h.get? b = some o → ((∃ u, H b = some u) ∨ ∃ o', h₀.get? b = some o') → b ∉ frs l → h'.get? b = some o := fun b o e c n => st b o (F.cov b o e c n)
  refine ⟨⟨fun b o e n hb hx => kp b o (F.un.keep b o e n hb hx) (.inr ⟨o, e⟩) hb, fun b o e n hb hx => fr1 b o hb e, F.un.free, fun b o e hx => ?_, F.un.tups, F.un.frzs, F.un.tbls⟩, PD.HOk.keptT F.hok (fun b u hu e => kp b u e (.inl hu) fun z => ?_), F.fr, fun b o e c n => ?_⟩
  · by_cases hb : b ∈ frs l
    · obtain ⟨s2, e2⟩ := fr1 b o hb e
      exact ⟨_, e2⟩
    · obtain ⟨o', e1⟩ := F.un.there b o e hx
      exact ⟨o', kp b o' e1 (.inr ⟨o, e⟩) hb⟩
  · obtain ⟨o, q⟩ := hu
    rw [F.free z] at q
    cases q
  · have : ∃ o1, h.get? b = some o1 := by
      rcases c with ⟨u, c⟩ | ⟨o', c⟩
      · exact PD.ObjOk.there (F.hok b u c)
      · exact F.un.there b o' c (by simp)
    obtain ⟨o1, e1⟩ := this
    have q := kp b o1 e1 c n
    rw [e] at q
    cases q
    exact F.cov b o e1 c n
end
def CX1 (P : Program) (w : World) : CXT := fun outer H s E e s' => ∃ (ea c : Addr) (H' : Hp) (B : Heap) (a0 : Value), e = .ref ea ∧ s'.os = s.os ∧ AllBare s'.gens ∧ Fl P w outer s.heap H H' B s'.heap ∧ Same H H' ∧ H' ea = none ∧ s.heap.get? ea = none ∧
  Heap.FlyingW B outer ea (.ref c) a0 s'.heap ∧ E (.ref c) none H'
theorem pass1 {P : Program} {w : World} {X : Cx} : Passes (CX1 P w) X E0 := fun _ _ _ _ _ _ _ h => by
  obtain ⟨_, _, _, _, _, _, _, _, _, _, _, _, _, z⟩ := h
  exact z.elim
def MadeX (X : Cx) (Ed : Value → Prop) : Prop := ∀ (pins : List (Addr × Obj)) (σ : St) (H : Hp) (W : Own) (ρ : Ro) (s : Shared) (e c : Addr) (vs : List Value) (h' : Heap), Inv X pins σ H s → Rel X W H σ ρ → Heap.MadeExcOf s.heap h' e (.ref c) vs → Ed (.ref c) → X.xe (.ref e) { s with heap := h' }
def PassX (X : Cx) (Ed : Value → Prop) : Prop := ∀ (pins : List (Addr × Obj)) (σ : St) (H : Hp) (W : Own) (ρ : Ro) (s : Shared) (e : Value) (s' : Shared), Inv X pins σ H s → Rel X W H σ ρ → CX1 X.prog X.w X.stack H s (fun c _ _ => Ed c) e s' → X.xe e s'
section
variable {P : Program} {w : World} {K : PySem.W.Frag} {mg : Str → Option Value} {base : Heap} {N : List Str} {qual : Str} {sc : Scope} {f : Addr} {cd : Value} {A : Around} {outer : List Env} {s₀ : Shared} {H₀ : Hp} {E : XK}
theorem closeX {pins : List (Addr × Obj)} {σ : St} {H : Hp} {s : Shared} {B h' : Heap} {e c : Addr} {a0 : Value} (I : Inv (cxOf (CX1 P w) P w K mg base N qual sc f cd A outer s₀ H₀ E) pins σ H s) (hS : Same H₀ H) (hn : H e = none) (hn0 : s₀.heap.get? e = none)
    (cov : ∀ b o, s.heap.get? b = some o → ((∃ u, H b = some u) ∨ ∃ o', s₀.heap.get? b = some o') → b ∉ frs (envOfC qual sc s₀.heap.objs.size f cd :: outer) → B.get? b = some o)
    (fl : Heap.FlyingW B outer e (.ref c) a0 h') (sl : s.heap.UpToSlots h') (hE : E (.ref c) none H) : CX1 P w outer H₀ s₀ E (.ref e) { s with heap := h' } := by
  have nf : ∀ b, ((∃ u, H b = some u) ∨ ∃ o', s₀.heap.get? b = some o') → b ∉ frs outer → b ∉ frs (envOfC qual sc s₀.heap.objs.size f cd :: outer) := fun b c n z => by
    rcases c with ⟨u, c⟩ | ⟨o', c⟩
    · have := I.stkFree b z
      rw [c] at this
      cases this
    · rcases List.mem_cons.mp (I.stkSub b z) with q | q
      · have h1 := Heap.lt_size c
        have h2 : s₀.heap.objs.size ≤ b := by rw [q]; exact I.ok.above
        exact absurd (Nat.lt_of_lt_of_le h1 h2) (Nat.lt_irrefl _)
      · exact n q
  have F : Fl P w outer s₀.heap H₀ H B s.heap := ⟨I.base, I.hok, fun b hb => ⟨I.ok.frf b hb, by
    obtain ⟨_, o, e, d⟩ := I.ok.funs.mem hb
    exact ⟨o, e, d⟩⟩, fun b o e c n => cov b o e c (nf b c n)⟩
  exact ⟨e, c, H, B, a0, rfl, I.os, I.bare, F.step fl.1 sl, hS, hn, hn0, fl, hE⟩
theorem made1 {Ed : Value → Prop} (hE : ∀ c a H', Same H₀ H' → Ed c → E c a H') : MadeX (cxOf (CX1 P w) P w K mg base N qual sc f cd A outer s₀ H₀ E) Ed := by
  intro pins σ H W ρ s e c vs h' I r hx hd
  show wpAny (model P w) (A.deeper (envOfC qual sc s₀.heap.objs.size f cd)) (leaving (envOfC qual sc s₀.heap.objs.size f cd) (.ref e)) _ _ _
  refine wpAny_leaves_madeW (base := PySem.W.hideAll s.heap (frs (envOfC qual sc s₀.heap.objs.size f cd :: outer))) (h := s.heap) (outer := outer) I.ok.frames rfl (fun b o q => PySem.W.of_hideAll _ q)
    (PySem.W.funFrames_hide I.stack fun env he b hb => List.mem_filterMap.mpr ⟨env, he, hb⟩) hx fun h'' t x1 _ _ x4 => ?_
  have ne : ∀ {h1 : Heap}, (∀ b o, h1.get? b = some o → ∃ o', s.heap.get? b = some o') → h1.get? e = none := fun {h1} k => by
    cases q : h1.get? e with
    | none => rfl
    | some o =>
      obtain ⟨o', q'⟩ := k e o q
      rw [hx.new] at q'
      cases q'
  refine closeX (s := s) (h' := h'') I r.ent ?_ (ne fun b o q => I.base.there b o q (by intro z; cases z)) (fun b o q _ n => PySem.W.hideAll_get _ q n) x1 (fun b o q d => ?_) (hE _ _ _ r.ent hd)
  · cases q : H e with
    | none => rfl
    | some u =>
      obtain ⟨o, z⟩ := PD.ObjOk.there (I.hok e u q)
      rw [hx.new] at z
      cases z
  · exact x4 b o (hx.keeps b o q) d
theorem passes1 {Ed : Value → Prop} (hE : ∀ c a H', Same H₀ H' → Ed c → E c a H') : PassX (cxOf (CX1 P w) P w K mg base N qual sc f cd A outer s₀ H₀ E) Ed := by
  intro pins σ H W ρ s e s' I r hx
  obtain ⟨ea, c, H', B, a0, rfl, os, bare, F, sm, hn, hn0, fl, hd⟩ := hx
  show wpAny (model P w) (A.deeper (envOfC qual sc s₀.heap.objs.size f cd)) (leaving (envOfC qual sc s₀.heap.objs.size f cd) (.ref ea)) _ _ _
  refine wpAny_leaves_onW (outer := outer) I.ok.frames rfl fl fun h'' x1 x2 => ?_
  have I' := I.call' os F.un F.hok bare (by intro b z; cases z)
  refine closeX (s := s') (h' := h'') I' (r.ent.trans sm) hn ?_ (fun b o q z n => F.cov b o q (z.elim .inl fun ⟨o', z⟩ => .inr (I.base.there b o' z (by intro q; cases q))) n) x1 x2 (hE _ _ _ (r.ent.trans sm) hd)
  cases q : s₀.heap.get? ea with
  | none => rfl
  | some o =>
    obtain ⟨o', q'⟩ := I.base.there ea o q (by intro z; cases z)
    rw [hn0] at q'
    cases q'
end
section
variable {X : Cx} {k : Nat} {f : Addr} {fd : FuncData} {ps : List Str} {sp : DSp} {x : Str} {p pos : Pos} {e : Expr} {es : List Expr} {t : DA}
theorem run_dX {dds : List D} {dsv : List Value} {Ed : Value → Prop} {XE : Value → Shared → Prop} (F : FnOk X.prog X.w X.K X.mg X.base (CX1 X.prog X.w) k f fd ps (spOf X.K sp)) (hr : Room k X.A) (hb : Binds X.K fd ps dsv) (hd : Vals (dds.map dval) dsv) (hs : ∀ d ∈ dds, scalD d)
    {pins : List (Addr × Obj)} {σ : St} {H : Hp} {s : Shared} {W : Own} {ρ : Ro} {us : List Value} {vs : List V} {ds : List D} {Q : D → Prop} (I : Inv X pins σ H s) (rr : Rel X W H σ ρ) (r : Vals vs us) (hds : Dens X.K W.bad H ds vs)
    (q : sp (untags ds ++ dds) Q Ed) (hx : ∀ e s', CX1 X.prog X.w X.stack H s (fun c _ _ => Ed c) e s' → XE e s') : wpAny (model X.prog X.w) X.A (call (.ref f) us) (DP X pins σ W H Q) XE s := by
  have r2 : Vals (vs ++ dds.map dval) (us ++ dsv) := r.append hd
  have hsp : spOf X.K sp (vs ++ dds.map dval) H (fun v H' => Same H H' ∧ ∃ d, Den X.K W.bad H' d v ∧ Q d) (fun c _ _ => Ed c) :=
    ⟨W.bad false, untags ds ++ dds, Q, Ed, rr.tab, rr.tracked false, (Dens.untag (fun _ _ => Own.bad_up) ds vs hds).append (Dens.scal hs), q, fun d v H' e h1 h2 => ⟨e, d, Den.back rr.tracked h1, h2⟩, fun _ _ _ _ z => z⟩
  have hl : (us ++ dsv).length = ps.length := by rw [← r2.length]; exact F.len _ _ _ _ hsp
  refine wpAny_call (codeAny_mono (F.run X.A X.stack s H ⟨us, []⟩ (us ++ dsv) (vs ++ dds.map dval) _ _ hr I.env0 (hb s us I.kIn hl) r2 hsp) fun res s' hq => ?_)
  cases res with
  | error er => exact hx er s' hq
  | ok fl =>
    cases fl with
    | ret u =>
      obtain ⟨v, H2, I2, r2, e2, d, h1, h2⟩ := I.after hq
      exact ⟨v, H2, d, I2, r2, e2, h1, h2⟩
    | next => exact False.elim hq
    | brk => exact False.elim hq
    | cont => exact False.elim hq
def dCallX (sp : DSp) (Ed : Value → Prop) (dds : List D) (t : DA) : DE := fun ρ Q => t ρ fun ds => sp (untags ds ++ dds) Q Ed
theorem de_callXD {dds : List D} {dsv : List Value} {Ed : Value → Prop} (px : PassX X Ed) (F : FnOk X.prog X.w X.K X.mg X.base (CX1 X.prog X.w) k f fd ps (spOf X.K sp)) (hr : Room k X.A) (hg : Gl X x) (hm : X.mg x = some (.ref f)) (hk : PySem.W.keepIn X.K (.ref f) = true) (hb : Binds X.K fd ps dsv) (hd : Vals (dds.map dval) dsv) (hs : ∀ d ∈ dds, scalD d)
    (ha : PAD X (e :: es) t) (hdb : (x == ("__debug__" : Str)) = false := by decide) (he : starEach (e :: es) X.env = (false, eval e X.env) :: starEach es X.env := by rfl) (hpl : (backTo pos (starEach es X.env)).any (·.1) = false := by rfl) :
    PED X (.Call (.Name x p) (e :: es) [] pos) (dCallX sp Ed dds t) := by
  intro pins s σ H W ρ Q I rr h
  refine wpAny_Call_Name_kw (ld_glob I hg hm ?_ hdb)
  refine PySem.W.callWith_K (h₀ := X.base) I.ok.mod.kin hk (thn (ha pos pins s σ H W ρ _ I rr h) fun us s1 ⟨vs, H1, ds, I1, r, e1, hds, q⟩ => ⟨I1.kIn, ?_⟩) he hpl
  exact thn (run_dX F hr hb hd hs I1 (rr.same e1) r hds q fun er s' hx => px pins σ H1 W ρ s1 er s' I1 (rr.same e1) hx) fun _ _ z => z.up e1
end
theorem exc_obj {K : PySem.W.Frag} {h : Heap} {C : Addr} {bmB : List Value} {newId : String} (X : K.In h) (q : PySem.W.excIn K C bmB newId = true) : ∃ tl N nm qn bs hd sn sub ab col dd k0 k1 k2 k3 k5 mN,
    h.get? C = some (excClassObj nm qn C N bs tl hd sn sub ab col dd k0 k1 k2 k3 k5 newId) ∧ h.Ns N mN ∧ mN "__init__" = none ∧ OwnTail h bmB tl := by
  unfold PySem.W.excIn at q
  split at q
  next dd cd sl ho =>
    split at q
    next C' tl k0 k1 k2 k3 n k5 hm hs =>
      simp only [Bool.and_eq_true, beq_iff_eq, Bool.not_eq_true'] at q
      obtain ⟨⟨⟨⟨⟨e1, e2⟩, hdel⟩, ht⟩, hok⟩, hni⟩ := q
      subst e1 e2
      cases cd with
      | mk nm bs mro ns qn hd sn sub ab col del =>
        simp only at hm hdel hok hni
        subst hm hdel
        have hsl : sl = #[k0, k1, k2, k3, some (.builtin n), k5] := by
          apply Array.ext'
          rw [hs]
        subst hsl
        exact ⟨tl, ns, nm, qn, bs, hd, sn, sub, ab, col, dd, k0, k1, k2, k3, k5, _, X _ _ ho, .of_isNs (PySem.W.isNs_of_in X hok), PySem.W.nsMap_none_of_in X hok hni, PySem.W.tail_of_in X ht⟩
    next => cases q
  next => cases q
abbrev veMro : List Value := [.type "ValueError", .type "Exception", .type "BaseException", .type "object"]
section
variable {X : Cx} {pos : Pos}
theorem ds_raise {x : Str} {C : Addr} {e : Expr} {es : List Expr} {t : DA} {np cpos : Pos} {Ed : Value → Prop} (pm : MadeX X Ed) (hg : Gl X x) (hm : X.mg x = some (.ref C)) (q : PySem.W.excIn X.K C veMro "ValueError.__new__" = true) (hc : X.calm = true) (ha : PAD X (e :: es) t)
    (he : starEach (e :: es) X.env = (false, eval e X.env) :: starEach es X.env := by rfl) (hpl : (backTo cpos (starEach es X.env)).any (·.1) = false := by rfl) (hdb : (x == ("__debug__" : Str)) = false := by decide) :
    PSD X (.Raise (some (.Call (.Name x np) (e :: es) [] cpos)) none pos) (fun _ ρ => t ρ fun ds => ds.length ≤ sizeLine ∧ Ed (.ref C)) := by
  intro pins s σ H W ρ E I r h
  obtain ⟨tl, N, nm, qn, bs, hd, sn, sub, ab, col, dd, k0, k1, k2, k3, k5, mN, hC, hN, hni, T⟩ := exc_obj I.ok.mod.kin q
  have FB := PySem.F.excBase_ValueError
  refine wpAny_Raise_call_subT (C := C) (nm := nm) (q := qn) (N := N) (bs := bs) (bm := tl) (hdct := hd) (sn := sn) (sub := sub) (ab := ab) (col := col) (dd := dd) (k0 := k0) (k1 := k1) (k2 := k2) (k3 := k3) (k5 := k5) FB (mN := mN) (T.hasType FB.hasBase) (I.ok.hd hc)
    (by rw [he]; show (false || (backTo cpos (starEach es X.env)).any (·.1)) = false; rw [hpl]; rfl) hni (ld_glob I hg hm ⟨rfl, ?_⟩ hdb)
  have hz := ha cpos pins s σ H W ρ _ I r h
  rw [he] at hz ⊢
  refine Calls.evalArgs_plain (thn hz fun us s1 ⟨vs, H1, ds, I1, rv, e1, hds, z, hE⟩ => ?_)
  exact ⟨rfl, by rw [← hds.len, rv.length] at z; exact z, I1.bk _ _ hC, hN.keeps I1.bk, T.keeps I1.bk, fun h' ea hm => pm pins σ H1 W ρ s1 ea C us h' I1 (r.same e1) hm hE⟩
theorem Rel.wish {W : Own} {H : Hp} {σ : St} {ρ : Ro} (r : Rel X W H σ ρ) (E : Value → Shared → Prop) : Rel (X.wish E) W H σ ρ := ⟨r.val, r.own, r.inj, r.kn, r.ke, r.bt, r.st, r.ent, r.tab⟩
theorem Rel.unwish {W : Own} {H : Hp} {σ : St} {ρ : Ro} {E : Value → Shared → Prop} (r : Rel (X.wish E) W H σ ρ) : Rel X W H σ ρ := ⟨r.val, r.own, r.inj, r.kn, r.ke, r.bt, r.st, r.ent, r.tab⟩
theorem SPD.unwish {pins : List (Addr × Obj)} {W : Own} {H : Hp} {E : DEnds} {f : Flow} {s' : Shared} {XE : Value → Shared → Prop} (h : SPD (X.wish XE) pins W H E f s') : SPD X pins W H E f s' := by
  obtain ⟨W', σ', H', I, fw, q⟩ := h
  refine ⟨W', σ', H', I.unwish, fw, ?_⟩
  cases f with
  | next => obtain ⟨ρ', r, q⟩ := q; exact ⟨ρ', r.unwish, q⟩
  | brk => obtain ⟨ρ', r, q⟩ := q; exact ⟨ρ', r.unwish, q⟩
  | cont => obtain ⟨ρ', r, q⟩ := q; exact ⟨ρ', r.unwish, q⟩
  | ret u => exact q
theorem PSD.nox {st : Stmt} {t : DS} (h : PSD X.nox st t) : PSD X st t := fun pins s σ H W ρ E I r hw =>
  wpAny_mono (h pins s σ H W ρ E (I.wish _) (r.wish _) hw) (fun _ _ q => q.unwish) fun _ _ z => False.elim z
theorem PSDs.nox {st : List Stmt} {t : DS} (h : PSDs X.nox st t) : PSDs X st t := fun pins s σ H W ρ E I r hw =>
  wpAny_mono (h pins s σ H W ρ E (I.wish _) (r.wish _) hw) (fun _ _ q => q.unwish) fun _ _ z => False.elim z
theorem PED.nox {e : Expr} {t : DE} (h : PED X.nox e t) : PED X e t := fun pins s σ H W ρ Q I r hw =>
  wpAny_mono (h pins s σ H W ρ Q (I.wish _) (r.wish _) hw) (fun _ _ ⟨v, H', d, I', a, b, c, q⟩ => ⟨v, H', d, I'.unwish, a, b, c, q⟩) fun _ _ z => False.elim z
abbrev Cx.markX (X : Cx) (e : Value) : Cx := { X with A := X.A.mark (some e), calm := false, xe := fun _ _ => False }
theorem Inv.marked {pins : List (Addr × Obj)} {σ : St} {H : Hp} {s : Shared} (I : Inv X pins σ H s) (e : Value) : Inv (Cx.markX X e) pins σ H s :=
  have ok := I.ok
  ⟨⟨ok.mod, ok.kind, ok.glob, ok.blt, ok.above, ok.inj, ok.has, ok.cab, (fun z => by cases z), ok.frames, ok.stk, ok.exf, ok.bs, ok.bsz, ok.noex, ok.exfs, ok.funs, ok.frf⟩, I.os, I.bare, I.base, I.loc, I.cell, I.free, I.freeC, I.pin, I.hok, I.len⟩
theorem Inv.unmark {pins : List (Addr × Obj)} {σ : St} {H : Hp} {s : Shared} {e : Value} (J : Inv (Cx.markX X e) pins σ H s) (ok : X.Ok) : Inv X pins σ H s :=
  ⟨ok, J.os, J.bare, J.base, J.loc, J.cell, J.free, J.freeC, J.pin, J.hok, J.len⟩
theorem Rel.marked {W : Own} {H : Hp} {σ : St} {ρ : Ro} (r : Rel X W H σ ρ) (e : Value) : Rel (Cx.markX X e) W H σ ρ := ⟨r.val, r.own, r.inj, r.kn, r.ke, r.bt, r.st, r.ent, r.tab⟩
theorem Rel.unmark {W : Own} {H : Hp} {σ : St} {ρ : Ro} {e : Value} (r : Rel (Cx.markX X e) W H σ ρ) : Rel X W H σ ρ := ⟨r.val, r.own, r.inj, r.kn, r.ke, r.bt, r.st, r.ent, r.tab⟩
theorem Inv.track {pins : List (Addr × Obj)} {σ : St} {H : Hp} {s : Shared} {e : Addr} {o : HO} (I : Inv X pins σ H s) (hn : H e = none) (h0 : X.s₀.heap.get? e = none) (hL : e ≠ X.env.locals) (hc : ∀ x c, X.env.cells.lookup x = some c → c ≠ e) (hp : ∀ p ∈ X.pn ++ pins, p.1 ≠ e)
    (new : ObjOk X.prog X.w (L2.upd H e o) s.heap e o) : Inv X pins σ (L2.upd H e o) s := by
  refine ⟨I.ok, I.os, I.bare, ⟨I.base.keep, I.base.slot, fun b u q n x => ?_, I.base.there, fun b xs q => ?_, fun b u xs q => ?_, fun b ps q => ?_⟩, I.loc, I.cell, by rw [upd_ne (Ne.symm hL)]; exact I.free, fun x c q => by rw [upd_ne (hc x c q)]; exact I.freeC x c q, fun p q => ?_, fun b u q => ?_, I.len⟩
  · rw [upd_ne (fun z => by rw [z, h0] at q; cases q)]
    exact I.base.free b u q n x
  · have := I.base.tups b xs q
    rw [upd_ne (ne_of_none this hn)]
    exact this
  · have := I.base.frzs b u xs q
    rw [upd_ne (ne_of_none this hn)]
    exact this
  · obtain ⟨more, this⟩ := I.base.tbls b ps q
    exact ⟨more, by rw [upd_ne (ne_of_none this hn)]; exact this⟩
  · obtain ⟨p1, p2, p3⟩ := I.pin p q
    exact ⟨p1, by rw [upd_ne (hp p q)]; exact p2, p3⟩
  · by_cases hb : b = e
    · subst hb
      rw [upd_same] at q
      cases q
      exact new
    · rw [upd_ne hb] at q
      exact (I.hok b u q).stay (fun c v _ z => z) (fun c z => by rw [upd_ne (ne_of_none z hn)]; exact z) fun c xs z => by rw [upd_ne (ne_of_none z hn)]; exact z
theorem name_gone {M : Model} {A : Around} {E : Value → Shared → Prop} {pins : List (Addr × Obj)} {σ : St} {H : Hp} {s : Shared} {i : Nat} {n : Str} {Q : Unit → Shared → Prop} (I : Inv X pins σ H s) (hN : X.N.Nodup) (hi : X.N[i]? = some n) (hk : X.env.scope.names.lookup n = some .local)
    (h : ∀ s', Inv X pins (σ.set i none) H s' → Q () s') : wpAny M A (do bindName X.env n .none; unbindBehindTheSuite X.env n pos) Q E s := by
  obtain ⟨m, hn, hl⟩ := id I.loc
  refine wpAny_nameGoes_keeps hk hn (by rw [I.ok.kind]; rfl) fun h' v hn' hs => h _ ?_
  have neL : ∀ b o, X.s₀.heap.get? b = some o → b ≠ X.env.locals := fun b o e => Nat.ne_of_lt (Nat.lt_of_lt_of_le (Heap.lt_size e) I.ok.above)
  refine ⟨I.ok, I.os, I.bare, ⟨fun b o e z hb hx => (hs.2 b (neL b o e)).trans (I.base.keep b o e z hb hx), fun b o e z hb hx => ?_, I.base.free, fun b o e hx => ?_, I.base.tups, I.base.frzs, I.base.tbls⟩, ⟨_, hn', fun j y v' e1 e2 e3 => ?_⟩, fun y c e => ?_, I.free, I.freeC, fun p hp => ?_, fun b ob e => ?_, by simpa using I.len⟩
  · obtain ⟨sl, e1⟩ := I.base.slot b o e z hb hx
    exact ⟨sl, (hs.2 b (neL b o e)).trans e1⟩
  · obtain ⟨o', e1⟩ := I.base.there b o e hx
    exact ⟨o', (hs.2 b (neL b o e)).trans e1⟩
  · by_cases hj : j = i
    · subst hj
      rw [List.getElem?_set] at e2
      simp at e2
    · rw [List.getElem?_set_ne (Ne.symm hj)] at e2
      obtain ⟨u', r', q⟩ := hl j y v' e1 e2 e3
      refine ⟨u', r', ?_⟩
      rcases q with ⟨k, e⟩ | ⟨k, c, e, z⟩
      · refine .inl ⟨k, ?_⟩
        have : y ≠ n := fun e => hj (nodup_ix hN e1 (e ▸ hi))
        simp [this, e]
      · exact .inr ⟨k, c, e, z.sameBut hs (I.cne y c e)⟩
  · obtain ⟨w', z⟩ := I.cell y c e
    exact ⟨w', z.sameBut hs (I.cne y c e)⟩
  · obtain ⟨e, z, ne, nf, d⟩ := I.pin p hp
    exact ⟨(hs.2 p.1 ne).trans e, z, ne, nf, d⟩
  · refine (I.hok b ob e).stay (fun c w' hc q => (hs.2 c ?_).trans q) (fun _ q => q) fun _ _ q => q
    intro z
    rcases hc with hc | hc
    · rw [← hc, z, I.free] at e; cases e
    · rw [z, I.free] at hc; cases hc
theorem Rel.unset {W : Own} {H : Hp} {σ : St} {ρ : Ro} {i : Nat} (r : Rel X W H σ ρ) (hi : i < σ.length) : Rel X (W.drop i) H (σ.set i none) (ρ.set i none) := by
  have at_ : ∀ {j : Nat} {x : Sl}, (ρ.set i none)[j]? = some (some x) → j ≠ i ∧ ρ[j]? = some (some x) := fun {j x} h => by
    by_cases hj : j = i
    · subst hj
      rw [List.getElem?_set] at h
      simp at h
    · rw [List.getElem?_set_ne (Ne.symm hj)] at h
      exact ⟨hj, h⟩
  have dr : ∀ {j : Nat} {a : Addr}, (W.drop i).O j = some a → j ≠ i ∧ W.O j = some a := fun {j a} h => by
    have h' : (if j = i then none else W.O j) = some a := h
    by_cases e1 : j = i
    · rw [if_pos e1] at h'; cases h'
    · rw [if_neg e1] at h'; exact ⟨e1, h'⟩
  refine ⟨fun j d h => ?_, fun j ds h => ?_, fun j k a h1 h2 => r.inj j k a (dr h1).2 (dr h2).2, fun j a h => r.kn j a (dr h).2, fun j a h => r.ke j a (dr h).2, r.bt, r.st, r.ent, r.tab⟩
  · obtain ⟨hj, h⟩ := at_ h
    obtain ⟨v, h1, h2⟩ := r.val j d h
    exact ⟨v, by rw [List.getElem?_set_ne (Ne.symm hj)]; exact h1, h2.fewer fun _ _ => Own.drop_bad⟩
  · obtain ⟨hj, h⟩ := at_ h
    obtain ⟨a, vs, h1, h2, h3, h4⟩ := r.own j ds h
    exact ⟨a, vs, by show (if j = i then none else W.O j) = _; rw [if_neg hj]; exact h1, by rw [List.getElem?_set_ne (Ne.symm hj)]; exact h2, h3, by rw [List.length_set]; exact h4.fewer (fun _ _ => Own.drop_bad) (Own.drop_sub hi)⟩
def dTry (K : PySem.W.Frag) (C : Addr) (i : Nat) (sp : DSp) (t : DA) (su : DS) : DS := fun E ρ => t ρ fun ds => sp (untags ds) (fun _ => E.nx ρ) fun cv => ∃ c, cv = .ref c ∧ ExcK K c ∧ PySem.W.exmOne K (.ref c) (.ref C) = some true ∧
  su ⟨fun ρ' => E.nx (ρ'.set i none), E.rt, fun ρ' => E.bk (ρ'.set i none), fun ρ' => E.ct (ρ'.set i none)⟩ (ρ.set i (some (.val (.exc c))))
def dIsC (K : PySem.W.Frag) (c : Value) (te : DE) : DE := fun ρ Q => te ρ fun d => ∃ b, PySem.W.kitOne K (tyV d) c = some b ∧ Q (.bl b)
theorem de_isinstC {e : Expr} {te : DE} {p p' : Pos} {x : Str} {cv : V} {c : Value} (hg : Gl X "isinstance") (hm : X.mg "isinstance" = none) (hx : PE X (.Name x p') (tC cv)) (rc : ∀ u, RelV cv u → u = c) (he : PED X e te)
    (hst : starEach [e, .Name x p'] X.env = (false, eval e X.env) :: starEach [.Name x p'] X.env := by rfl) (hst2 : starEach [.Name x p'] X.env = (false, eval (.Name x p') X.env) :: starEach [] X.env := by rfl) (hst3 : (backTo pos (starEach [.Name x p'] X.env)).any (·.1) = false := by rfl) :
    PED X (.Call (.Name "isinstance" p) [e, .Name x p'] [] pos) (dIsC X.K c te) := by
  intro pins s σ H W ρ Q I rr h
  have hpa : PA X [e, .Name x p'] (tCons (liftE X te) (tCons (tC cv) tNil)) := pa_cons he.pe (pa_cons hx pa_nil hst2) hst
  refine wpAny_Call_Name_kw (ld_blt I hg hm boot_isinstance ?_ (by decide) (by decide))
  refine PyProof.Rows.callWith_builtin1 (thn (hpa pos pins s σ H (fun vs H1 => ∃ v d, vs = [v, cv] ∧ Same H H1 ∧ Den X.K W.bad H1 d v ∧ ∃ b, PySem.W.kitOne X.K (tyV d) c = some b ∧ Q (.bl b)) I ⟨W, ρ, _, rr, h, fun v H1 d e1 hd q1 => ⟨v, d, rfl, e1, hd, q1⟩⟩) fun us s1 ⟨vs, H1, I1, rv, v, d, ev, e1, hd, b, kb, q1⟩ => ?_) hst hst3
  subst ev
  cases rv with
  | cons r1 rr =>
    cases rr with
    | cons r2 rr =>
      cases rr
      have := rc _ r2
      subst this
      exact isinst_d I1 hd r1 kb fun tk => ⟨.bl _, H1, _, I1.tok tk, rfl, e1, Den.bl _, q1⟩
end
def AnyW (base : Heap) (l : List Env) (e : Addr) (cls a0 : Value) (h : Heap) : Prop := base.StaysIn h ∧ base.get? e = none ∧ h.FunFrames base l ∧ ∃ fl, h.TracedAtW base e cls a0 fl
section
variable {M : Model} {A : Around} {E : Value → Shared → Prop} {s : Shared} {base : Heap} {l outer : List Env} {env : Env} {e L : Addr} {cls a0 : Value}
theorem markAny {fr : Option Addr} {Q : Unit → Shared → Prop} (R : AnyW base l e cls a0 s.heap) (h : ∀ h', AnyW base l e cls a0 h' → s.heap.UpToSlots h' → Q () { s with heap := h' }) : wpAny M A (setFlight (.ref e) fr) Q E s := by
  obtain ⟨k1, k2, k3, fl, oe, vs, T, oT, ts, g1, g2, g3, g4, g5, g6, g7, g8, g9⟩ := R
  have z3 : 3 < ts.size := (Array.getElem?_eq_some_iff.mp g9).1
  have oth : ∀ b, b ≠ T → (s.heap.update T (Obj.mapFields (·.setIfInBounds 3 (fr.elim Value.none fun f => rawInt f)))).get? b = s.heap.get? b := fun b hb => Heap.get?_update_other _ _ (Ne.symm hb)
  have nrec : ∀ b o, s.heap.get? b = some o → (∀ vs, o.data ≠ .fields vs) → b ≠ T := fun b o hb hn q => by
    rw [q, g7] at hb
    cases hb
    exact hn ts g8
  unfold setFlight
  refine wpAny_bind (wpAny_field g1 g3 g4 ?_)
  rw [if_pos (by simp)]
  refine wpAny_setField g7 g8 z3 (h _ ⟨fun b o hb => (oth b fun q => by rw [q, g5] at hb; cases hb).trans (k1 b o hb), k2, k3.of_keeps fun b o hb hn => ⟨o, (oth b (nrec b o hb hn)).trans hb, rfl⟩, ?_⟩ fun b o hb hn => ⟨o.slots, (oth b (nrec b o hb hn)).trans hb⟩)
  exact ⟨_, oe, vs, T, _, _, (oth e (Ne.symm g6)).trans g1, g2, g3, g4, g5, g6, Heap.get?_update_self _ g7 (Obj.isFreed_of_fields (Obj.data_mapFields g8 _)), Obj.data_mapFields g8 _, by simp [z3]; rfl⟩
theorem passAny {what : String} {cenv : Env} (R : AnyW base l e cls a0 s.heap) (h : ∀ h', AnyW base l e cls a0 h' → s.heap.UpToSlots h' → E (.ref e) { s with heap := h' }) : wpAny M A (PySem.passOn what (.ref e) cenv : Sem Value) (fun _ _ => False) E s := by
  obtain ⟨_, _, _, fl, oe, vs, T, oT, ts, g1, g2, g3, g4, _⟩ := id R
  unfold PySem.passOn
  refine wpAny_bind (wpAny_field g1 g3 g4 ?_)
  rw [if_neg (by simp)]
  first
    | exact wpAny_bind (wpAny_pure (wpAny_bind (markAny R fun h' R' sl => wpAny_throw (h h' R' sl))))
    | exact wpAny_bind (markAny R fun h' R' sl => wpAny_throw (h h' R' sl))
theorem noteAny {Q : Unit → Shared → Prop} (hfr : A.frames = some (env :: outer)) (hf : env.frame = some L) (R : AnyW base (env :: outer) e cls a0 s.heap)
    (h : ∀ h', AnyW base (env :: outer) e cls a0 h' → s.heap.UpToSlots h' → Q () { s with heap := h' }) : wpAny M A (noteFrame (.ref e) env) Q E s := by
  obtain ⟨k1, k2, k3, fl, oe, vs, T, oT, ts, g1, g2, g3, g4, g5, g6, g7, g8, g9⟩ := id R
  by_cases hfl : (fl == rawInt L) = true
  · have efl : fl = rawInt L := by simpa using hfl
    subst efl
    exact wpAny_noteFrame_againW (base := base) (cls := cls) (a0 := a0) hf ⟨oe, vs, T, oT, ts, g1, g2, g3, g4, g5, g6, g7, g8, g9⟩ (h _ R (Heap.UpToSlots.refl _))
  · obtain ⟨ec, g0⟩ := g2
    subst ec
    unfold noteFrame
    simp only [hf]
    refine wpAny_bind (wpAny_field g1 g3 g4 ?_)
    rw [if_pos (by simp)]
    refine wpAny_bind (wpAny_field g7 g8 g9 ?_)
    rw [if_neg hfl]
    refine wpAny_bind (wpAny_setField g7 g8 (Array.getElem?_eq_some_iff.mp g9).1 ?_)
    have oth : ∀ b, b ≠ T → (s.heap.update T (Obj.mapFields (·.setIfInBounds 3 Value.none))).get? b = s.heap.get? b := fun b hb => Heap.get?_update_other _ _ (Ne.symm hb)
    have nrec : ∀ b o, s.heap.get? b = some o → (∀ vs, o.data ≠ .fields vs) → b ≠ T := fun b o hb hn q => by
      rw [q, g7] at hb
      cases hb
      exact hn ts g8
    refine wpAny_entryW (base := base) hfr (k3.of_keeps fun b o hb hn => ⟨o, (oth b (nrec b o hb hn)).trans hb, rfl⟩) hf ((oth e (Ne.symm g6)).trans g1) (fun b o hb => (oth b fun q => by rw [q, g5] at hb; cases hb).trans (k1 b o hb)) k2 g3 (Array.getElem?_eq_some_iff.mp g4).1 g0 fun h' hN => ?_
    obtain ⟨n1, n2, n3, n4⟩ := hN
    exact h h' ⟨n1, k2, n2, _, n3⟩ fun b o hb hn => n4 b o ((oth b (nrec b o hb hn)).trans hb) hn
theorem leaveAny {Q : Unit → Shared → Prop} (hfr : A.frames = some (env :: outer)) (hf : env.frame = some L) (R : AnyW base (env :: outer) e cls a0 s.heap)
    (h : ∀ h', Heap.FlyingW base outer e cls a0 h' → s.heap.UpToSlots h' → Q () { s with heap := h' }) : wpAny M A (leaving env (.ref e)) Q E s := by
  unfold leaving
  refine wpAny_bind (noteAny hfr hf R fun h1 R1 s1 => ?_)
  obtain ⟨k1, k2, k3, fl, k4⟩ := R1
  refine wpAny_setFlight_noneW (base := base) k1 k3 k4 fun h2 m1 m2 m3 m4 => ?_
  obtain ⟨_, _, m2⟩ := m2
  exact h h2 ⟨m1, k2, m2, m3⟩ (s1.trans fun b o hb hn => ⟨o.slots, m4 b o hb hn⟩)
end
def HeldX (X : Cx) (Ed : Value → Prop) : Prop := ∀ (pins : List (Addr × Obj)) (σ : St) (H : Hp) (W : Own) (ρ : Ro) (s s' : Shared) (ea c : Addr) (H' : Hp) (B : Heap) (a0 : Value), Inv X pins σ H s → Rel X W H σ ρ → s'.os = s.os → AllBare s'.gens → Fl X.prog X.w X.stack s.heap H H' B s'.heap → Same H H' → H' ea = none → s.heap.get? ea = none →
  AnyW B X.stack ea (.ref c) a0 s'.heap → Ed (.ref c) → X.xe (.ref ea) s'
theorem HeldX.no {X : Cx} : HeldX X fun _ => False := fun _ _ _ _ _ _ _ _ _ _ _ _ _ _ _ _ _ _ _ _ _ z => z.elim
section
variable {P : Program} {w : World} {K : PySem.W.Frag} {mg : Str → Option Value} {base : Heap} {N : List Str} {qual : Str} {sc : Scope} {f : Addr} {cd : Value} {A : Around} {outer : List Env} {s₀ : Shared} {H₀ : Hp} {E : XK}
theorem held1 {Ed : Value → Prop} (hE : ∀ c a H', Same H₀ H' → Ed c → E c a H') : HeldX (cxOf (CX1 P w) P w K mg base N qual sc f cd A outer s₀ H₀ E) Ed := by
  intro pins σ H W ρ s s' ea c H' B a0 I r os bare F sm hn hn0 R hd
  show wpAny (model P w) (A.deeper (envOfC qual sc s₀.heap.objs.size f cd)) (leaving (envOfC qual sc s₀.heap.objs.size f cd) (.ref ea)) _ _ _
  refine leaveAny (outer := outer) I.ok.frames rfl R fun h'' x1 x2 => ?_
  have I' := I.call' os F.un F.hok bare (by intro b z; cases z)
  refine closeX (s := s') (h' := h'') I' (r.ent.trans sm) hn ?_ (fun b o q z n => F.cov b o q (z.elim .inl fun ⟨o', z⟩ => .inr (I.base.there b o' z (by intro q; cases q))) n) x1 x2 (hE _ _ _ (r.ent.trans sm) hd)
  cases q : s₀.heap.get? ea with
  | none => rfl
  | some o =>
    obtain ⟨o', q'⟩ := I.base.there ea o q (by intro z; cases z)
    rw [hn0] at q'
    cases q'
end
section
variable {P : Program} {w : World} {K : PySem.W.Frag} {mg : Str → Option Value} {base : Heap}
structure FunD (K : PySem.W.Frag) (x qual : Str) (st : Stmt) (f : Addr) (fd : FuncData) : Prop where
  ex : ∃ (oc : Value) (od : Option Addr) (dV kV doc pm : Value) (an : Option Addr) (cdv ct : Value) (osl : Array (Option Value)),
    fd = PySem.W.fnOf x qual (defArgs st) (defBody st) (defScope st) dV kV doc pm an cdv ct ∧ K.lookup f = some ⟨oc, od, .func fd, osl⟩ ∧ PySem.W.codeIn K cdv qual = true
  kp : PySem.W.keepIn K (.ref f) = true
theorem FunD.okC {x qual : Str} {st : Stmt} {f : Addr} {fd : FuncData} {N ps : List Str} {k : Nat} {sp : DSp} (F : FunD K x qual st f fd) (S : FnScope N ps (defScope st)) (len : ∀ ds Q E, sp ds Q E → ds.length = ps.length)
    (hbody : ∀ (cdv : Value), fd.code = cdv → ∀ (A : Around) (outer : List Env) (s : Shared) (H : Hp) (E : XK) (Ed : Value → Prop), Room k (A.deeper (envOfC qual (defScope st) s.heap.objs.size f cdv)) → MadeX (cxOf (CX1 P w) P w K mg base N qual (defScope st) f cdv A outer s H E) Ed → PassX (cxOf (CX1 P w) P w K mg base N qual (defScope st) f cdv A outer s H E) Ed → HeldX (cxOf (CX1 P w) P w K mg base N qual (defScope st) f cdv A outer s H E) Ed →
      ∃ t, PSDs (cxOf (CX1 P w) P w K mg base N qual (defScope st) f cdv A outer s H E) (defBody st) t ∧ ∀ ds Q, sp ds Q Ed → t { nx := fun _ => Q .non, rt := Q } (startD N ds)) : FnOk P w K mg base (CX1 P w) (k + 1) f fd ps (spOf K sp) := by
  obtain ⟨oc, od, dV, kV, doc, pm, an, cdv, ct, osl, rfl, lk, hcd⟩ := F.ex
  refine fn_of lk hcd S (fun vs H Q E h => ?_) fun A outer s H vs Q E hr h => ?_
  · obtain ⟨_, ds, _, _, _, _, hd, hs, _⟩ := h
    rw [hd.len]
    exact len ds _ _ hs
  · obtain ⟨Pb, ds, Qd, Ed, hT, hP, hd, hs, kq, ke⟩ := h
    obtain ⟨t, ht, k⟩ := hbody cdv rfl A outer s H E Ed hr (made1 ke) (passes1 ke) (held1 ke)
    refine ⟨_, ht.ps, ⟨Pb, fun _ => none, fun a => ∃ o, H a = some o⟩, _, _, Rel.start hP hd rfl hT, k ds Qd hs, fun W' σ' H' ρ' f r q => ?_, fun W' H' v d f hd' q => ?_, fun _ _ _ _ _ _ q => q, fun _ _ _ _ _ _ q => q⟩
    · exact kq .non .non H' ⟨fun b o e n => f.kp b o (fun i z => by cases z) e n, f.tb, f.ok⟩ Den.non q
    · refine kq d v H' ⟨fun b o e n => f.kp b o (fun i z => by cases z) e n, f.tb, f.ok⟩ (hd'.fewer fun t a z => ?_) q
      rcases z with z | z
      · exact .inl (by rw [f.B]; exact z)
      · exact .inr (.inr ⟨z.1, by rw [f.S]; exact z.2⟩)
theorem FunD.okX {x qual : Str} {st : Stmt} {f : Addr} {fd : FuncData} {N ps : List Str} {k : Nat} {sp : DSp} (F : FunD K x qual st f fd) (S : FnScope N ps (defScope st)) (len : ∀ ds Q E, sp ds Q E → ds.length = ps.length)
    (hbody : ∀ (cdv : Value) (A : Around) (outer : List Env) (s : Shared) (H : Hp) (E : XK) (Ed : Value → Prop), Room k (A.deeper (envOfC qual (defScope st) s.heap.objs.size f cdv)) → MadeX (cxOf (CX1 P w) P w K mg base N qual (defScope st) f cdv A outer s H E) Ed → PassX (cxOf (CX1 P w) P w K mg base N qual (defScope st) f cdv A outer s H E) Ed → HeldX (cxOf (CX1 P w) P w K mg base N qual (defScope st) f cdv A outer s H E) Ed →
      ∃ t, PSDs (cxOf (CX1 P w) P w K mg base N qual (defScope st) f cdv A outer s H E) (defBody st) t ∧ ∀ ds Q, sp ds Q Ed → t { nx := fun _ => Q .non, rt := Q } (startD N ds)) : FnOk P w K mg base (CX1 P w) (k + 1) f fd ps (spOf K sp) := FunD.okC F S len fun cdv _ => hbody cdv
theorem FunD.okN {x qual : Str} {st : Stmt} {f : Addr} {fd : FuncData} {N ps : List Str} {k : Nat} {sp : DSp} (F : FunD K x qual st f fd) (S : FnScope N ps (defScope st)) (len : ∀ ds Q E, sp ds Q E → ds.length = ps.length)
    (hbody : ∀ (cdv : Value) (A : Around) (outer : List Env) (s : Shared) (H : Hp) (E : XK), Room k (A.deeper (envOfC qual (defScope st) s.heap.objs.size f cdv)) →
      ∃ t, PSDs (cxOf (CX1 P w) P w K mg base N qual (defScope st) f cdv A outer s H E).nox (defBody st) t ∧ ∀ ds Q Ed, sp ds Q Ed → t { nx := fun _ => Q .non, rt := Q } (startD N ds)) : FnOk P w K mg base (CX1 P w) (k + 1) f fd ps (spOf K sp) :=
  FunD.okX F S len fun cdv A outer s H E Ed hr _ _ _ => by
    obtain ⟨t, ht, k⟩ := hbody cdv A outer s H E hr
    exact ⟨t, ht.nox, fun ds Q h => k ds Q Ed h⟩
theorem FunD.binds {x qual : Str} {st : Stmt} {f : Addr} {kV doc pm cdv ct : Value} {an : Option Addr} {ps : List Str}
    (h : ∀ us : List Value, us.length = ps.length → bindArgs (PySem.W.fnOf x qual (defArgs st) (defBody st) (defScope st) .none kV doc pm an cdv ct) ⟨us, []⟩ = pure (ps.zip us)) : Binds K (PySem.W.fnOf x qual (defArgs st) (defBody st) (defScope st) .none kV doc pm an cdv ct) ps [] := .all h
theorem funD_mk {x qual : Str} {st : Stmt} {f : Addr} {oc : Value} {od an : Option Addr} {osl : Array (Option Value)} {dV kV doc pm cdv ct : Value} (l : K.lookup f = some ⟨oc, od, .func (PySem.W.fnOf x qual (defArgs st) (defBody st) (defScope st) dV kV doc pm an cdv ct), osl⟩)
    (c : PySem.W.codeIn K cdv qual = true) (k : PySem.W.keepIn K (.ref f) = true) : FunD K x qual st f (PySem.W.fnOf x qual (defArgs st) (defBody st) (defScope st) dV kV doc pm an cdv ct) := ⟨⟨oc, od, dV, kV, doc, pm, an, cdv, ct, osl, rfl, l, c⟩, k⟩
end
open PySem PySem.Spec PyProof.Rows L2
def Has (P : Program) (w : World) (K : PySem.W.Frag) (mg : Str → Option Value) (base : Heap) (x : Str) (k : Nat) (ps : List Str) (sp : DSp) : Prop :=
  ∃ f fd, FnOk P w K mg base (CX1 P w) k f fd ps (spOf K sp) ∧ mg x = some (.ref f) ∧ PySem.W.keepIn K (.ref f) = true ∧ Binds K fd ps []
section
variable {X : Cx} {k : Nat} {ps : List Str} {sp : DSp} {x : Str} {p pos : Pos} {e : Expr} {es : List Expr} {t : DA}
theorem de_call (h : Has X.prog X.w X.K X.mg X.base x k ps sp) (hr : Room k X.A) (ha : PAD X (e :: es) t) (hg : Gl X x := by rfl) (hdb : (x == ("__debug__" : Str)) = false := by decide)
    (he : starEach (e :: es) X.env = (false, eval e X.env) :: starEach es X.env := by rfl) (hpl : (backTo pos (starEach es X.env)).any (·.1) = false := by rfl) : PED X (.Call (.Name x p) (e :: es) [] pos) (dCall sp [] t) := by
  obtain ⟨f, fd, F, hm, hk, hb⟩ := h
  exact de_callD (dds := []) (dsv := []) F hr hg hm hk hb .nil (by simp) pass1 ha hdb he hpl
theorem de_callR {n : Nat} (h : Has X.prog X.w X.K X.mg X.base x k ps sp) (hr : Room n X.A) (ha : PAD X (e :: es) t) (hk : k ≤ n := by decide) (hg : Gl X x := by rfl) (hdb : (x == ("__debug__" : Str)) = false := by decide)
    (he : starEach (e :: es) X.env = (false, eval e X.env) :: starEach es X.env := by rfl) (hpl : (backTo pos (starEach es X.env)).any (·.1) = false := by rfl) : PED X (.Call (.Name x p) (e :: es) [] pos) (dCall sp [] t) := de_call h (hr.mono hk) ha hg hdb he hpl
theorem de_callX {Ed : Value → Prop} (px : PassX X Ed) (h : Has X.prog X.w X.K X.mg X.base x k ps sp) (hr : Room k X.A) (ha : PAD X (e :: es) t) (hg : Gl X x := by rfl) (hdb : (x == ("__debug__" : Str)) = false := by decide)
    (he : starEach (e :: es) X.env = (false, eval e X.env) :: starEach es X.env := by rfl) (hpl : (backTo pos (starEach es X.env)).any (·.1) = false := by rfl) : PED X (.Call (.Name x p) (e :: es) [] pos) (dCallX sp Ed [] t) := by
  obtain ⟨f, fd, F, hm, hk, hb⟩ := h
  exact de_callXD (dds := []) (dsv := []) px F hr hg hm hk hb .nil (by simp) ha hdb he hpl
end
theorem cxOf_K {CX : CXT} {P : Program} {w : World} {K : PySem.W.Frag} {mg : Str → Option Value} {base : Heap} {N : List Str} {qual : Str} {sc : Scope} {f : Addr} {cd : Value} {A : Around} {outer : List Env} {s : Shared} {H : Hp} {E : XK} : (cxOf CX P w K mg base N qual sc f cd A outer s H E).K = K := rfl
theorem tyV_exc (c : Addr) : tyV (.exc c) = .ref c := rfl
theorem isNon_exc (c : Addr) : isNon (.exc c) = false := rfl
theorem kex {K : PySem.W.Frag} {t c : Value} {b : Bool} (h : PySem.W.kitOne K t c = some b) (R : Bool → Prop) : (∃ b', PySem.W.kitOne K t c = some b' ∧ R b') = R b := by
  apply propext
  constructor
  · rintro ⟨b', e, q⟩
    rw [h] at e
    cases e
    exact q
  · intro q; exact ⟨b, h, q⟩
def spLaw : DSp := fun ds Q _ => ∃ ns : List Int, ds = [.lst false (ns.map .int)] ∧ ns.length ≤ 63 ∧ Q (.bl true)
theorem dens_ints {K : PySem.W.Frag} {P : Bool → Addr → Prop} {H : Hp} : ∀ ns : List Int, Dens K P H (ns.map D.int) (ns.map V.int)
  | [] => Dens.nil
  | n :: r => Dens.cons (Den.int n) (dens_ints r)
theorem law_sp {K : PySem.W.Frag} {H : Hp} {a : Addr} {ns : List Int} (hl : ns.length ≤ 63) (hS : SqL K H a (ns.map V.int)) (hT : TabK K H) : spOf K spLaw [.ref a] H (fun v _ => v = .bl true) fun _ _ _ => False :=
  ⟨fun _ => False, [.lst false (ns.map D.int)], fun d => d = .bl true, fun _ => False, hT, fun _ z => z.elim, Dens.one (Den.lst (fun z => z.elim (fun z => by cases z) id) (.any hS) (dens_ints ns)), ⟨ns, rfl, hl, rfl⟩, fun d v H' _ hd e => by subst e; exact hd.bl_, fun _ _ _ _ z => z.elim⟩
theorem at0 {α : Type} (a : α) (r : List α) : atI (a :: r) 0 = some a := atI_nat (j := 0) rfl
theorem at1 {α : Type} (a b : α) (r : List α) : atI (a :: b :: r) 1 = some b := atI_nat (j := 1) rfl
theorem at2 {α : Type} (a b c : α) (r : List α) : atI (a :: b :: c :: r) 2 = some c := atI_nat (j := 2) rfl
theorem at3 {α : Type} (a b c d : α) (r : List α) : atI (a :: b :: c :: d :: r) 3 = some d := atI_nat (j := 3) rfl
theorem rdIx_tup (ds : List D) (i : Int) (Q : D → Prop) : rdIx (.tup ds) (.int i) Q = ∃ d, atI ds i = some d ∧ Q d := ixQ_eq ds i Q
theorem rdIx_lst (t : Bool) (ds : List D) (i : Int) (Q : D → Prop) : rdIx (.lst t ds) (.int i) Q = ∃ d, atI ds i = some d ∧ Q d := ixQ_eq ds i Q
section
variable {a b c d : D} {r : List D} {t : Bool} {Q : D → Prop}
theorem rx0 : rdIx (.tup (a :: r)) (.int 0) Q = Q a := rfl
theorem rx1 : rdIx (.tup (a :: b :: r)) (.int 1) Q = Q b := rfl
theorem rx2 : rdIx (.tup (a :: b :: c :: r)) (.int 2) Q = Q c := rfl
theorem rx3 : rdIx (.tup (a :: b :: c :: d :: r)) (.int 3) Q = Q d := rfl
theorem lx0 : rdIx (.lst t (a :: r)) (.int 0) Q = Q a := rfl
theorem lx1 : rdIx (.lst t (a :: b :: r)) (.int 1) Q = Q b := rfl
theorem lx2 : rdIx (.lst t (a :: b :: c :: r)) (.int 2) Q = Q c := rfl
theorem lx3 : rdIx (.lst t (a :: b :: c :: d :: r)) (.int 3) Q = Q d := rfl
end
theorem untag_int (i : Int) : untag (.int i) = .int i := rfl
theorem untag_bl (b : Bool) : untag (.bl b) = .bl b := rfl
theorem untag_non : untag .non = .non := rfl
theorem untag_str (x : Str) : untag (.str x) = .str x := rfl
theorem untag_exc (c : Addr) : untag (.exc c) = .exc c := rfl
theorem untag_tup (ds : List D) : untag (.tup ds) = .tup (untags ds) := rfl
theorem untag_lst (t : Bool) (ds : List D) : untag (.lst t ds) = .lst false (untags ds) := rfl
theorem untags_nil : untags [] = [] := rfl
theorem untags_cons (d : D) (ds : List D) : untags (d :: ds) = untag d :: untags ds := rfl
theorem untags_map {α : Type} (f : α → D) (h : ∀ x, untag (f x) = f x) : ∀ xs : List α, untags (xs.map f) = xs.map f
  | [] => by rw [List.map_nil, untags]
  | x :: r => by rw [List.map_cons, untags, h, untags_map f h r]
theorem untags_ints (ns : List Int) : untags (ns.map D.int) = ns.map D.int := untags_map _ untag_int ns
theorem rdI_int (C : Int → Int → Prop) (g : Int → Int → D) (i j : Int) (Q : D → Prop) : rdI C g (.int i) (.int j) Q = (C i j ∧ Q (g i j)) := rfl
theorem rdI0_int (g : Int → Int → D) (i j : Int) (Q : D → Prop) : rdI0 g (.int i) (.int j) Q = Q (g i j) := rfl
theorem dVar_0 (d : D) (r : Ro) (Q : D → Prop) : dVar 0 (some (.val d) :: r) Q = Q d := rfl
theorem dVar_S (n : Nat) (x : Option Sl) (r : Ro) (Q : D → Prop) : dVar (n + 1) (x :: r) Q = dVar n r Q := rfl
theorem set_0 (x y : Option Sl) (r : Ro) : List.set (x :: r) 0 y = y :: r := rfl
theorem set_S (n : Nat) (x y : Option Sl) (r : Ro) : List.set (x :: r) (n + 1) y = x :: List.set r n y := rfl
theorem ex_bl (k : Bool) (R : Bool → Prop) : (∃ c, (D.bl k) = .bl c ∧ R c) = R k := by
  apply propext
  constructor
  · rintro ⟨c, e, q⟩; cases e; exact q
  · intro q; exact ⟨k, rfl, q⟩
theorem ex_int (k : Int) (R : Int → Prop) : (∃ c, (D.int k) = .int c ∧ R c) = R k := by
  apply propext
  constructor
  · rintro ⟨c, e, q⟩; cases e; exact q
  · intro q; exact ⟨k, rfl, q⟩
theorem ex_some {α : Type} (k : α) (R : α → Prop) : (∃ c, some k = some c ∧ R c) = R k := by
  apply propext
  constructor
  · rintro ⟨c, e, q⟩; cases e; exact q
  · intro q; exact ⟨k, rfl, q⟩
theorem sz1 (a : D) : ([a] : List D).length ≤ sizeLine := by rw [sizeLine_eq]; show 1 ≤ 16777216; decide
theorem len_lst (t : Bool) (xs : List D) (R : List D → Prop) : (∃ ys, ((∃ t', [D.lst t xs] = [.lst t' ys]) ∨ [D.lst t xs] = [.tup ys]) ∧ R ys) = R xs := by
  apply propext
  constructor
  · rintro ⟨c, e, q⟩
    rcases e with ⟨_, e⟩ | e
    · cases e; exact q
    · cases e
  · intro q; exact ⟨xs, .inl ⟨t, rfl⟩, q⟩
theorem len_tup (xs : List D) (R : List D → Prop) : (∃ ys, ((∃ t', [D.tup xs] = [.lst t' ys]) ∨ [D.tup xs] = [.tup ys]) ∧ R ys) = R xs := by
  apply propext
  constructor
  · rintro ⟨c, e, q⟩
    rcases e with ⟨_, e⟩ | e
    · cases e
    · cases e; exact q
  · intro q; exact ⟨xs, .inr rfl, q⟩
theorem par_eq (a b : D) (R : D → D → Prop) : (∃ d e, [a, b] = [d, e] ∧ R d e) = R a b := by
  apply propext
  constructor
  · rintro ⟨_, _, e, q⟩; cases e; exact q
  · intro q; exact ⟨a, b, rfl, q⟩
theorem isT_tup (ds : List D) : isT "tuple" (.tup ds) = true := rfl
theorem isT_tup_l (t : Bool) (ds : List D) : isT "tuple" (.lst t ds) = false := rfl
theorem isT_lst (t : Bool) (ds : List D) : isT "list" (.lst t ds) = true := rfl
theorem isT_lst_t (ds : List D) : isT "list" (.tup ds) = false := rfl
theorem isT_int (i : Int) : isT "int" (.int i) = true := rfl
theorem isT_bool_i (i : Int) : isT "bool" (.int i) = false := rfl
theorem isNon_non : isNon .non = true := rfl
theorem isNon_tup (ds : List D) : isNon (.tup ds) = false := rfl
theorem isNon_lst (t : Bool) (ds : List D) : isNon (.lst t ds) = false := rfl
theorem isNon_int (i : Int) : isNon (.int i) = false := rfl
theorem okD_int (i : Int) : okD (.int i) := by unfold okD; rw [pyD, plD] <;> first | exact ⟨rfl, rfl⟩ | (intros; contradiction)
theorem okD_non : okD .non := by unfold okD; rw [pyD, plD] <;> first | exact ⟨rfl, rfl⟩ | (intros; contradiction)
theorem okD_t3 (a b c : Int) : okD (.tup [.int a, .int b, .int c]) := by unfold okD; simp only [pyD, pyDs, plD, plDs]; exact ⟨rfl, rfl⟩
theorem eqD_t3 (a b c x y z : Int) : eqD (.tup [.int a, .int b, .int c]) (.tup [.int x, .int y, .int z]) = (decide (a = x) && (decide (b = y) && decide (c = z))) := by
  unfold eqD
  simp only [pyD, pyDs, PyData.eqv, PyData.eqvAll, Bool.and_true]
  rfl
abbrev T3 (a b c : Int) : D := .tup [.int a, .int b, .int c]
theorem CD.lit {i n : Int} (h : n ≠ 0 ∧ n.natAbs < 2 ^ 64 := by decide) : CD i n := ⟨h.1, Nat.lt_of_lt_of_le h.2 (Nat.pow_le_pow_right (by decide) (by decide))⟩
theorem rng3_eq (a b d : Int) (R : Int → Int → Int → Prop) : (∃ i j c : Int, [D.int a, D.int b, D.int d] = [.int i, .int j, .int c] ∧ R i j c) = R a b d := by
  apply propext
  constructor
  · rintro ⟨_, _, _, e, q⟩; cases e; exact q
  · intro q; exact ⟨a, b, d, rfl, q⟩
theorem rng2_eq (a b : Int) (R : Int → Int → Prop) : (∃ i j : Int, [D.int a, D.int b] = [.int i, .int j] ∧ R i j) = R a b := by
  apply propext
  constructor
  · rintro ⟨_, _, e, q⟩; cases e; exact q
  · intro q; exact ⟨a, b, rfl, q⟩
theorem rng1_eq (a : Int) (R : Int → Prop) : (∃ i : Int, [D.int a] = [.int i] ∧ R i) = R a := by
  apply propext
  constructor
  · rintro ⟨_, e, q⟩; cases e; exact q
  · intro q; exact ⟨a, rfl, q⟩
theorem rngD_some {lo c : Int} {n j : Nat} {x : D} (h : (rngD lo c n)[j]? = some x) : j < n ∧ x = .int (lo + j * c) := by
  by_cases hj : j < n
  · rw [rngD_get hj] at h
    exact ⟨hj, (Option.some.inj h).symm⟩
  · rw [List.getElem?_eq_none (by rw [rngD_len]; omega)] at h
    cases h
theorem rngN_lt {lo hi c : Int} {j : Nat} (hc : 0 < c) (h : j < rngN lo hi c) : lo + j * c < hi := by
  unfold rngN Builtin.Range.rangeSize at h
  rw [if_pos (show c > 0 from hc)] at h
  by_cases hl : lo < hi
  · rw [if_pos hl] at h
    have h1 : (j : Int) ≤ (hi - lo - 1) / c := by omega
    have h2 := (Int.le_ediv_iff_mul_le hc).mp h1
    omega
  · rw [if_neg hl] at h
    simp at h
theorem atI_ints {ns : List Int} {k : Int} (h0 : 0 ≤ k) (h1 : k < ns.length) : atI (ns.map D.int) k = some (.int (ns.getD k.toNat 0)) := by
  have e : k = ((k.toNat : Nat) : Int) := by omega
  have hl : k.toNat < ns.length := by omega
  have q : atI (ns.map D.int) ((k.toNat : Nat) : Int) = some (.int (ns.getD k.toNat 0)) := atI_nat (by simp [List.getElem?_map, List.getElem?_eq_getElem hl, List.getD_eq_getElem?_getD])
  rw [← e] at q
  exact q
theorem map_int_inj {xs ys : List Int} (h : xs.map D.int = ys.map D.int) : xs = ys := by
  induction xs generalizing ys with
  | nil => cases ys with
    | nil => rfl
    | cons y r => simp at h
  | cons x r ih => cases ys with
    | nil => simp at h
    | cons y q =>
      simp only [List.map_cons, List.cons.injEq, D.int.injEq] at h
      rw [h.1, ih h.2]
theorem gdN (n : Nat) (t : DGs) (tg : Bool) (ds : List D) (h : ds.length = n) (ρ : Ro) (Q : Ro → Prop) : gdSeq n t (.lst tg ds) ρ Q = t ds ρ Q := by
  apply propext
  unfold gdSeq
  constructor
  · rintro ⟨ds', e, _, h⟩
    rcases e with e | ⟨_, e⟩
    · cases e
    · cases e; exact h
  · intro q; exact ⟨ds, .inr ⟨tg, rfl⟩, h, q⟩
theorem gdNt (n : Nat) (t : DGs) (ds : List D) (h : ds.length = n) (ρ : Ro) (Q : Ro → Prop) : gdSeq n t (.tup ds) ρ Q = t ds ρ Q := by
  apply propext
  unfold gdSeq
  constructor
  · rintro ⟨ds', e, _, h⟩
    rcases e with e | ⟨_, e⟩
    · cases e; exact h
    · cases e
  · intro q; exact ⟨ds, .inl rfl, h, q⟩
theorem gdc (g : DG) (u : DGs) (x : D) (r : List D) (ρ : Ro) (Q : Ro → Prop) : gdCons g u (x :: r) ρ Q = g x ρ fun ρ' => u r ρ' Q := by
  apply propext
  unfold gdCons
  constructor
  · rintro ⟨d, r', e, h⟩; cases e; exact h
  · intro h; exact ⟨x, r, rfl, h⟩
theorem gdn (ρ : Ro) (Q : Ro → Prop) : gdNil [] ρ Q = Q ρ := by apply propext; unfold gdNil; simp
theorem gd2 (g1 g2 : DG) (tg : Bool) (a b : D) (ρ : Ro) (Q : Ro → Prop) : gdSeq 2 (gdCons g1 (gdCons g2 gdNil)) (.lst tg [a, b]) ρ Q = g1 a ρ fun ρ1 => g2 b ρ1 Q := by
  (first | rw [gdN 2 _ _ _ rfl] | rw [gdN 3 _ _ _ rfl]); simp only [gdc, gdn]
theorem gd2t (g1 g2 : DG) (a b : D) (ρ : Ro) (Q : Ro → Prop) : gdSeq 2 (gdCons g1 (gdCons g2 gdNil)) (.tup [a, b]) ρ Q = g1 a ρ fun ρ1 => g2 b ρ1 Q := by
  (first | rw [gdNt 2 _ _ rfl] | rw [gdNt 4 _ _ rfl]); simp only [gdc, gdn]
theorem gd3 (g1 g2 g3 : DG) (tg : Bool) (a b c : D) (ρ : Ro) (Q : Ro → Prop) : gdSeq 3 (gdCons g1 (gdCons g2 (gdCons g3 gdNil))) (.lst tg [a, b, c]) ρ Q = g1 a ρ fun ρ1 => g2 b ρ1 fun ρ2 => g3 c ρ2 Q := by
  (first | rw [gdN 2 _ _ _ rfl] | rw [gdN 3 _ _ _ rfl]); simp only [gdc, gdn]
theorem gd4t (g1 g2 g3 g4 : DG) (a b c d : D) (ρ : Ro) (Q : Ro → Prop) : gdSeq 4 (gdCons g1 (gdCons g2 (gdCons g3 (gdCons g4 gdNil)))) (.tup [a, b, c, d]) ρ Q = g1 a ρ fun ρ1 => g2 b ρ1 fun ρ2 => g3 c ρ2 fun ρ3 => g4 d ρ3 Q := by
  (first | rw [gdNt 2 _ _ rfl] | rw [gdNt 4 _ _ rfl]); simp only [gdc, gdn]
section
variable {X : Cx} {pos : Pos}
theorem Rel.putG {W : Own} {H H' : Hp} {σ : St} {ρ : Ro} {i : Nat} {p : Addr} {x : OS} {o : HO} (r : Rel X W H σ ρ) (hi : i < σ.length) (sm : Same H H') (hp : H p = none) (hk : X.K.lookup p = none) (h' : H' p = some o) (hd : OwnD X.K (fun t b => W.bad t b ∨ b = p) H' (W.sub σ.length i) x o) :
    Rel X ((W.drop i).put i p) H' (σ.set i (some (.ref p))) (ρ.set i (some (.ob x))) ∧ Fwd W H ((W.drop i).put i p) H' := by
  have hO : ∀ j a, ((W.drop i).put i p).O j = some a → (j = i ∧ a = p) ∨ (j ≠ i ∧ W.O j = some a) := fun j a h => by
    have h1 : (if j = i then some p else (if j = i then none else W.O j)) = some a := h
    by_cases e : j = i
    · rw [if_pos e] at h1; cases h1; exact .inl ⟨e, rfl⟩
    · rw [if_neg e, if_neg e] at h1; exact .inr ⟨e, h1⟩
  have hOi : ((W.drop i).put i p).O i = some p := by show (if i = i then some p else _) = _; rw [if_pos rfl]
  have hOj : ∀ j, j ≠ i → ((W.drop i).put i p).O j = W.O j := fun j n => by show (if j = i then some p else (if j = i then none else W.O j)) = _; rw [if_neg n, if_neg n]
  have hS : ∀ j k b, W.sub σ.length j k = some b → ((W.drop i).put i p).sub σ.length j k = some b := fun j k b e => (hOj _ (vix_ne hi)).trans e
  have bad' : ∀ t a, ((W.drop i).put i p).bad t a → W.bad t a ∨ a = p := fun t a z => by
    rcases z with z | ⟨j, z⟩ | z
    · exact .inl (.inl z)
    · rcases hO j a z with ⟨_, q⟩ | ⟨_, q⟩
      · exact .inr q
      · exact .inl (.inr (.inl ⟨j, q⟩))
    · exact .inl (.inr (.inr z))
  have nb : ∀ {t : Bool} {a : Addr} {ws : List V}, SqG X.K H t a ws → a ≠ p := fun {t a ws} q z => by
    subst z
    rcases q.1 with (q | ⟨o, q⟩) | ⟨o, its, n, q, _⟩
    · rw [hp] at q; cases q
    · rw [hp] at q; cases q
    · rw [hk] at q; cases q
  have up : ∀ (d : D) (v : V), Den X.K W.bad H d v → Den X.K ((W.drop i).put i p).bad H' d v := Den.map (fun _ _ q => SqT.same sm q) (fun t a ws n q => ⟨fun z => (bad' t a z).elim n (nb q), q.same sm⟩) (fun a _ n q => sm.kp a _ q n.nt)
  have ups : ∀ (ds : List D) (vs' : List V), Dens X.K W.bad H ds vs' → Dens X.K ((W.drop i).put i p).bad H' ds vs' := Dens.map (fun _ _ q => SqT.same sm q) (fun t a ws n q => ⟨fun z => (bad' t a z).elim n (nb q), q.same sm⟩) (fun a _ n q => sm.kp a _ q n.nt)
  refine ⟨⟨fun j d h => ?_, fun j x h => ?_, fun j k a h1 h2 => ?_, fun j a h1 => ?_, fun j a h1 => ?_, fun a h => let ⟨_, q⟩ := r.bt a h; sm.ex q, fun a h => let ⟨_, q⟩ := r.st a h; sm.ex q, r.ent.trans sm, r.tab.same sm⟩, rfl, rfl, fun b o _ q n => sm.kp b o q n, fun j a h => ?_, sm.tb, sm.ok⟩
  · by_cases hj : j = i
    · subst hj
      rw [List.getElem?_set] at h
      split at h
      · split at h <;> cases h
      · omega
    · rw [List.getElem?_set_ne (Ne.symm hj)] at h
      obtain ⟨w, h1, h2⟩ := r.val j d h
      exact ⟨w, by rw [List.getElem?_set_ne (Ne.symm hj)]; exact h1, up d w h2⟩
  · by_cases hj : j = i
    · subst hj
      rw [List.getElem?_set] at h
      split at h
      · split at h
        · cases h
          exact ⟨p, _, hOi, by simp [hi], h', by rw [List.length_set]; exact hd.fewer (fun t a z => bad' t a z) (hS _)⟩
        · cases h
      · omega
    · rw [List.getElem?_set_ne (Ne.symm hj)] at h
      obtain ⟨a, ws, h1, h2, h3, h4⟩ := r.own j x h
      exact ⟨a, ws, (hOj j hj).trans h1, by rw [List.getElem?_set_ne (Ne.symm hj)]; exact h2, sm.kp _ _ h3 h4.mut.nt, by rw [List.length_set]; exact h4.map ups fun k b q => ⟨hS j k b q, fun _ z => sm _ _ z⟩⟩
  · rcases hO j a h1 with ⟨e1, q1⟩ | ⟨e1, q1⟩ <;> rcases hO k a h2 with ⟨e2, q2⟩ | ⟨e2, q2⟩
    · rw [e1, e2]
    · subst q1
      obtain ⟨_, _, ws, q, _⟩ := r.kn k _ q2
      rw [hp] at q; cases q
    · subst q2
      obtain ⟨_, _, ws, q, _⟩ := r.kn j _ q1
      rw [hp] at q; cases q
    · exact r.inj j k a q1 q2
  · rcases hO j a h1 with ⟨e1, q1⟩ | ⟨e1, q1⟩
    · subst q1
      exact ⟨hk, ⟨fun z => (by obtain ⟨o, q⟩ := r.bt _ z; rw [hp] at q; cases q), fun z => (by obtain ⟨o, q⟩ := r.st _ z; rw [hp] at q; cases q)⟩, _, h', hd.mut⟩
    · obtain ⟨a1, a2, ws, a3, a4⟩ := r.kn j a q1
      exact ⟨a1, a2, ws, sm.kp _ _ a3 a4.nt, a4⟩
  · rcases hO j a h1 with ⟨e1, q1⟩ | ⟨e1, q1⟩
    · subst q1; exact r.ent.free hp
    · exact r.ke j a q1
  · rcases hO j a h with ⟨e1, q1⟩ | ⟨e1, q1⟩
    · subst q1; exact .inr hp
    · exact .inl ⟨j, q1⟩
theorem Rel.putOwn2 {W : Own} {H H' : Hp} {σ : St} {ρ : Ro} {i : Nat} {p : Addr} {ds : List D} {vs : List V} (r : Rel X W H σ ρ) (hi : i < σ.length) (sm : Same H H') (hp : H p = none) (hk : X.K.lookup p = none) (h' : H' p = some (.lst vs)) (hd : Dens X.K (fun t b => W.bad t b ∨ b = p) H' ds vs) :
    Rel X ((W.drop i).put i p) H' (σ.set i (some (.ref p))) (ρ.set i (some (.own ds))) ∧ Fwd W H ((W.drop i).put i p) H' := r.putG hi sm hp hk h' (.lst hd)
theorem Dens.apart {K : PySem.W.Frag} {P : Bool → Addr → Prop} {H : Hp} {a : Addr} {o : HO} {ds : List D} {us : List V} (n : H a = none) (k : K.lookup a = none) (h : Dens K P H ds us) (nt : NT o := by exact True.intro) : Dens K (fun t b => P t b ∨ b = a) (L2.upd H a o) ds us :=
  Dens.map (fun _ _ q => SqT.same (Same.upd n nt) q) (fun t b ws p q => ⟨(fun z => z.elim p fun z => by
    subst z
    rcases q.1 with (q | ⟨o, q⟩) | ⟨o, its, m, q, _⟩
    · rw [n] at q; cases q
    · rw [n] at q; cases q
    · rw [k] at q; cases q), q.same (Same.upd n nt)⟩) (fun b _ m q => (Same.upd n nt).kp b _ q m.nt) ds us h
theorem Rel.mutG {W : Own} {H : Hp} {σ : St} {ρ : Ro} {i : Nat} {a : Addr} {x x' : OS} {o o' : HO} (r : Rel X W H σ ρ) (eo : ρ[i]? = some (some (.ob x))) (oa : W.O i = some a) (sa : σ[i]? = some (some (.ref a))) (ha : H a = some o) (hm : MutO o) (hd : OwnD X.K W.bad H (W.sub σ.length i) x' o') :
    Rel X W (L2.upd H a o') σ (ρ.set i (some (.ob x'))) ∧ Fwd W H W (L2.upd H a o') := by
  have badA : ∀ t, W.bad t a := fun _ => .inr (.inl ⟨i, oa⟩)
  have noT : ∀ b ws, SqT X.K H b ws → SqT X.K (L2.upd H a o') b ws := fun b ws q => by
    show L2.upd _ _ _ _ = _
    rw [upd_ne (ne_of q ha (by intro z; subst z; exact hm))]
    exact q
  have noL : ∀ t b ws, ¬ W.bad t b → SqG X.K H t b ws → ¬ W.bad t b ∧ SqG X.K (L2.upd H a o') t b ws := fun t b ws n q => by
    have hne : b ≠ a := fun e => n (e ▸ badA t)
    refine ⟨n, ?_, fun z => ⟨by rw [upd_ne hne]; exact (q.2 z).1, (q.2 z).2⟩⟩
    rcases q.1 with (q | ⟨u, q⟩) | q
    · exact .inl (.inl (by rw [upd_ne hne]; exact q))
    · exact .inl (.inr ⟨u, by rw [upd_ne hne]; exact q⟩)
    · exact .inr q
  have noX : ∀ b u, Sol u → H b = some u → L2.upd H a o' b = some u := fun b u n q => by rw [upd_ne (ne_of q ha (by intro z; subst z; exact hm.sol n))]; exact q
  have hl' : i < ρ.length := (List.getElem?_eq_some_iff.mp eo).1
  have il : i < σ.length := (List.getElem?_eq_some_iff.mp sa).1
  have hSb : ∀ j k b, W.sub σ.length j k = some b → W.sub σ.length j k = some b ∧ ∀ us, H b = some (.lst us) → L2.upd H a o' b = some (.lst us) := fun j k b q => ⟨q, fun us z => by rw [upd_ne (fun e => vix_ne il (r.inj _ _ a (by rw [← e]; exact q) oa))]; exact z⟩
  have tr : ∀ b u, H b = some u → ∃ u', L2.upd H a o' b = some u' := fun b u q => by
    by_cases hba : b = a
    · subst hba; exact ⟨_, upd_same⟩
    · exact ⟨u, by rw [upd_ne hba]; exact q⟩
  refine ⟨⟨fun j d h => ?_, fun j y h => ?_, r.inj, fun j b hb => ?_, r.ke, fun b hb => let ⟨u, q⟩ := r.bt b hb; tr b u q, fun b hb => let ⟨u, q⟩ := r.st b hb; tr b u q, r.ent.ins (r.ke i a oa) ha hm hd.mut.nt, r.tab.upd hd.mut.nt (.inr ⟨o, ha, hm.ne, hm.nt⟩)⟩, Fwd.upd oa ha hm hd.mut.nt⟩
  · by_cases hj : j = i
    · subst hj
      rw [List.getElem?_set_self hl'] at h; cases h
    · rw [List.getElem?_set_ne (Ne.symm hj)] at h
      obtain ⟨w, h1, h2⟩ := r.val j d h
      exact ⟨w, h1, Den.map noT noL noX d w h2⟩
  · by_cases hj : j = i
    · subst hj
      rw [List.getElem?_set_self hl'] at h
      cases h
      exact ⟨a, o', oa, sa, upd_same, hd.map (Dens.map noT noL noX) (hSb _)⟩
    · rw [List.getElem?_set_ne (Ne.symm hj)] at h
      obtain ⟨b, ws, h1, h2, h3, h4⟩ := r.own j y h
      have hne : b ≠ a := fun e => hj (r.inj j i a (by rw [← e]; exact h1) oa)
      exact ⟨b, ws, h1, h2, by rw [upd_ne hne]; exact h3, h4.map (Dens.map noT noL noX) (hSb _)⟩
  · obtain ⟨k1, k2, ws, k3, k4⟩ := r.kn j b hb
    refine ⟨k1, k2, ?_⟩
    by_cases hba : b = a
    · subst hba; exact ⟨_, upd_same, hd.mut⟩
    · exact ⟨ws, by rw [upd_ne hba]; exact k3, k4⟩
theorem Rel.mut {W : Own} {H : Hp} {σ : St} {ρ : Ro} {i : Nat} {a : Addr} {ds ds' : List D} {vs vs' : List V} (r : Rel X W H σ ρ) (eo : ρ[i]? = some (some (.own ds))) (oa : W.O i = some a) (sa : σ[i]? = some (some (.ref a))) (ha : H a = some (.lst vs)) (hd : Dens X.K W.bad H ds' vs') :
    Rel X W (L2.upd H a (.lst vs')) σ (ρ.set i (some (.own ds'))) ∧ Fwd W H W (L2.upd H a (.lst vs')) := r.mutG eo oa sa ha True.intro (.lst hd)
variable {es : List Expr} {t : DA}
def dOwn (i : Nat) (t : DA) : DS := fun E ρ => t ρ fun ds => ds.length ≤ sizeLine ∧ E.nx (ρ.set i (some (.own ds)))
theorem ds_own {x : Str} {pos' lpos : Pos} (i : Nat) (hN : X.N.Nodup) (h : PAD X es t) (hi : X.N[i]? = some x := by rfl) (hx : Loc X.env.scope x := by first | exact Or.inl rfl | exact Or.inr rfl)
    (hs : swapsWith (.List es lpos) (some (.Name x pos')) pos.line X.env = pure false := by rfl) (hf : X.fn x = true ∨ X.env.scope.names.lookup x = some .local := by first | exact .inl rfl | exact .inr rfl | assumption) :
    PSD X (.Assign [.Name x pos'] (.List es lpos) pos) (dOwn i t) := by
  intro pins s σ H W ρ E I r hq
  refine wpAny_Assign_Name (wpAny_List_spliced (thn (h lpos pins s σ H W ρ _ I r hq) fun us s1 ⟨vs, H1, ds, I1, rv, e1, hd, z, q⟩ => ?_)) hs
  rw [← hd.len] at z
  refine ⟨by rw [← rv.length]; exact z, ?_⟩
  have hf1 : H1 s1.heap.objs.size = none := I1.hok.fresh (Nat.le_refl _)
  have I2 := I1.laid (o := .lst vs) (t' := s1.toks) (fun b u e => Heap.get?_push_of_some _ e) (Nat.le_refl _) ⟨z, us, 0, rv, Heap.get?_push_size _ rfl⟩
  have rp := (r.same e1).putOwn2 (Inv.ilt I1 hi) (Same.upd (o := .lst vs) hf1) hf1 (Inv.kfresh I1) upd_same (Dens.apart hf1 (Inv.kfresh I1) hd)
  exact store_ok (v := .ref s1.heap.objs.size) I2 hN hi hx rfl (fun s2 I3 => ⟨_, _, _, I3, (Fwd.same e1).trans rp.2, _, rp.1, q⟩) hf
def dAppend (i : Nat) (te : DE) : DS := fun E ρ => ownQ ρ[i]? fun ds => te ρ fun d => ds.length < sizeLine ∧ E.nx (ρ.set i (some (.own (ds ++ [d]))))
theorem ds_append {x : Str} {e : Expr} {te : DE} {px apos cpos : Pos} (i : Nat) (he : PED X e te) (hi : X.N[i]? = some x := by rfl) (hv : Vis X.env.scope x := by first | exact Or.inl rfl | exact Or.inr (Or.inl rfl) | exact Or.inr (Or.inr rfl))
    (hd : (x == ("__debug__" : Str)) = false := by decide) (hcd : (x == ("__classdict__" : Str)) = false := by decide)
    (hbase : attributeBase (.Name x px) "append" X.env (eval (.Name x px) X.env) = eval (.Name x px) X.env := by rfl)
    (hfew : ((backTo cpos (starEach [e] X.env)).all (fun x => !x.1) && (backToKw cpos (keywordEach [] X.env)).all (fun x => x.1.isSome) && decide ([e].length + ([] : List Keyword).length + (if ([] : List Keyword).isEmpty then 0 else 1) < 30)) = true := by rfl)
    (hline : (apos.endLine == cpos.line) = true := by rfl) (hst : starEach [e] X.env = (false, eval e X.env) :: starEach [] X.env := by rfl) (hplain : (backTo cpos (starEach [] X.env)).any (·.1) = false := by rfl)
    (hs : swapsWith (.Call (.Attribute (.Name x px) "append" apos) [e] [] cpos) none pos.line X.env = pure false := by rfl) :
    PSD X (.Expr (.Call (.Attribute (.Name x px) "append" apos) [e] [] cpos) pos) (dAppend i te) := by
  have P0 := ps_expr (pos := pos) (pe_bm PySem.F.plainAttrs_list PySem.F.slot_list_append PySem.F.type_list_append mt_append (pe_var hi hv hd hcd) (pa_cons he.pe pa_nil hst) hbase hfew hline hst hplain) hs
  refine PSD.of P0 fun σ H W ρ E r hl h => ?_
  obtain ⟨ds, eo, h⟩ := ownQ_ex h
  obtain ⟨a, vs, oa, sa, ha, hds⟩ := r.ownL i ds eo
  refine ⟨.ref a, sa, .inl ⟨rfl, _, SqL.of ha⟩, W, ρ, _, r, h, fun v H' d e1 hd' q => ?_⟩
  obtain ⟨z, q⟩ := q
  have ha' := e1 _ _ ha
  have r' := r.same e1
  have hds' := hds.same e1
  refine ⟨a, vs, v, rfl, rfl, ha', by rw [hds'.len]; exact z, ?_⟩
  obtain ⟨r2, f2⟩ := r'.mut (vs' := vs ++ [v]) eo oa sa ha' (hds'.append (Dens.one hd'))
  exact ⟨W, _, (Fwd.same e1).trans f2, r2, q⟩
theorem Rel.freeze {X : Cx} {W : Own} {H : Hp} {σ : St} {ρ : Ro} {i : Nat} {ds : List D} (r : Rel X W H σ ρ) (e : ρ[i]? = some (some (.own ds))) : Rel X (W.drop i) H σ (ρ.set i (some (.val (.lst true ds)))) := by
  obtain ⟨a, vs, oa, sa, ha, hds⟩ := r.ownL i ds e
  have il : i < σ.length := (List.getElem?_eq_some_iff.mp sa).1
  have hl' : i < ρ.length := (List.getElem?_eq_some_iff.mp e).1
  have nb : ¬ (W.drop i).bad true a := fun z => by
    rcases z with z | ⟨j, z⟩ | ⟨_, z⟩
    rotate_right
    · exact (r.kn i a oa).2.1.2 z
    · exact (r.kn i a oa).2.1.1 z
    · have z' : (if j = i then none else W.O j) = some a := z
      by_cases ej : j = i
      · rw [if_pos ej] at z'; cases z'
      · rw [if_neg ej] at z'; exact ej (r.inj j i a z' oa)
  have hd : Den X.K (W.drop i).bad H (.lst true ds) (.ref a) := Den.lst nb (.new ha (r.kn i a oa).1) (hds.fewer fun _ _ => Own.drop_bad)
  refine ⟨fun j x h => ?_, fun j x h => ?_, fun j k b h1 h2 => ?_, fun j b h1 => ?_, fun j b h1 => ?_, r.bt, r.st, r.ent, r.tab⟩
  · by_cases hj : j = i
    · subst hj
      rw [List.getElem?_set_self hl'] at h
      cases h
      exact ⟨.ref a, sa, hd⟩
    · rw [List.getElem?_set_ne (Ne.symm hj)] at h
      obtain ⟨w, h1, h2⟩ := r.val j x h
      exact ⟨w, h1, h2.fewer fun _ _ => Own.drop_bad⟩
  · by_cases hj : j = i
    · subst hj
      rw [List.getElem?_set_self hl'] at h; cases h
    · rw [List.getElem?_set_ne (Ne.symm hj)] at h
      obtain ⟨b, ws, h1, h2, h3, h4⟩ := r.own j x h
      exact ⟨b, ws, by show (if j = i then none else W.O j) = _; rw [if_neg hj]; exact h1, h2, h3, h4.fewer (fun _ _ => Own.drop_bad) (Own.drop_sub il)⟩
  · have h1' : (if j = i then none else W.O j) = some b := h1
    have h2' : (if k = i then none else W.O k) = some b := h2
    by_cases e1 : j = i
    · rw [if_pos e1] at h1'; cases h1'
    · by_cases e2 : k = i
      · rw [if_pos e2] at h2'; cases h2'
      · rw [if_neg e1] at h1'
        rw [if_neg e2] at h2'
        exact r.inj j k b h1' h2'
  · have h1' : (if j = i then none else W.O j) = some b := h1
    by_cases e1 : j = i
    · rw [if_pos e1] at h1'; cases h1'
    · rw [if_neg e1] at h1'
      exact r.kn j b h1'
  · have h1' : (if j = i then none else W.O j) = some b := h1
    by_cases e1 : j = i
    · rw [if_pos e1] at h1'; cases h1'
    · rw [if_neg e1] at h1'
      exact r.ke j b h1'
def dFreeze (i : Nat) (t : DS) : DS := fun E ρ => ownQ ρ[i]? fun ds => t E (ρ.set i (some (.val (.lst true ds))))
theorem dss_freeze {sts : List Stmt} {t : DS} (i : Nat) (h : PSDs X sts t) : PSDs X sts (dFreeze i t) := by
  intro pins s σ H W ρ E I r hq
  obtain ⟨ds, e, hq⟩ := ownQ_ex hq
  exact thn (h pins s σ H (W.drop i) _ E I (r.freeze e) hq) fun _ _ z => z.up (Fwd.drop W H i)
end
def clOf (env : Env) (ns : List Str) : List (Str × Addr) := ns.filterMap fun n => (env.cells.lookup n).map fun c => (n, c)
theorem clOf_sub {env : Env} : ∀ {ns : List Str} {x : Str} {c : Addr}, (clOf env ns).lookup x = some c → env.cells.lookup x = some c
  | [], _, _, h => by cases h
  | n :: r, x, c, h => by
    unfold clOf at h
    rw [List.filterMap_cons] at h
    cases e : env.cells.lookup n with
    | none =>
      rw [e] at h
      exact clOf_sub (ns := r) h
    | some c' =>
      rw [e] at h
      have h' : List.lookup x ((n, c') :: clOf env r) = some c := h
      rw [List.lookup_cons] at h'
      cases q : x == n with
      | true =>
        rw [q] at h'
        have ex : x = n := by simpa using q
        subst ex
        rw [e]
        exact h'
      | false =>
        rw [q] at h'
        exact clOf_sub (ns := r) h'
theorem clOf_get {env : Env} : ∀ {ns : List Str} {x : Str} {c : Addr}, x ∈ ns → env.cells.lookup x = some c → (clOf env ns).lookup x = some c
  | [], _, _, h, _ => by cases h
  | n :: r, x, c, h, e => by
    unfold clOf
    rw [List.filterMap_cons]
    by_cases ex : x = n
    · subst ex
      rw [e]
      show List.lookup x ((x, c) :: _) = some c
      simp [List.lookup_cons]
    · have h' : x ∈ r := by
        rcases List.mem_cons.mp h with z | z
        · exact absurd z ex
        · exact z
      have ih := clOf_get (ns := r) h' e
      cases q : env.cells.lookup n with
      | none => exact ih
      | some c' =>
        show List.lookup x ((n, c') :: clOf env r) = some c
        rw [List.lookup_cons]
        have : (x == n) = false := by simpa using ex
        rw [this]
        exact ih
structure CSc (osc sc : Scope) (xs ns : List Str) : Prop where
  kind : sc.kind = .function
  nocell : ∀ y ∈ sc.names, y.2 ≠ .cell
  names : ∀ y ∈ sc.names, y.2 = .local → sc.names.lookup y.1 = some .local
  tgt : ∀ x ∈ xs, sc.names.lookup x = some .local
  free : ∀ y ∈ sc.names, y.2 = .free → y.1 ∈ ns ∧ osc.names.lookup y.1 = some .cell
  cells : ∀ n ∈ ns, sc.names.lookup n = some .free ∧ osc.names.lookup n = some .cell
  nd : (xs ++ ns).Nodup
def cxComp (X : Cx) (sc : Scope) (ns xs : List Str) (C : Addr) (s₂ : Shared) (H₂ : Hp) (fp : List Addr) (XE : Value → Shared → Prop) : Cx :=
  { X with N := xs ++ ns, s₀ := s₂, H₀ := H₂, env := compEnvC sc (clOf X.env ns) C X.env, outer := X.stack, stack := X.stack, ex := fp, fn := fun _ => false, pn := [], xe := XE }
theorem relabel_lookup {env : Env} (hk : env.scope.kind = .function) : ∀ {names : List (Str × NameKind)} {n : Str}, names.lookup n = some .free → env.kindOf n = some .cell →
    (names.map fun (n, k) => if (k == NameKind.free && env.scope.kind == .function && env.kindOf n == some .cell) then (n, NameKind.cell) else (n, k)).lookup n = some .cell
  | [], _, h, _ => by simp at h
  | (m, k) :: r, n, h, hc => by
    have ih := @relabel_lookup env hk r n
    show List.lookup n ((if (k == NameKind.free && env.scope.kind == .function && env.kindOf m == some .cell) = true then (m, NameKind.cell) else (m, k)) :: _) = _
    cases hx : n == m with
    | true =>
      simp only [List.lookup_cons, hx] at h
      cases h
      have e : n = m := by simpa using hx
      subst e
      rw [hk, hc]
      simp [List.lookup_cons]
    | false =>
      simp only [List.lookup_cons, hx] at h
      by_cases hcc : (k == NameKind.free && env.scope.kind == .function && env.kindOf m == some .cell) = true
      · rw [if_pos hcc]; simp only [List.lookup_cons, hx]; exact ih h hc
      · rw [if_neg hcc]; simp only [List.lookup_cons, hx]; exact ih h hc
theorem relabel_mem {env : Env} : ∀ {names : List (Str × NameKind)} {n : Str} {k : NameKind},
    (names.map fun (n, k) => if (k == NameKind.free && env.scope.kind == .function && env.kindOf n == some .cell) then (n, NameKind.cell) else (n, k)).lookup n = some k → (k = .cell ∨ k = .free) →
    (∃ y ∈ names, y.1 = n ∧ y.2 = .free) ∨ ∃ y ∈ names, y.1 = n ∧ y.2 = .cell
  | [], _, _, h, _ => by simp at h
  | (m, j) :: r, n, k, h, hk => by
    have h' : List.lookup n ((if (j == NameKind.free && env.scope.kind == .function && env.kindOf m == some .cell) = true then (m, NameKind.cell) else (m, j)) :: (r.map fun (n, k) => if (k == NameKind.free && env.scope.kind == .function && env.kindOf n == some .cell) then (n, NameKind.cell) else (n, k))) = some k := h
    have up : ((∃ y ∈ r, y.1 = n ∧ y.2 = .free) ∨ ∃ y ∈ r, y.1 = n ∧ y.2 = .cell) → ((∃ y ∈ (m, j) :: r, y.1 = n ∧ y.2 = .free) ∨ ∃ y ∈ (m, j) :: r, y.1 = n ∧ y.2 = .cell) := fun z => by
      rcases z with ⟨y, hy, q⟩ | ⟨y, hy, q⟩
      · exact .inl ⟨y, List.mem_cons_of_mem _ hy, q⟩
      · exact .inr ⟨y, List.mem_cons_of_mem _ hy, q⟩
    cases hx : n == m with
    | true =>
      have e : n = m := by simpa using hx
      subst e
      by_cases hcc : (j == NameKind.free && env.scope.kind == .function && env.kindOf n == some .cell) = true
      · have : j = .free := by
          simp only [Bool.and_eq_true] at hcc
          exact beq_iff_eq.mp hcc.1.1
        exact .inl ⟨(n, j), List.mem_cons_self, rfl, this⟩
      · rw [if_neg hcc] at h'
        simp only [List.lookup_cons, hx] at h'
        cases h'
        rcases hk with hk | hk
        · exact .inr ⟨(n, j), List.mem_cons_self, rfl, hk⟩
        · exact .inl ⟨(n, j), List.mem_cons_self, rfl, hk⟩
    | false =>
      by_cases hcc : (j == NameKind.free && env.scope.kind == .function && env.kindOf m == some .cell) = true
      · rw [if_pos hcc] at h'; simp only [List.lookup_cons, hx] at h'
        exact up (relabel_mem h' hk)
      · rw [if_neg hcc] at h'; simp only [List.lookup_cons, hx] at h'
        exact up (relabel_mem h' hk)
def getV (ρ : Ro) (j : Nat) : Option Sl := match ρ[j]? with
  | some (some (.val d)) => some (.val d)
  | _ => none
def getS (σ : St) (j : Nat) : Option V := match σ[j]? with
  | some (some v) => some v
  | _ => none
section
variable {X : Cx} {pins : List (Addr × Obj)} {σ : St} {H : Hp} {s : Shared} {sc : Scope} {ns : List Str} {js : List Nat} {xs : List Str} {fp : List Addr}
theorem Inv.comp {XE : Value → Shared → Prop} {s₁ : Shared} {H₁ : Hp} {C : Addr} (I : Inv X pins σ H s) (S : CSc X.env.scope sc xs ns) (hj : js.length = ns.length ∧ ∀ (i : Nat) (j : Nat) (n : Str), js[i]? = some j → ns[i]? = some n → X.N[j]? = some n) (hfp : ∀ b ∈ fp, FpOk X pins H b) (hfo : ∀ b ∈ fp, ∃ o, s.heap.get? b = some o) (hC : s.heap.objs.size ≤ C)
    (hos : s₁.os = s.os) (hg : AllBare s₁.gens) (hk : ∀ b o, s.heap.get? b = some o → s₁.heap.get? b = some o) (hns : s₁.heap.Ns C fun _ => none) (hCn : H₁ C = none) (hs : Same H H₁) (hnew : ∀ b o, s.heap.get? b = some o → H b = none → H₁ b = none) (hok : HOk X.prog X.w H₁ s₁.heap) :
    Inv (cxComp X sc ns xs C s H fp XE) [] (List.replicate xs.length none ++ js.map (getS σ)) H₁ s₁ := by
  have kd : X.env.scope.kind = .function := I.ok.kind
  have cab : ∀ y c, (clOf X.env ns).lookup y = some c → X.env.cells.lookup y = some c := fun y c e => clOf_sub e
  have cold : ∀ y c, (clOf X.env ns).lookup y = some c → ∃ v, s.heap.IsCell c v := fun y c e => I.cell y c (cab y c e)
  refine ⟨⟨I.ok.mod, S.kind, I.ok.glob, I.ok.blt, hC, fun y z c h1 h2 => I.ok.inj y z c (cab y c h1) (cab z c h2), fun y hy => ?_, fun y c h _ => (by cases h), I.ok.hd, I.ok.frames, .inl rfl, fun b hb => ?_, I.bs, Nat.le_trans I.ok.bsz I.sz, fun b o e hb => ?_, fun b hb z => ?_, I.stack, I.stkFree⟩,
    hos, hg, ⟨fun b o e n _ _ => hk b o e, fun b o e n _ _ => ⟨o.slots, hk b o e⟩, fun b o e n _ => hnew b o e n, fun b o e _ => ⟨o, hk b o e⟩, fun b xs e => hs b _ e, fun b o u e => hs b _ e, fun b ps e => hs.tb b ps e⟩, ⟨_, hns, fun i y v h1 h2 h3 => ?_⟩, fun y c e => ?_, hCn, fun y c e => ?_, fun p hp => absurd (show p ∈ ([] : List (Addr × Obj)) from hp) (by simp), hok, ?_⟩
  · -- every cell of the block is one of the body's
    have hy' : ∃ k, ((relabel sc X.env).names.lookup y = some k) ∧ (k = .cell ∨ k = .free) := by
      rcases hy with hy | hy
      · exact ⟨_, hy, .inl rfl⟩
      · exact ⟨_, hy, .inr rfl⟩
    obtain ⟨k, h1, h2⟩ := hy'
    rcases relabel_mem (env := X.env) h1 h2 with ⟨z, hz, e1, e2⟩ | ⟨z, hz, e1, e2⟩
    · obtain ⟨m1, m2⟩ := S.free z hz e2
      subst e1
      obtain ⟨c, hc⟩ := I.ok.has z.1 (.inl m2)
      exact ⟨c, clOf_get m1 hc⟩
    · exact absurd e2 (S.nocell z hz)
  · refine ⟨fun z => ?_, fun y c e z => ?_⟩
    · have z' : b = C := z
      obtain ⟨o, ho⟩ := hfo b hb
      have hlt := Heap.lt_size ho
      rw [z'] at hlt
      exact absurd (Nat.lt_of_lt_of_le hlt hC) (Nat.lt_irrefl _)
    · exact (hfp b hb).2.2.2.2.1 y c (cab y c e) z
  · obtain ⟨f0, f1, f2, f3, f4, f5⟩ := hfp b hb
    rcases f3 with f3 | f3
    · exact I.ok.noex b o e f3
    · exact absurd (Nat.lt_of_lt_of_le (Heap.lt_size (I.ok.bs b o e).1) f3) (Nat.lt_irrefl _)
  · obtain ⟨f0, f1, f2, f3, f4, f5⟩ := hfp b hb
    rcases List.mem_cons.mp (I.stkSub b z) with e | e
    · exact f1 e
    · exact f2 e
  · by_cases hi : i < xs.length
    · rw [List.getElem?_append_left (by simpa using hi), List.getElem?_replicate, if_pos hi] at h2
      cases h2
    · have h1' : ns[i - xs.length]? = some y := by
        have h1 : (xs ++ ns)[i]? = some y := h1
        rw [List.getElem?_append_right (by omega)] at h1
        exact h1
      have h2' : (js.map (getS σ))[i - xs.length]? = some (some v) := by
        rw [List.getElem?_append_right (by simpa using hi)] at h2
        simpa using h2
      generalize i - xs.length = i at h1' h2'
      rw [List.getElem?_map] at h2'
      cases e : js[i]? with
      | none => rw [e] at h2'; cases h2'
      | some j =>
        rw [e] at h2'
        have h4 : getS σ j = some v := Option.some.inj h2'
        have h5 : σ[j]? = some (some v) := by
          unfold getS at h4
          split at h4
          · rename_i u q
            cases h4
            exact q
          · cases h4
        have hN := hj.2 i j y e h1'
        have mem : y ∈ ns := List.mem_of_getElem? h1'
        obtain ⟨c1, c2⟩ := S.cells y mem
        obtain ⟨m, hm, hl⟩ := I.loc
        obtain ⟨u, ru, lk⟩ := hl j y v hN h5 (.inr (.inl c2))
        refine ⟨u, ru, ?_⟩
        rcases lk with ⟨k1, _⟩ | ⟨_, c, e1, o, ho, hd⟩
        · have k1' : X.env.scope.names.lookup y = some .local := k1
          rw [c2] at k1'; cases k1'
        · exact .inr ⟨.inl (relabel_lookup kd c1 c2), c, clOf_get mem e1, o, hk c o ho, hd⟩
  · obtain ⟨v, z⟩ := cold y c e
    obtain ⟨o, ho, hd⟩ := z
    exact ⟨v, o, hk c o ho, hd⟩
  · obtain ⟨v, o, ho, hd⟩ := cold y c e
    exact hnew c o ho (I.freeC y c (cab y c e))
  · show (List.replicate xs.length none ++ js.map (getS σ)).length = (xs ++ ns).length
    simp [hj.1]
def TsD (X : Cx) (ifs : List Expr) (t : DT) : Prop :=
  ∀ (pins : List (Addr × Obj)) (s : Shared) (σ : St) (H : Hp) (W : Own) (ρ : Ro) (Q : Bool → Prop), Inv X pins σ H s → Rel X W H σ ρ → t ρ Q →
    wpAny (model X.prog X.w) X.A (forIn ifs true fun c r => if r = true then do let ok ← isTrue c X.env (eval c X.env); pure (ForInStep.yield ok) else pure (ForInStep.yield r)) (DTP X pins σ H Q) X.xe s
def dAll : DT := fun _ Q => Q true
theorem ts_nil {X : Cx} : TsD X [] dAll := fun _ s σ H W ρ Q I r h => wpAny_tests_nil ⟨H, I, Same.refl H, h⟩
def CapR (n : Nat) (cap ρ : Ro) : Prop := ∃ r0 : Ro, r0.length = n ∧ ρ = r0 ++ cap
theorem compLoopG {prog : Program} {w : World} {A : Around} {s : Shared} {R : Result → Shared → Prop} {elt target iter : Expr} {ifs : List Expr} {scope : Scope} {pos : Pos} {it acc : Value} {env : Env} (I : Nat → Shared → Prop)
    (turn : ∀ n s, I n s → wpAny (model prog w) A (pyNext it) (fun r s₁ => match r with
      | none => R (.ok .next) s₁
      | some v => wpAny (model prog w) A (letOwnedTupleGo target it v) (fun _ z₁ => wpAny (model prog w) A (assign target env v) (fun _ s₂ =>
          wpAny (model prog w) A (forIn ifs true fun c r => if r = true then do let ok ← isTrue c env (eval c env); pure (ForInStep.yield ok) else pure (ForInStep.yield r)) (fun ok s₃ => if ok = true then wpAny (model prog w) A (eval elt env) (fun x s₄ =>
              wpAny (model prog w) A (call (.builtin "list.append") [acc, x]) (fun _ s₅ => ∃ m, m < n ∧ I m s₅) (notedBy (model prog w) A env fun e z => R (.error e) z) s₄) (notedBy (model prog w) A env fun e z => R (.error e) z) s₃
            else ∃ m, m < n ∧ I m s₃) (notedBy (model prog w) A env fun e z => R (.error e) z) s₂) (notedBy (model prog w) A env fun e z => R (.error e) z) z₁) (notedBy (model prog w) A env fun e z => R (.error e) z) s₁) (notedBy (model prog w) A env fun e z => R (.error e) z) s)
    (n : Nat) (h : I n s) : codeAny (model prog w) A (.compLoop (.ListComp elt [⟨target, iter, ifs, 0⟩] scope pos) 0 it acc env) R s := by
  refine codeAny_loop rfl I (fun m z hI => ?_) n h
  show wpAny _ A ((compTurn (.ListComp elt [⟨target, iter, ifs, 0⟩] scope pos) 0 it acc env).onRaise (fun e => do noteFrame e env; theTreesLotGoes e)) _ _ z
  refine wpAny_noted ?_
  rw [compTurn_list]
  refine wpAny_bind (wpAny_standAt (wpAny_bind (wpAny_mono (turn m z hI) (fun r z1 g1 => ?_) fun _ _ q => q)))
  cases r with
  | none => exact wpAny_pure g1
  | some v =>
    refine wpAny_bind (wpAny_mono g1 (fun _ z2 g2 => ?_) fun _ _ q => q)
    refine wpAny_bind (wpAny_mono g2 (fun _ z3 g3 => wpAny_bind (wpAny_mono g3 (fun ok z4 g4 => ?_) fun _ _ q => q)) fun _ _ q => q)
    cases ok with
    | false => exact wpAny_pure ⟨rfl, g4⟩
    | true => exact wpAny_bind (wpAny_bind (wpAny_mono g4 (fun y z5 g5 => wpAny_bind (wpAny_mono g5 (fun _ z6 g6 => wpAny_pure (wpAny_pure ⟨rfl, g6⟩)) fun _ _ q => q)) fun _ _ q => q))
theorem Rel.mutB {X : Cx} {W : Own} {H : Hp} {σ : St} {ρ : Ro} {a : Addr} {vs vs' : List V} (r : Rel X W H σ ρ) (hB : W.B a) (ha : H a = some (.lst vs)) (h0 : X.H₀ a = none) :
    Rel X W (L2.upd H a (.lst vs')) σ ρ ∧ ∀ ds us, Dens X.K W.bad H ds us → Dens X.K W.bad (L2.upd H a (.lst vs')) ds us := by
  have noT : ∀ b ws, SqT X.K H b ws → SqT X.K (L2.upd H a (.lst vs')) b ws := fun b ws q => by
    show L2.upd _ _ _ _ = _
    rw [upd_ne (ne_of q ha (by intro z; cases z))]
    exact q
  have noL : ∀ t b ws, ¬ W.bad t b → SqG X.K H t b ws → ¬ W.bad t b ∧ SqG X.K (L2.upd H a (.lst vs')) t b ws := fun t b ws n q => by
    have hne : b ≠ a := fun e => n (.inl (e ▸ hB))
    refine ⟨n, ?_, fun z => ⟨by rw [upd_ne hne]; exact (q.2 z).1, (q.2 z).2⟩⟩
    rcases q.1 with (q | ⟨o, q⟩) | q
    · exact .inl (.inl (by rw [upd_ne hne]; exact q))
    · exact .inl (.inr ⟨o, by rw [upd_ne hne]; exact q⟩)
    · exact .inr q
  have noX : ∀ b u, Sol u → H b = some u → L2.upd H a (.lst vs') b = some u := fun b u n q => by rw [upd_ne (ne_of q ha (by intro z; subst z; exact n))]; exact q
  have tr : ∀ b o, H b = some o → ∃ o', L2.upd H a (.lst vs') b = some o' := fun b o q => by
    by_cases hba : b = a
    · subst hba; exact ⟨_, upd_same⟩
    · exact ⟨o, by rw [upd_ne hba]; exact q⟩
  refine ⟨⟨fun j d h => ?_, fun j y h => ?_, r.inj, fun j b hb => ?_, r.ke, fun b hb => let ⟨o, q⟩ := r.bt b hb; tr b o q, fun b hb => let ⟨o, q⟩ := r.st b hb; tr b o q, r.ent.ins h0 ha True.intro True.intro, r.tab.upd True.intro (.inr ⟨_, ha, (fun _ z => by cases z), True.intro⟩)⟩, Dens.map noT noL noX⟩
  · obtain ⟨v, h1, h2⟩ := r.val j d h
    exact ⟨v, h1, Den.map noT noL noX d v h2⟩
  · obtain ⟨b, o, h1, h2, h3, h4⟩ := r.own j y h
    exact ⟨b, o, h1, h2, by rw [upd_ne (fun e => (r.kn j b h1).2.1.1 (by rw [e]; exact hB))]; exact h3, h4.map (Dens.map noT noL noX) fun k c q => ⟨q, fun us z => by rw [upd_ne (fun e => (r.kn _ c q).2.1.1 (by rw [e]; exact hB))]; exact z⟩⟩
  · obtain ⟨k1, k2, o, k3, k4⟩ := r.kn j b hb
    exact ⟨k1, k2, o, by rw [upd_ne (fun e => k2.1 (by rw [e]; exact hB))]; exact k3, k4⟩
def noteX (X : Cx) (sc : Scope) (ns : List Str) (RR : Value → Addr → Result → Shared → Prop) (D C : Addr) : Value → Shared → Prop := notedBy (model X.prog X.w) X.A (compEnvC sc (clOf X.env ns) C X.env) fun e s'' => RR (.ref D) C (.error e) s''
theorem PassX.no {X : Cx} : PassX X fun _ => False := fun _ _ _ _ _ _ _ _ _ _ h => by
  obtain ⟨_, _, _, _, _, _, _, _, _, _, _, _, _, z⟩ := h
  exact z.elim
end
abbrev DM := Ro → (LI → Prop) → Prop
def MDen (K : PySem.W.Frag) (P : Bool → Addr → Prop) (H H' : Hp) : LI → V → Prop
  | .own ds, v => ∃ a vs, v = .ref a ∧ H a = none ∧ K.lookup a = none ∧ H' a = some (.lst vs) ∧ Dens K (fun t b => P t b ∨ b = a) H' ds vs
  | .val d, v => Den K P H' d v
inductive MDP (X : Cx) (pins : List (Addr × Obj)) (σ : St) (W : Own) (H : Hp) (Q : LI → Prop) (u : Value) (s' : Shared) : Prop
  | mk (v : V) (H' : Hp) (li : LI) (_ : Inv X pins σ H' s') (_ : RelV v u) (_ : Same H H') (_ : MDen X.K W.bad H H' li v) (_ : Q li)
def PEM (X : Cx) (e : Expr) (t : DM) : Prop :=
  ∀ (pins : List (Addr × Obj)) (s : Shared) (σ : St) (H : Hp) (W : Own) (ρ : Ro) (Q : LI → Prop), Inv X pins σ H s → Rel X W H σ ρ → t ρ Q →
    wpAny (model X.prog X.w) X.A (eval e X.env) (MDP X pins σ W H Q) X.xe s
structure BsOk (K : PySem.W.Frag) (H : Hp) (D : Addr) (n : Nat) (bs : Nat → Option Addr) : Prop where
  ok : ∀ k b, bs k = some b → k < n ∧ H b = none ∧ K.lookup b = none ∧ b ≠ D
  inj : ∀ k l b, bs k = some b → bs l = some b → k = l
theorem BsOk.nil {K : PySem.W.Frag} {H : Hp} {D : Addr} {n : Nat} : BsOk K H D n fun _ => none := ⟨fun _ _ h => (by cases h), fun _ _ _ h => (by cases h)⟩
theorem BsOk.up {K : PySem.W.Frag} {H : Hp} {D : Addr} {n m : Nat} {bs : Nat → Option Addr} (h : BsOk K H D n bs) (l : n ≤ m) : BsOk K H D m bs := ⟨fun k b q => let ⟨a, r⟩ := h.ok k b q; ⟨Nat.lt_of_lt_of_le a l, r⟩, h.inj⟩
theorem BsOk.put {K : PySem.W.Frag} {H : Hp} {D a : Addr} {out : List LI} {x : LI} {bs : Nat → Option Addr} (h : BsOk K H D out.length bs) (n : H a = none) (k : K.lookup a = none) (nd : a ≠ D) (new : ∀ k, bs k = some a → False) :
    BsOk K H D (out ++ [x]).length fun k => if k = out.length then some a else bs k := ⟨fun l b q => by
    rw [List.length_append, List.length_singleton]
    by_cases e : l = out.length
    · rw [if_pos e] at q; cases q; exact ⟨by omega, n, k, nd⟩
    · rw [if_neg e] at q
      obtain ⟨a1, a2⟩ := h.ok l b q
      exact ⟨by omega, a2⟩, fun l m b q1 q2 => by
    by_cases e1 : l = out.length
    · by_cases e2 : m = out.length
      · rw [e1, e2]
      · rw [if_pos e1] at q1; rw [if_neg e2] at q2; cases q1; exact (new m q2).elim
    · by_cases e2 : m = out.length
      · rw [if_neg e1] at q1; rw [if_pos e2] at q2; cases q2; exact (new l q1).elim
      · rw [if_neg e1] at q1; rw [if_neg e2] at q2; exact h.inj l m b q1 q2⟩
section
variable {K : PySem.W.Frag} {P : Bool → Addr → Prop} {H : Hp} {B : Nat → Option Addr}
theorem LDens.snoc_val {d : D} {v : V} (h1 : Den K P H d v) : ∀ {k : Nat} {xs : List LI} {vs : List V}, LDens K P H B k xs vs → LDens K P H B k (xs ++ [.val d]) (vs ++ [v])
  | k, [], _, h => by simp only [LDens] at h; subst h; simp only [List.nil_append, LDens]; exact ⟨v, [], rfl, h1, rfl⟩
  | k, .own ds :: r, _, h => by
    simp only [LDens] at h
    obtain ⟨b, us, u, rfl, q1, q2, q3, q4⟩ := h
    simp only [List.cons_append, LDens]
    exact ⟨b, us, _, rfl, q1, q2, q3, LDens.snoc_val h1 q4⟩
  | k, .val e :: r, _, h => by
    simp only [LDens] at h
    obtain ⟨w, u, rfl, q1, q2⟩ := h
    simp only [List.cons_append, LDens]
    exact ⟨w, _, rfl, q1, LDens.snoc_val h1 q2⟩
theorem LDens.snoc_own {ds : List D} {a : Addr} {ws : List V} : ∀ {k : Nat} {xs : List LI} {vs : List V}, LDens K P H B k xs vs → B (k + xs.length) = some a → H a = some (.lst ws) → Dens K P H ds ws → LDens K P H B k (xs ++ [.own ds]) (vs ++ [.ref a])
  | k, [], _, h, hb, ha, hd => by simp only [LDens] at h; subst h; simp only [List.nil_append, LDens]; exact ⟨a, ws, [], rfl, by simpa using hb, ha, hd, rfl⟩
  | k, .own es :: r, _, h, hb, ha, hd => by
    simp only [LDens] at h
    obtain ⟨b, us, u, rfl, q1, q2, q3, q4⟩ := h
    simp only [List.cons_append, LDens]
    exact ⟨b, us, _, rfl, q1, q2, q3, LDens.snoc_own q4 (by rw [← hb]; congr 1; simp; omega) ha hd⟩
  | k, .val e :: r, _, h, hb, ha, hd => by
    simp only [LDens] at h
    obtain ⟨w, u, rfl, q1, q2⟩ := h
    simp only [List.cons_append, LDens]
    exact ⟨w, _, rfl, q1, LDens.snoc_own q2 (by rw [← hb]; congr 1; simp; omega) ha hd⟩
end
section
variable {X : Cx}
theorem Rel.ban {W : Own} {H H' : Hp} {σ : St} {ρ : Ro} {p : Addr} {o : HO} (r : Rel X W H σ ρ) (sm : Same H H') (hp : H p = none) (hk : X.K.lookup p = none) (h' : H' p = some o) :
    Rel X ⟨fun b => W.B b ∨ b = p, W.O, W.S⟩ H' σ ρ ∧ ∀ ds vs, Dens X.K W.bad H ds vs → Dens X.K (Own.bad ⟨fun b => W.B b ∨ b = p, W.O, W.S⟩) H' ds vs := by
  have bad' : ∀ t a, Own.bad ⟨fun b => W.B b ∨ b = p, W.O, W.S⟩ t a → W.bad t a ∨ a = p := fun t a z => by
    rcases z with (z | z) | z | z
    · exact .inl (.inl z)
    · exact .inr z
    · exact .inl (.inr (.inl z))
    · exact .inl (.inr (.inr z))
  have nb : ∀ {t : Bool} {a : Addr} {ws : List V}, SqG X.K H t a ws → a ≠ p := fun {t a ws} q z => by
    subst z
    rcases q.1 with (q | ⟨o, q⟩) | ⟨o, its, n, q, _⟩
    · rw [hp] at q; cases q
    · rw [hp] at q; cases q
    · rw [hk] at q; cases q
  have up : ∀ (d : D) (v : V), Den X.K W.bad H d v → Den X.K (Own.bad ⟨fun b => W.B b ∨ b = p, W.O, W.S⟩) H' d v := Den.map (fun _ _ q => SqT.same sm q) (fun t a ws n q => ⟨fun z => (bad' t a z).elim n (nb q), q.same sm⟩) (fun a _ n q => sm.kp a _ q n.nt)
  have ups : ∀ (ds : List D) (vs' : List V), Dens X.K W.bad H ds vs' → Dens X.K (Own.bad ⟨fun b => W.B b ∨ b = p, W.O, W.S⟩) H' ds vs' := Dens.map (fun _ _ q => SqT.same sm q) (fun t a ws n q => ⟨fun z => (bad' t a z).elim n (nb q), q.same sm⟩) (fun a _ n q => sm.kp a _ q n.nt)
  refine ⟨⟨fun j d h => ?_, fun j x h => ?_, r.inj, fun j a h1 => ?_, r.ke, fun a h => ?_, fun a h => let ⟨_, q⟩ := r.st a h; sm.ex q, r.ent.trans sm, r.tab.same sm⟩, ups⟩
  · obtain ⟨w, h1, h2⟩ := r.val j d h
    exact ⟨w, h1, up d w h2⟩
  · obtain ⟨a, ws, h1, h2, h3, h4⟩ := r.own j x h
    exact ⟨a, ws, h1, h2, sm.kp _ _ h3 h4.mut.nt, h4.map ups fun l b q => ⟨q, fun _ z => sm _ _ z⟩⟩
  · obtain ⟨a1, ⟨n1, n2⟩, ws, a3, a4⟩ := r.kn j a h1
    exact ⟨a1, ⟨fun z => z.elim n1 fun e => (by subst e; rw [hp] at a3; cases a3), n2⟩, ws, sm.kp _ _ a3 a4.nt, a4⟩
  · rcases h with h | h
    · obtain ⟨_, q⟩ := r.bt a h; exact sm.ex q
    · exact ⟨o, h ▸ h'⟩
end
section
variable {X : Cx} {pins : List (Addr × Obj)} {σ : St} {H : Hp} {s : Shared} {sc : Scope} {ns : List Str} {js : List Nat} {xs : List Str} {fp : List Addr}
def cxG (X : Cx) (sc : Scope) (ns xs : List Str) (cl : List (Str × Addr)) (fn : Str → Bool) (C : Addr) (s₂ : Shared) (H₂ : Hp) (fp : List Addr) (XE : Value → Shared → Prop) : Cx :=
  { X with N := xs ++ ns, s₀ := s₂, H₀ := H₂, env := compEnvC sc cl C X.env, outer := X.stack, stack := X.stack, ex := fp, fn := fn, pn := [], xe := XE }
def noteG (X : Cx) (sc : Scope) (cl : List (Str × Addr)) (RR : Value → Addr → Result → Shared → Prop) (D C : Addr) : Value → Shared → Prop := notedBy (model X.prog X.w) X.A (compEnvC sc cl C X.env) fun e s'' => RR (.ref D) C (.error e) s''
inductive CLI (K : PySem.W.Frag) (Y : Cx) (H : Hp) (fp : List Addr) (Ad : Addr) (ds : List D) (W' : Own) (tn : Nat → Heap → Prop) (m : Nat) (cp : Ro) (Pv : Nat → List LI → Prop) (n : Nat) (s' : Shared) : Prop
  | mk (i : Nat) (W2 : Own) (σ2 : St) (ρ2 : Ro) (H' : Hp) (out : List LI) (vs : List V) (bs : Nat → Option Addr) (_ : n = ds.length - i) (_ : i ≤ ds.length) (_ : Inv Y [] σ2 H' s') (_ : tn i s'.heap) (_ : ∀ b ∈ fp, H' b = none) (_ : H' Ad = some (.lst vs)) (_ : W2.B = (fun a => W'.B a ∨ ∃ k, bs k = some a) ∧ W2.S = W'.S) (_ : BsOk K H Ad out.length bs) (_ : ∀ k b, bs k = some b → ∃ us, H' b = some (.lst us)) (_ : LDens K W2.bad H' bs 0 out vs) (_ : Same H H') (_ : Rel Y W2 H' σ2 ρ2) (_ : CapR m cp ρ2) (_ : Pv i out) (_ : out.length ≤ i)
theorem comp_core {elt iter tg : Expr} {ifs : List Expr} {pos : Pos} {g : DG} {te : DM} {tc : DT} {W : Own} {ρ : Ro} {J : It} {it : Addr} {tn : Nat → Heap → Prop} {ds : List D} {RR : Value → Addr → Result → Shared → Prop} {cl : List (Str × Addr)} {fn : Str → Bool} {Ad C : Addr} {h₁ : Heap} (hc : X.calm = true)
    (he : PEM (cxG X sc ns xs cl fn C s H fp (noteG X sc cl RR Ad C)) elt te) (ht : TsD (cxG X sc ns xs cl fn C s H fp (noteG X sc cl RR Ad C)) ifs tc) (hg : PGD (cxG X sc ns xs cl fn C s H fp (noteG X sc cl RR Ad C)) tg g) (I : Inv X pins σ H s) (r : Rel X W H σ ρ) (T : Turn X.prog X.w X.K tg J fp it tn) (st : tn 0 s.heap) (hfp : ∀ b ∈ fp, FpOk X pins H b) (yd : YD X.K W H J ds) (hz : ds.length ≤ sizeLine)
    (Pv : Nat → List LI → Prop) (p0 : Pv 0 []) (step : ∀ j d out ρ1, ds[j]? = some d → Pv j out → CapR xs.length (js.map (getV ρ)) ρ1 → g d ρ1 fun ρ2 => CapR xs.length (js.map (getV ρ)) ρ2 ∧ tc ρ2 fun b => if b = true then te ρ2 (fun e => Pv (j + 1) (out ++ [e])) else Pv (j + 1) out)
    (hRR : ∀ (s' : Shared) (H' : Hp) (m' : Str → Option Value) (out : List LI) (bs : Nat → Option Addr), Inv X pins σ H' s' → Same H H' → s'.heap.Ns C m' → H' C = none → C ≠ X.env.locals → X.s₀.heap.objs.size ≤ C → (∀ y c, X.env.cells.lookup y = some c → c ≠ C) → (∀ p ∈ X.pn ++ pins, p.1 ≠ C) →
      (H Ad = none ∧ X.K.lookup Ad = none ∧ ∃ vs, H' Ad = some (.lst vs) ∧ BsOk X.K H Ad out.length bs ∧ (∀ k b, bs k = some b → ∃ us, H' b = some (.lst us)) ∧ LDens X.K (fun t b => W.bad t b ∨ b = Ad ∨ ∃ k, bs k = some b) H' bs 0 out vs) → Pv ds.length out → RR (.ref Ad) C (.ok .next) s')
    (hDf : H Ad = none) (hKD : X.K.lookup Ad = none) (leD : s.heap.objs.size ≤ Ad) (hCle : s.heap.objs.size ≤ C) (old : ∀ b o, s.heap.get? b = some o → h₁.get? b = some o) (hcl : ∀ y c, cl.lookup y = some c → X.env.cells.lookup y = some c ∨ s.heap.objs.size ≤ c)
    (I1 : Inv (cxG X sc ns xs cl fn C s H fp (noteG X sc cl RR Ad C)) [] (List.replicate xs.length none ++ js.map (getS σ)) (L2.upd H Ad (.lst [])) { s with heap := h₁, toks := s.toks + ([] : List (Str × Value)).length }) :
    codeAny (model X.prog X.w) X.A (.compStart (.ListComp elt [⟨tg, iter, ifs, 0⟩] sc pos) 0 (.ref it) (.ref Ad) (compEnvC sc cl C X.env)) (RR (.ref Ad) C) { s with heap := h₁, toks := s.toks + ([] : List (Str × Value)).length } := by
  have hfo : ∀ b ∈ fp, ∃ o, s.heap.get? b = some o := fun b hb => let ⟨o, e, _⟩ := T.obj 0 s.heap st b hb; ⟨o, e⟩
  have nl : ∀ {a : Addr} {ws : List V}, SqL X.K H a ws → a ≠ Ad := fun {a ws} q z => by
    subst z
    rcases q with (q | ⟨o, q⟩) | ⟨o, its, n, q, _⟩
    · rw [hDf] at q; cases q
    · rw [hDf] at q; cases q
    · rw [hKD] at q; cases q
  let W' : Own := ⟨fun a => W.bad false a ∨ a = Ad, fun _ => none, W.S⟩
  have bad' : ∀ t a, W'.bad t a ↔ (W.bad t a ∨ a = Ad) := fun t a => ⟨fun z => by
    rcases z with (z | z) | ⟨_, q⟩ | ⟨z1, z2⟩
    · exact .inl (Own.bad_up z)
    · exact .inr z
    · cases q
    · exact .inl (.inr (.inr ⟨z1, z2⟩)), fun z => by
    rcases z with z | z
    · rcases z with z | z | z
      · exact .inl (.inl (.inl z))
      · exact .inl (.inl (.inr (.inl z)))
      · exact .inr (.inr z)
    · exact .inl (.inr z)⟩
  have hT : ∀ {H' : Hp}, Same H H' → ∀ a vs, SqT X.K H a vs → SqT X.K H' a vs := fun sm a vs q => SqT.same sm q
  have hL : ∀ {H' : Hp}, Same H H' → ∀ t a vs, ¬ W.bad t a → SqG X.K H t a vs → ¬ W'.bad t a ∧ SqG X.K H' t a vs := fun sm t a vs n q => ⟨fun z => ((bad' t a).mp z).elim n (nl q.1), q.same sm⟩
  have relC : Rel (cxG X sc ns xs cl fn C s H fp (noteG X sc cl RR Ad C)) W' (L2.upd H Ad (.lst [])) (List.replicate xs.length none ++ js.map (getS σ)) (List.replicate xs.length none ++ js.map (getV ρ)) := by
    have sm : Same H (L2.upd H Ad (.lst [])) := Same.upd hDf
    have at_ : ∀ {i : Nat} {z : Sl}, (List.replicate xs.length none ++ js.map (getV ρ))[i]? = some (some z) → ¬ i < xs.length ∧ (js.map (getV ρ))[i - xs.length]? = some (some z) := fun {i z} h => by
      by_cases hi : i < xs.length
      · rw [List.getElem?_append_left (by simpa using hi), List.getElem?_replicate, if_pos hi] at h
        cases h
      · rw [List.getElem?_append_right (by simpa using hi)] at h
        exact ⟨hi, by simpa using h⟩
    refine ⟨fun i d h => ?_, fun i x h => ?_, fun i j a h _ => (by cases h), fun i a h => (by cases h), fun i a h => (by cases h), fun a h => ?_, fun a h => ?_, sm, r.tab.same sm⟩
    · obtain ⟨hi, h'⟩ := at_ h
      rw [List.getElem?_map] at h'
      cases e : js[i - xs.length]? with
      | none => rw [e] at h'; cases h'
      | some j =>
        rw [e] at h'
        have h4 : getV ρ j = some (.val d) := Option.some.inj h'
        have h5 : ρ[j]? = some (some (.val d)) := by
          unfold getV at h4
          split at h4
          · rename_i u q
            cases h4
            exact q
          · cases h4
        obtain ⟨v, e1, e2⟩ := r.val j d h5
        refine ⟨v, ?_, Den.map (hT sm) (hL sm) (fun a _ n q => sm.kp a _ q n.nt) d v e2⟩
        rw [List.getElem?_append_right (by simpa using hi)]
        show (js.map (getS σ))[i - (List.replicate xs.length (none : Option V)).length]? = some (some v)
        rw [List.length_replicate, List.getElem?_map, e]
        show some (getS σ j) = some (some v)
        unfold getS
        rw [e1]
    · obtain ⟨hi, h'⟩ := at_ h
      rw [List.getElem?_map] at h'
      cases e : js[i - xs.length]? with
      | none => rw [e] at h'; cases h'
      | some j =>
        rw [e] at h'
        have h4 : getV ρ j = some (.ob x) := Option.some.inj h'
        unfold getV at h4
        split at h4 <;> cases h4
    · rcases h with h | h
      · obtain ⟨o, q⟩ := r.tracked false a h
        exact sm.ex q
      · rw [h]; exact ⟨_, upd_same⟩
    · obtain ⟨o, q⟩ := r.st a h
      exact sm.ex q
  have statC : ∀ {H' : Hp}, (∀ b ∈ fp, H' b = none) → ∀ b ∈ fp, FpOk (cxG X sc ns xs cl fn C s H fp (noteG X sc cl RR Ad C)) [] H' b := fun hn b hb => by
    obtain ⟨f0, f1, f2, f3, f4, f5⟩ := hfp b hb
    obtain ⟨o, ho⟩ := hfo b hb
    refine ⟨hn b hb, fun z => ?_, fun z => ?_, .inl hb, fun y c e z => (hcl y c e).elim (fun e => f4 y c e z) fun q => absurd (Heap.lt_size ho) (by rw [← z]; exact Nat.not_lt.mpr q), fun p hp => absurd (show p ∈ ([] : List (Addr × Obj)) from hp) (by simp)⟩
    · have z' : b = C := z
      have hlt := Heap.lt_size ho
      rw [z'] at hlt
      exact absurd (Nat.lt_of_lt_of_le hlt hCle) (Nat.lt_irrefl _)
    · rcases List.mem_cons.mp (I.stkSub b z) with e | e
      · exact f1 e
      · exact f2 e
  have hch : ∀ b ∈ fp, (b ∈ X.ex ∨ X.s₀.heap.objs.size ≤ b) ∧ b ≠ X.env.locals ∧ (∀ x c, X.env.cells.lookup x = some c → c ≠ b) ∧ ∀ p ∈ X.pn ++ pins, p.1 ≠ b := fun b hb => by
    obtain ⟨f0, f1, f2, f3, f4, f5⟩ := hfp b hb
    exact ⟨f3, f1, f4, f5⟩
  have BD0 : W'.B Ad := .inr rfl
  have loop : ∀ s₃ : Shared, s₃ = { s with heap := h₁, toks := s.toks + ([] : List (Str × Value)).length } →
      codeAny (model X.prog X.w) X.A (.compLoop (.ListComp elt [⟨tg, iter, ifs, 0⟩] sc pos) 0 (.ref it) (.ref Ad) (compEnvC sc cl C X.env)) (RR (.ref Ad) C) s₃ := by
    rintro s₃ rfl
    refine compLoopG (CLI X.K (cxG X sc ns xs cl fn C s H fp (noteG X sc cl RR Ad C)) H fp Ad ds W' tn xs.length (js.map (getV ρ)) Pv) ?_ ds.length
      ⟨0, W', _, _, _, [], [], fun _ => none, by simp, Nat.zero_le _, I1, T.keep 0 s.heap h₁ st (fun b hb o e => old b o e), fun b hb => ?_, upd_same, ⟨by funext a; simp, rfl⟩, BsOk.nil, (fun _ _ h => by cases h), by simp only [LDens], Same.upd hDf, relC, ⟨_, by simp, rfl⟩, p0, Nat.le_refl _⟩
    rotate_left
    · obtain ⟨o, ho⟩ := hfo b hb
      rw [upd_ne (fun z => absurd (Heap.lt_size ho) (by rw [z]; exact Nat.not_lt.mpr leD))]
      exact (hfp b hb).1
    rintro n s3 ⟨i, W2, σ2, ρ2, H3, out, vs, bs, en, hle, I3, st3, fr3, hD3, hW2, hbs, hls, hds3, sm3, rl3, cap3, p3, ol⟩
    have nb2 : ∀ {W3 : Own} {H' : Hp} {σ3 : St} {ρ3 : Ro}, (W3.B = (fun a => W'.B a ∨ ∃ k, bs k = some a) ∧ W3.S = W'.S) → Rel (cxG X sc ns xs cl fn C s H fp (noteG X sc cl RR Ad C)) W3 H' σ3 ρ3 → Same H H' → ∀ t a vs, ¬ W.bad t a → SqG X.K H t a vs → ¬ W3.bad t a ∧ SqG X.K H' t a vs := fun {W3 H' σ3 ρ3} hw rl sm t a vs n q => by
      refine ⟨fun z => ?_, q.same sm⟩
      rcases z with z | ⟨k, z⟩ | ⟨z1, z2⟩
      · rw [hw.1] at z
        rcases z with z | ⟨k, z⟩
        · exact (hL sm t a vs n q).1 (.inl z)
        · obtain ⟨_, h0, kk, _⟩ := hbs.ok k a z
          rcases q.1 with (q1 | ⟨o, q1⟩) | ⟨o, its, m, q1, _⟩
          · rw [h0] at q1; cases q1
          · rw [h0] at q1; cases q1
          · rw [kk] at q1; cases q1
      · have h0 : H a = none := rl.ke k a z
        rcases q.1 with (q1 | ⟨o, q1⟩) | ⟨o, its, m, q1, _⟩
        · rw [h0] at q1; cases q1
        · rw [h0] at q1; cases q1
        · have kk : X.K.lookup a = none := (rl.kn k a z).1
          rw [kk] at q1; cases q1
      · rw [hw.2] at z2
        exact (hL sm t a vs n q).1 (.inr (.inr ⟨z1, z2⟩))
    obtain ⟨yg, yy, ys⟩ := yd W2.bad H3 (hT sm3) (nb2 hW2 rl3 sm3) (fun a _ n q => sm3.kp a _ q n.nt) i
    by_cases hlt : i < ds.length
    · refine thn (T.item (cxG X sc ns xs cl fn C s H fp (noteG X sc cl RR Ad C)) rfl rfl rfl hc i [] s3 _ H3 _ I3 (statC fr3) st3 (yg hlt)) fun rr s4 ⟨u, hr, h4⟩ => ?_
      subst hr
      refine thn h4 fun _ s5 ⟨x5, H5, I5, r5, y5, st5, fr5⟩ => ?_
      obtain ⟨e5, d, hd, hden⟩ := yy x5 H5 y5 hlt
      have I5' := I5.pinned (statC fr5) (T.obj _ _ st5)
      have rl5 := rl3.same e5
      have sm5 : Same H H5 := sm3.trans e5
      refine wpAny_mono (hg _ s5 σ2 H5 W2 ρ2 d x5 u _ I5' rl5 r5 hden (step i d out ρ2 hd p3 cap3)) (fun _ s6 ⟨W6, σ6, H6, ρ6, I6, f6, rl6, cap6, q6⟩ => ?_) (fun _ _ z => z)
      have hW6 : W6.B = (fun a => W'.B a ∨ ∃ k, bs k = some a) ∧ W6.S = W'.S := ⟨f6.B.trans hW2.1, f6.S.trans hW2.2⟩
      have sm6 : Same H H6 := ⟨fun b o e n => f6.kp b o (fun k z => by have h0 : H b = none := rl5.ke k b z; rw [e] at h0; cases h0) (sm5.kp b o e n) n, (fun b ps e => by obtain ⟨m1, e1⟩ := sm5.tb b ps e; obtain ⟨m2, e2⟩ := f6.tb b _ e1; exact ⟨m1 ++ m2, by rw [e2, Array.append_assoc]⟩), fun h => f6.ok (sm5.ok h)⟩
      have BD : W'.B Ad := .inr rfl
      have hD6 : H6 Ad = some (.lst vs) := f6.keep Ad _ (fun k z => (rl5.kn k Ad z).2.1.1 (by rw [hW2.1]; exact .inl BD)) (e5 _ _ hD3)
      have hds5 : LDens X.K W2.bad H5 bs 0 out vs := hds3.map (fun _ _ z => z.same e5) fun _ _ q => ⟨q, fun _ z => e5 _ _ z⟩
      have hls6 : ∀ k b, bs k = some b → ∃ us, H6 b = some (.lst us) := fun k b q => let ⟨us, z⟩ := hls k b q; ⟨us, f6.keep b _ (fun l y => (rl5.kn l b y).2.1.1 (by rw [hW2.1]; exact .inr ⟨k, q⟩)) (e5 _ _ z)⟩
      have hds6 : LDens X.K W6.bad H6 bs 0 out vs := hds5.map (fun _ _ z => Dens.fwd rl5 rl6 f6 z) fun k b q => ⟨q, fun us z => f6.keep b _ (fun l y => (rl5.kn l b y).2.1.1 (by rw [hW2.1]; exact .inr ⟨k, q⟩)) z⟩
      have keepT : ∀ {σ7 : St} {H7 : Hp} {s7 : Shared}, Inv (cxG X sc ns xs cl fn C s H fp (noteG X sc cl RR Ad C)) ([] ++ pinsAt fp s5.heap) σ7 H7 s7 → tn (i + 1) s7.heap ∧ ∀ b ∈ fp, H7 b = none := fun {σ7 H7 s7} I7 => by
        refine ⟨T.keep _ _ _ st5 fun b hb o e => (I7.pin (b, o) (List.mem_append_right _ (List.mem_append_right _ (mem_pinsAt hb e)))).1, fun b hb => ?_⟩
        obtain ⟨o, e, _⟩ := T.obj _ _ st5 b hb
        exact (I7.pin (b, o) (List.mem_append_right _ (List.mem_append_right _ (mem_pinsAt hb e)))).2.1
      refine wpAny_mono (ht _ s6 _ H6 W6 _ _ I6 rl6 q6) (fun b s7 ⟨H7, I7, e7, q7⟩ => ?_) (fun _ _ z => z)
      cases b with
      | false =>
        rw [if_neg Bool.false_ne_true] at q7
        rw [if_neg Bool.false_ne_true]
        obtain ⟨t7, f7⟩ := keepT I7
        exact ⟨ds.length - (i + 1), by omega, i + 1, W6, σ6, ρ6, H7, out, vs, bs, rfl, hlt, I7.unpinned, t7, f7, e7 _ _ hD6, hW6, hbs, (fun k b q => let ⟨us, z⟩ := hls6 k b q; ⟨us, e7 _ _ z⟩), hds6.map (fun _ _ z => z.same e7) (fun _ _ q => ⟨q, fun _ z => e7 _ _ z⟩), sm6.trans e7, rl6.same e7, cap6, q7, by omega⟩
      | true =>
        rw [if_pos rfl] at q7
        rw [if_pos rfl]
        refine wpAny_mono (he _ s7 _ H7 W6 _ _ I7 (rl6.same e7) q7) (fun u8 s8 ⟨v8, H8, e8, I8, r8, sm8, hd8, q8⟩ => ?_) (fun _ _ z => z)
        have sm78 := e7.trans sm8
        have hD8 := sm78 _ _ hD6
        have rl7 := rl6.same e7
        have hds7 : LDens X.K W6.bad H7 bs 0 out vs := hds6.map (fun _ _ z => z.same e7) fun _ _ q => ⟨q, fun _ z => e7 _ _ z⟩
        have smH : Same H H8 := sm6.trans sm78
        obtain ⟨W8, bs8, hW8, hbs8, hls8, rl8, hds8, hlen8⟩ : ∃ (W8 : Own) (bs8 : Nat → Option Addr), (W8.B = (fun a => W'.B a ∨ ∃ k, bs8 k = some a) ∧ W8.S = W'.S) ∧ BsOk X.K H Ad (out ++ [e8]).length bs8 ∧ (∀ k b, bs8 k = some b → ∃ us, H8 b = some (.lst us)) ∧ Rel (cxG X sc ns xs cl fn C s H fp (noteG X sc cl RR Ad C)) W8 H8 σ6 ρ6 ∧ LDens X.K W8.bad H8 bs8 0 (out ++ [e8]) (vs ++ [v8]) ∧ vs.length = out.length := by
          have ln := hds7.len
          cases e8 with
          | val d =>
            refine ⟨W6, bs, hW6, hbs.up (by simp), (fun k b q => let ⟨us, z⟩ := hls6 k b q; ⟨us, sm78 _ _ z⟩), rl7.same sm8, ?_, ln⟩
            exact (hds7.map (fun _ _ z => z.same sm8) fun _ _ q => ⟨q, fun _ z => sm8 _ _ z⟩).snoc_val hd8
          | own ds' =>
            obtain ⟨a, ws, rfl, na, ka, ha, hds'⟩ := hd8
            obtain ⟨rb, db⟩ := rl7.ban sm8 na ka ha
            have nH : H a = none := (sm6.trans e7).free na
            have nD : a ≠ Ad := fun z => by rw [z, e7 _ _ hD6] at na; cases na
            refine ⟨⟨fun b => W6.B b ∨ b = a, W6.O, W6.S⟩, fun k => if k = out.length then some a else bs k, ⟨?_, hW6.2⟩, hbs.put nH ka nD (fun k z => ?_), (fun k b q => ?_), rb, ?_, ln⟩
            · funext b
              show (W6.B b ∨ b = a) = _
              rw [hW6.1]
              refine propext ⟨fun z => ?_, fun z => ?_⟩
              · rcases z with (z | ⟨k, z⟩) | z
                · exact .inl z
                · exact .inr ⟨k, by show (if k = out.length then some a else bs k) = some b; rw [if_neg (Nat.ne_of_lt (hbs.ok k b z).1)]; exact z⟩
                · exact .inr ⟨out.length, by show (if out.length = out.length then some a else bs out.length) = some b; rw [if_pos rfl, z]⟩
              · rcases z with z | ⟨k, z⟩
                · exact .inl (.inl z)
                · have z : (if k = out.length then some a else bs k) = some b := z
                  by_cases ek : k = out.length
                  · rw [if_pos ek] at z; cases z; exact .inr rfl
                  · rw [if_neg ek] at z; exact .inl (.inr ⟨k, z⟩)
            · obtain ⟨o, hu⟩ := rl7.bt a (by rw [hW6.1]; exact .inr ⟨k, z⟩)
              rw [hu] at na; cases na
            · have q : (if k = out.length then some a else bs k) = some b := q
              by_cases ek : k = out.length
              · rw [if_pos ek] at q; cases q; exact ⟨_, ha⟩
              · rw [if_neg ek] at q
                obtain ⟨us, z⟩ := hls6 k b q
                exact ⟨us, sm78 _ _ z⟩
            · refine LDens.snoc_own (hds7.map (B' := fun k => if k = out.length then some a else bs k) (fun ds vs z => db ds vs z) fun k b q => ⟨by show (if k = out.length then some a else bs k) = some b; rw [if_neg (Nat.ne_of_lt (hbs.ok k b q).1)]; exact q, fun _ z => sm8 _ _ z⟩) (by simp) ha (hds'.fewer fun t b z => ?_)
              rcases z with (z | z) | z | z
              · exact .inl (.inl z)
              · exact .inr z
              · exact .inl (.inr (.inl z))
              · exact .inl (.inr (.inr z))
        have BD8 : W8.B Ad := by rw [hW8.1]; exact .inl BD
        refine wpAny_mono (mt_append (X := cxG X sc ns xs cl fn C s H fp (noteG X sc cl RR Ad C)) _ s8 _ H8 (.ref Ad) [v8] (.ref Ad) [u8] (fun _ H' => H' = L2.upd H8 Ad (.lst (vs ++ [v8]))) I8 rfl (.cons r8 .nil) ⟨Ad, vs, v8, rfl, rfl, hD8, by rw [hlen8]; omega, rfl⟩) (fun _ s9 ⟨v9, H9, I9, _, eH⟩ => ?_) (fun _ _ z => z)
        subst eH
        obtain ⟨t9, f9⟩ := keepT I9
        obtain ⟨rl9, dn9⟩ := rl8.mutB (vs' := vs ++ [v8]) BD8 hD8 hDf
        exact ⟨ds.length - (i + 1), by omega, i + 1, W8, σ6, ρ6, _, out ++ [e8], vs ++ [v8], bs8, rfl, hlt, I9.unpinned, t9, f9, upd_same, hW8, hbs8, (fun k b q => let ⟨us, z⟩ := hls8 k b q; ⟨us, by rw [upd_ne (hbs8.ok k b q).2.2.2]; exact z⟩), hds8.map dn9 (fun k b q => ⟨q, fun us z => by rw [upd_ne (hbs8.ok k b q).2.2.2]; exact z⟩), smH.ins hDf hD8 True.intro True.intro, rl9, cap6, q8, by rw [List.length_append, List.length_singleton]; omega⟩
    · have e : i = ds.length := by omega
      refine thn (T.done (cxG X sc ns xs cl fn C s H fp (noteG X sc cl RR Ad C)) rfl rfl rfl hc i [] s3 _ H3 _ I3 (statC fr3) st3 (ys (by omega))) fun rr s4 ⟨hr, I4⟩ => ?_
      subst hr
      subst e
      have Io : Inv X pins σ H3 s4 := I.call' I4.os I4.base I4.hok I4.bare hch
      obtain ⟨m, hm, _⟩ := I4.loc
      exact hRR s4 H3 m out bs Io sm3 hm I4.free (fun z => absurd I.lt (by rw [← z]; exact Nat.not_lt.mpr hCle)) (Nat.le_trans I.sz hCle) (fun y c e z => by
        obtain ⟨v, q⟩ := I.cell y c e
        exact absurd q.lt (by rw [z]; exact Nat.not_lt.mpr hCle)) (fun p hp z => absurd (Heap.lt_size (I.pin p hp).1) (by rw [z]; exact Nat.not_lt.mpr hCle))
        ⟨hDf, hKD, _, hD3, hbs, hls, hds3.map (fun _ _ z => z.fewer fun t a z => (by
          rcases z with z | z
          · rcases (bad' t a).mpr (.inl z) with q | ⟨k, q⟩ | q
            · exact .inl (by rw [hW2.1]; exact .inl q)
            · cases q
            · exact .inr (.inr ⟨q.1, by rw [hW2.2]; exact q.2⟩)
          · rcases z with z | z
            · exact .inl (by rw [hW2.1]; exact .inl (z ▸ BD0))
            · exact .inl (by rw [hW2.1]; exact .inr z))) fun _ _ q => ⟨q, fun _ z => z⟩⟩ p3
  exact codeAny_compStart_list (loop _ rfl) (T.self _ 0 _ _ _ (T.keep 0 s.heap h₁ st (fun b hb o e => old b o e)) (loop _ rfl))
theorem comp_blockM {elt iter tg : Expr} {ifs : List Expr} {pos : Pos} {g : DG} {te : DM} {tc : DT} {W : Own} {ρ : Ro} {J : It} {it : Addr} {tn : Nat → Heap → Prop} {ds : List D} {E : Value → Shared → Prop} {RR : Value → Addr → Result → Shared → Prop} (hc : X.calm = true) (S : CSc X.env.scope sc xs ns)
    (hj : js.length = ns.length ∧ ∀ (i : Nat) (j : Nat) (n : Str), js[i]? = some j → ns[i]? = some n → X.N[j]? = some n)
    {Ed : Value → Prop} (he : ∀ (C : Addr) (s₂ : Shared) (H₂ : Hp) (fp : List Addr) (XE : Value → Shared → Prop), PassX (cxComp X sc ns xs C s₂ H₂ fp XE) Ed → PEM (cxComp X sc ns xs C s₂ H₂ fp XE) elt te) (ht : ∀ (C : Addr) (s₂ : Shared) (H₂ : Hp) (fp : List Addr) (XE : Value → Shared → Prop), PassX (cxComp X sc ns xs C s₂ H₂ fp XE) Ed → TsD (cxComp X sc ns xs C s₂ H₂ fp XE) ifs tc)
    (hx : ∀ D C : Addr, PassX (cxComp X sc ns xs C s H fp (noteX X sc ns RR D C)) Ed) (I : Inv X pins σ H s) (r : Rel X W H σ ρ) (hg : ∀ (C : Addr) (s₂ : Shared) (H₂ : Hp) (fp : List Addr) (XE : Value → Shared → Prop), PGD (cxComp X sc ns xs C s₂ H₂ fp XE) tg g) (T : Turn X.prog X.w X.K tg J fp it tn) (st : tn 0 s.heap) (hfp : ∀ b ∈ fp, FpOk X pins H b) (yd : YD X.K W H J ds) (hz : ds.length ≤ sizeLine)
    (Pv : Nat → List LI → Prop) (p0 : Pv 0 []) (step : ∀ j d out ρ1, ds[j]? = some d → Pv j out → CapR xs.length (js.map (getV ρ)) ρ1 → g d ρ1 fun ρ2 => CapR xs.length (js.map (getV ρ)) ρ2 ∧ tc ρ2 fun b => if b = true then te ρ2 (fun e => Pv (j + 1) (out ++ [e])) else Pv (j + 1) out)
    (hRR : ∀ (D C : Addr) (s' : Shared) (H' : Hp) (m' : Str → Option Value) (out : List LI) (bs : Nat → Option Addr), Inv X pins σ H' s' → Same H H' → s'.heap.Ns C m' → H' C = none → C ≠ X.env.locals → X.s₀.heap.objs.size ≤ C → (∀ y c, X.env.cells.lookup y = some c → c ≠ C) → (∀ p ∈ X.pn ++ pins, p.1 ≠ C) →
      (H D = none ∧ X.K.lookup D = none ∧ ∃ vs, H' D = some (.lst vs) ∧ BsOk X.K H D out.length bs ∧ (∀ k b, bs k = some b → ∃ us, H' b = some (.lst us)) ∧ LDens X.K (fun t b => W.bad t b ∨ b = D ∨ ∃ k, bs k = some b) H' bs 0 out vs) → Pv ds.length out → RR (.ref D) C (.ok .next) s') :
    wpAny (model X.prog X.w) X.A (newList []) (fun acc s₃ => wpAny (model X.prog X.w) X.A (newFunctionEnv sc X.env.globals (clOf X.env ns) [] X.env.qual none .none (some X.env)) (fun cenv s₄ =>
      codeAny (model X.prog X.w) X.A (.compStart (.ListComp elt [⟨tg, iter, ifs, 0⟩] sc pos) 0 (.ref it) acc { cenv with scope := relabel sc X.env }) (RR acc cenv.locals) s₄) E s₃) E s := by
  refine wpAny_newObj_type (wpAny_newFunctionEnv S.nocell (by intro y hy; simp at hy) (fun h₁ hns₁ hsb₁ => ?_) S.kind)
  dsimp only at hns₁ hsb₁ ⊢
  generalize hH2 : s.heap.push { cls := .type "list", dict := none, data := .seq ([] : List Value).toArray } = HP at hns₁ hsb₁ ⊢
  have hC : HP.objs.size = s.heap.objs.size + 1 := by rw [← hH2, Heap.size_push]
  have hDC : s.heap.objs.size ≠ HP.objs.size := by rw [hC]; exact Nat.ne_of_lt (Nat.lt_succ_self _)
  have hCle : s.heap.objs.size ≤ HP.objs.size := by rw [hC]; exact Nat.le_succ _
  have below : ∀ b, b < s.heap.objs.size → b ≠ HP.objs.size := fun b hb => by rw [hC]; exact Nat.ne_of_lt (Nat.lt_succ_of_lt hb)
  have old : ∀ b o, s.heap.get? b = some o → h₁.get? b = some o := fun b o e => hsb₁.extBut b o (below b (Heap.lt_size e)) (Heap.get?_push_of_some _ (hH2 ▸ Heap.get?_push_of_some _ e))
  have hacc : h₁.get? s.heap.objs.size = some { cls := .type "list", data := .seq ([] : List Value).toArray } := hsb₁.extBut _ _ hDC (Heap.get?_push_of_some _ (hH2 ▸ Heap.get?_push_size _ rfl))
  generalize eD : s.heap.objs.size = D at hDC hacc
  generalize eC : HP.objs.size = C at *
  have hDf : H D = none := by rw [← eD]; exact I.hok.fresh (Nat.le_refl _)
  have hKD : X.K.lookup D = none := by rw [← eD]; exact Inv.kfresh I
  have hCf : H C = none := I.hok.fresh hCle
  have hfo : ∀ b ∈ fp, ∃ o, s.heap.get? b = some o := fun b hb => let ⟨o, e, _⟩ := T.obj 0 s.heap st b hb; ⟨o, e⟩
  have leD : s.heap.objs.size ≤ D := Nat.le_of_eq eD
  have okk : HOk X.prog X.w (L2.upd H D (.lst [])) h₁ := I.hok.laid old leD ⟨Nat.zero_le _, [], 0, .nil, hacc⟩
  have upCD : ∀ o, L2.upd H D o C = none := fun o => by rw [upd_ne (Ne.symm hDC)]; exact hCf
  have I1 : Inv (cxComp X sc ns xs C s H fp (noteX X sc ns RR D C)) [] (List.replicate xs.length none ++ js.map (getS σ)) (L2.upd H D (.lst [])) { s with heap := h₁, toks := s.toks + ([] : List (Str × Value)).length } :=
    Inv.comp I S hj hfp hfo hCle rfl I.bare old hns₁ (upCD _) (Same.upd hDf) (fun b o e n => by rw [upd_ne (fun z => absurd (Heap.lt_size e) (by rw [z]; exact Nat.not_lt.mpr leD))]; exact n) okk
  exact comp_core (cl := clOf X.env ns) (fn := fun _ => false) hc (he C s H fp _ (hx D C)) (ht C s H fp _ (hx D C)) (hg C s H fp _) I r T st hfp yd hz Pv p0 step (hRR D C) hDf hKD leD hCle old (fun y c e => .inl (clOf_sub e)) I1
end
theorem LDens.vals {K : PySem.W.Frag} {P : Bool → Addr → Prop} {H : Hp} {B : Nat → Option Addr} : ∀ {ds : List D} {k : Nat} {vs : List V}, LDens K P H B k (ds.map .val) vs → Dens K P H ds vs
  | [], _, _, h => by simp only [List.map_nil, LDens] at h; subst h; exact Dens.nil
  | d :: r, _, _, h => by
    simp only [List.map_cons, LDens] at h
    obtain ⟨v, u, rfl, h1, h2⟩ := h
    exact Dens.cons h1 h2.vals
theorem em_val {X : Cx} {e : Expr} {te : DE} (h : PED X e te) : PEM X e fun ρ Q => te ρ fun d => Q (.val d) := fun pins s σ H W ρ Q I r t => wpAny_mono (h pins s σ H W ρ _ I r t) (fun _ _ ⟨v, H', d, a, b, c, q, z⟩ => ⟨v, H', .val d, a, b, c, q, z⟩) fun _ _ z => z
section
variable {X : Cx} {pins : List (Addr × Obj)} {σ : St} {H : Hp} {s : Shared} {sc : Scope} {ns : List Str} {js : List Nat} {xs : List Str} {fp : List Addr}
theorem comp_block {elt iter tg : Expr} {ifs : List Expr} {pos : Pos} {g : DG} {te : DE} {tc : DT} {W : Own} {ρ : Ro} {J : It} {it : Addr} {tn : Nat → Heap → Prop} {ds : List D} {E : Value → Shared → Prop} {RR : Value → Addr → Result → Shared → Prop} (hc : X.calm = true) (S : CSc X.env.scope sc xs ns)
    (hj : js.length = ns.length ∧ ∀ (i : Nat) (j : Nat) (n : Str), js[i]? = some j → ns[i]? = some n → X.N[j]? = some n)
    {Ed : Value → Prop} (he : ∀ (C : Addr) (s₂ : Shared) (H₂ : Hp) (fp : List Addr) (XE : Value → Shared → Prop), PassX (cxComp X sc ns xs C s₂ H₂ fp XE) Ed → PED (cxComp X sc ns xs C s₂ H₂ fp XE) elt te) (ht : ∀ (C : Addr) (s₂ : Shared) (H₂ : Hp) (fp : List Addr) (XE : Value → Shared → Prop), PassX (cxComp X sc ns xs C s₂ H₂ fp XE) Ed → TsD (cxComp X sc ns xs C s₂ H₂ fp XE) ifs tc)
    (hx : ∀ D C : Addr, PassX (cxComp X sc ns xs C s H fp (noteX X sc ns RR D C)) Ed) (I : Inv X pins σ H s) (r : Rel X W H σ ρ) (hg : ∀ (C : Addr) (s₂ : Shared) (H₂ : Hp) (fp : List Addr) (XE : Value → Shared → Prop), PGD (cxComp X sc ns xs C s₂ H₂ fp XE) tg g) (T : Turn X.prog X.w X.K tg J fp it tn) (st : tn 0 s.heap) (hfp : ∀ b ∈ fp, FpOk X pins H b) (yd : YD X.K W H J ds) (hz : ds.length ≤ sizeLine)
    (Pv : Nat → List D → Prop) (p0 : Pv 0 []) (step : ∀ j d out ρ1, ds[j]? = some d → Pv j out → CapR xs.length (js.map (getV ρ)) ρ1 → g d ρ1 fun ρ2 => CapR xs.length (js.map (getV ρ)) ρ2 ∧ tc ρ2 fun b => if b = true then te ρ2 (fun e => Pv (j + 1) (out ++ [e])) else Pv (j + 1) out)
    (hRR : ∀ (D C : Addr) (s' : Shared) (H' : Hp) (m' : Str → Option Value) (out : List PD.D), Inv X pins σ H' s' → Same H H' → s'.heap.Ns C m' → H' C = none → C ≠ X.env.locals → X.s₀.heap.objs.size ≤ C → (∀ y c, X.env.cells.lookup y = some c → c ≠ C) → (∀ p ∈ X.pn ++ pins, p.1 ≠ C) →
      (H D = none ∧ X.K.lookup D = none ∧ ∃ vs, H' D = some (.lst vs) ∧ Dens X.K (fun t b => W.bad t b ∨ b = D) H' out vs) → Pv ds.length out → RR (.ref D) C (.ok .next) s') :
    wpAny (model X.prog X.w) X.A (newList []) (fun acc s₃ => wpAny (model X.prog X.w) X.A (newFunctionEnv sc X.env.globals (clOf X.env ns) [] X.env.qual none .none (some X.env)) (fun cenv s₄ =>
      codeAny (model X.prog X.w) X.A (.compStart (.ListComp elt [⟨tg, iter, ifs, 0⟩] sc pos) 0 (.ref it) acc { cenv with scope := relabel sc X.env }) (RR acc cenv.locals) s₄) E s₃) E s := by
  have e : ∀ k l, (∃ q, l.map LI.val = q.map LI.val ∧ Pv k q) = Pv k l := fun k l => propext ⟨fun ⟨q, a, b⟩ => (List.map_inj_right (fun _ _ => LI.val.inj)).mp a ▸ b, fun b => ⟨l, rfl, b⟩⟩
  refine comp_blockM (te := fun ρ Q => te ρ fun d => Q (.val d)) hc S hj (fun C s₂ H₂ fp XE p => em_val (he C s₂ H₂ fp XE p)) ht hx I r hg T st hfp yd hz (fun k o => ∃ q, o = q.map LI.val ∧ Pv k q) ⟨[], rfl, p0⟩ ?_ ?_
  · rintro j d _ ρ1 hd ⟨q, rfl, hp⟩ cr
    have e2 : ∀ x, q.map LI.val ++ [LI.val x] = (q ++ [x]).map LI.val := fun x => by rw [List.map_append]; rfl
    simp only [e2, e]
    exact step j d q ρ1 hd hp cr
  · rintro D C s' H' m' _ bs I' sm a1 a2 a3 a4 a5 a6 ⟨h1, h2, vs, h3, _, _, h4⟩ ⟨q, rfl, hp⟩
    exact hRR D C s' H' m' q I' sm a1 a2 a3 a4 a5 a6 ⟨h1, h2, vs, h3, h4.vals.fewer fun t b z => z.elim .inl fun z => .inr (.inl z)⟩ hp
theorem gd_nameC {X : Cx} {sc : Scope} {ns : List Str} {x : Str} {px : Pos} {C : Addr} {s₂ : Shared} {H₂ : Hp} {fp : List Addr} {XE : Value → Shared → Prop} (S : CSc X.env.scope sc [x] ns) : PGD (cxComp X sc ns [x] C s₂ H₂ fp XE) (.Name x px) (gdName 0) :=
  have tl : (compEnvC sc (clOf X.env ns) C X.env).scope.names.lookup x = some .local := lookup_relabel_local (S.tgt x (by simp))
  gd_name (X := cxComp X sc ns [x] C s₂ H₂ fp XE) 0 S.nd rfl (.inl tl) (.inr tl)
theorem step1 {ds : List D} {Pv : Nat → List D → Prop} {tc : DT} {te : DE} {cap : Ro} (step : ∀ j d out, ds[j]? = some d → Pv j out → tc (some (.val d) :: cap) fun b => if b = true then te (some (.val d) :: cap) (fun e => Pv (j + 1) (out ++ [e])) else Pv (j + 1) out) :
    ∀ j d out ρ1, ds[j]? = some d → Pv j out → CapR 1 cap ρ1 → gdName 0 d ρ1 fun ρ2 => CapR 1 cap ρ2 ∧ tc ρ2 fun b => if b = true then te ρ2 (fun e => Pv (j + 1) (out ++ [e])) else Pv (j + 1) out := by
  rintro j d out ρ1 hd hp ⟨r0, hl, rfl⟩
  match r0, hl with
  | [a], _ => exact ⟨⟨[some (.val d)], rfl, rfl⟩, step j d out hd hp⟩
def dComp (wi : DA) (js : List Nat) (tc : DT) (te : DE) : DE := fun ρ Q => wi ρ fun ds => ds.length ≤ sizeLine ∧ ∃ Pv : Nat → List D → Prop, Pv 0 [] ∧
  (∀ j d out, ds[j]? = some d → Pv j out → tc (some (.val d) :: js.map (getV ρ)) fun b => if b = true then te (some (.val d) :: js.map (getV ρ)) (fun e => Pv (j + 1) (out ++ [e])) else Pv (j + 1) out) ∧ ∀ out, Pv ds.length out → Q (.lst true out)
def Caps (N : List Str) (ns : List Str) (js : List Nat) : Prop := js.length = ns.length ∧ ∀ (i : Nat) (j : Nat) (n : Str), js[i]? = some j → ns[i]? = some n → N[j]? = some n
theorem Caps.nil {N : List Str} : Caps N [] [] := ⟨rfl, fun i j n h => by simp at h⟩
theorem Caps.cons {N ns : List Str} {js : List Nat} {n : Str} (j : Nat) (h : Caps N ns js) (e : N[j]? = some n := by rfl) : Caps N (n :: ns) (j :: js) := ⟨by simp [h.1], fun i j' m h1 h2 => by
  cases i with
  | zero => simp at h1 h2; subst h1 h2; exact e
  | succ i => exact h.2 i j' m (by simpa using h1) (by simpa using h2)⟩
variable {elt iter : Expr} {ifs : List Expr} {px pos : Pos} {te : DE} {tc : DT} {wi : DA} {x : Str}
theorem de_comp (hc : X.calm = true) (S : CSc X.env.scope sc [x] ns) (hj : Caps X.N ns js) (hi : PID X (.Name x px) iter wi) (ht : ∀ (C : Addr) (s₂ : Shared) (H₂ : Hp) (fp : List Addr) (XE : Value → Shared → Prop), TsD (cxComp X sc ns [x] C s₂ H₂ fp XE) ifs tc)
    (he : ∀ (C : Addr) (s₂ : Shared) (H₂ : Hp) (fp : List Addr) (XE : Value → Shared → Prop), PED (cxComp X sc ns [x] C s₂ H₂ fp XE) elt te) (hclos : closureFor sc X.env = pure (clOf X.env ns) := by rfl) (hs : ∀ x, foldedSetIterable iter X.env x = pure x := by intro _; rfl) :
    PED X (.ListComp elt [⟨.Name x px, iter, ifs, 0⟩] sc pos) (dComp wi js tc te) := by
  intro pins s σ H W ρ Q I r h
  rw [eval_ListComp]
  refine wpAny_comprehension_free (use := none) rfl hs hclos S.kind S.names (thn (hi pins s σ H W ρ _ I r h) fun v s1 h1 => thn h1 fun itv s2 h2 => ?_)
  obtain ⟨it, fp, tn, J, H2, ds, e, I2, e2, T, st2, f2, yd, hz, Pv, p0, step, fin⟩ := h2
  subst e
  refine comp_block (RR := fun acc C => compPost (model X.prog X.w) X.A X.xe none (DP X pins σ W H Q) acc C) hc S hj (Ed := fun _ => False) (fun C s₂ H₂ fp XE _ => he C s₂ H₂ fp XE) (fun C s₂ H₂ fp XE _ => ht C s₂ H₂ fp XE) (fun _ _ => PassX.no) I2 (r.same e2) (fun C s₂ H₂ fp XE => gd_nameC S) T st2 f2 yd hz Pv p0 (step1 step) ?_
  intro D C s' H' m' out I' sm hns hCn hC1 hC2 hC3 hC4 ⟨hn, hk, vs, hD, hds⟩ pv
  have hden : Den X.K W.bad H' (.lst true out) (.ref D) := Den.lst ((r.same e2).fresh hn) (.new hD hk) (hds.fewer fun _ _ z => .inl z)
  refine ⟨m', hns, fun h' hsb => ?_⟩
  exact ⟨.ref D, H', _, I'.turned (t' := s'.toks) (fun b o hb e => (hsb.2 b hb).trans e) hCn hC1 (.inr hC2) hC3 hC4, rfl, e2.trans sm, hden, fin out pv⟩
theorem ds_setComp {y : Str} {py spos : Pos} (i : Nat) (hN : X.N.Nodup) (hc : X.calm = true) (S : CSc X.env.scope sc [x] ns) (hj : Caps X.N ns js) (hi : PID X (.Name x px) iter wi) (ht : ∀ (C : Addr) (s₂ : Shared) (H₂ : Hp) (fp : List Addr) (XE : Value → Shared → Prop), TsD (cxComp X sc ns [x] C s₂ H₂ fp XE) ifs tc)
    (he : ∀ (C : Addr) (s₂ : Shared) (H₂ : Hp) (fp : List Addr) (XE : Value → Shared → Prop), PED (cxComp X sc ns [x] C s₂ H₂ fp XE) elt te) (hy : X.N[i]? = some y := by rfl) (hly : X.env.scope.names.lookup y = some .local := by rfl) (hclos : closureFor sc X.env = pure (clOf X.env ns) := by rfl) (hs : ∀ x, foldedSetIterable iter X.env x = pure x := by intro _; rfl)
    (hsw : swapsWith (.ListComp elt [⟨.Name x px, iter, ifs, 0⟩] sc pos) (some (.Name y py)) spos.line X.env = pure true := by rfl) :
    PSD X (.Assign [.Name y py] (.ListComp elt [⟨.Name x px, iter, ifs, 0⟩] sc pos) spos) (dSet i (dComp wi js tc te)) := by
  intro pins s σ H W ρ E I r h
  rw [exec_Assign_Name_used _ _ _ _ hsw]
  refine wpAny_bind (wpAny_standAt (wpAny_bind ?_))
  show wpAny _ X.A (do let _ ← comprehension (.ListComp elt [⟨.Name x px, iter, ifs, 0⟩] sc pos) sc X.env _ (newList []) false (eval iter X.env) (some (assign (.Name y py) X.env))) _ _ s
  refine wpAny_bind (wpAny_mono (wpAny_comprehension_free (use := some (assign (.Name y py) X.env)) (Q := fun _ s' => SPD X pins W H E .next s') rfl hs hclos S.kind S.names
    (thn (hi pins s σ H W ρ _ I r h) fun v s1 h1 => thn h1 fun itv s2 h2 => ?_)) (fun _ s' hq => wpAny_pure (wpAny_pure hq)) fun _ _ e => e)
  obtain ⟨it, fp, tn, J, H2, ds, e, I2, e2, T, st2, f2, yd, hz, Pv, p0, step, fin⟩ := h2
  subst e
  refine comp_block (RR := fun acc C => compPost (model X.prog X.w) X.A X.xe (some (assign (.Name y py) X.env)) (fun _ s' => SPD X pins W H E .next s') acc C) hc S hj (Ed := fun _ => False) (fun C s₂ H₂ fp XE _ => he C s₂ H₂ fp XE) (fun C s₂ H₂ fp XE _ => ht C s₂ H₂ fp XE) (fun _ _ => PassX.no) I2 (r.same e2) (fun C s₂ H₂ fp XE => gd_nameC S) T st2 f2 yd hz Pv p0 (step1 step) ?_
  intro D C s' H' m' out I' sm hns hCn hC1 hC2 hC3 hC4 ⟨hn, hk, vs, hD, hds⟩ pv
  have hden : Den X.K W.bad H' (.lst true out) (.ref D) := Den.lst ((r.same e2).fresh hn) (.new hD hk) (hds.fewer fun _ _ z => .inl z)
  have rr := (r.same e2).same sm
  show wpAny _ X.A (assign (.Name y py) X.env (.ref D)) _ _ _
  refine wpAny_assign_Name (store_ok2 (v := .ref D) I' hN hy (.inl hly) rfl (fun s3 I3 ⟨a, hsb, ha⟩ => ?_) (.inr hly))
  have hne : C ≠ a := by
    rcases ha with z | z
    · rw [z]; exact hC1
    · exact fun q => hC3 y a z q.symm
  refine ⟨m', hns.sameBut hsb hne, fun h' hsb' => ?_⟩
  refine ⟨W.drop i, _, H', I3.turned (t' := s3.toks) (fun b o hb e => (hsb'.2 b hb).trans e) hCn hC1 (.inr hC2) hC3 hC4, (Fwd.same (e2.trans sm)).trans (Fwd.drop W H' i), _, rr.put (Inv.ilt I' hy) hden, fin out pv⟩
end
section
theorem nHid {g : Heap} {C b : Addr} {o : Obj} (e : (PySem.W.hideAll g [C]).get? b = some o) : b ≠ C := fun z => by
  rw [PySem.W.hideAll_none [C] (by simp [z])] at e
  cases e
theorem Fl.hide {P : Program} {w : World} {l : List Env} {h₀ : Heap} {H₀ H : Hp} {B h h' : Heap} {C : Addr} (F : Fl P w l h₀ H₀ H B h) (hC : C ∉ frs l) (n1 : H C = none) (hs : Heap.SameBut C h h') : Fl P w l (PySem.W.hideAll h₀ [C]) H₀ H (PySem.W.hideAll B [C]) h' := by
  have un := F.un
  refine ⟨⟨fun b o e n hb hx => (hs.2 b (nHid e)).trans (un.keep b o (PySem.W.of_hideAll [C] e) n hb hx), fun b o e n hb hx => ?_, fun b o e n hx => un.free b o (PySem.W.of_hideAll [C] e) n hx, fun b o e hx => ?_, un.tups, un.frzs, un.tbls⟩, PD.HOk.keptT F.hok (fun b u hu e => ?_), fun b hb => ?_, fun b o e z n => ?_⟩
  · obtain ⟨sl, q⟩ := un.slot b o (PySem.W.of_hideAll [C] e) n hb hx
    exact ⟨sl, (hs.2 b (nHid e)).trans q⟩
  · obtain ⟨o', q⟩ := un.there b o (PySem.W.of_hideAll [C] e) hx
    exact ⟨o', (hs.2 b (nHid e)).trans q⟩
  · refine (hs.2 b fun z => ?_).trans e
    obtain ⟨o, q⟩ := hu
    rw [z, n1] at q
    cases q
  · obtain ⟨n, o, e, d⟩ := F.fr b hb
    exact ⟨n, o, PySem.W.hideAll_get [C] e (fun z => hC (by simp at z; rw [← z]; exact hb)), d⟩
  · have hne : b ≠ C := by
      rcases z with ⟨u, z⟩ | ⟨o', z⟩
      · intro q
        rw [q, n1] at z
        cases z
      · exact nHid z
    refine PySem.W.hideAll_get [C] (F.cov b o ((hs.2 b hne).symm.trans e) ?_ n) (by simpa using hne)
    rcases z with z | ⟨o', z⟩
    · exact .inl z
    · exact .inr ⟨o', PySem.W.of_hideAll [C] z⟩
theorem ff_hide {B h h' : Heap} {C : Addr} (hs : Heap.SameBut C h h') : ∀ {l : List Env}, (∀ env ∈ l, env.frame ≠ some C) → h.FunFrames B l → h'.FunFrames (PySem.W.hideAll B [C]) l
  | [], _, _ => trivial
  | env :: r, hn, ⟨hk, ⟨L, o, hf, hb, ho, hd⟩, hr⟩ => ⟨hk, ⟨L, o, hf, (by
      cases q : (PySem.W.hideAll B [C]).get? L with
      | none => rfl
      | some o' =>
        have := PySem.W.of_hideAll [C] q
        rw [hb] at this
        cases this), (hs.2 L fun z => hn env List.mem_cons_self (by rw [hf, z])).trans ho, hd⟩, ff_hide hs (fun e he => hn e (List.mem_cons_of_mem _ he)) hr⟩
theorem AnyW.hide {B h h' : Heap} {l : List Env} {e C : Addr} {cls a0 : Value} {oC : Obj} (R : AnyW B l e cls a0 h) (hn : ∀ env ∈ l, env.frame ≠ some C) (he : e ≠ C) (hB : B.get? C = some oC) (hs : Heap.SameBut C h h') : AnyW (PySem.W.hideAll B [C]) l e cls a0 h' := by
  have no : ∀ b, B.get? b = none → (PySem.W.hideAll B [C]).get? b = none := fun b q => by
    cases z : (PySem.W.hideAll B [C]).get? b with
    | none => rfl
    | some o' =>
      have := PySem.W.of_hideAll [C] z
      rw [q] at this
      cases this
  obtain ⟨k1, k2, k3, fl, oe, vs, T, oT, ts, g1, g2, g3, g4, g5, g6, g7, g8, g9⟩ := R
  have hT : T ≠ C := fun z => by
    rw [z, hB] at g5
    cases g5
  exact ⟨fun b o q => (hs.2 b (nHid q)).trans (k1 b o (PySem.W.of_hideAll [C] q)), no e k2, ff_hide hs hn k3, fl, oe, vs, T, oT, ts, (hs.2 e he).trans g1, g2, g3, g4, no T g5, g6, (hs.2 T hT).trans g7, g8, g9⟩
variable {X : Cx} {pins : List (Addr × Obj)} {σ : St} {H : Hp} {s : Shared} {sc : Scope} {ns : List Str} {js : List Nat} {xs : List Str} {fp : List Addr}
theorem comp_pass {W : Own} {ρ : Ro} {Ed : Value → Prop} {use : Option (Value → Sem Unit)} {Q : Value → Shared → Prop} (hX : HeldX X Ed) (hst : X.stack = X.env :: X.outer) (hef : X.env.frame = some X.env.locals) (I : Inv X pins σ H s) (r : Rel X W H σ ρ) (hfp : ∀ b ∈ fp, FpOk X pins H b) (D C : Addr) :
    PassX (cxComp X sc ns xs C s H fp (noteX X sc ns (fun acc C => compPost (model X.prog X.w) X.A X.xe use Q acc C) D C)) Ed := by
  intro pins' σ' H' W' ρ' s1 e s' I' r' hcx
  obtain ⟨ea, c, H2, B, a0, rfl, os, bare, F, sm, hn, hn0, fl, hd⟩ := hcx
  have le : s.heap.objs.size ≤ C := I'.ok.above
  have hCf : C ∉ frs X.stack := fun z => by
    rcases List.mem_cons.mp (I.stkSub C z) with q | q
    · exact absurd I.lt (by rw [← q]; exact Nat.not_lt.mpr le)
    · exact I.nofs le q
  have hCl : C ≠ X.env.locals := fun q => absurd I.lt (by rw [← q]; exact Nat.not_lt.mpr le)
  have Io : Inv X pins σ H' s1 := I.call' I'.os I'.base I'.hok I'.bare fun b hb => by
    obtain ⟨f0, f1, f2, f3, f4, f5⟩ := hfp b hb
    exact ⟨f3, f1, f4, f5⟩
  have nC : H' C = none := I'.free
  obtain ⟨m, hm, _⟩ := I'.loc
  obtain ⟨oC, es, ep, ho, hrest⟩ := hm
  have kC : s'.heap.get? C = some oC := F.un.keep C oC ho nC hCf (by intro z; cases z)
  have BC : B.get? C = some oC := F.cov C oC kC (.inr ⟨oC, ho⟩) hCf
  have n2 : H2 C = none := F.un.free C oC ho nC (by intro z; cases z)
  have hea : ea ≠ C := fun z => by
    rw [z] at hn0
    rw [show s1.heap.get? C = some oC from ho] at hn0
    cases hn0
  have hfr : ∀ env ∈ X.stack, env.frame ≠ some C := fun env he q => hCf (List.mem_filterMap.mpr ⟨env, he, q⟩)
  have R0 : AnyW B (X.env :: X.outer) ea (.ref c) a0 s'.heap := by
    have fl' : Heap.FlyingW B X.stack ea (.ref c) a0 s'.heap := fl
    rw [hst] at fl'
    exact ⟨fl'.1, fl'.2.1, fl'.2.2.1, .none, fl'.2.2.2⟩
  show wpAny (model X.prog X.w) X.A (noteFrame (.ref ea) X.env) _ _ s'
  refine noteAny (outer := X.outer) (by rw [I.ok.frames, hst]) hef R0 fun h1 R1 sl1 => ?_
  have R1' : AnyW B X.stack ea (.ref c) a0 h1 := by rw [hst]; exact R1
  have F1 := Fl.step F R1.1 sl1
  refine ⟨m, sl1.ns ⟨oC, es, ep, kC, hrest⟩, fun h' hsb cenv _ => ?_⟩
  have F2 := Fl.hide F1 hCf n2 hsb
  refine passAny (R1'.hide hfr hea BC hsb) fun h3 R3 sl3 => ?_
  have F3 := Fl.step F2 R3.1 sl3
  refine hX pins σ H' W ρ { s1 with heap := PySem.W.hideAll s1.heap [C] } _ ea c H2 (PySem.W.hideAll B [C]) a0 (Io.turned (t' := s1.toks) (it := C) (fun b o hb q => PySem.W.hideAll_get [C] q (by simpa using hb)) nC hCl (.inr (Nat.le_trans I.sz le)) (fun y c e z => ?_) (fun p hp z => ?_)) (r.same r'.ent) os bare F3 sm hn ?_ R3 hd
  · obtain ⟨v, q⟩ := I.cell y c e
    exact absurd q.lt (by rw [z]; exact Nat.not_lt.mpr le)
  · exact absurd (Heap.lt_size (I.pin p hp).1) (by rw [z]; exact Nat.not_lt.mpr le)
  · cases q : (PySem.W.hideAll s1.heap [C]).get? ea with
    | none => rfl
    | some o =>
      have := PySem.W.of_hideAll [C] q
      rw [hn0] at this
      cases this
variable {elt iter : Expr} {ifs : List Expr} {px pos : Pos} {te : DE} {tc : DT} {wi : DA} {x : Str}
end
def cscB (osc sc : Scope) (xs ns : List Str) : Bool :=
  decide (sc.kind = .function) && (sc.names.all fun y => decide (y.2 ≠ .cell)) && (sc.names.all fun y => decide (y.2 = .local → sc.names.lookup y.1 = some .local)) && (xs.all fun x => decide (sc.names.lookup x = some .local)) &&
  (sc.names.all fun y => decide (y.2 = .free → y.1 ∈ ns ∧ osc.names.lookup y.1 = some .cell)) && (ns.all fun n => decide (sc.names.lookup n = some .free ∧ osc.names.lookup n = some .cell)) && decide (xs ++ ns).Nodup
theorem csc_dec {osc sc : Scope} {xs ns : List Str} (h : cscB osc sc xs ns = true) : CSc osc sc xs ns := by
  unfold cscB at h
  simp only [Bool.and_eq_true] at h
  obtain ⟨⟨⟨⟨⟨⟨h1, h2⟩, h3⟩, h4⟩, h5⟩, h6⟩, h7⟩ := h
  exact ⟨of_decide_eq_true h1, fun y hy => of_decide_eq_true (List.all_eq_true.mp h2 y hy), fun y hy => of_decide_eq_true (List.all_eq_true.mp h3 y hy), fun x hx => of_decide_eq_true (List.all_eq_true.mp h4 x hx), fun y hy => of_decide_eq_true (List.all_eq_true.mp h5 y hy), fun n hn => of_decide_eq_true (List.all_eq_true.mp h6 n hn), of_decide_eq_true h7⟩
inductive Nms : List Expr → List Str → Prop where
  | nil : Nms [] []
  | cons {x : Str} {p : Pos} {es : List Expr} {xs : List Str} (h : Nms es xs) : Nms (.Name x p :: es) (x :: xs)
section
variable {X : Cx} {sc : Scope} {ns xs : List Str} {js : List Nat}
theorem Nms.len {env : Env} : ∀ {es : List Expr} {ys : List Str}, Nms es ys → (assignEach es env).length = ys.length ∧ (assignEach es env).findIdx? (·.1) = none
  | _, _, .nil => ⟨rfl, rfl⟩
  | _, _, .cons (x := x) (p := p) (es := es) h => by
    obtain ⟨h1, h2⟩ := Nms.len (env := env) h
    have e : assignEach (.Name x p :: es) env = (false, assign (.Name x p) env) :: assignEach es env := rfl
    rw [e]
    refine ⟨by rw [List.length_cons, h1]; rfl, ?_⟩
    rw [List.findIdx?_cons, h2]
    rfl
variable {elt iter : Expr} {ifs es : List Expr} {kt : Nat} {tp pos : Pos} {te : DE} {tc : DT} {wi : DA}
end
theorem int_bl (k : Bool) (R : Int → Prop) (S : Bool → Prop) : ((∃ i : Int, [D.bl k] = [.int i] ∧ R i) ∨ ∃ j : Bool, [D.bl k] = [.bl j] ∧ S j) = S k := by
  apply propext
  constructor
  · rintro (⟨_, e, _⟩ | ⟨_, e, q⟩)
    · cases e
    · cases e; exact q
  · intro q; exact .inr ⟨k, rfl, q⟩
theorem okD_bl (b : Bool) : okD (.bl b) := by unfold okD; rw [pyD, plD] <;> first | exact ⟨rfl, rfl⟩ | (intros; contradiction)
theorem okD_int' (i : Int) : okD (.int i) = True := eq_true (okD_int i)
theorem okD_bl' (b : Bool) : okD (.bl b) = True := eq_true (okD_bl b)
theorem okD_non' : okD .non = True := eq_true okD_non
theorem okD_t3' (a b c : Int) : okD (.tup [.int a, .int b, .int c]) = True := eq_true (okD_t3 a b c)
theorem eqD_int (i j : Int) : eqD (.int i) (.int j) = decide (i = j) := rfl
theorem eqD_bl (i j : Bool) : eqD (.bl i) (.bl j) = decide (i = j) := by
  unfold eqD
  rw [pyD, pyD]
  cases i <;> cases j <;> rfl
theorem it_lst (t : Bool) (xs : List D) (R : List D → Prop) : (∃ t' ds, D.lst t xs = .lst t' ds ∧ R ds) = R xs := by
  apply propext
  constructor
  · rintro ⟨_, _, e, q⟩; cases e; exact q
  · intro q; exact ⟨t, xs, rfl, q⟩
theorem exown_0 (ds : List D) (r : Ro) (R : List D → Prop) : (∃ ds', (some (Sl.own ds) :: r)[0]? = some (some (Sl.own ds')) ∧ R ds') = R ds := by
  apply propext
  constructor
  · rintro ⟨_, e, q⟩
    have e' : some (some (Sl.own ds)) = some (some (Sl.own _)) := e
    cases e'
    exact q
  · intro q; exact ⟨ds, rfl, q⟩
theorem exown_S (n : Nat) (x : Option Sl) (r : Ro) (R : List D → Prop) : (∃ ds', (x :: r)[n + 1]? = some (some (Sl.own ds')) ∧ R ds') = (∃ ds', r[n]? = some (some (Sl.own ds')) ∧ R ds') := rfl
theorem getV_0 (d : D) (r : Ro) : getV (some (.val d) :: r) 0 = some (.val d) := rfl
theorem getV_n (r : Ro) : getV (none :: r) 0 = none := rfl
theorem getV_S (n : Nat) (x : Option Sl) (r : Ro) : getV (x :: r) (n + 1) = getV r n := rfl
def sg (n : Int) : Int := if 0 < n then 1 else if n < 0 then -1 else 0
def rk (a0 a1 a2 b0 b1 b2 : Int) : Int := if sg (a1 * b0 - b1 * a0) = 0 then sg (a2 * b0 - b2 * a0) else sg (a1 * b0 - b1 * a0)
structure Pl (n : Nat) (a b c : Int) : Prop where
  pos : 0 < a
  low : PM.g3 a b c = 1
  b0 : Bd n a
  b1 : Bd n b
  b2 : Bd n c
theorem Pl.mono {m n : Nat} {a b c : Int} (h : Pl m a b c) (l : m ≤ n) : Pl n a b c := ⟨h.pos, h.low, h.b0.mono l, h.b1.mono l, h.b2.mono l⟩
structure GoodP (d : D) (b x y : Int) : Prop where
  ex : ∃ p q r, d = T3 p q r ∧ Bd 4000 p ∧ Bd 4000 q ∧ Bd 4000 r ∧ 0 < p ∧ p * x = b * q ∧ p * y = b * r ∧ PM.g3 p q r = 1
end PD
namespace PZ
open PySem PySem.Spec PyProof.Rows
def SIt : Bool → Heap → Addr → Addr → Nat → Prop
  | true, h, it, a, i => h.IsListIter it a i
  | false, h, it, a, i => h.IsTupleIter it a i
def SSq : Bool → Heap → Addr → Array Value → Prop
  | true, h, a, xs => h.IsList a xs
  | false, h, a, xs => h.IsTuple a xs
def itName : Bool → String
  | true => "list_iterator"
  | false => "tuple_iterator"
section
variable {k : Bool} {h h' : Heap} {it a b : Addr} {i : Nat} {xs : Array Value}
theorem SIt.of (x : SIt k h it a i) (e : ∀ o, h.get? it = some o → h'.get? it = some o) : SIt k h' it a i := by
  cases k with
  | true => obtain ⟨o, ho, r⟩ := x; exact ⟨o, e o ho, r⟩
  | false => obtain ⟨o, ho, r⟩ := x; exact ⟨o, e o ho, r⟩
theorem SSq.of (x : SSq k h a xs) (e : ∀ o, h.get? a = some o → h'.get? a = some o) : SSq k h' a xs := by
  cases k with
  | true => obtain ⟨o, ho, r⟩ := x; exact ⟨o, e o ho, r⟩
  | false => obtain ⟨o, ho, r⟩ := x; exact ⟨o, e o ho, r⟩
theorem SIt.obj (x : SIt k h it a i) : ∃ o, h.get? it = some o ∧ o.cls = .type (itName k) ∧ o.data = .fields #[.ref a, .int i 0] := by
  cases k with
  | true => exact x
  | false => exact x
theorem SSq.obj (x : SSq k h a xs) : ∃ o n, h.get? a = some o ∧ o.data = .seq xs n := by
  cases k with
  | true => obtain ⟨o, ho, _, n, r⟩ := x; exact ⟨o, n, ho, r⟩
  | false => obtain ⟨o, ho, _, n, r⟩ := x; exact ⟨o, n, ho, r⟩
end
section
variable {prog : Program} {w : World} {A : Around} {E : Value → Shared → Prop} {s : Shared} {k : Bool} {it a : Addr} {i : Nat} {xs : Array Value}
theorem next1 {x : Value} {Q : Value → Shared → Prop} (hi : SIt k s.heap it a i) (hs : SSq k s.heap a xs) (hx : xs[i]? = some x) (hQ : ∀ h', SIt k h' it a (i + 1) → Heap.SameBut it s.heap h' → Q x { s with heap := h' }) :
    wpAny (model prog w) A (Builtin.SmallTypes.nextOf (.ref it)) Q E s := by
  cases k with
  | true => exact wpAny_nextOf_list_item hi hs hx hQ
  | false =>
    obtain ⟨o, ho, hc, hd⟩ := id hi
    obtain ⟨oq, hq, _, nq, hdq⟩ := hs
    unfold Builtin.SmallTypes.nextOf
    refine wpAny_bind (wpAny_callSpecial?_slot (name := Str.ofString "__next__") (Heap.IsTupleIter.typeIs hi) F.slot_tuple_iterator_next (wpAny_call_entry F.slot_tuple_iterator_next (Heap.IsTupleIter.typeIs hi) F.entry_tuple_iterator_next ?_ (F.args_tuple_iterator_next_1 _)))
    show wpAny _ _ (field (.ref it) 0 >>= _) _ _ s; refine wpAny_bind (wpAny_field ho hd (x := .ref a) rfl ?_)
    show wpAny _ _ (if (Value.ref a == Value.none) = true then _ else _) _ _ s; rw [if_neg (show ¬ ((Value.ref a == Value.none) = true) from Bool.false_ne_true)]
    show wpAny _ _ (field (.ref it) 1 >>= _) _ _ s; refine wpAny_bind (wpAny_field ho hd (x := .int i 0) rfl ?_)
    show wpAny _ _ (seqItems? (.ref a) >>= _) _ _ s; refine wpAny_bind (wpAny_seqItems hq hdq ?_); simp only [Int.toNat_natCast, hx]
    refine wpAny_bind (wpAny_setField ho hd (by simp) (wpAny_pure ⟨x, rfl, wpAny_pure (hQ _ ⟨_, Heap.get?_update_self _ ho (Obj.isFreed_of_fields (Obj.data_mapFields hd _)), (Obj.cls_mapFields ..).trans hc, by rw [Obj.data_mapFields hd]; simp [rawInt]⟩ (Heap.SameBut.update ..))⟩))
theorem next0 {Q : Value → Shared → Prop} (hh : A.handled = none) (hi : SIt k s.heap it a i) (hs : SSq k s.heap a xs) (hx : xs[i]? = none)
    (hE : ∀ h' e, Heap.ExtBut it s.heap h' → (∃ o, h'.get? e = some o ∧ o.cls = .type "StopIteration") → E (.ref e) { s with heap := h' }) : wpAny (model prog w) A (Builtin.SmallTypes.nextOf (.ref it)) Q E s := by
  cases k with
  | true => exact wpAny_nextOf_list_end hh hi hs hx hE
  | false =>
    obtain ⟨o, ho, hc, hd⟩ := id hi
    obtain ⟨oq, hq, _, nq, hdq⟩ := hs
    unfold Builtin.SmallTypes.nextOf
    refine wpAny_bind (wpAny_callSpecial?_slot (name := Str.ofString "__next__") (Heap.IsTupleIter.typeIs hi) F.slot_tuple_iterator_next (wpAny_call_entry F.slot_tuple_iterator_next (Heap.IsTupleIter.typeIs hi) F.entry_tuple_iterator_next ?_ (F.args_tuple_iterator_next_1 _)))
    show wpAny _ _ (field (.ref it) 0 >>= _) _ _ s; refine wpAny_bind (wpAny_field ho hd (x := .ref a) rfl ?_)
    show wpAny _ _ (if (Value.ref a == Value.none) = true then _ else _) _ _ s; rw [if_neg (show ¬ ((Value.ref a == Value.none) = true) from Bool.false_ne_true)]
    show wpAny _ _ (field (.ref it) 1 >>= _) _ _ s; refine wpAny_bind (wpAny_field ho hd (x := .int i 0) rfl ?_)
    show wpAny _ _ (seqItems? (.ref a) >>= _) _ _ s; refine wpAny_bind (wpAny_seqItems hq hdq ?_); simp only [Int.toNat_natCast, hx]
    refine wpAny_bind (wpAny_rule (wpAny_bind (wpAny_setField ho hd (by simp) ?_))); show wpAny _ _ (newExc (.type "StopIteration") [] >>= _) _ _ _
    refine wpAny_bind ?_; simp only [newExc, newTuple]; refine wpAny_bind (wpAny_newObj_type ?_ (by size_fits))
    refine wpAny_bind (m := firstArgMember _ _) (wpAny_of_eq (a := Value.none) (by simp only [firstArgMember]; rfl) ?_); refine wpAny_newObj_type ?_ (by size_fits)
    simp only [raiseNew]; refine wpAny_bind (wpAny_handled ?_); first | rw [show A.in1.handled = none from hh] | rw [hh]
    exact wpAny_bind (wpAny_pure (wpAny_throw (hE _ _ (((Heap.SameBut.update ..).extBut.push _).push _) ⟨_, Heap.get?_push_size _ rfl, rfl⟩)))
end
structure Ap (z TI TO i1 i2 : Addr) : Prop where
  a1 : TI ≠ z
  a2 : TO ≠ z
  a3 : i1 ≠ z
  a4 : i2 ≠ z
  a5 : TI ≠ TO
  a6 : TI ≠ i1
  a7 : TI ≠ i2
  a8 : TO ≠ i1
  a9 : TO ≠ i2
  b1 : i1 ≠ i2
structure Out (z TO i1 i2 l : Addr) : Prop where
  c1 : l ≠ z
  c2 : l ≠ TO
  c3 : l ≠ i1
  c4 : l ≠ i2
structure ZSt (k1 k2 : Bool) (z TI TO i1 i2 l1 l2 : Addr) (i : Nat) (h : Heap) : Prop where
  z : IsZip h z TI TO .none
  ti : IsPair h TI (.ref i1) (.ref i2)
  to : ∃ a b, IsPair h TO a b
  s1 : SIt k1 h i1 l1 i
  s2 : SIt k2 h i2 l2 i
section
variable {prog : Program} {w : World} {A : Around} {E : Value → Shared → Prop} {s : Shared} {k1 k2 : Bool} {z TI TO i1 i2 l1 l2 : Addr} {i : Nat} {xs ys : Array Value}
theorem zNext {x y : Value} {Q : Option Value → Shared → Prop} (D : Ap z TI TO i1 i2) (D1 : Out z TO i1 i2 l1) (D2 : Out z TO i1 i2 l2) (Z : ZSt k1 k2 z TI TO i1 i2 l1 l2 i s.heap) (q1 : SSq k1 s.heap l1 xs) (q2 : SSq k2 s.heap l2 ys) (hx : xs[i]? = some x) (hy : ys[i]? = some y)
    (hQ : ∀ h', IsZip h' z TI TO (rawInt s.heap.objs.size) → IsPair h' TI (.ref i1) (.ref i2) → IsPair h' TO x y → SIt k1 h' i1 l1 (i + 1) → SIt k2 h' i2 l2 (i + 1) → IsPair h' s.heap.objs.size x y →
      (∀ c o, c ≠ z → c ≠ TO → c ≠ i1 → c ≠ i2 → s.heap.get? c = some o → h'.get? c = some o) → Q (some (.ref s.heap.objs.size)) { s with heap := h' }) : wpAny (model prog w) A (pyNext (.ref z)) Q E s := by
  obtain ⟨hz, hTI, ⟨a, b, hTO⟩, h1, h2⟩ := Z
  have hT : s.TypeIs (.ref z) "zip" := ⟨_, hz, rfl⟩
  unfold pyNext
  refine wpAny_bind (wpAny_attempt (wpAny_callSpecial?_slot (name := Str.ofString "__next__") hT F.slot_zip_next (wpAny_call_entry F.slot_zip_next hT F.entry_zip_next ?_ (F.args_zip_next_1 _))))
  show wpAny _ _ (field (.ref z) 2 >>= _) _ _ _; refine wpAny_bind (wpAny_field hz rfl (x := .bool false) rfl ?_)
  show wpAny _ _ (field (.ref z) 3 >>= _) _ _ _; refine wpAny_bind (wpAny_field hz rfl (x := .ref TI) rfl (wpAny_bind (wpAny_seqItems hTI rfl ?_)))
  show wpAny _ _ (Builtin.SmallTypes.ownedTupleIsFree (.ref z) >>= _) _ _ _; refine wpAny_bind ?_; unfold Builtin.SmallTypes.ownedTupleIsFree
  refine wpAny_bind (wpAny_field hz rfl (x := .none) rfl (wpAny_pure ?_)); simp only [if_true]; refine wpAny_bind (wpAny_rule (wpAny_bind (wpAny_field hz rfl (x := .ref TO) rfl ?_)))
  refine wpAny_bind (wpAny_setField_rec hz (by simp) fun g1 (z1 : IsZip g1 z TI TO .ellipsis) b1 => wpAny_bind ?_)
  simp only [List.zipIdx_cons, List.zipIdx_nil, List.forIn_cons, List.forIn_nil]
  have k1' : ∀ c o, c ≠ z → s.heap.get? c = some o → g1.get? c = some o := fun c o n e => b1.extBut c o n e
  refine wpAny_bind (wpAny_bind (wpAny_onRaise ?_)); show wpAny _ _ (Builtin.SmallTypes.nextOf (.ref i1) >>= _) _ _ _
  refine wpAny_bind (next1 (s := { s with heap := g1 }) (h1.of fun o e => k1' _ o D.a3 e) (q1.of fun o e => k1' _ o D1.c1 e) hx fun g2 n2 b2 => wpAny_pure ?_)
  have t2 : IsPair g2 TO a b := b2.extBut _ _ D.a8 (k1' _ _ D.a2 hTO)
  refine wpAny_bind (wpAny_seqItems t2 rfl (wpAny_bind (wpAny_updateSeq_pair t2 fun g3 (t3 : IsPair g3 TO x b) b3 => wpAny_bind (wpAny_letGo (wpAny_pure ?_)))))
  have k3 : ∀ c o, c ≠ z → c ≠ TO → c ≠ i1 → s.heap.get? c = some o → g3.get? c = some o := fun c o n1 n2 n3 e => b3.extBut c o n2 (b2.extBut c o n3 (k1' c o n1 e))
  refine wpAny_bind (wpAny_bind (wpAny_onRaise ?_)); show wpAny _ _ (Builtin.SmallTypes.nextOf (.ref i2) >>= _) _ _ _
  refine wpAny_bind (next1 (s := { s with heap := g3 }) (h2.of fun o e => k3 _ o D.a4 (Ne.symm D.a9) (Ne.symm D.b1) e) (q2.of fun o e => k3 _ o D2.c1 D2.c2 D2.c3 e) hy fun g4 n4 b4 => wpAny_pure ?_)
  have t4 : IsPair g4 TO x b := b4.extBut _ _ D.a9 t3
  refine wpAny_bind (wpAny_seqItems t4 rfl (wpAny_bind (wpAny_updateSeq_pair t4 fun g5 (t5 : IsPair g5 TO x y) b5 => wpAny_bind (wpAny_letGo (wpAny_pure (wpAny_pure ?_))))))
  refine wpAny_bind (wpAny_seqItems t5 rfl (wpAny_bind (wpAny_newTuple ?_)))
  have sz : g5.objs.size = s.heap.objs.size := by rw [b5.1, b4.1, b3.1, b2.1, b1.1]
  have k5 : ∀ c o, c ≠ z → c ≠ TO → c ≠ i1 → c ≠ i2 → s.heap.get? c = some o → g5.get? c = some o := fun c o n1 n2 n3 n4 e => b5.extBut c o n2 (b4.extBut c o n4 (k3 c o n1 n2 n3 e))
  have z5 : IsZip g5 z TI TO .ellipsis := b5.extBut _ _ (Ne.symm D.a2) (b4.extBut _ _ (Ne.symm D.a4) (b3.extBut _ _ (Ne.symm D.a2) (b2.extBut _ _ (Ne.symm D.a3) z1)))
  have s15 : SIt k1 g5 i1 l1 (i + 1) := n2.of fun o e => b5.extBut _ o (Ne.symm D.a8) (b4.extBut _ o D.b1 (b3.extBut _ o (Ne.symm D.a8) e))
  have s25 : SIt k2 g5 i2 l2 (i + 1) := n4.of fun o e => b5.extBut _ o (Ne.symm D.a9) e
  have zl : z < g5.objs.size := Heap.lt_size z5
  show wpAny _ _ (Builtin.SmallTypes.ownedTupleHandOut (.ref z) (.ref g5.objs.size) >>= _) _ _ _; refine wpAny_bind ?_; unfold Builtin.SmallTypes.ownedTupleHandOut
  have z6 : IsZip (g5.push { cls := .type "tuple", data := .seq #[x, y] }) z TI TO .ellipsis := Heap.get?_push_of_some _ z5
  refine wpAny_bind (wpAny_setField_rec z6 (by simp) fun g7 (z7 : IsZip g7 z TI TO (rawInt g5.objs.size)) b7 => wpAny_setField_rec z7 (by simp) fun g8 (z8 : IsZip g8 z TI TO (rawInt g5.objs.size)) b8 => wpAny_pure ?_)
  have up : ∀ c o, c ≠ z → g5.get? c = some o → g8.get? c = some o := fun c o n e => b8.extBut c o n (b7.extBut c o n (Heap.get?_push_of_some _ e))
  have p8 : IsPair g8 g5.objs.size x y := b8.extBut _ _ (Nat.ne_of_gt zl) (b7.extBut _ _ (Nat.ne_of_gt zl) (Heap.get?_push_size _ rfl))
  refine ⟨_, rfl, ?_⟩
  rw [sz] at z8 p8
  refine wpAny_pure ?_
  show Q (some (.ref g5.objs.size)) _
  rw [sz]
  exact hQ g8 z8 (up _ _ D.a1 (k5 _ _ D.a1 D.a5 D.a6 D.a7 hTI)) (up _ _ D.a2 t5) (s15.of fun o e => up _ o D.a3 e) (s25.of fun o e => up _ o D.a4 e) p8 fun c o n1 n2 n3 n4 e => up c o n1 (k5 c o n1 n2 n3 n4 e)
theorem zStop {Q : Option Value → Shared → Prop} (hh : A.handled = none) (D : Ap z TI TO i1 i2) (D1 : Out z TO i1 i2 l1) (D2 : Out z TO i1 i2 l2) (Z : ZSt k1 k2 z TI TO i1 i2 l1 l2 i s.heap) (q1 : SSq k1 s.heap l1 xs) (q2 : SSq k2 s.heap l2 ys) (hend : xs[i]? = none ∨ ys[i]? = none)
    (hQ : ∀ h', (∀ c o, c ≠ z → c ≠ TO → c ≠ i1 → c ≠ i2 → s.heap.get? c = some o → h'.get? c = some o) → Q none { s with heap := h' }) : wpAny (model prog w) A (pyNext (.ref z)) Q E s := by
  obtain ⟨hz, hTI, ⟨a, b, hTO⟩, h1, h2⟩ := Z
  have hT : s.TypeIs (.ref z) "zip" := ⟨_, hz, rfl⟩
  unfold pyNext
  refine wpAny_bind (wpAny_attempt (wpAny_callSpecial?_slot (name := Str.ofString "__next__") hT F.slot_zip_next (wpAny_call_entry F.slot_zip_next hT F.entry_zip_next ?_ (F.args_zip_next_1 _))))
  show wpAny _ _ (field (.ref z) 2 >>= _) _ _ _; refine wpAny_bind (wpAny_field hz rfl (x := .bool false) rfl ?_)
  show wpAny _ _ (field (.ref z) 3 >>= _) _ _ _; refine wpAny_bind (wpAny_field hz rfl (x := .ref TI) rfl (wpAny_bind (wpAny_seqItems hTI rfl ?_)))
  show wpAny _ _ (Builtin.SmallTypes.ownedTupleIsFree (.ref z) >>= _) _ _ _; refine wpAny_bind ?_; unfold Builtin.SmallTypes.ownedTupleIsFree
  refine wpAny_bind (wpAny_field hz rfl (x := .none) rfl (wpAny_pure ?_)); simp only [if_true]; refine wpAny_bind (wpAny_rule (wpAny_bind (wpAny_field hz rfl (x := .ref TO) rfl ?_)))
  refine wpAny_bind (wpAny_setField_rec hz (by simp) fun g1 (z1 : IsZip g1 z TI TO .ellipsis) b1 => wpAny_bind ?_)
  simp only [List.zipIdx_cons, List.zipIdx_nil, List.forIn_cons, List.forIn_nil]
  have k1' : ∀ c o, c ≠ z → s.heap.get? c = some o → g1.get? c = some o := fun c o n e => b1.extBut c o n e
  refine wpAny_bind (wpAny_bind (wpAny_onRaise ?_)); show wpAny _ _ (Builtin.SmallTypes.nextOf (.ref i1) >>= _) _ _ _
  cases hx : xs[i]? with
  | none =>
    refine wpAny_bind (next0 (s := { s with heap := g1 }) hh (h1.of fun o e => k1' _ o D.a3 e) (q1.of fun o e => k1' _ o D1.c1 e) hx fun g2 e b2 he => ?_)
    obtain ⟨oe, ho, hc⟩ := he
    have z2 : IsZip g2 z TI TO .ellipsis := b2 _ _ (Ne.symm D.a3) z1
    have nz : e ≠ z := fun q => by subst q; rw [z2] at ho; cases ho; simp at hc
    refine wpAny_setField_rec z2 (by simp) fun g3 _ b3 => wpAny_bind (wpAny_isInstance (T := "StopIteration") (b := true) ⟨oe, b3.extBut _ _ nz ho, hc⟩ isSubtype_stop ?_)
    exact wpAny_pure (hQ g3 fun c o n1 _ n3 _ q => b3.extBut c o n1 (b2 c o n3 (k1' c o n1 q)))
  | some x =>
    have hy : ys[i]? = none := by
      rcases hend with q | q
      · rw [hx] at q; cases q
      · exact q
    refine wpAny_bind (next1 (s := { s with heap := g1 }) (h1.of fun o e => k1' _ o D.a3 e) (q1.of fun o e => k1' _ o D1.c1 e) hx fun g2 n2 b2 => wpAny_pure ?_)
    have t2 : IsPair g2 TO a b := b2.extBut _ _ D.a8 (k1' _ _ D.a2 hTO)
    refine wpAny_bind (wpAny_seqItems t2 rfl (wpAny_bind (wpAny_updateSeq_pair t2 fun g3 t3 b3 => wpAny_bind (wpAny_letGo (wpAny_pure ?_)))))
    have k3 : ∀ c o, c ≠ z → c ≠ TO → c ≠ i1 → s.heap.get? c = some o → g3.get? c = some o := fun c o n1 n2 n3 e => b3.extBut c o n2 (b2.extBut c o n3 (k1' c o n1 e))
    refine wpAny_bind (wpAny_bind (wpAny_onRaise ?_)); show wpAny _ _ (Builtin.SmallTypes.nextOf (.ref i2) >>= _) _ _ _
    refine wpAny_bind (next0 (s := { s with heap := g3 }) hh (h2.of fun o e => k3 _ o D.a4 (Ne.symm D.a9) (Ne.symm D.b1) e) (q2.of fun o e => k3 _ o D2.c1 D2.c2 D2.c3 e) hy fun g4 e b4 he => ?_)
    obtain ⟨oe, ho, hc⟩ := he
    have z4 : IsZip g4 z TI TO .ellipsis := b4 _ _ (Ne.symm D.a4) (b3.extBut _ _ (Ne.symm D.a2) (b2.extBut _ _ (Ne.symm D.a3) z1))
    have nz : e ≠ z := fun q => by subst q; rw [z4] at ho; cases ho; simp at hc
    refine wpAny_setField_rec z4 (by simp) fun g5 _ b5 => wpAny_bind (wpAny_isInstance (T := "StopIteration") (b := true) ⟨oe, b5.extBut _ _ nz ho, hc⟩ isSubtype_stop ?_)
    exact wpAny_pure (hQ g5 fun c o n1 n2 n3 n4 q => b5.extBut c o n1 (b4 c o n4 (k3 c o n1 n2 n3 q)))
theorem iterK {k : Bool} {a : Addr} {Q : Value → Shared → Prop} (q : SSq k s.heap a xs) (hQ : Q (.ref s.heap.objs.size) { s with heap := s.heap.push { cls := .type (itName k), data := .fields #[.ref a, .int 0 0] } }) : wpAny (model prog w) A (pyIter (.ref a)) Q E s := by
  cases k with
  | true => exact wpAny_pyIter_list q hQ
  | false => exact wpAny_pyIter_tuple q hQ
end
abbrev zp1 (k1 : Bool) (h : Heap) (l1 : Addr) : Heap := h.push { cls := .type (itName k1), data := .fields #[.ref l1, .int 0 0] }
abbrev zp2 (k1 k2 : Bool) (h : Heap) (l1 l2 : Addr) : Heap := (zp1 k1 h l1).push { cls := .type (itName k2), data := .fields #[.ref l2, .int 0 0] }
abbrev zp3 (k1 k2 : Bool) (h : Heap) (l1 l2 : Addr) : Heap := (zp2 k1 k2 h l1 l2).push { cls := .type "tuple", data := .seq #[.ref h.objs.size, .ref (zp1 k1 h l1).objs.size] }
abbrev zp4 (k1 k2 : Bool) (h : Heap) (l1 l2 : Addr) : Heap := (zp3 k1 k2 h l1 l2).push { cls := .type "tuple", data := .seq #[.none, .none] }
abbrev zp5 (k1 k2 : Bool) (h : Heap) (l1 l2 : Addr) : Heap := (zp4 k1 k2 h l1 l2).push { cls := .type "zip", data := .fields #[.none, .bool false, .bool false, .ref (zp2 k1 k2 h l1 l2).objs.size, .ref (zp3 k1 k2 h l1 l2).objs.size] }
theorem zNew (k1 k2 : Bool) (l1 l2 : Addr) (xs ys : Array Value) : Meets (Builtin.«zip.__new__» ⟨[.type "zip", .ref l1, .ref l2], []⟩) (fun _ R s => SSq k1 s.heap l1 xs ∧ SSq k2 s.heap l2 ys ∧ R (.ok (.ret (.ref (zp4 k1 k2 s.heap l1 l2).objs.size))) { s with heap := zp5 k1 k2 s.heap l1 l2 }) :=
  .of_wp fun prog w A R s h => by
    obtain ⟨hp, g, d, tk, os⟩ := s; obtain ⟨q1, q2, h⟩ := h; have hsub := sub_zip
    have p1 : SSq k1 (Shared.heap ⟨hp, g, d, tk, os⟩) l1 xs := q1
    have p2 : SSq k2 (Shared.heap ⟨hp.push { cls := .type (itName k1), data := .fields #[.ref l1, .int 0 0] }, g, d, tk, os⟩) l2 ys := q2.of fun o e => Heap.get?_push_of_some _ e
    wp_walk using iterK p1, iterK p2
    exact ⟨_, rfl, h⟩
section
variable {prog : Program} {w : World} {A : Around} {E : Value → Shared → Prop} {s : Shared} {k1 k2 : Bool} {l1 l2 : Addr} {xs ys : Array Value}
theorem zMade {Q : Value → Shared → Prop} (q1 : SSq k1 s.heap l1 xs) (q2 : SSq k2 s.heap l2 ys)
    (hQ : ∀ h', ZSt k1 k2 (s.heap.objs.size + 4) (s.heap.objs.size + 2) (s.heap.objs.size + 3) s.heap.objs.size (s.heap.objs.size + 1) l1 l2 0 h' → (∀ c o, s.heap.get? c = some o → h'.get? c = some o) → Q (.ref (s.heap.objs.size + 4)) { s with heap := h' }) :
    wpAny (model prog w) A (call (.type "zip") [.ref l1, .ref l2]) Q E s := by
  refine callType_new F.called_zip (by decide) (F.typeCall_zip_2 _ _) (F.newCall_zip_2 _ _) (fun obj => F.args_object_init_3 obj _ _) F.entry_zip_new (zNew k1 k2 l1 l2 xs ys) ⟨q1, q2, ?_⟩
  have n1 : (zp1 k1 s.heap l1).objs.size = s.heap.objs.size + 1 := Heap.size_push ..
  have n2 : (zp2 k1 k2 s.heap l1 l2).objs.size = s.heap.objs.size + 2 := by rw [Heap.size_push, n1]
  have n3 : (zp3 k1 k2 s.heap l1 l2).objs.size = s.heap.objs.size + 3 := by rw [Heap.size_push, n2]
  have n4 : (zp4 k1 k2 s.heap l1 l2).objs.size = s.heap.objs.size + 4 := by rw [Heap.size_push, n3]
  have up5 : ∀ c o, (zp4 k1 k2 s.heap l1 l2).get? c = some o → (zp5 k1 k2 s.heap l1 l2).get? c = some o := fun c o e => Heap.get?_push_of_some _ e
  have up4 : ∀ c o, (zp3 k1 k2 s.heap l1 l2).get? c = some o → (zp5 k1 k2 s.heap l1 l2).get? c = some o := fun c o e => up5 c o (Heap.get?_push_of_some _ e)
  have up3 : ∀ c o, (zp2 k1 k2 s.heap l1 l2).get? c = some o → (zp5 k1 k2 s.heap l1 l2).get? c = some o := fun c o e => up4 c o (Heap.get?_push_of_some _ e)
  have up2 : ∀ c o, (zp1 k1 s.heap l1).get? c = some o → (zp5 k1 k2 s.heap l1 l2).get? c = some o := fun c o e => up3 c o (Heap.get?_push_of_some _ e)
  have g5 : (zp5 k1 k2 s.heap l1 l2).get? (zp4 k1 k2 s.heap l1 l2).objs.size = some _ := Heap.get?_push_size _ rfl
  have g4 := up5 _ _ (Heap.get?_push_size (zp3 k1 k2 s.heap l1 l2) (o := { cls := .type "tuple", data := .seq #[.none, .none] }) rfl)
  have g3 := up4 _ _ (Heap.get?_push_size (zp2 k1 k2 s.heap l1 l2) (o := { cls := .type "tuple", data := .seq #[.ref s.heap.objs.size, .ref (zp1 k1 s.heap l1).objs.size] }) rfl)
  have g2 := up3 _ _ (Heap.get?_push_size (zp1 k1 s.heap l1) (o := { cls := .type (itName k2), data := .fields #[.ref l2, .int 0 0] }) rfl)
  have g1 := up2 _ _ (Heap.get?_push_size s.heap (o := { cls := .type (itName k1), data := .fields #[.ref l1, .int 0 0] }) rfl)
  have hQ' := hQ (zp5 k1 k2 s.heap l1 l2)
  rw [n2, n3, n4] at g5; rw [n3] at g4; rw [n1, n2] at g3; rw [n1] at g2
  have sit : ∀ {k : Bool} {h : Heap} {it a : Addr}, h.get? it = some { cls := .type (itName k), data := .fields #[.ref a, .int 0 0] } → SIt k h it a 0 := fun {k h it a} e => by
    cases k with
    | true => exact ⟨_, e, rfl, rfl⟩
    | false => exact ⟨_, e, rfl, rfl⟩
  show _ ∧ _
  rw [n4]
  exact ⟨⟨_, g5, rfl⟩, hQ' ⟨g5, g3, ⟨_, _, g4⟩, sit g1, sit g2⟩ fun c o e => up2 c o (Heap.get?_push_of_some _ e)⟩
end
end PZ
namespace PD
open PySem PySem.Spec PyProof.Rows L2 PZ
def SqK (K : PySem.W.Frag) : Bool → Hp → Addr → List V → Prop
  | true => SqL K
  | false => L2.SqT K
section
variable {X : Cx} {pins : List (Addr × Obj)} {σ : St} {H : Hp} {s : Shared} {k : Bool} {a : Addr} {xs : List V}
theorem SqK.list (I : Inv X pins σ H s) (h : SqK X.K k H a xs) : ∃ its : List Value, Vals xs its ∧ SSq k s.heap a its.toArray := by
  cases k with
  | true =>
    obtain ⟨its, r, p, _⟩ := I.list h
    exact ⟨its, r, p.isList⟩
  | false =>
    obtain ⟨its, r, p, _⟩ := I.tuple h
    exact ⟨its, r, p⟩
theorem SqK.inj (I : Inv X pins σ H s) {ys : List V} (h : SqK X.K k H a xs) (h' : SqK X.K k H a ys) : xs = ys := by
  cases k with
  | true => exact I.list_inj h h'
  | false => exact I.tuple_inj h h'
theorem SqK.ne (I : Inv X pins σ H s) {b : Addr} (f : FpOk X pins H b) (h : SqK X.K k H a xs) : a ≠ b := fun e => by
  subst e
  obtain ⟨f0, f1, f2, f3, f4, f5⟩ := f
  have kn : ∀ o, X.K.lookup a = some o → False := fun o q => by
    have hb := I.ok.mod.kin a o q
    rcases f3 with z | z
    · exact I.ok.noex a o hb z
    · exact absurd (Nat.lt_of_lt_of_le (Heap.lt_size (I.ok.bs a o hb).1) z) (Nat.lt_irrefl _)
  cases k with
  | true =>
    rcases h with (h | ⟨o, h⟩) | ⟨o, its, n, h, _⟩
    · rw [f0] at h; cases h
    · rw [f0] at h; cases h
    · exact kn o h
  | false =>
    rcases h with (h | ⟨o, h⟩) | ⟨o, its, n, h, _⟩
    · rw [f0] at h; cases h
    · rw [f0] at h; cases h
    · exact kn o h
end
def Itz (K : PySem.W.Frag) (k1 k2 : Bool) (a b : Addr) : It :=
  ⟨fun i H => ∃ xs ys x y, SqK K k1 H a xs ∧ SqK K k2 H b ys ∧ xs[i]? = some x ∧ ys[i]? = some y,
   fun i H v H' => ∃ T x y, v = .ref T ∧ H T = none ∧ H' = L2.upd H T (.tup [x, y]) ∧ (∀ xs, SqK K k1 H a xs → xs[i]? = some x) ∧ ∀ ys, SqK K k2 H b ys → ys[i]? = some y,
   fun i H => ∃ xs ys, SqK K k1 H a xs ∧ SqK K k2 H b ys ∧ (xs[i]? = none ∨ ys[i]? = none)⟩
theorem turn_zip {P : Program} {w : World} {K : PySem.W.Frag} {es : List Expr} {kt : Nat} {tp : Pos} (k1 k2 : Bool) (a b z TI TO i1 i2 : Addr) (D : Ap z TI TO i1 i2) :
    Turn P w K (.Tuple es kt tp) (Itz K k1 k2 a b) [z, TI, TO, i1, i2] z (fun i h => ZSt k1 k2 z TI TO i1 i2 a b i h) where
  mem := by simp
  obj := fun i h st c hc => by
    obtain ⟨hz, hTI, ⟨x, y, hTO⟩, s1, s2⟩ := st
    simp only [List.mem_cons, List.not_mem_nil, or_false] at hc
    rcases hc with e | e | e | e | e <;> subst e
    · exact ⟨_, hz, fun v q => by cases q⟩
    · exact ⟨_, hTI, fun v q => by cases q⟩
    · exact ⟨_, hTO, fun v q => by cases q⟩
    · obtain ⟨o, q1, _, q2⟩ := s1.obj
      exact ⟨o, q1, fun v q => by rw [q2] at q; cases q⟩
    · obtain ⟨o, q1, _, q2⟩ := s2.obj
      exact ⟨o, q1, fun v q => by rw [q2] at q; cases q⟩
  keep := fun i h h' st kp => by
    obtain ⟨hz, hTI, ⟨x, y, hTO⟩, s1, s2⟩ := st
    exact ⟨kp z (by simp) _ hz, kp TI (by simp) _ hTI, ⟨x, y, kp TO (by simp) _ hTO⟩, s1.of fun o e => kp i1 (by simp) o e, s2.of fun o e => kp i2 (by simp) o e⟩
  item := by
    intro X hP hw hK hc i pins s σ H E I hf st hg
    subst hP hw hK
    obtain ⟨xs, ys, x, y, q1, q2, hx, hy⟩ := hg
    obtain ⟨us, r1, p1⟩ := q1.list I
    obtain ⟨ws, r2, p2⟩ := q2.list I
    obtain ⟨u, hu, ru⟩ := r1.get hx
    obtain ⟨v, hv, rv⟩ := r2.get hy
    have out : ∀ {k : Bool} {l : Addr} {zs : List V}, SqK X.K k H l zs → Out z TO i1 i2 l := fun q => ⟨q.ne I (hf z (by simp)), q.ne I (hf TO (by simp)), q.ne I (hf i1 (by simp)), q.ne I (hf i2 (by simp))⟩
    refine zNext D (out q1) (out q2) st p1 p2 (x := u) (y := v) (by simpa using hu) (by simpa using hv) fun h' z1 ti to s1 s2 pr kp => ⟨_, rfl, wpAny_letOwnedTupleGo_zip z1 fun h'' z2 sb => ?_⟩
    have sz : s.heap.objs.size ≤ s.heap.objs.size := Nat.le_refl _
    have nz : s.heap.objs.size ≠ z := Nat.ne_of_gt (Heap.lt_size st.z)
    have nT : H s.heap.objs.size = none := I.hok.fresh sz
    have kp2 : ∀ c o, c ∉ [z, TI, TO, i1, i2] → s.heap.get? c = some o → h''.get? c = some o := fun c o n e => by
      simp only [List.mem_cons, List.not_mem_nil, or_false, not_or] at n
      exact sb.extBut c o n.1 (kp c o n.1 n.2.2.1 n.2.2.2.1 n.2.2.2.2 e)
    have st2 : ZSt k1 k2 z TI TO i1 i2 a b (i + 1) h'' := ⟨z2, sb.extBut _ _ D.a1 ti, ⟨_, _, sb.extBut _ _ D.a2 to⟩, s1.of fun o e => sb.extBut _ o D.a3 e, s2.of fun o e => sb.extBut _ o D.a4 e⟩
    have pr2 : IsPair h'' s.heap.objs.size u v := sb.extBut _ _ nz pr
    have lo : ∀ c ∈ [z, TI, TO, i1, i2], c ≠ s.heap.objs.size := fun c hc e => by
      have hlt : c < s.heap.objs.size := by
        obtain ⟨hz, hTI, ⟨x', y', hTO⟩, t1, t2⟩ := st
        simp only [List.mem_cons, List.not_mem_nil, or_false] at hc
        rcases hc with q | q | q | q | q <;> subst q
        · exact Heap.lt_size hz
        · exact Heap.lt_size hTI
        · exact Heap.lt_size hTO
        · obtain ⟨o, q1, _⟩ := t1.obj; exact Heap.lt_size q1
        · obtain ⟨o, q1, _⟩ := t2.obj; exact Heap.lt_size q1
      rw [e] at hlt
      exact Nat.lt_irrefl _ hlt
    refine ⟨.ref s.heap.objs.size, L2.upd H s.heap.objs.size (.tup [x, y]), ?_, rfl, ⟨_, x, y, rfl, nT, rfl, fun xs' q => by rw [q.inj I q1]; exact hx, fun ys' q => by rw [q.inj I q2]; exact hy⟩, st2, fun c hc => by rw [upd_ne (lo c hc)]; exact (hf c hc).1⟩
    have nch : ∀ c o, H c = some o → c ∉ [z, TI, TO, i1, i2] := fun c o e hc => by
      have := (hf c hc).1
      rw [e] at this
      cases this
    refine L2.Inv.step (s := s) (h' := h'') (g' := s.gens) (d' := s.drawn) (t' := s.toks) (ch := [z, TI, TO, i1, i2]) I (fun c hc => ?_) (fun c o _ _ n e _ => kp2 c o n e) (fun c o _ _ n e _ => ⟨o.slots, kp2 c o n e⟩) (fun c o _ e n => by rw [upd_ne (Nat.ne_of_lt (Heap.lt_size e))]; exact n) (fun c o n e => ⟨o, kp2 c o n e⟩)
      (fun c ls e => by rw [upd_ne (ne_of_none e nT)]; exact e) (fun c o ls e => by rw [upd_ne (ne_of_none e nT)]; exact e) (fun c ps e => ⟨#[], by rw [upd_ne (ne_of_none e nT), e]; simp⟩) (fun m hm => ?_) (fun c o e => ?_) I.bare
    · obtain ⟨f0, f1, f2, f3, f4, f5⟩ := hf c hc
      exact ⟨f3, f1, f4, f5⟩
    · obtain ⟨o, es', ep, ho, r⟩ := hm
      exact ⟨o, es', ep, kp2 _ o (fun q => (hf _ q).2.1 rfl) ho, r⟩
    · by_cases hcT : c = s.heap.objs.size
      · subst hcT
        rw [upd_same] at e
        cases e
        exact ⟨by rw [sizeLine_eq]; show 2 ≤ 16777216; decide, [u, v], .cons ru (.cons rv .nil), ⟨_, pr2, rfl, _, rfl⟩⟩
      · rw [upd_ne hcT] at e
        refine (I.hok c o e).stay (fun d' o' hd q => kp2 d' o' ?_ q) (fun d' q => by rw [upd_ne (ne_of_none q nT)]; exact q) fun d' ls q => by rw [upd_ne (ne_of_none q nT)]; exact q
        rcases hd with q' | q'
        · rw [q']; exact nch c o e
        · exact nch d' _ q'
  done := by
    intro X hP hw hK hc i pins s σ H E I hf st hg
    subst hP hw hK
    obtain ⟨xs, ys, q1, q2, hend⟩ := hg
    obtain ⟨us, r1, p1⟩ := q1.list I
    obtain ⟨ws, r2, p2⟩ := q2.list I
    have out : ∀ {k : Bool} {l : Addr} {zs : List V}, SqK X.K k H l zs → Out z TO i1 i2 l := fun q => ⟨q.ne I (hf z (by simp)), q.ne I (hf TO (by simp)), q.ne I (hf i1 (by simp)), q.ne I (hf i2 (by simp))⟩
    refine zStop (I.ok.hd hc) D (out q1) (out q2) st p1 p2 (hend.imp (fun q => by simpa using r1.none_of q) fun q => by simpa using r2.none_of q) fun h' kp => ⟨rfl, ?_⟩
    have kp2 : ∀ c o, c ∉ [z, TI, TO, i1, i2] → s.heap.get? c = some o → h'.get? c = some o := fun c o n e => by
      simp only [List.mem_cons, List.not_mem_nil, or_false, not_or] at n
      exact kp c o n.1 n.2.2.1 n.2.2.2.1 n.2.2.2.2 e
    have nch : ∀ c o, H c = some o → c ∉ [z, TI, TO, i1, i2] := fun c o e hc => by
      have := (hf c hc).1
      rw [e] at this
      cases this
    refine L2.Inv.step (s := s) (h' := h') (g' := s.gens) (d' := s.drawn) (t' := s.toks) (ch := [z, TI, TO, i1, i2]) I (fun c hc => ?_) (fun c o _ _ n e _ => kp2 c o n e) (fun c o _ _ n e _ => ⟨o.slots, kp2 c o n e⟩) (fun _ _ _ _ n => n) (fun c o n e => ⟨o, kp2 c o n e⟩) (fun _ _ e => e) (fun _ _ _ e => e) (fun c ps e => ⟨#[], by rw [e]; simp⟩) (fun m hm => ?_) (fun c o e => ?_) I.bare
    · obtain ⟨f0, f1, f2, f3, f4, f5⟩ := hf c hc
      exact ⟨f3, f1, f4, f5⟩
    · obtain ⟨o, es', ep, ho, r⟩ := hm
      exact ⟨o, es', ep, kp2 _ o (fun q => (hf _ q).2.1 rfl) ho, r⟩
    · refine (I.hok c o e).stay (fun d' o' hd q => kp2 d' o' ?_ q) (fun _ q => q) fun _ _ q => q
      rcases hd with q' | q'
      · rw [q']; exact nch c o e
      · exact nch d' _ q'
  self := fun _ _ _ _ _ st h => wpAny_pyIter_zip st.z h
def seqD : D → Option (Bool × List D)
  | .lst _ ds => some (true, ds)
  | .tup ds => some (false, ds)
  | _ => none
section
variable {X : Cx}
theorem Den.seq {P : Bool → Addr → Prop} {H : Hp} {d : D} {v : V} {k : Bool} {ds : List D} (h : Den X.K P H d v) (e : seqD d = some (k, ds)) : ∃ a vs, v = .ref a ∧ SqK X.K k H a vs ∧ Dens X.K P H ds vs ∧
    ∀ (P' : Bool → Addr → Prop) (H' : Hp), (∀ a vs, SqT X.K H a vs → SqT X.K H' a vs) → (∀ t a vs, ¬ P t a → SqG X.K H t a vs → ¬ P' t a ∧ SqG X.K H' t a vs) → SqK X.K k H' a vs := by
  cases d with
  | lst t es =>
    cases e
    obtain ⟨a, vs, e1, p, q, hd⟩ := h.lstG_
    exact ⟨a, vs, e1, q.1, hd, fun P' H' _ hL => (hL t a vs p q).2.1⟩
  | tup es =>
    cases e
    obtain ⟨a, vs, e1, q, hd⟩ := h.tup_
    exact ⟨a, vs, e1, q.w, hd, fun P' H' hT _ => (hT a vs q).w⟩
  | non => cases e
  | bl _ => cases e
  | int _ => cases e
  | str _ => cases e
  | exc _ => cases e
  | obj _ _ _ => cases e
  | dic => cases e
  | dik _ _ => cases e
def dZip (ta : DA) : DA := fun ρ R => ta ρ fun ds => ∃ d1 d2 k1 k2 xs ys, ds = [d1, d2] ∧ seqD d1 = some (k1, xs) ∧ seqD d2 = some (k2, ys) ∧ R (List.zipWith (fun x y => D.tup [x, y]) xs ys)
theorem id_zip {es : List Expr} {kt : Nat} {tp : Pos} {a b : Expr} {ta : DA} {p pos : Pos} (hg : Gl X "zip") (hm : X.mg "zip" = none) (ha : PAD X [a, b] ta) (hs : starEach [a, b] X.env = (false, eval a X.env) :: starEach [b] X.env := by rfl) (hs2 : (backTo pos (starEach [b] X.env)).any (·.1) = false := by rfl) :
    PID X (.Tuple es kt tp) (.Call (.Name "zip" p) [a, b] [] pos) (dZip ta) := by
  intro pins s σ H W ρ R I r h
  refine Call_ (ld_blt I hg hm boot_zip (PyProof.Rows.callWith_type1 (thn (ha pos pins s σ H W ρ _ I r h) fun us s1 ⟨vs, H1, ds, I1, r1, e1, hd, q1⟩ => ?_) hs hs2))
  obtain ⟨d1, d2, k1, k2, xs, ys, e, g1, g2, q⟩ := q1
  subst e
  obtain ⟨v1, v2, rfl, hd1, hd2⟩ := dens2 hd
  obtain ⟨l1, ws1, e2, sq1, dn1, up1⟩ := hd1.seq g1
  obtain ⟨l2, ws2, e3, sq2, dn2, up2⟩ := hd2.seq g2
  subst e2 e3
  cases r1 with
  | cons ra rr =>
    cases rr with
    | cons rb rr =>
      cases rr
      cases ra
      cases rb
      obtain ⟨us1, _, p1⟩ := sq1.list I1
      obtain ⟨us2, _, p2⟩ := sq2.list I1
      have nn : ∀ j : Nat, s1.heap.objs.size ≤ s1.heap.objs.size + j := fun j => Nat.le_add_right _ j
      refine zMade p1 p2 fun h' Z kp => ?_
      refine wpAny_pyIter_zip Z.z ?_
      have Dz : Ap (s1.heap.objs.size + 4) (s1.heap.objs.size + 2) (s1.heap.objs.size + 3) s1.heap.objs.size (s1.heap.objs.size + 1) := by constructor <;> simp
      refine ⟨s1.heap.objs.size + 4, [s1.heap.objs.size + 4, s1.heap.objs.size + 2, s1.heap.objs.size + 3, s1.heap.objs.size, s1.heap.objs.size + 1], _, _, H1, _, rfl, I1.kept (t' := s1.toks) kp, e1, turn_zip k1 k2 l1 l2 _ _ _ _ _ Dz, Z, fun c hc => ?_, ?_, q⟩
      · have hc' : s1.heap.objs.size ≤ c := by
          simp only [List.mem_cons, List.not_mem_nil, or_false] at hc
          rcases hc with q | q | q | q | q <;> subst q <;> first | exact nn _ | exact Nat.le_refl _
        exact I1.fpOk hc' (I1.hok.fresh hc')
      · intro P' H' hT hL hX i
        have k1' := up1 P' H' hT hL
        have k2' := up2 P' H' hT hL
        have n1 := dn1.len
        have n2 := dn2.len
        have hlen : (List.zipWith (fun x y => D.tup [x, y]) xs ys).length = min xs.length ys.length := List.length_zipWith
        refine ⟨fun hi => ?_, fun v H3 y hi => ?_, fun hi => ⟨ws1, ws2, k1', k2', ?_⟩⟩
        · obtain ⟨x, hx, _⟩ := dn1.get (i := i) (d := xs[i]'(by omega)) (by simp)
          obtain ⟨y, hy, _⟩ := dn2.get (i := i) (d := ys[i]'(by omega)) (by simp)
          exact ⟨ws1, ws2, x, y, k1', k2', hx, hy⟩
        · obtain ⟨T, x, y', e, nT, eH, hx, hy⟩ := y
          subst e eH
          obtain ⟨dx, g1', hx'⟩ := dn1.getV (hx ws1 k1')
          obtain ⟨dy, g2', hy'⟩ := dn2.getV (hy ws2 k2')
          have sm : Same H' (L2.upd H' T (.tup [x, y'])) := Same.upd nT
          refine ⟨sm, .tup [dx, dy], by simp [List.getElem?_zipWith, g1', g2'], Den.tup (SqT.of upd_same) (Dens.cons ((Den.map hT hL hX dx x hx').same sm) (Dens.one ((Den.map hT hL hX dy y' hy').same sm)))⟩
        · by_cases hz : xs.length ≤ i
          · exact .inl (List.getElem?_eq_none (by omega))
          · exact .inr (List.getElem?_eq_none (by omega))
end
open PySem PySem.Spec PyProof.Rows L2
inductive FDP (X : Cx) (pins : List (Addr × Obj)) (σ : St) (W : Own) (H : Hp) (Q : List D → Prop) (u : Value) (s' : Shared) : Prop
  | mk (a : Addr) (vs : List V) (H' : Hp) (ds : List D) (_ : u = .ref a) (_ : Inv X pins σ H' s') (_ : Same H H') (_ : H a = none) (_ : X.K.lookup a = none) (_ : H' a = some (.lst vs)) (_ : Dens X.K (fun t b => W.bad t b ∨ b = a) H' ds vs) (_ : Q ds)
def PEF (X : Cx) (e : Expr) (t : DA) : Prop :=
  ∀ (pins : List (Addr × Obj)) (s : Shared) (σ : St) (H : Hp) (W : Own) (ρ : Ro) (Q : List D → Prop), Inv X pins σ H s → Rel X W H σ ρ → t ρ Q →
    wpAny (model X.prog X.w) X.A (eval e X.env) (FDP X pins σ W H Q) X.xe s
def dNew (t : DA) : DE := fun ρ Q => t ρ fun ds => Q (.lst true ds)
section
variable {X : Cx} {e : Expr} {t : DA} {pos : Pos}
theorem PEF.ped (h : PEF X e t) : PED X e (dNew t) := by
  intro pins s σ H W ρ Q I r hw
  refine thn (h pins s σ H W ρ _ I r hw) fun u s1 ⟨a, vs, H', ds, e, I1, sm, n, k, ha, hd, q⟩ => ?_
  subst e
  exact ⟨.ref a, H', _, I1, rfl, sm, Den.lst (r.fresh n) (.new ha k) (hd.fewer fun _ _ z => .inl z), q⟩
theorem PEF.of {te : TE} (h : PE X e te) (k : ∀ σ H W ρ Q, Rel X W H σ ρ → t ρ Q → te σ H fun v H' => ∃ a vs ds H1, v = .ref a ∧ Same H H1 ∧ H1 a = none ∧ H' = L2.upd H1 a (.lst vs) ∧ Dens X.K W.bad H1 ds vs ∧ Q ds) (hK : ∀ pins σ H s a vs, Inv X pins σ H s → H a = some (.lst vs) → X.K.lookup a = none) : PEF X e t := by
  intro pins s σ H W ρ Q I r hw
  refine thn (h pins s σ H _ I (k σ H W ρ Q r hw)) fun u s1 ⟨v, H', I1, rv, a, vs, ds, H1, e, sm, n, eH, hd, q⟩ => ?_
  subst e eH
  cases rv
  exact ⟨a, vs, _, ds, rfl, I1, sm.trans (Same.upd n), sm.free n, hK _ _ _ _ a vs I1 upd_same, upd_same, Dens.apart n (hK _ _ _ _ a vs I1 upd_same) hd, q⟩
theorem Inv.kno {pins : List (Addr × Obj)} {σ : St} {H : Hp} {s : Shared} {a : Addr} {o : HO} (I : Inv X pins σ H s) (h : H a = some o) : X.K.lookup a = none := by
  cases e : X.K.lookup a with
  | none => rfl
  | some ob =>
    have := (I.bs a ob (I.ok.mod.kin a ob e)).2
    rw [h] at this
    cases this
def dOwnF (i : Nat) (t : DA) : DS := fun E ρ => t ρ fun ds => E.nx (ρ.set i (some (.own ds)))
end
mutual
def nolD : D → Bool
  | .tup ds => nolDs ds
  | .obj _ _ ds => nolDs ds
  | .dik _ ds => nolDs ds
  | .lst _ _ => false
  | _ => true
def nolDs : List D → Bool
  | [] => true
  | d :: ds => nolD d && nolDs ds
end
mutual
def allT : D → Bool
  | .tup ds => allTs ds
  | .obj _ _ ds => allTs ds
  | .dik _ ds => allTs ds
  | .lst t ds => t && allTs ds
  | _ => true
def allTs : List D → Bool
  | [] => true
  | d :: ds => allT d && allTs ds
end
section
variable {K : PySem.W.Frag} {P P' : Bool → Addr → Prop} {H : Hp}
mutual
theorem Den.nol : ∀ (d : D) (v : V), nolD d = true → Den K P H d v → Den K P' H d v
  | .non, _, _, h => by simpa only [Den] using h
  | .bl _, _, _, h => by simpa only [Den] using h
  | .int _, _, _, h => by simpa only [Den] using h
  | .str _, _, _, h => by simpa only [Den] using h
  | .exc _, _, _, h => by simpa only [Den] using h
  | .obj C ns ds, _, n, h => by
    rw [nolD] at n
    simp only [Den] at h ⊢
    obtain ⟨a, dx, vs, e, q, l, k, r⟩ := h
    exact ⟨a, dx, vs, e, q, l, k, Dens.nol ds vs n r⟩
  | .dic, _, _, h => by simpa only [Den] using h
  | .dik ks ds, _, n, h => by
    rw [nolD] at n
    simp only [Den] at h ⊢
    obtain ⟨a, o, kws, vs, e, q, l, k, r⟩ := h
    exact ⟨a, o, kws, vs, e, q, l, k, Dens.nol ds vs n r⟩
  | .lst _ _, _, n, _ => by rw [nolD] at n; cases n
  | .tup ds, _, n, h => by
    rw [nolD] at n
    simp only [Den] at h ⊢
    obtain ⟨a, vs, e, q, r⟩ := h
    exact ⟨a, vs, e, q, Dens.nol ds vs n r⟩
theorem Dens.nol : ∀ (ds : List D) (vs : List V), nolDs ds = true → Dens K P H ds vs → Dens K P' H ds vs
  | [], _, _, h => by simpa only [Dens] using h
  | d :: ds, _, n, h => by
    rw [nolDs, Bool.and_eq_true] at n
    simp only [Dens] at h ⊢
    obtain ⟨v, r, e, h1, h2⟩ := h
    exact ⟨v, r, e, Den.nol d v n.1 h1, Dens.nol ds r n.2 h2⟩
end
mutual
theorem Den.hard (k : ∀ a, P' true a → P true a) : ∀ (d : D) (v : V), allT d = true → Den K P H d v → Den K P' H d v
  | .non, _, _, h => by simpa only [Den] using h
  | .bl _, _, _, h => by simpa only [Den] using h
  | .int _, _, _, h => by simpa only [Den] using h
  | .str _, _, _, h => by simpa only [Den] using h
  | .exc _, _, _, h => by simpa only [Den] using h
  | .obj C ns ds, _, n, h => by
    rw [allT] at n
    simp only [Den] at h ⊢
    obtain ⟨a, dx, vs, e, q, l, kk, r⟩ := h
    exact ⟨a, dx, vs, e, q, l, kk, Dens.hard k ds vs n r⟩
  | .dic, _, _, h => by simpa only [Den] using h
  | .dik ks ds, _, n, h => by
    rw [allT] at n
    simp only [Den] at h ⊢
    obtain ⟨a, o, kws, vs, e, q, l, kk, r⟩ := h
    exact ⟨a, o, kws, vs, e, q, l, kk, Dens.hard k ds vs n r⟩
  | .lst t ds, _, n, h => by
    rw [allT, Bool.and_eq_true] at n
    obtain ⟨n1, n2⟩ := n
    subst n1
    simp only [Den] at h ⊢
    obtain ⟨a, vs, e, p, q, r⟩ := h
    exact ⟨a, vs, e, fun z => p (k a z), q, Dens.hard k ds vs n2 r⟩
  | .tup ds, _, n, h => by
    rw [allT] at n
    simp only [Den] at h ⊢
    obtain ⟨a, vs, e, q, r⟩ := h
    exact ⟨a, vs, e, q, Dens.hard k ds vs n r⟩
theorem Dens.hard (k : ∀ a, P' true a → P true a) : ∀ (ds : List D) (vs : List V), allTs ds = true → Dens K P H ds vs → Dens K P' H ds vs
  | [], _, _, h => by simpa only [Dens] using h
  | d :: ds, _, n, h => by
    rw [allTs, Bool.and_eq_true] at n
    simp only [Dens] at h ⊢
    obtain ⟨v, r, e, h1, h2⟩ := h
    exact ⟨v, r, e, Den.hard k d v n.1 h1, Dens.hard k ds r n.2 h2⟩
end
end
def Own.soft (W : Own) (i : Nat) (a : Addr) : Own := ⟨W.B, fun j => if j = i then none else W.O j, fun b => W.S b ∨ b = a⟩
section
variable {X : Cx}
theorem Rel.soft {W : Own} {H : Hp} {σ : St} {ρ : Ro} {i : Nat} {ds : List D} (r : Rel X W H σ ρ) (e : ρ[i]? = some (some (.own ds))) : ∃ a, W.O i = some a ∧ Rel X (W.soft i a) H σ (ρ.set i (some (.val (.lst false ds)))) ∧ ∀ b, W.bad true b → (W.soft i a).bad true b := by
  obtain ⟨a, vs, oa, sa, ha, hds⟩ := r.ownL i ds e
  have hl' : i < ρ.length := (List.getElem?_eq_some_iff.mp e).1
  have hO : ∀ j b, (W.soft i a).O j = some b → j ≠ i ∧ W.O j = some b := fun j b h => by
    have h1 : (if j = i then none else W.O j) = some b := h
    by_cases z : j = i
    · rw [if_pos z] at h1; cases h1
    · rw [if_neg z] at h1; exact ⟨z, h1⟩
  have low : ∀ t b, (W.soft i a).bad t b → W.bad t b := fun t b z => by
    rcases z with z | ⟨j, z⟩ | ⟨z1, z2⟩
    · exact .inl z
    · exact .inr (.inl ⟨j, (hO j b z).2⟩)
    · rcases z2 with z2 | z2
      · exact .inr (.inr ⟨z1, z2⟩)
      · subst z2; exact .inr (.inl ⟨i, oa⟩)
  have nb : ¬ (W.soft i a).bad false a := fun z => by
    rcases z with z | ⟨j, z⟩ | ⟨z1, _⟩
    · exact (r.kn i a oa).2.1.1 z
    · exact (hO j a z).1 (r.inj j i a (hO j a z).2 oa)
    · cases z1
  refine ⟨a, oa, ⟨fun j d h => ?_, fun j x h => ?_, fun j k b h1 h2 => r.inj j k b (hO j b h1).2 (hO k b h2).2, fun j b h => ?_, fun j b h => r.ke j b (hO j b h).2, r.bt, fun b h => ?_, r.ent, r.tab⟩, fun b z => ?_⟩
  · by_cases hj : j = i
    · subst hj
      rw [List.getElem?_set_self hl'] at h
      cases h
      exact ⟨.ref a, sa, Den.lst nb (.any (SqL.of ha)) (hds.fewer low)⟩
    · rw [List.getElem?_set_ne (Ne.symm hj)] at h
      obtain ⟨w, h1, h2⟩ := r.val j d h
      exact ⟨w, h1, h2.fewer low⟩
  · by_cases hj : j = i
    · subst hj
      rw [List.getElem?_set_self hl'] at h; cases h
    · rw [List.getElem?_set_ne (Ne.symm hj)] at h
      obtain ⟨b, ws, h1, h2, h3, h4⟩ := r.own j x h
      exact ⟨b, ws, by show (if j = i then none else W.O j) = _; rw [if_neg hj]; exact h1, h2, h3, h4.fewer low fun k c q => (by
        show (if vix σ.length j k = i then none else W.O (vix σ.length j k)) = _
        rw [if_neg (vix_ne (List.getElem?_eq_some_iff.mp sa).1)]
        exact q)⟩
  · obtain ⟨k1, ⟨k2, k3⟩, k4⟩ := r.kn j b (hO j b h).2
    refine ⟨k1, ⟨k2, fun z => z.elim k3 fun z => ?_⟩, k4⟩
    subst z
    exact (hO j b h).1 (r.inj j i b (hO j b h).2 oa)
  · rcases h with h | h
    · exact r.st b h
    · subst h; exact ⟨_, ha⟩
  · rcases z with z | ⟨j, z⟩ | ⟨_, z⟩
    · exact .inl z
    · by_cases hj : j = i
      · subst hj
        rw [oa] at z
        cases z
        exact .inr (.inr ⟨rfl, .inr rfl⟩)
      · exact .inr (.inl ⟨j, by show (if j = i then none else W.O j) = _; rw [if_neg hj]; exact z⟩)
    · exact .inr (.inr ⟨rfl, .inl z⟩)
variable {e : Expr} {te : DE} {tt : DT} {ta : DA}
def dSoft (i : Nat) (t : DE) : DE := fun ρ Q => ownQ ρ[i]? fun ds => t (ρ.set i (some (.val (.lst false ds)))) fun d => allT d = true ∧ Q d
def dSoftT (i : Nat) (t : DT) : DT := fun ρ Q => ownQ ρ[i]? fun ds => t (ρ.set i (some (.val (.lst false ds)))) Q
def dSoftF (i : Nat) (t : DA) : DA := fun ρ Q => ownQ ρ[i]? fun ds => t (ρ.set i (some (.val (.lst false ds)))) fun ys => allTs ys = true ∧ Q ys
theorem de_soft (i : Nat) (h : PED X e te) : PED X e (dSoft i te) := by
  intro pins s σ H W ρ Q I r hw
  obtain ⟨ds, eo, hw⟩ := ownQ_ex hw
  obtain ⟨a, oa, r', up⟩ := r.soft eo
  exact thn (h pins s σ H _ _ _ I r' hw) fun u s1 ⟨v, H', d, I1, rv, e1, hd, al, q⟩ => ⟨v, H', d, I1, rv, e1, Den.hard up d v al hd, q⟩
theorem dt_soft (i : Nat) (h : PTD X e tt) : PTD X e (dSoftT i tt) := by
  intro pins s σ H W ρ Q I r hw
  obtain ⟨ds, eo, hw⟩ := ownQ_ex hw
  obtain ⟨a, oa, r', up⟩ := r.soft eo
  exact h pins s σ H _ _ _ I r' hw
end
section
variable {X : Cx} {pos : Pos}
theorem Dens.set {K : PySem.W.Frag} {P : Bool → Addr → Prop} {H : Hp} {d : D} {v : V} (hd : Den K P H d v) : ∀ {ds : List D} {vs : List V} (j : Nat), Dens K P H ds vs → Dens K P H (ds.set j d) (vs.set j v)
  | [], _, _, h => by simp only [Dens] at h; subst h; exact Dens.nil
  | x :: r, _, 0, h => by
    simp only [Dens] at h
    obtain ⟨u, w, rfl, h1, h2⟩ := h
    exact Dens.cons hd h2
  | x :: r, _, j + 1, h => by
    simp only [Dens] at h
    obtain ⟨u, w, rfl, h1, h2⟩ := h
    exact Dens.cons h1 (Dens.set hd j h2)
theorem Dens.take {K : PySem.W.Frag} {P : Bool → Addr → Prop} {H : Hp} : ∀ {ds : List D} {vs : List V} (n : Nat), Dens K P H ds vs → Dens K P H (ds.take n) (vs.take n)
  | _, _, 0, _ => by simp only [List.take_zero]; exact Dens.nil
  | [], _, _ + 1, h => by simp only [Dens] at h; subst h; exact Dens.nil
  | x :: r, _, n + 1, h => by
    simp only [Dens] at h
    obtain ⟨u, w, rfl, h1, h2⟩ := h
    exact Dens.cons h1 (Dens.take n h2)
theorem Dens.drop {K : PySem.W.Frag} {P : Bool → Addr → Prop} {H : Hp} : ∀ {ds : List D} {vs : List V} (n : Nat), Dens K P H ds vs → Dens K P H (ds.drop n) (vs.drop n)
  | _, _, 0, h => by simpa only [List.drop_zero] using h
  | [], _, _ + 1, h => by simp only [Dens] at h; subst h; exact Dens.nil
  | x :: r, _, n + 1, h => by
    simp only [Dens] at h
    obtain ⟨u, w, rfl, h1, h2⟩ := h
    exact Dens.drop n h2
def dPutAt (i : Nat) (tk te : DE) : DS := fun E ρ => ∃ ds, ρ[i]? = some (some (.own ds)) ∧ te ρ fun d => tk ρ fun k => ∃ n j, k = .int n ∧ ixN ds.length n = some j ∧ E.nx (ρ.set i (some (.own (ds.set j d))))
theorem ds_putAt {x : Str} {k e : Expr} {tk te : DE} {px tp : Pos} (i : Nat) (hk : PED X k tk) (he : PED X e te) (hi : X.N[i]? = some x := by rfl) (hv : Vis X.env.scope x := by first | exact Or.inl rfl | exact Or.inr (Or.inl rfl) | exact Or.inr (Or.inr rfl))
    (hd : (x == ("__debug__" : Str)) = false := by decide) (hcd : (x == ("__classdict__" : Str)) = false := by decide)
    (ha : ∀ v, assign (.Subscript (.Name x px) k tp) X.env v = (do
      let ov ← holding [v] (eval (.Name x px) X.env)
      let iv ← holding [v, ov] (eval k X.env)
      standAt tp
      holding [v, ov, iv] (setItem ov iv v)
      release [v, ov, iv] []) := by intro _; rfl)
    (hs : swapsWithSole [.Subscript (.Name x px) k tp] e pos.line X.env = pure false := by rfl) (hw : swappedStores [.Subscript (.Name x px) k tp] e X.env = pure none := by rfl)
    (h1 : (assignEach [.Subscript (.Name x px) k tp] X.env).map (·.2) = [assign (.Subscript (.Name x px) k tp) X.env] := by rfl) : PSD X (.Assign [.Subscript (.Name x px) k tp] e pos) (dPutAt i tk te) := by
  intro pins s σ H W ρ E I r h
  obtain ⟨ds, eo, h⟩ := h
  refine wpAny_Assign_stores (thn (he pins s σ H W ρ _ I r h) fun u s1 ⟨v, H1, d, I1, r1, e1, hd1, q1⟩ => ?_) hs hw
  rw [h1]
  show wpAny _ _ (assign (.Subscript (.Name x px) k tp) X.env u) _ _ _
  rw [ha]
  have rr := r.same e1
  obtain ⟨a, _, oa, sa, _, _⟩ := rr.ownL i ds eo
  refine wpAny_bind (wpAny_holding (thn (pe_var hi hv hd hcd pins s1 σ H1 (fun o H' => H' = H1 ∧ o = .ref a) I1 ⟨.ref a, sa, rfl, rfl⟩) fun ov s2 ⟨o, H2, I2, ro, eH, so⟩ => ?_))
  subst eH so
  refine wpAny_bind (wpAny_holding (thn (hk pins s2 σ H2 W ρ _ I2 rr q1) fun iv s3 ⟨kv, H3, kd, I3, r3, e3, hd3, q3⟩ => ?_))
  obtain ⟨n, j, ek, hj, q⟩ := q3
  subst ek
  have hz := hd3.int_
  subst hz
  have r4 := rr.same e3
  obtain ⟨a', vs, oa', sa', ha', hds⟩ := r4.ownL i ds eo
  rw [oa] at oa'
  cases oa'
  refine wpAny_bind (wpAny_standAt (wpAny_bind (wpAny_holding (thn (set_list pins s3 σ H3 (.ref a) (.int n) v ov iv u (fun H' => H' = L2.upd H3 a (.lst (vs.set j v))) I3 ro r3 r1 ⟨a, vs, n, j, rfl, rfl, ha', by rw [hds.len]; exact hj, rfl⟩) fun _ s4 ⟨H4, I4, e4⟩ => ?_))))
  subst e4
  obtain ⟨r5, f5⟩ := r4.mut eo oa sa ha' (Dens.set (hd1.same e3) j hds)
  exact wpAny_release ⟨W, σ, _, I4, (Fwd.same (e1.trans e3)).trans f5, _, r5, q⟩
def dOwnM (i : Nat) (C : List D → Prop) (f : List D → List D) : DS := fun E ρ => ownQ ρ[i]? fun ds => C ds ∧ E.nx (ρ.set i (some (.own (f ds))))
variable {e : Expr} {te : DE} {p : Pos}
def dSeqs (te : DE) : DA := fun ρ Q => te ρ fun d => ∃ k ds, seqD d = some (k, ds) ∧ Q ds
theorem dens_of_list {K : PySem.W.Frag} {P : Bool → Addr → Prop} {H : Hp} {d : D} {v : V} {k : Bool} {ds : List D} (h : Den K P H d v) (e : seqD d = some (k, ds)) : ∃ a vs, v = .ref a ∧ (SqL K H a vs ∨ SqT K H a vs) ∧ Dens K P H ds vs := by
  cases d with
  | lst t es =>
    cases e
    obtain ⟨a, vs, e1, p, q, hd⟩ := h.lst_
    exact ⟨a, vs, e1, .inl q, hd⟩
  | tup es =>
    cases e
    obtain ⟨a, vs, e1, q, hd⟩ := h.tup_
    exact ⟨a, vs, e1, .inr q, hd⟩
  | non => cases e
  | bl _ => cases e
  | int _ => cases e
  | str _ => cases e
  | exc _ => cases e
  | obj _ _ _ => cases e
  | dic => cases e
  | dik _ _ => cases e
theorem df_list (hg : Gl X "list") (hm : X.mg "list" = none) (he : PED X e te) (hst : starEach [e] X.env = (false, eval e X.env) :: starEach [] X.env := by rfl) (hpl : (backTo pos (starEach [] X.env)).any (·.1) = false := by rfl) : PEF X (.Call (.Name "list" p) [e] [] pos) (dSeqs te) := by
  refine PEF.of (pe_callTy call_list_of hg hm boot_list (pa_cons he.pe pa_nil hst) (by decide) (by decide) hst hpl) (fun σ H W ρ Q r h => ?_) fun _ _ _ _ _ _ I h => Inv.kno I h
  refine ⟨W, ρ, _, r, h, fun v H' d e1 hd q => ?_⟩
  obtain ⟨k, ds, es, q⟩ := q
  obtain ⟨a, vs, ev, hq, hds⟩ := dens_of_list hd es
  subst ev
  exact ⟨a, vs, rfl, hq.imp id SqT.w, fun l hl => ⟨l, vs, ds, H', rfl, e1, hl, rfl, hds, q⟩⟩
def cutD (xs : List D) (lo hi : Option Int) : List D := (xs.drop (HT.sIx xs.length 0 lo)).take (HT.sIx xs.length xs.length hi - HT.sIx xs.length 0 lo)
theorem Dens.cut {K : PySem.W.Frag} {P : Bool → Addr → Prop} {H : Hp} {ds : List D} {vs : List V} (lo hi : Option Int) (h : Dens K P H ds vs) : Dens K P H (cutD ds lo hi) (cutV vs lo hi) := by
  unfold cutD cutV
  rw [h.len]
  exact (h.drop _).take _
abbrev DO := Ro → (Option Int → Prop) → Prop
def PDO (X : Cx) (e : Option Expr) (t : DO) : Prop :=
  ∀ (pins : List (Addr × Obj)) (s : Shared) (σ : St) (H : Hp) (W : Own) (ρ : Ro) (Q : Option Int → Prop), Inv X pins σ H s → Rel X W H σ ρ → t ρ Q →
    wpAny (model X.prog X.w) X.A (evalPart e X.env) (fun u s' => ∃ o H', Inv X pins σ H' s' ∧ IsPart u o ∧ Same H H' ∧ Q o) X.xe s
def dNoPart : DO := fun _ Q => Q none
def dPart (te : DE) : DO := fun ρ Q => te ρ fun d => ∃ i, d = .int i ∧ Q (some i)
theorem do_none : PDO X none dNoPart := by
  intro pins s σ H W ρ Q I r h
  rw [evalPart_none]
  exact wpAny_pure ⟨none, H, I, .none, Same.refl H, h⟩
theorem do_some (he : PED X e te) : PDO X (some e) (dPart te) := by
  intro pins s σ H W ρ Q I r h
  rw [evalPart_some]
  refine thn (he pins s σ H W ρ _ I r h) fun u s1 ⟨v, H1, d, I1, rv, e1, hd, i, ed, q⟩ => ?_
  subst ed
  have z := hd.int_
  subst z
  obtain ⟨t, rfl⟩ := rv
  exact ⟨some i, H1, I1, .int i t, e1, q⟩
variable {lo hi st : Option Expr} {tl th ts : DO} {p2 : Pos}
theorem slice_wp {Q : Value → Shared → Prop} {pins : List (Addr × Obj)} {s : Shared} {σ : St} {H : Hp} {W : Own} {ρ : Ro} {R : D → Option Int → Option Int → Option Int → Prop} (he : PED X e te) (hl : PDO X lo tl) (hh : PDO X hi th) (ht : PDO X st ts) (I : Inv X pins σ H s) (r : Rel X W H σ ρ)
    (h : te ρ fun d => tl ρ fun l => th ρ fun u => ts ρ fun k => R d l u k)
    (hk : ∀ (v : V) (vv vl vu vk : Value) (l u k : Option Int) (d : D) (sl : Addr) (H' : Hp) (s' : Shared), Inv X pins σ H' s' → Same H H' → RelV v vv → Den X.K W.bad H' d v → s'.heap.IsSliceOf sl vl vu vk → IsPart vl l → IsPart vu u → IsPart vk k → R d l u k →
      ∃ T id, typeLookup (.type T) "__getitem__" = pure (some (.builtin id)) ∧ s'.TypeIs vv T ∧ wpAny (model X.prog X.w) X.A (getItem vv (.ref sl)) Q X.xe s')
    (htail : ∀ vv sl, ∃ ops, subscripted (.Slice lo hi st p2) false vv sl = operate ops (getItem vv sl)) : wpAny (model X.prog X.w) X.A (eval (.Subscript e (.Slice lo hi st p2) pos) X.env) Q X.xe s := by
  refine Subscript_ (thn (he pins s σ H W ρ _ I r h) fun vv s1 ⟨v, H1, d, I1, rv, e1, hd, q1⟩ => ?_)
  have r1 := r.same e1
  refine wpAny_Slice (thn (hl pins s1 σ H1 W ρ _ I1 r1 q1) fun vl s2 ⟨l, H2, I2, pl, e2, q2⟩ => thn (hh pins s2 σ H2 W ρ _ I2 (r1.same e2) q2) fun vu s3 ⟨u, H3, I3, pu, e3, q3⟩ => thn (ht pins s3 σ H3 W ρ _ I3 ((r1.same e2).same e3) q3) fun vk s4 ⟨k, H4, I4, pk, e4, q4⟩ => ?_)
  have I5 : Inv X pins σ H4 { s4 with heap := s4.heap.push { cls := .type "slice", data := .fields #[vl, vu, vk] } } := I4.kept (t' := s4.toks) fun b ob q => Heap.get?_push_of_some _ q
  obtain ⟨T, id, hT, ht', hg⟩ := hk v vv vl vu vk l u k d s4.heap.objs.size H4 _ I5 (e1.trans (e2.trans (e3.trans e4))) rv (hd.same (e2.trans (e3.trans e4))) (Heap.IsSliceOf.new ..) pl pu pk q4
  show wpAny (model X.prog X.w) X.A (subscriptTail e (.Slice lo hi st p2) vv (.ref s4.heap.objs.size)) Q X.xe _
  obtain ⟨ops, ho⟩ := htail vv (.ref s4.heap.objs.size)
  exact tail_any (ops := ops) ht' hT hg ho
def dSlL (te : DE) (tl th : DO) : DA := fun ρ Q => te ρ fun d => tl ρ fun l => th ρ fun u => ∃ t ds, d = .lst t ds ∧ Q (cutD ds l u)
def dSlT (te : DE) (tl th : DO) : DE := fun ρ Q => te ρ fun d => tl ρ fun l => th ρ fun u => ∃ ds, d = .tup ds ∧ ¬ (HT.sIx ds.length 0 l = 0 ∧ HT.sIx ds.length ds.length u = ds.length) ∧ Q (.tup (cutD ds l u))
theorem list_sliced {pins : List (Addr × Obj)} {s : Shared} {σ : St} {H H' : Hp} {W : Own} {v : V} {vv vl vu vk : Value} {l u k : Option Int} {tg : Bool} {ds : List D} {sl : Addr} (f : List V → List V) (g : List D → List D) (I : Inv X pins σ H' s) (r : Rel X W H' σ ρ) (sm : Same H H') (rv : RelV v vv) (hd : Den X.K W.bad H' (.lst tg ds) v) (hs : s.heap.IsSliceOf sl vl vu vk) (pl : IsPart vl l) (pu : IsPart vu u) (pk : IsPart vk k) (k0 : k ≠ some 0)
    (hp : ∀ its : List Value, ∃ g' : List Value → List Value, slicePick its.toArray l u k = (g' its).toArray ∧ ∀ vs, Vals vs its → Vals (f vs) (g' its) ∧ (f vs).length ≤ vs.length) (hg : ∀ vs, Dens X.K W.bad H' ds vs → Dens X.K W.bad H' (g ds) (f vs)) {Q : List D → Prop} (q : Q (g ds)) :
    ∃ T id, typeLookup (.type T) "__getitem__" = pure (some (.builtin id)) ∧ s.TypeIs vv T ∧ wpAny (model X.prog X.w) X.A (getItem vv (.ref sl)) (FDP X pins σ W H Q) X.xe s := by
  obtain ⟨a, vs, ev, _, hq, hds⟩ := hd.lst_
  subst ev
  cases rv
  obtain ⟨its, rr, ht, hz⟩ := I.list hq
  have hlen := rr.length
  refine ⟨"list", _, slot_list_getitem.lookup, ht.isList.typeIs, ?_⟩
  refine wpAny_getItem_list_slice ht.isList hs pl pu pk k0 ?_ (by rw [List.size_toArray] <;> omega)
  obtain ⟨g', e, hv⟩ := hp its
  rw [e]
  obtain ⟨rv', hl'⟩ := hv vs rr
  have hf : H' s.heap.objs.size = none := I.hok.fresh (Nat.le_refl _)
  refine ⟨s.heap.objs.size, f vs, _, g ds, rfl, I.laid (t' := s.toks) (o := .lst (f vs)) (fun b ob q => Heap.get?_push_of_some _ q) (Nat.le_refl _) ⟨Nat.le_trans hl' hz, _, 0, rv', Heap.get?_push_size _ rfl⟩, sm.trans (Same.upd hf), sm.free hf, Inv.kfresh I, upd_same, Dens.apart hf (Inv.kfresh I) (hg vs hds), q⟩
theorem df_slice (he : PED X e te) (hl : PDO X lo tl) (hh : PDO X hi th) : PEF X (.Subscript e (.Slice lo hi none p2) pos) (dSlL te tl th) := by
  intro pins s σ H W ρ Q I r h
  refine slice_wp (st := none) (ts := dNoPart) (R := fun d l u k => k = none ∧ ∃ t ds, d = .lst t ds ∧ Q (cutD ds l u)) he hl hh do_none I r ?_ ?_ (fun _ _ => ⟨_, rfl⟩)
  · have e1 : (fun d => tl ρ fun l => th ρ fun u => dNoPart ρ fun k => k = none ∧ ∃ t ds, d = D.lst t ds ∧ Q (cutD ds l u)) = fun d => tl ρ fun l => th ρ fun u => ∃ t ds, d = D.lst t ds ∧ Q (cutD ds l u) := by
      funext d
      congr 1
      funext l
      congr 1
      funext u
      exact propext ⟨fun z => z.2, fun z => ⟨rfl, z⟩⟩
    rw [e1]
    exact h
  · intro v vv vl vu vk l u k d sl H' s' I' sm rv hd hs pl pu pk hR
    obtain ⟨ek, t, ds, ed, q⟩ := hR
    subst ek ed
    exact list_sliced (fun vs => cutV vs l u) (fun ds => cutD ds l u) I' (r.same sm) sm rv hd hs pl pu pk (by simp) (fun its => ⟨fun its => (its.drop (HT.sIx its.length 0 l)).take (HT.sIx its.length its.length u - HT.sIx its.length 0 l), slicePick_cut its l u, fun vs rr => ⟨by unfold cutV; rw [rr.length]; exact (rr.drop _).take _, cutV_length vs l u⟩⟩) (fun vs hds => hds.cut l u) q
def dRev (te : DE) : DA := fun ρ Q => te ρ fun d => ∃ t ds, d = .lst t ds ∧ Q ds.reverse
end
section
variable {prog : Program} {w : World} {A : Around} {E : Value → Shared → Prop} {s : Shared} {p q : Addr} {us ws : List Value} {Q : Value → Shared → Prop}
theorem addL (hp : s.heap.IsList p us.toArray) (hq : s.heap.IsList q ws.toArray) (hz : us.length + ws.length ≤ sizeLine)
    (h : Q (.ref s.heap.objs.size) { s with heap := s.heap.push { cls := .type "list", data := .seq (us ++ ws).toArray } }) : wpAny (model prog w) A (binaryOp .Add (.ref p) (.ref q)) Q E s := by
  obtain ⟨⟨c1, k1, x1, y1⟩, g1, g2, n1, g3⟩ := id hp
  obtain ⟨⟨c2, k2, x2, y2⟩, f1, f2, n2, f3⟩ := id hq
  simp only at g2 g3 f2 f3
  subst g2 g3 f2 f3
  refine concat_meets ⟨_, g1, rfl⟩ ⟨_, f1, rfl⟩ noFill_list_add seq_list_add PySem.F.slot_list_add PySem.F.entry_list_add (PySem.F.args_list_add_2 _ _) (list_addW p q us.toArray ws.toArray n1 n2 k1 k2 y1 y2 (by simpa using hz)) ⟨g1, f1, ?_⟩
  rw [show us.toArray ++ ws.toArray = (us ++ ws).toArray by simp]
  exact h
theorem addT (hp : IsTup s.heap p us.toArray) (hq : IsTup s.heap q ws.toArray) (hz : us.length + ws.length ≤ sizeLine) (h0 : us = [] → Q (.ref q) s) (h1 : ws = [] → Q (.ref p) s)
    (h : Q (.ref s.heap.objs.size) { s with heap := s.heap.push { cls := .type "tuple", data := .seq (us ++ ws).toArray } }) : wpAny (model prog w) A (binaryOp .Add (.ref p) (.ref q)) Q E s := by
  obtain ⟨⟨c1, k1, x1, y1⟩, g1, g2, n1, g3⟩ := id hp
  obtain ⟨⟨c2, k2, x2, y2⟩, f1, f2, n2, f3⟩ := id hq
  simp only at g2 g3 f2 f3
  subst g2 g3 f2 f3
  by_cases hv : us = []
  · exact concat_meets ⟨_, g1, rfl⟩ ⟨_, f1, rfl⟩ noFill_tuple_add seq_tuple_add PySem.F.slot_tuple_add PySem.F.entry_tuple_add (PySem.F.args_tuple_add_2 _ _) (tuple_addW0 p q us.toArray ws.toArray n1 n2 k1 k2 y1 y2 (by simp [hv])) ⟨g1, f1, h0 hv⟩
  · by_cases hw : ws = []
    · exact concat_meets ⟨_, g1, rfl⟩ ⟨_, f1, rfl⟩ noFill_tuple_add seq_tuple_add PySem.F.slot_tuple_add PySem.F.entry_tuple_add (PySem.F.args_tuple_add_2 _ _) (tuple_addW1 p q us.toArray ws.toArray n1 n2 k1 k2 y1 y2 (by simpa using hv) (by simp [hw])) ⟨g1, f1, h1 hw⟩
    · refine concat_meets ⟨_, g1, rfl⟩ ⟨_, f1, rfl⟩ noFill_tuple_add seq_tuple_add PySem.F.slot_tuple_add PySem.F.entry_tuple_add (PySem.F.args_tuple_add_2 _ _) (tuple_addW2 p q us.toArray ws.toArray n1 n2 k1 k2 y1 y2 (by simpa using hv) (by simpa using hw) (by simpa using hz)) ⟨g1, f1, ?_⟩
      rw [show us.toArray ++ ws.toArray = (us ++ ws).toArray by simp]
      exact h
end
section
variable {X : Cx} {pos : Pos}
def rdAdd : RD2 := fun x y Q => match x, y with
  | .int i, .int j => Q (.int (i + j))
  | .tup xs, .tup ys => xs.length + ys.length ≤ sizeLine ∧ Q (.tup (xs ++ ys))
  | .lst _ xs, .lst _ ys => xs.length + ys.length ≤ sizeLine ∧ Q (.lst true (xs ++ ys))
  | _, _ => False
theorem add_ii (i j : Int) (Q : D → Prop) : rdAdd (.int i) (.int j) Q = Q (.int (i + j)) := rfl
theorem add_tt (xs ys : List D) (Q : D → Prop) : rdAdd (.tup xs) (.tup ys) Q = (xs.length + ys.length ≤ sizeLine ∧ Q (.tup (xs ++ ys))) := rfl
theorem add_ll (t u : Bool) (xs ys : List D) (Q : D → Prop) : rdAdd (.lst t xs) (.lst u ys) Q = (xs.length + ys.length ≤ sizeLine ∧ Q (.lst true (xs ++ ys))) := rfl
theorem nofresh {W : Own} {H : Hp} {t : Bool} {a : Addr} (tr : ∀ t a, W.bad t a → ∃ o, H a = some o) (h : H a = none) : ¬ W.bad t a := fun z => by
  obtain ⟨o, q⟩ := tr _ _ z
  rw [h] at q
  cases q
theorem od_plus : OpD X (binaryOp .Add) rdAdd := by
  intro pins s σ H W x y v u vv uu Q I tr rv ru hx hy q
  cases x <;> cases y <;> first | exact q.elim | skip
  · exact od_add pins s σ H W _ _ v u vv uu Q I tr rv ru hx hy q
  · rename_i xs ys
    obtain ⟨p, vs, e1, hq1, hd1⟩ := hx.tup_
    obtain ⟨p', vs', e2, hq2, hd2⟩ := hy.tup_
    subst e1 e2
    cases rv
    cases ru
    obtain ⟨its, r1, t1, _⟩ := I.tuple hq1.w
    obtain ⟨its', r2, t2, _⟩ := I.tuple hq2.w
    obtain ⟨hz, q⟩ := q
    have l1 := hd1.len
    have l2 := hd2.len
    have m1 := r1.length
    have m2 := r2.length
    have hz' : its.length + its'.length ≤ sizeLine := by omega
    have hf : H s.heap.objs.size = none := I.hok.fresh (Nat.le_refl _)
    refine addT t1 t2 hz' (fun e => ?_) (fun e => ?_) ?_
    · subst e
      have : vs = [] := List.eq_nil_of_length_eq_zero (by simpa using m1)
      subst this
      have : xs = [] := List.eq_nil_of_length_eq_zero (by simpa using l1.symm)
      subst this
      exact ⟨.ref p', H, _, I, rfl, Same.refl H, hy, q⟩
    · subst e
      have : vs' = [] := List.eq_nil_of_length_eq_zero (by simpa using m2)
      subst this
      have : ys = [] := List.eq_nil_of_length_eq_zero (by simpa using l2.symm)
      subst this
      rw [List.append_nil] at q
      exact ⟨.ref p, H, _, I, rfl, Same.refl H, hx, q⟩
    · exact ⟨.ref s.heap.objs.size, L2.upd H s.heap.objs.size (.tup (vs ++ vs')), _, I.laid (t' := s.toks) (fun b u e => Heap.get?_push_of_some _ e) (Nat.le_refl _) ⟨by rw [List.length_append]; omega, its ++ its', r1.append r2, ⟨_, Heap.get?_push_size _ rfl, rfl, _, rfl⟩⟩, rfl, Same.upd hf, Den.tup (SqT.of upd_same) ((hd1.append hd2).same (Same.upd hf)), q⟩
  · obtain ⟨p, vs, e1, _, hq1, hd1⟩ := hx.lst_
    obtain ⟨p', vs', e2, _, hq2, hd2⟩ := hy.lst_
    subst e1 e2
    cases rv
    cases ru
    obtain ⟨its, r1, t1, _⟩ := I.list hq1
    obtain ⟨its', r2, t2, _⟩ := I.list hq2
    obtain ⟨hz, q⟩ := q
    have l1 := hd1.len
    have l2 := hd2.len
    have m1 := r1.length
    have m2 := r2.length
    have hf : H s.heap.objs.size = none := I.hok.fresh (Nat.le_refl _)
    refine addL t1.isList t2.isList (by omega) ?_
    exact ⟨.ref s.heap.objs.size, L2.upd H s.heap.objs.size (.lst (vs ++ vs')), _, I.laid (t' := s.toks) (fun b u e => Heap.get?_push_of_some _ e) (Nat.le_refl _) ⟨by rw [List.length_append]; omega, its ++ its', 0, r1.append r2, Heap.get?_push_size _ rfl⟩, rfl, Same.upd hf, Den.lst (nofresh tr hf) (.new upd_same (Inv.kfresh I)) ((hd1.append hd2).same (Same.upd hf)), q⟩
def okI (x : D) : Prop := okD x ∧ (pyD x).depth < 64
def rdIn : RD2 := fun x y Q => okI x ∧ okD y ∧ ∃ ys, (y = .tup ys ∨ ∃ t, y = .lst t ys) ∧ Q (.bl (ys.any fun z => eqD z x))
theorem in_lst (x : D) (t : Bool) (ys : List D) (Q : D → Prop) : rdIn x (.lst t ys) Q = (okI x ∧ okD (.lst t ys) ∧ Q (.bl (ys.any fun z => eqD z x))) := by
  apply propext
  constructor
  · rintro ⟨h1, h2, zs, e, q⟩
    rcases e with e | ⟨_, e⟩
    · cases e
    · cases e; exact ⟨h1, h2, q⟩
  · rintro ⟨h1, h2, q⟩
    exact ⟨h1, h2, ys, .inr ⟨t, rfl⟩, q⟩
theorem in_tup (x : D) (ys : List D) (Q : D → Prop) : rdIn x (.tup ys) Q = (okI x ∧ okD (.tup ys) ∧ Q (.bl (ys.any fun z => eqD z x))) := by
  apply propext
  constructor
  · rintro ⟨h1, h2, zs, e, q⟩
    rcases e with e | ⟨_, e⟩
    · cases e; exact ⟨h1, h2, q⟩
    · cases e
  · rintro ⟨h1, h2, q⟩
    exact ⟨h1, h2, ys, .inl rfl, q⟩
theorem okI_int (i : Int) : okI (.int i) = True := eq_true ⟨okD_int i, by rw [pyD, PyData.depth]; decide⟩
theorem okI_non : okI .non = True := eq_true ⟨okD_non, by rw [pyD, PyData.depth]; decide⟩
end
def PKD (X : Cx) (kws : List Keyword) (t : DA) : Prop :=
  ∀ (pos : Pos) (pins : List (Addr × Obj)) (s : Shared) (σ : St) (H : Hp) (W : Own) (ρ : Ro) (Q : List D → Prop), Inv X pins σ H s → Rel X W H σ ρ → t ρ Q →
    wpAny (model X.prog X.w) X.A (evalAll ((backToKw pos (keywordEach kws X.env)).map (·.2))) (DAP X pins σ W H Q) X.xe s
section
variable {X : Cx} {k : Nat} {ps : List Str} {kn : Str} {sp : DSp} {x : Str} {p pos kpos : Pos} {e : Expr} {es : List Expr} {t tk : DA} {te : DE} {nm : Option Str} {kws : List Keyword}
def dCallK (sp : DSp) (t tk : DA) : DE := fun ρ Q => t ρ fun ds => tk ρ fun es => ∃ d, es = [d] ∧ sp (untags (ds ++ [d])) Q fun _ => False
theorem ex_one (a : D) (R : D → Prop) : (∃ d, [a] = [d] ∧ R d) = R a := by
  apply propext
  constructor
  · rintro ⟨_, e, q⟩; cases e; exact q
  · intro q; exact ⟨a, rfl, q⟩
def dCallF (sp : DSp) (t : DA) : DA := fun ρ Q => t ρ fun ds => sp (untags ds) (fun d => ∃ ys, d = .lst true ys ∧ nolDs ys = true ∧ Q ys) fun _ => False
end
def keyD : Key → D
  | .inl i => .int i
  | .inr x => .str x
section
variable {κ : Type} [DecidableEq κ] {K : PySem.W.Frag} {P : Bool → Addr → Prop} {H : Hp}
def lookD (kvs : List (κ × D)) (k : κ) : Option D := (kvs.find? fun kv => decide (kv.1 = k)).map (·.2)
def putD (kvs : List (κ × D)) (k : κ) (d : D) : List (κ × D) := if (lookD kvs k).isSome = true then kvs.map (fun kv => if kv.1 = k then (kv.1, d) else kv) else kvs ++ [(k, d)]
end
theorem den_key {K : PySem.W.Frag} {P : Bool → Addr → Prop} {H : Hp} {k : Key} {v : V} (h : Den K P H (keyD k) v) : v = kV k := by
  cases k with
  | inl i => exact h.int_
  | inr x => exact h.str_
theorem dens_keys {K : PySem.W.Frag} {P : Bool → Addr → Prop} {H : Hp} : ∀ {ks : List Key} {vs : List V}, Dens K P H (ks.map keyD) vs → vs = ks.map kV
  | [], _, h => by simpa only [List.map_nil, Dens] using h
  | k :: r, _, h => by
    simp only [List.map_cons, Dens] at h
    obtain ⟨v, u, e, h1, h2⟩ := h
    rw [e, den_key h1, dens_keys h2]
    rfl
def PPD (X : Cx) (pos : Pos) (keys : List (Option Expr)) (values : List Expr) (t : Ro → (List (D × D) → Prop) → Prop) : Prop :=
  ∀ (pins : List (Addr × Obj)) (s : Shared) (σ : St) (H : Hp) (W : Own) (ρ : Ro) (Q : List (D × D) → Prop), Inv X pins σ H s → Rel X W H σ ρ → t ρ Q →
    wpAny (model X.prog X.w) X.A (evalPairs (pairTrees keys values X.env pos)) (fun vs s' => ∃ ps H' ds, Inv X pins σ H' s' ∧ VV ps vs ∧ Same H H' ∧ Dens X.K W.bad H' (ds.map (·.1)) (ps.map (·.1)) ∧ Dens X.K W.bad H' (ds.map (·.2)) (ps.map (·.2)) ∧ Q ds) X.xe s
section
variable {X : Cx} {pos : Pos}
def dpNil : Ro → (List (D × D) → Prop) → Prop := fun _ Q => Q []
def dpCons (tk tv : DE) (t : Ro → (List (D × D) → Prop) → Prop) : Ro → (List (D × D) → Prop) → Prop := fun ρ Q => tk ρ fun k => tv ρ fun v => t ρ fun r => Q ((k, v) :: r)
def dOwnDk (i : Nat) (t : Ro → (List (D × D) → Prop) → Prop) : DS := fun E ρ => t ρ fun ps => ∃ kvs : List (Key × D), ps = kvs.map (fun kv => (keyD kv.1, kv.2)) ∧ kvs.length ≤ 15 ∧ (kvs.map (·.1)).Nodup ∧ E.nx (ρ.set i (some (.ob (.dk kvs))))
def dDix (i : Nat) (tb : DE) : DE := fun ρ Q => ∃ kvs, ρ[i]? = some (some (.ob (.dk kvs))) ∧ tb ρ fun k => ∃ key d, k = keyD key ∧ lookD kvs key = some d ∧ Q d
def dDAug (i : Nat) (tk te : DE) : DS := fun E ρ => ∃ kvs, ρ[i]? = some (some (.ob (.dk kvs))) ∧ tk ρ fun k => ∃ key n, k = keyD key ∧ lookD kvs key = some (.int n) ∧ te ρ fun d => ∃ m, d = .int m ∧ kvs.length < sizeLine ∧ E.nx (ρ.set i (some (.ob (.dk (putD kvs key (.int (n + m)))))))
end
theorem exob_0 (kvs : List (Key × D)) (r : Ro) (R : List (Key × D) → Prop) : (∃ ys, (some (Sl.ob (.dk kvs)) :: r)[0]? = some (some (Sl.ob (.dk ys))) ∧ R ys) = R kvs := by
  apply propext
  constructor
  · rintro ⟨_, e, q⟩
    have e' : some (some (Sl.ob (.dk kvs))) = some (some (Sl.ob (.dk _))) := e
    cases e'
    exact q
  · intro q; exact ⟨kvs, rfl, q⟩
theorem exob_S (n : Nat) (x : Option Sl) (r : Ro) (R : List (Key × D) → Prop) : (∃ ys, (x :: r)[n + 1]? = some (some (Sl.ob (.dk ys))) ∧ R ys) = (∃ ys, r[n]? = some (some (Sl.ob (.dk ys))) ∧ R ys) := rfl
theorem seq_lst (t : Bool) (xs : List D) (R : List D → Prop) : (∃ k ds, seqD (.lst t xs) = some (k, ds) ∧ R ds) = R xs := by
  apply propext
  constructor
  · rintro ⟨_, _, e, q⟩; cases e; exact q
  · intro q; exact ⟨_, _, rfl, q⟩
theorem seq_tup (xs : List D) (R : List D → Prop) : (∃ k ds, seqD (.tup xs) = some (k, ds) ∧ R ds) = R xs := by
  apply propext
  constructor
  · rintro ⟨_, _, e, q⟩; cases e; exact q
  · intro q; exact ⟨_, _, rfl, q⟩
theorem zip_any {a b : D} {k1 k2 : Bool} {xs ys : List D} (h1 : seqD a = some (k1, xs)) (h2 : seqD b = some (k2, ys)) (R : List D → Prop) : (∃ d1 d2 k1 k2 us vs, [a, b] = [d1, d2] ∧ seqD d1 = some (k1, us) ∧ seqD d2 = some (k2, vs) ∧ R (List.zipWith (fun x y => D.tup [x, y]) us vs)) = R (List.zipWith (fun x y => D.tup [x, y]) xs ys) := by
  apply propext
  constructor
  · rintro ⟨_, _, _, _, _, _, e, e1, e2, q⟩
    cases e
    rw [h1] at e1
    rw [h2] at e2
    cases e1
    cases e2
    exact q
  · intro q; exact ⟨_, _, _, _, _, _, rfl, h1, h2, q⟩
theorem zip_ll (t u : Bool) (xs ys : List D) (R : List D → Prop) : (∃ d1 d2 k1 k2 us vs, [D.lst t xs, D.lst u ys] = [d1, d2] ∧ seqD d1 = some (k1, us) ∧ seqD d2 = some (k2, vs) ∧ R (List.zipWith (fun x y => D.tup [x, y]) us vs)) = R (List.zipWith (fun x y => D.tup [x, y]) xs ys) := zip_any rfl rfl R
theorem zip_tl (u : Bool) (xs ys : List D) (R : List D → Prop) : (∃ d1 d2 k1 k2 us vs, [D.tup xs, D.lst u ys] = [d1, d2] ∧ seqD d1 = some (k1, us) ∧ seqD d2 = some (k2, vs) ∧ R (List.zipWith (fun x y => D.tup [x, y]) us vs)) = R (List.zipWith (fun x y => D.tup [x, y]) xs ys) := zip_any rfl rfl R
theorem zip_lt (u : Bool) (xs ys : List D) (R : List D → Prop) : (∃ d1 d2 k1 k2 us vs, [D.lst u xs, D.tup ys] = [d1, d2] ∧ seqD d1 = some (k1, us) ∧ seqD d2 = some (k2, vs) ∧ R (List.zipWith (fun x y => D.tup [x, y]) us vs)) = R (List.zipWith (fun x y => D.tup [x, y]) xs ys) := zip_any rfl rfl R
theorem zip_tt (xs ys : List D) (R : List D → Prop) : (∃ d1 d2 k1 k2 us vs, [D.tup xs, D.tup ys] = [d1, d2] ∧ seqD d1 = some (k1, us) ∧ seqD d2 = some (k2, vs) ∧ R (List.zipWith (fun x y => D.tup [x, y]) us vs)) = R (List.zipWith (fun x y => D.tup [x, y]) xs ys) := zip_any rfl rfl R
theorem allT_bl (b : Bool) : allT (.bl b) = true := rfl
theorem allT_int (b : Int) : allT (.int b) = true := rfl
theorem allT_non : allT .non = true := rfl
theorem for_map {α : Type} {wi : DA} {g : DG} {tb : DS} {E : DEnds} {ρ : Ro} (xs : List α) (f : α → D) (Pv : List α → Ro → Prop) (hw : ∀ R : List D → Prop, R (xs.map f) → wi ρ R) (p0 : Pv [] ρ)
    (turn : ∀ (done : List α) (x : α) (ρ' : Ro), x ∈ xs → done.length < xs.length → Pv done ρ' → g (f x) ρ' fun ρ2 => tb { E with nx := Pv (done ++ [x]), ct := Pv (done ++ [x]), bk := E.nx } ρ2) (fin : ∀ ρ', Pv xs ρ' → E.nx ρ') : dFor wi g tb E ρ := by
  refine hw _ ⟨fun j => Pv (xs.take j), by simpa using p0, fun j d ρ' hd hp => ?_, fun ρ' hp => fin ρ' (by rw [List.length_map, List.take_of_length_le (Nat.le_refl _)] at hp; exact hp)⟩
  rw [List.getElem?_map] at hd
  cases ex : xs[j]? with
  | none => rw [ex] at hd; cases hd
  | some x =>
    rw [ex] at hd
    cases hd
    have hj := (List.getElem?_eq_some_iff.mp ex).1
    have ht : xs.take (j + 1) = xs.take j ++ [x] := by rw [List.take_succ, ex]; rfl
    show g (f x) ρ' fun ρ2 => tb { E with nx := Pv (xs.take (j + 1)), ct := Pv (xs.take (j + 1)), bk := E.nx } ρ2
    rw [ht]
    exact turn (xs.take j) x ρ' (List.mem_of_getElem? ex) (by rw [List.length_take]; omega) hp
structure OkN (n : Nat) (d : D) : Prop where
  pl : plD d = true
  lay : (pyD d).canLay0 = true
  dp : (pyD d).depth ≤ n
structure OkNs (n : Nat) (ds : List D) : Prop where
  pl : plDs ds = true
  lay : PyData.canLayAll0 (pyDs ds) = true
  dp : PyData.depthAll (pyDs ds) ≤ n
theorem OkN.ok {n : Nat} {d : D} (h : OkN n d) (hn : n ≤ 64 := by decide) : okD d := ⟨h.pl, by
  unfold SeqAt.shaped
  rw [h.lay, decide_eq_true (Nat.le_trans h.dp hn)]
  rfl⟩
theorem OkN.okI {n : Nat} {d : D} (h : OkN n d) (hn : n < 64 := by decide) : okI d := ⟨h.ok (Nat.le_of_lt hn), Nat.lt_of_le_of_lt h.dp hn⟩
theorem OkN.int (n : Nat) (i : Int) : OkN n (.int i) := ⟨by rw [plD] <;> (intros; contradiction), by rw [pyD, PyData.canLay0], by rw [pyD, PyData.depth]; exact Nat.zero_le _⟩
theorem OkN.bl (n : Nat) (i : Bool) : OkN n (.bl i) := ⟨by rw [plD] <;> (intros; contradiction), by rw [pyD, PyData.canLay0], by rw [pyD, PyData.depth]; exact Nat.zero_le _⟩
theorem OkN.non (n : Nat) : OkN n .non := ⟨by rw [plD] <;> (intros; contradiction), by rw [pyD, PyData.canLay0], by rw [pyD, PyData.depth]; exact Nat.zero_le _⟩
theorem OkNs.nil (n : Nat) : OkNs n [] := ⟨by rw [plDs], by rw [pyDs, PyData.canLayAll0], by rw [pyDs, PyData.depthAll]; exact Nat.zero_le _⟩
theorem OkNs.cons {n : Nat} {d : D} {ds : List D} (h : OkN n d) (h' : OkNs n ds) : OkNs n (d :: ds) := ⟨by rw [plDs, h.pl, h'.pl]; rfl, by rw [pyDs, PyData.canLayAll0, h.lay, h'.lay]; rfl, by
  rw [pyDs, PyData.depthAll]
  exact Nat.max_le.mpr ⟨h.dp, h'.dp⟩⟩
theorem OkNs.of {n : Nat} : ∀ {ds : List D}, (∀ d ∈ ds, OkN n d) → OkNs n ds
  | [], _ => .nil n
  | d :: r, h => .cons (h d List.mem_cons_self) (OkNs.of fun x hx => h x (List.mem_cons_of_mem _ hx))
theorem OkN.tup {n : Nat} {ds : List D} (h : OkNs n ds) : OkN (n + 1) (.tup ds) := ⟨by rw [plD]; exact h.pl, by rw [pyD, PyData.canLay0]; exact h.lay, by rw [pyD, PyData.depth]; exact Nat.succ_le_succ h.dp⟩
theorem OkN.lst {n : Nat} {t : Bool} {ds : List D} (h : OkNs n ds) : OkN (n + 1) (.lst t ds) := ⟨by rw [plD]; exact h.pl, by rw [pyD, PyData.canLay0]; exact h.lay, by rw [pyD, PyData.depth]; exact Nat.succ_le_succ h.dp⟩
theorem OkN.map {α : Type} {n : Nat} {t : Bool} {f : α → D} {xs : List α} (h : ∀ x, OkN n (f x)) : OkN (n + 1) (.lst t (xs.map f)) := OkN.lst (OkNs.of fun d hd => by
  obtain ⟨x, _, rfl⟩ := List.mem_map.mp hd
  exact h x)
def eqDs (xs ys : List D) : Bool := PyData.eqvAll (pyDs xs) (pyDs ys)
theorem eqD_lst (t u : Bool) (xs ys : List D) : eqD (.lst t xs) (.lst u ys) = eqDs xs ys := by unfold eqD eqDs; rw [pyD, pyD, PyData.eqv]
theorem eqD_tup (xs ys : List D) : eqD (.tup xs) (.tup ys) = eqDs xs ys := by unfold eqD eqDs; rw [pyD, pyD, PyData.eqv]
theorem eqDs_nil : eqDs [] [] = true := by unfold eqDs; rw [pyDs, PyData.eqvAll]
theorem eqDs_cons (x y : D) (xs ys : List D) : eqDs (x :: xs) (y :: ys) = (eqD x y && eqDs xs ys) := by unfold eqDs eqD; rw [pyDs, pyDs, PyData.eqvAll]
theorem eqD_str (x y : Str) : eqD (.str x) (.str y) = (x == y) := by unfold eqD; rw [pyD, pyD, PyData.eqv]
theorem eqD_non : eqD .non .non = true := by unfold eqD; rw [pyD, PyData.eqv]
mutual
theorem eqD_refl : ∀ d : D, eqD d d = true
  | .non => eqD_non
  | .bl b => by rw [eqD_bl]; simp
  | .int i => by rw [eqD_int]; simp
  | .str x => by rw [eqD_str]; simp
  | .exc _ => by unfold eqD; rw [pyD, PyData.eqv]
  | .obj _ _ _ => by unfold eqD; rw [pyD, PyData.eqv]
  | .dic => by unfold eqD; rw [pyD, PyData.eqv]
  | .dik _ _ => by unfold eqD; rw [pyD, PyData.eqv]
  | .tup ds => by rw [eqD_tup]; exact eqDs_refl ds
  | .lst t ds => by rw [eqD_lst]; exact eqDs_refl ds
theorem eqDs_refl : ∀ ds : List D, eqDs ds ds = true
  | [] => eqDs_nil
  | d :: r => by rw [eqDs_cons, eqD_refl d, eqDs_refl r]; rfl
end
section
variable {X : Cx} {a b c : Expr} {ta tb tc : DE} {pos : Pos}
def dChain (r r' : RD2) (ta tb tc : DE) : DE := fun ρ Q => ta ρ fun x => tb ρ fun y => r x y fun z => ∃ k, z = .bl k ∧ if k = true then tc ρ fun u => r' y u Q else Q (.bl false)
theorem de_globI {x : Str} {i : Int} (hm : ∃ t, X.mg x = some (.int i t)) (hg : Gl X x := by rfl) (hd : (x == ("__debug__" : Str)) = false := by decide) : PED X (.Name x pos) (dC (.int i)) := by
  obtain ⟨t, hm⟩ := hm
  exact PED.of (pe_glob (v := .int i) hg hm ⟨t, rfl⟩ hd) fun _ H _ _ _ _ q => ⟨Same.refl H, _, Den.int i, q⟩
def dIterT (ti : DE) : DA := fun ρ R => ti ρ fun d => ∃ ds, d = .tup ds ∧ R ds
theorem id_tup {tg iter : Expr} {ti : DE} (h : PED X iter ti) : PID X tg iter (dIterT ti) := by
  refine PID.of (pi_tup h.pe) fun σ H W ρ R r hw => ⟨W, ρ, _, r, hw, fun v H1 d e1 hd q => ?_⟩
  obtain ⟨ds, rfl, q⟩ := q
  obtain ⟨p, vs, rfl, hq, hds⟩ := hd.tup_
  refine ⟨p, rfl, ⟨vs, hq.w⟩, e1, ds, ?_, q⟩
  intro P' H' hT hL hX i
  have hq' := (hT p vs hq).w
  have hl := hds.len
  refine ⟨fun hi => ?_, fun x H3 y hi => ?_, fun hi => ⟨vs, hq', by omega⟩⟩
  · obtain ⟨v, hv, _⟩ := hds.get (i := i) (d := ds[i]) (by simp [hi])
    exact ⟨vs, v, hq', hv⟩
  · obtain ⟨e3, y⟩ := y
    subst e3
    obtain ⟨d, h1, h2⟩ := hds.getV (y vs hq')
    exact ⟨Same.refl _, d, h1, Den.map hT hL hX d _ h2⟩
theorem it_tup (xs : List D) (R : List D → Prop) : (∃ ds, D.tup xs = .tup ds ∧ R ds) = R xs := by
  apply propext
  constructor
  · rintro ⟨_, e, q⟩; cases e; exact q
  · intro q; exact ⟨xs, rfl, q⟩
variable {e : Expr} {te : DE} {lo hi : Option Expr} {tl th : DO} {p2 : Pos}
def allN {α : Type} : Nat → (List α → Prop) → Prop
  | 0, P => P []
  | n + 1, P => ∀ a, allN n fun l => P (a :: l)
theorem allN_of {α : Type} {n : Nat} : ∀ {P : List α → Prop} (us : List α), us.length = n → allN n P → P us := by
  induction n with
  | zero => intro P us e h; cases List.eq_nil_of_length_eq_zero e; exact h
  | succ n ih =>
    intro P us e h
    cases us with
    | nil => cases e
    | cons a l => exact ih (P := fun l => P (a :: l)) l (Nat.succ.inj e) (h a)
end
theorem comp_mapX {α : Type} {wi : DA} {js : List Nat} {te : DE} {ρ : Ro} {Q : D → Prop} (xs : List α) (f : α → D) (ok : α → Bool) (g : α → D) (hw : ∀ R : List D → Prop, R (xs.map f) → wi ρ R) (hz : xs.length ≤ sizeLine)
    (he : ∀ x ∈ xs, ok x = true → ∀ K : D → Prop, K (g x) → te (some (.val (f x)) :: js.map (getV ρ)) K) (hx : ∀ x ∈ xs, ok x = false → ∀ K : D → Prop, te (some (.val (f x)) :: js.map (getV ρ)) K) (q : xs.all ok = true → Q (.lst true (xs.map g))) : dComp wi js dAll te ρ Q := by
  refine hw _ ⟨by rw [List.length_map]; exact hz, fun j out => out = (xs.take j).map g ∧ (xs.take j).all ok = true, by simp, fun j d out hd ho => ?_, fun out ho => ?_⟩
  · rw [List.getElem?_map] at hd
    cases ex : xs[j]? with
    | none => rw [ex] at hd; cases hd
    | some x =>
      rw [ex] at hd
      cases hd
      have hm : x ∈ xs := List.mem_of_getElem? ex
      have ht : xs.take (j + 1) = xs.take j ++ [x] := by rw [List.take_succ, ex]; rfl
      show (if (true : Bool) = true then te (some (Sl.val (f x)) :: List.map (getV ρ) js) (fun e => out ++ [e] = List.map g (List.take (j + 1) xs) ∧ (List.take (j + 1) xs).all ok = true) else out = List.map g (List.take (j + 1) xs) ∧ (List.take (j + 1) xs).all ok = true)
      rw [if_pos rfl]
      cases z : ok x with
      | true =>
        refine he x hm z _ ?_
        show _ = List.map g (List.take (j + 1) xs) ∧ (List.take (j + 1) xs).all ok = true
        rw [ht, ho.1, List.map_append, List.all_append, ho.2]
        exact ⟨rfl, by simp [z]⟩
      | false => exact hx x hm z _
  · rw [List.length_map, List.take_of_length_le (Nat.le_refl _)] at ho
    rw [ho.1]; exact q ho.2
section
variable {K : PySem.W.Frag} {P : Bool → Addr → Prop} {H : Hp} {B : Nat → Option Addr}
theorem LDens.get : ∀ {k : Nat} {xs : List LI} {vs : List V} {m : Nat} {ds : List D}, LDens K P H B k xs vs → xs[m]? = some (.own ds) → ∃ b us, vs[m]? = some (.ref b) ∧ B (k + m) = some b ∧ H b = some (.lst us) ∧ Dens K P H ds us
  | _, [], _, _, _, _, e => by simp at e
  | k, .own ds :: r, _, 0, _, h, e => by
    simp only [LDens] at h
    obtain ⟨b, us, u, rfl, h1, h2, h3, _⟩ := h
    simp at e; subst e
    exact ⟨b, us, rfl, h1, h2, h3⟩
  | k, .val d :: r, _, 0, _, h, e => by simp at e
  | k, .own ds :: r, _, m + 1, x, h, e => by
    simp only [LDens] at h
    obtain ⟨b, us, u, rfl, _, _, _, h4⟩ := h
    obtain ⟨c, ws, e1, e2, e3⟩ := LDens.get (m := m) (ds := x) h4 (by simpa using e)
    exact ⟨c, ws, by simpa using e1, by rw [← e2]; congr 1; omega, e3⟩
  | k, .val d :: r, _, m + 1, x, h, e => by
    simp only [LDens] at h
    obtain ⟨v, u, rfl, _, h2⟩ := h
    obtain ⟨c, ws, e1, e2, e3⟩ := LDens.get (m := m) (ds := x) h2 (by simpa using e)
    exact ⟨c, ws, by simpa using e1, by rw [← e2]; congr 1; omega, e3⟩
theorem LDens.put {H' : Hp} {b : Addr} {us' : List V} {ds' : List D} (hd : ∀ ds vs, Dens K P H ds vs → Dens K P H' ds vs) (hb : H' b = some (.lst us')) (hn : Dens K P H' ds' us') (ho : ∀ k c, B k = some c → c ≠ b → ∀ us, H c = some (.lst us) → H' c = some (.lst us)) (inj : ∀ k l c, B k = some c → B l = some c → k = l) :
    ∀ {k : Nat} {xs : List LI} {vs : List V} {m : Nat} {ds : List D}, LDens K P H B k xs vs → xs[m]? = some (.own ds) → B (k + m) = some b → LDens K P H' B k (xs.set m (.own ds')) vs
  | _, [], _, _, _, _, e, _ => by simp at e
  | k, .own ds :: r, _, 0, _, h, _, hB => by
    simp only [LDens] at h
    obtain ⟨c, us, u, rfl, h1, h2, h3, h4⟩ := h
    rw [Nat.add_zero, h1] at hB
    cases hB
    simp only [List.set_cons_zero, LDens]
    refine ⟨b, us', u, rfl, h1, hb, hn, ?_⟩
    have rest : ∀ {l : Nat} {ys : List LI} {ws : List V}, k < l → LDens K P H B l ys ws → LDens K P H' B l ys ws := by
      intro l ys
      induction ys generalizing l with
      | nil => intro ws _ z; simpa only [LDens] using z
      | cons y ys ih =>
        intro ws hl z
        cases y with
        | own es =>
          simp only [LDens] at z ⊢
          obtain ⟨d, ps, q, rfl, z1, z2, z3, z4⟩ := z
          exact ⟨d, ps, q, rfl, z1, ho l d z1 (fun e => by subst e; have := inj _ _ _ h1 z1; omega) ps z2, hd _ _ z3, ih (Nat.lt_succ_of_lt hl) z4⟩
        | val e =>
          simp only [LDens] at z ⊢
          obtain ⟨v, q, rfl, z1, z2⟩ := z
          have z3 := hd [e] [v] (Dens.one z1)
          simp only [Dens] at z3
          obtain ⟨v', r', e', z4, _⟩ := z3
          cases e'
          exact ⟨v, q, rfl, z4, ih (Nat.lt_succ_of_lt hl) z2⟩
    exact rest (Nat.lt_succ_self k) h4
  | k, .val d :: r, _, 0, _, h, e, _ => by simp at e
  | k, .own ds :: r, _, m + 1, x, h, e, hB => by
    simp only [LDens] at h
    obtain ⟨c, us, u, rfl, h1, h2, h3, h4⟩ := h
    simp only [List.set_cons_succ, LDens]
    refine ⟨c, us, u, rfl, h1, ho k c h1 (fun z => by subst z; have := inj _ _ _ h1 hB; omega) us h2, hd _ _ h3, LDens.put hd hb hn ho inj h4 (by simpa using e) (by rw [← hB]; congr 1; omega)⟩
  | k, .val d :: r, _, m + 1, x, h, e, hB => by
    simp only [LDens] at h
    obtain ⟨v, u, rfl, h1, h2⟩ := h
    simp only [List.set_cons_succ, LDens]
    have z3 := hd [d] [v] (Dens.one h1)
    simp only [Dens] at z3
    obtain ⟨v', r', e', z4, _⟩ := z3
    cases e'
    exact ⟨v, u, rfl, z4, LDens.put hd hb hn ho inj h2 (by simpa using e) (by rw [← hB]; congr 1; omega)⟩
end
section
variable {X : Cx} {pos : Pos}
def PFL (X : Cx) (i : Nat) (es : List Expr) (t : Ro → (List (List D) → Prop) → Prop) : Prop :=
  ∀ (pos : Pos) (pins : List (Addr × Obj)) (s : Shared) (σ : St) (H : Hp) (W : Own) (ρ : Ro) (k : Nat) (Q : List (List D) → Prop), Inv X pins σ H s → Rel X W H σ ρ → i < σ.length → ρ[i]? = some none → t ρ Q →
    wpAny (model X.prog X.w) X.A (spliced (backTo pos (starEach es X.env))) (fun us s' => ∃ vs H' W' xss, Inv X pins σ H' s' ∧ Vals vs us ∧ Same H H' ∧ Rel X W' H' σ ρ ∧ Fwd W H W' H' ∧ LDens X.K W'.bad H' (W'.sub σ.length i) k (xss.map LI.own) vs ∧ (∀ l, l < k → W'.sub σ.length i l = W.sub σ.length i l) ∧ Q xss) X.xe s
def dfNil : Ro → (List (List D) → Prop) → Prop := fun _ Q => Q []
def dfCons (ta : DA) (t : Ro → (List (List D) → Prop) → Prop) : Ro → (List (List D) → Prop) → Prop := fun ρ Q => ta ρ fun x => t ρ fun xs => Q (x :: xs)
def dOwnLL (i : Nat) (t : Ro → (List (List D) → Prop) → Prop) : DS := fun E ρ => ρ[i]? = some none ∧ t ρ fun xss => xss.length ≤ sizeLine ∧ E.nx (ρ.set i (some (.ob (.ll (xss.map LI.own)))))
def softI : LI → D
  | .own ds => .lst false ds
  | .val d => d
variable {e : Expr} {te : DE} {tt : DT} {ta : DA}
def dSoftL (i : Nat) (t : DE) : DE := fun ρ Q => ∃ xs, ρ[i]? = some (some (.ob (.ll xs))) ∧ t (ρ.set i (some (.val (.lst false (xs.map softI))))) fun d => allT d = true ∧ Q d
def dSoftLT (i : Nat) (t : DT) : DT := fun ρ Q => ∃ xs, ρ[i]? = some (some (.ob (.ll xs))) ∧ t (ρ.set i (some (.val (.lst false (xs.map softI))))) Q
def dPutIn (i : Nat) (tc tk te : DE) : DS := fun E ρ => ∃ xs, ρ[i]? = some (some (.ob (.ll xs))) ∧ te ρ fun d => tc ρ fun c => ∃ n m ds, c = .int n ∧ ixN xs.length n = some m ∧ xs[m]? = some (.own ds) ∧ tk ρ fun k => ∃ l j, k = .int l ∧ ixN ds.length l = some j ∧ E.nx (ρ.set i (some (.ob (.ll (xs.set m (.own (ds.set j d)))))))
end
theorem exll_0 (xs : List LI) (r : Ro) (R : List LI → Prop) : (∃ ys, (some (Sl.ob (.ll xs)) :: r)[0]? = some (some (Sl.ob (.ll ys))) ∧ R ys) = R xs := by
  apply propext
  constructor
  · rintro ⟨_, e, q⟩
    have e' : some (some (Sl.ob (.ll xs))) = some (some (Sl.ob (.ll _))) := e
    cases e'
    exact q
  · intro q; exact ⟨xs, rfl, q⟩
theorem exll_S (n : Nat) (x : Option Sl) (r : Ro) (R : List LI → Prop) : (∃ ys, (x :: r)[n + 1]? = some (some (Sl.ob (.ll ys))) ∧ R ys) = (∃ ys, r[n]? = some (some (Sl.ob (.ll ys))) ∧ R ys) := rfl
theorem hole_0 (r : Ro) : ((none :: r)[0]? = some (none : Option Sl)) = True := eq_true rfl
theorem hole_S (n : Nat) (x : Option Sl) (r : Ro) : ((x :: r)[n + 1]? = some (none : Option Sl)) = (r[n]? = some none) := rfl
theorem ixN_0 {α : Type} (x : α) (xs : List α) (R : Nat → Prop) : (∃ m, ixN (x :: xs).length 0 = some m ∧ R m) = R 0 := by
  have e : ixN (x :: xs).length 0 = some 0 := by unfold ixN; simp
  apply propext
  constructor
  · rintro ⟨_, h, q⟩
    rw [e] at h
    cases h
    exact q
  · intro q; exact ⟨0, e, q⟩
theorem ixN_1 {α : Type} (x y : α) (xs : List α) (R : Nat → Prop) : (∃ m, ixN (x :: y :: xs).length 1 = some m ∧ R m) = R 1 := by
  have e : ixN (x :: y :: xs).length 1 = some 1 := by unfold ixN; simp; omega
  apply propext
  constructor
  · rintro ⟨_, h, q⟩
    rw [e] at h
    cases h
    exact q
  · intro q; exact ⟨1, e, q⟩
theorem li_0 (ds : List D) (r : List LI) (R : List D → Prop) : (∃ es, (LI.own ds :: r)[0]? = some (LI.own es) ∧ R es) = R ds := by
  apply propext
  constructor
  · rintro ⟨_, e, q⟩
    have e' : some (LI.own ds) = some (LI.own _) := e
    cases e'
    exact q
  · intro q; exact ⟨ds, rfl, q⟩
theorem li_S (n : Nat) (x : LI) (r : List LI) (R : List D → Prop) : (∃ es, (x :: r)[n + 1]? = some (LI.own es) ∧ R es) = (∃ es, r[n]? = some (LI.own es) ∧ R es) := rfl
section
variable {X : Cx} {pins : List (Addr × Obj)} {σ : St} {H : Hp}
structure MinAt (X : Cx) (pins : List (Addr × Obj)) (H : Hp) (s : Shared) (l f S I : Addr) (fo : Obj) (j : Nat) (vb : Value) (k : Int) : Prop where
  fo : s.heap.get? f = some fo
  ff : FpOk X pins H f
  so : ∃ tb n, s.heap.get? S = some (seqObj "list" #[vb, .int k tb] n)
  sf : FpOk X pins H S
  io : s.heap.IsListIter I l j
  jf : FpOk X pins H I
  fS : f ≠ S
  fI : f ≠ I
  SI : S ≠ I
  lI : l ≠ I
end
section
variable {X : Cx} {sc : Scope} {ns : List Str} {js : List Nat} {x : Str} {pos : Pos}
def dMinKey (te : DE) (js : List Nat) (tb : DE) : DE := fun ρ Q => te ρ fun d => ∃ (t : Bool) (ds : List D) (kf : Nat → Int), d = .lst t ds ∧ 0 < ds.length ∧ (∀ i x, ds[i]? = some x → tb (some (.val x) :: js.map (getV ρ)) fun r => r = .int (kf i)) ∧ ∀ i x, ds[i]? = some x → (∀ j, j < ds.length → kf i ≤ kf j ∧ (j < i → kf i < kf j)) → Q x
end
section
variable {X : Cx} {pos : Pos}
def dExtend (i : Nat) (te : DE) : DS := fun E ρ => ∃ ds, ρ[i]? = some (some (.own ds)) ∧ te ρ fun d => ∃ xs, d = .lst true xs ∧ ds.length + xs.length ≤ sizeLine ∧ E.nx (ρ.set i (some (.own (ds ++ xs))))
def dOwnDt (i : Nat) : DS := fun E ρ => E.nx (ρ.set i (some (.ob (.dt []))))
inductive KDP (X : Cx) (pins : List (Addr × Obj)) (σ : St) (W : Own) (H : Hp) (Q : D → Prop) (u : Value) (s' : Shared) : Prop
  | mk (b : Addr) (vs : List V) (H' : Hp) (ds : List D) (_ : u = .ref b) (_ : Inv X pins σ H' s') (_ : Same H H') (_ : H' b = some (.tup vs)) (_ : Dens X.K W.bad H' ds vs) (_ : Q (.tup ds))
def PEK (X : Cx) (e : Expr) (t : DE) : Prop :=
  ∀ (pins : List (Addr × Obj)) (s : Shared) (σ : St) (H : Hp) (W : Own) (ρ : Ro) (Q : D → Prop), Inv X pins σ H s → Rel X W H σ ρ → t ρ Q →
    wpAny (model X.prog X.w) X.A (eval e X.env) (KDP X pins σ W H Q) X.xe s
def liftK (X : Cx) (t : DE) : TE := fun σ H Q => ∃ W ρ Qd, Rel X W H σ ρ ∧ t ρ Qd ∧ ∀ b vs H' ds, Same H H' → H' b = some (.tup vs) → Dens X.K W.bad H' ds vs → Qd (.tup ds) → Q (.ref b) H'
theorem PEK.pe {e : Expr} {t : DE} (h : PEK X e t) : PE X e (liftK X t) := by
  intro pins s σ H Q I q
  obtain ⟨W, ρ, Qd, r, ht, k⟩ := q
  exact thn (h pins s σ H W ρ Qd I r ht) fun u s1 ⟨b, vs, H', ds, eu, I1, e1, hb, hd, qd⟩ => by
    subst eu
    exact ⟨.ref b, H', I1, rfl, k b vs H' ds e1 hb hd qd⟩
def dPutT (i : Nat) (tk te : DE) : DS := fun E ρ => ∃ kvs, ρ[i]? = some (some (.ob (.dt kvs))) ∧ te ρ fun d => tk ρ fun k => ∃ ks : List Key, k = .tup (ks.map keyD) ∧ kvs.length < sizeLine ∧ E.nx (ρ.set i (some (.ob (.dt (putD kvs ks d)))))
def dLenT (i : Nat) : DE := fun ρ Q => ∃ kvs, ρ[i]? = some (some (.ob (.dt kvs))) ∧ Q (.int (kvs.length : Int))
end
theorem exdt_0 (kvs : List (List Key × D)) (r : Ro) (R : List (List Key × D) → Prop) : (∃ ys, (some (Sl.ob (.dt kvs)) :: r)[0]? = some (some (Sl.ob (.dt ys))) ∧ R ys) = R kvs := by
  apply propext
  constructor
  · rintro ⟨ys, e, q⟩
    simp only [List.getElem?_cons_zero, Option.some.injEq, Sl.ob.injEq, OS.dt.injEq] at e
    subst e
    exact q
  · intro q; exact ⟨kvs, rfl, q⟩
theorem exdt_S (n : Nat) (x : Option Sl) (r : Ro) (R : List (List Key × D) → Prop) : (∃ ys, (x :: r)[n + 1]? = some (some (Sl.ob (.dt ys))) ∧ R ys) = (∃ ys, r[n]? = some (some (Sl.ob (.dt ys))) ∧ R ys) := rfl
theorem exl_t (ys : List D) (R : List D → Prop) : (∃ xs, D.lst true ys = .lst true xs ∧ R xs) = R ys := by
  apply propext
  constructor
  · rintro ⟨xs, e, q⟩
    cases e
    exact q
  · intro q; exact ⟨ys, rfl, q⟩
def RawAt (h : Heap) (d : Addr) (us : List Value) (ep : Nat) : Prop := ∃ o es, h.get? d = some o ∧ o.data = .dict es ep ∧ es.toList.map (·.val) = us
theorem RawAt.of {h h' : Heap} {d : Addr} {us : List Value} {ep : Nat} (x : RawAt h d us ep) (k : ∀ o, h.get? d = some o → h'.get? d = some o) : RawAt h' d us ep := let ⟨o, es, e, r⟩ := x; ⟨o, es, k o e, r⟩
theorem RawAt.lt {h : Heap} {d : Addr} {us : List Value} {ep : Nat} (x : RawAt h d us ep) : d < h.objs.size := let ⟨_, _, e, _⟩ := x; Heap.lt_size e
theorem RawAt.size {us : List Value} {es : Array DictEntry} (e : es.toList.map (·.val) = us) : es.size = us.length := by rw [← e]; simp
section
variable {X : Cx} {pos : Pos}
def dVals (i : Nat) : DA := fun ρ Q => ∃ kvs, ρ[i]? = some (some (.ob (.dt kvs))) ∧ Q (kvs.map (·.2))
def dDinT (i : Nat) (ta : DE) : DE := fun ρ Q => ∃ kvs, ρ[i]? = some (some (.ob (.dt kvs))) ∧ ta ρ fun k => ∃ ks : List Key, k = .tup (ks.map keyD) ∧ Q (.bl (lookD kvs ks).isSome)
def dDAugT (i : Nat) (tk te : DE) : DS := fun E ρ => ∃ kvs, ρ[i]? = some (some (.ob (.dt kvs))) ∧ tk ρ fun k => ∃ (ks : List Key) (n : Int), k = .tup (ks.map keyD) ∧ lookD kvs ks = some (.int n) ∧ te ρ fun d => ∃ m, d = .int m ∧ E.nx (ρ.set i (some (.ob (.dt (putD kvs ks (.int (n + m)))))))
end
inductive KPs (K : PySem.W.Frag) (P : Bool → Addr → Prop) (H : Hp) : List (List D × D) → List (Value × Value) → Prop
  | nil : KPs K P H [] []
  | cons {b : Addr} {vs : List V} {ks : List D} {d : D} {x : V} {u : Value} {ds : List (List D × D)} {ws : List (Value × Value)} (hb : H b = some (.tup vs)) (hk : Dens K P H ks vs) (hd : Den K P H d x) (r : RelV x u) (t : KPs K P H ds ws) : KPs K P H ((ks, d) :: ds) ((.ref b, u) :: ws)
def PPK (X : Cx) (pos : Pos) (keys : List (Option Expr)) (values : List Expr) (t : Ro → (List (List D × D) → Prop) → Prop) : Prop :=
  ∀ (pins : List (Addr × Obj)) (s : Shared) (σ : St) (H : Hp) (W : Own) (ρ : Ro) (Q : List (List D × D) → Prop), Inv X pins σ H s → Rel X W H σ ρ → t ρ Q →
    wpAny (model X.prog X.w) X.A (evalPairs (pairTrees keys values X.env pos)) (fun ws s' => ∃ H' ds, Inv X pins σ H' s' ∧ Same H H' ∧ KPs X.K W.bad H' ds ws ∧ Q ds) X.xe s
section
variable {X : Cx} {pos : Pos}
def dkNil : Ro → (List (List D × D) → Prop) → Prop := fun _ Q => Q []
def dkCons (tk tv : DE) (t : Ro → (List (List D × D) → Prop) → Prop) : Ro → (List (List D × D) → Prop) → Prop := fun ρ Q => tk ρ fun k => ∃ ks, k = .tup ks ∧ tv ρ fun v => t ρ fun r => Q ((ks, v) :: r)
inductive KPi (H : Hp) : List (List Key × Int) → List (Value × Value) → Prop
  | nil : KPi H [] []
  | cons {b : Addr} {k : List Key} {n : Int} {u : Value} {ds : List (List Key × Int)} {ws : List (Value × Value)} (hb : H b = some (.tup (k.map kV))) (r : RelV (.int n) u) (t : KPi H ds ws) : KPi H ((k, n) :: ds) ((.ref b, u) :: ws)
theorem KPs.ints {K : PySem.W.Frag} {P : Bool → Addr → Prop} {H : Hp} : ∀ {kns : List (List Key × Int)} {ws : List (Value × Value)}, KPs K P H (kns.map fun kn => (kn.1.map keyD, D.int kn.2)) ws → KPi H kns ws
  | [], _, h => by rw [List.map_nil] at h; cases h; exact .nil
  | kn :: r, _, h => by
    rw [List.map_cons] at h
    cases h with
    | cons hb hk hd ru t =>
      have e := dens_keys hk
      subst e
      have e2 := hd.int_
      subst e2
      exact .cons hb ru t.ints
theorem KPi.keep {H : Hp} {a : Addr} {kws kws' : List (List Key × V)} (ha : H a = some (.dT kws)) : ∀ {kns : List (List Key × Int)} {ws : List (Value × Value)}, KPi H kns ws → KPi (L2.upd H a (.dT kws')) kns ws
  | _, _, .nil => .nil
  | _, _, .cons hb r t => .cons (by rw [upd_ne (ne_of hb ha (fun z => nomatch z))]; exact hb) r (t.keep ha)
def dOwnDtL (i : Nat) (t : Ro → (List (List D × D) → Prop) → Prop) : DS := fun E ρ => t ρ fun ps => ∃ kns : List (List Key × Int), ps = kns.map (fun kn => (kn.1.map keyD, D.int kn.2)) ∧ kns.length ≤ 15 ∧ (kns.map (·.1)).Nodup ∧ E.nx (ρ.set i (some (.ob (.dt (kns.map fun kn => (kn.1, D.int kn.2))))))
end
end PD
namespace PZ
open PySem PySem.Spec PyProof.Rows
abbrev IsTri (h : Heap) (T : Addr) (a b c : Value) : Prop := h.get? T = some { cls := .type "tuple", data := .seq #[a, b, c] }
structure Ap3 (z TI TO i1 i2 i3 : Addr) : Prop where
  a1 : TI ≠ z
  a2 : TO ≠ z
  a3 : i1 ≠ z
  a4 : i2 ≠ z
  a5 : i3 ≠ z
  b1 : TI ≠ TO
  b2 : TI ≠ i1
  b3 : TI ≠ i2
  b4 : TI ≠ i3
  c1 : TO ≠ i1
  c2 : TO ≠ i2
  c3 : TO ≠ i3
  d1 : i1 ≠ i2
  d2 : i1 ≠ i3
  d3 : i2 ≠ i3
structure Out3 (z TO i1 i2 i3 l : Addr) : Prop where
  c1 : l ≠ z
  c2 : l ≠ TO
  c3 : l ≠ i1
  c4 : l ≠ i2
  c5 : l ≠ i3
structure ZSt3 (z TI TO i1 i2 i3 l1 l2 l3 : Addr) (i : Nat) (h : Heap) : Prop where
  z : IsZip h z TI TO .none
  ti : IsTri h TI (.ref i1) (.ref i2) (.ref i3)
  to : ∃ a b c, IsTri h TO a b c
  s1 : SIt true h i1 l1 i
  s2 : SIt true h i2 l2 i
  s3 : SIt true h i3 l3 i
end PZ
namespace PD
open PySem PySem.Spec PyProof.Rows L2 PZ
section
variable {X : Cx}
def tri (xs ys zs : List D) : List D := List.zipWith (fun f z => f z) (List.zipWith (fun x y z => D.tup [x, y, z]) xs ys) zs
def dZip3 (ta : DA) : DA := fun ρ R => ta ρ fun ds => ∃ t1 t2 t3 xs ys zs, ds = [.lst t1 xs, .lst t2 ys, .lst t3 zs] ∧ ys.length = xs.length ∧ zs.length = xs.length ∧ R (tri xs ys zs)
end
open PySem PySem.Spec PyProof.Rows L2
section
variable {X : Cx} {pos : Pos}
def liftT (X : Cx) (t : DT) : TT := fun σ H Q => ∃ W ρ Qd, Rel X W H σ ρ ∧ t ρ Qd ∧ ∀ k H', Same H H' → Qd k → Q k H'
theorem PTD.pt {e : Expr} {t : DT} (h : PTD X e t) : PT X e (liftT X t) := by
  intro pins s σ H Q I q
  obtain ⟨W, ρ, Qd, r, ht, k⟩ := q
  exact thn (h pins s σ H W ρ Qd I r ht) fun u s1 ⟨H', I1, e1, qd⟩ => ⟨H', I1, k u H' e1 qd⟩
def dForAsk (i iw : Nat) (tt : DT) : DS := fun E ρ => ∃ ds, ρ[i]? = some (some (.own ds)) ∧ ds ≠ [] ∧ (∀ d ∈ ds, tt (ρ.set iw (some (.val d))) fun k => k = false) ∧ ∀ d ∈ ds, E.nx (ρ.set iw (some (.val d)))
end
end PD
namespace ST
open PySem PySem.SetTable
def S : Nat → Nat
  | 0 => 0
  | n + 1 => 5 * S n + 1
theorem S_pow : ∀ n, 5 ^ n = 4 * S n + 1
  | 0 => rfl
  | n + 1 => by rw [Nat.pow_succ, S_pow n]; show _ = 4 * (5 * S n + 1) + 1; omega
theorem S_add (m : Nat) : ∀ n, S (n + m) = 5 ^ m * S n + S m
  | 0 => by simp [S]
  | n + 1 => by
    rw [show n + 1 + m = (n + m) + 1 by omega]
    show 5 * S (n + m) + 1 = 5 ^ m * (5 * S n + 1) + S m
    rw [S_add m n, S_pow m]
    grind
theorem S_two : ∀ k, ∃ o, S (2 ^ k) = 2 ^ k * (2 * o + 1)
  | 0 => ⟨0, rfl⟩
  | k + 1 => by
    obtain ⟨o, e⟩ := S_two k
    refine ⟨o + (2 * o + 1) * (2 ^ k * (2 * o + 1)), ?_⟩
    rw [show 2 ^ (k + 1) = 2 ^ k + 2 ^ k by rw [Nat.pow_succ]; omega, S_add, S_pow, e]
    grind
theorem round : ∀ (k x e : Nat), e < 2 ^ k → ∃ n, n < 2 ^ k ∧ (5 ^ n * x + S n) % 2 ^ k = e
  | 0, x, e, h => ⟨0, by decide, by omega⟩
  | k + 1, x, e, h => by
    obtain ⟨n, hn, q⟩ := round k x (e % 2 ^ k) (Nat.mod_lt _ (Nat.two_pow_pos k))
    obtain ⟨o, eo⟩ := S_two k
    have hp := Nat.two_pow_pos k
    have h2 : 2 ^ (k + 1) = 2 * 2 ^ k := by rw [Nat.pow_succ]; omega
    generalize hv : 5 ^ n * x + S n = v at q
    have nxt : 5 ^ (n + 2 ^ k) * x + S (n + 2 ^ k) = v + 2 ^ k + 2 ^ (k + 1) * (o + 2 * (2 * o + 1) * v) := by
      rw [S_add, Nat.pow_add, S_pow (2 ^ k), eo, h2, ← hv]
      grind
    generalize 2 ^ k = p at *
    rw [h2] at h ⊢
    by_cases z : v % (2 * p) = e
    · exact ⟨n, by omega, by rw [hv]; exact z⟩
    · refine ⟨n + p, by omega, ?_⟩
      rw [nxt, h2, Nat.add_mul_mod_self_left]
      have a1 : v % (2 * p) % p = v % p := Nat.mod_mul_left_mod v 2 p
      have l1 : v % (2 * p) < 2 * p := Nat.mod_lt _ (by omega)
      rw [Nat.add_mod, Nat.mod_eq_of_lt (show p < 2 * p by omega)]
      generalize v % (2 * p) = u at *
      have eu : u = u % p ∨ u = u % p + p := by
        by_cases c : u < p
        · left; rw [Nat.mod_eq_of_lt c]
        · right
          have : u % p = u - p := by rw [Nat.mod_eq_sub_mod (by omega), Nat.mod_eq_of_lt (by omega)]
          omega
      have ee : e = e % p ∨ e = e % p + p := by
        by_cases c : e < p
        · left; rw [Nat.mod_eq_of_lt c]
        · right
          have : e % p = e - p := by rw [Nat.mod_eq_sub_mod (by omega), Nat.mod_eq_of_lt (by omega)]
          omega
      have lt : e % p < p := Nat.mod_lt _ hp
      rcases eu with eu | eu <;> rcases ee with ee | ee
      · omega
      · rw [Nat.mod_eq_of_lt (by omega)]; omega
      · rw [Nat.mod_eq_sub_mod (by omega), Nat.mod_eq_of_lt (by omega)]; omega
      · omega
def runs (mask : Nat) : Nat → Nat → Nat → List Nat
  | 0, _, _ => []
  | c + 1, i, pt => List.range' i (runEnd mask i + 1 - i) ++ runs mask c (leap mask i pt).1 (leap mask i pt).2
theorem runs_succ (mask c i pt : Nat) : runs mask (c + 1) i pt = List.range' i (runEnd mask i + 1 - i) ++ runs mask c (leap mask i pt).1 (leap mask i pt).2 := rfl
def visits (mask : Nat) (h : Int) : List Nat := runs mask (turns mask) (bits h % (mask + 1)) (bits h)
theorem runEnd_le {mask i : Nat} (h : i ≤ mask) : i ≤ runEnd mask i ∧ runEnd mask i ≤ mask ∧ runEnd mask i ≤ i + 9 := by unfold runEnd; split <;> omega
theorem leap_le (mask i pt : Nat) : (leap mask i pt).1 ≤ mask := by
  have : (leap mask i pt).1 < mask + 1 := Nat.mod_lt _ (Nat.succ_pos _)
  omega
theorem runs_le {mask : Nat} : ∀ {c i pt : Nat}, i ≤ mask → ∀ x ∈ runs mask c i pt, x ≤ mask
  | 0, _, _, _, x, h => by cases h
  | c + 1, i, pt, hi, x, h => by
    rcases List.mem_append.mp h with z | z
    · rw [List.mem_range'_1] at z
      have := runEnd_le hi
      omega
    · exact runs_le (leap_le _ _ _) x z
def leaps (mask : Nat) : Nat → Nat × Nat → Nat × Nat
  | 0, p => p
  | n + 1, p => leaps mask n (leap mask p.1 p.2)
theorem runs_leaps {mask : Nat} : ∀ {n c i pt : Nat}, ∀ x ∈ runs mask c (leaps mask n (i, pt)).1 (leaps mask n (i, pt)).2, x ∈ runs mask (n + c) i pt
  | 0, c, i, pt, x, h => by rw [Nat.zero_add]; exact h
  | n + 1, c, i, pt, x, h => by
    have := runs_leaps (n := n) (c := c) (i := (leap mask i pt).1) (pt := (leap mask i pt).2) x h
    rw [show n + 1 + c = (n + c) + 1 by omega]
    exact List.mem_append_right _ this
theorem runs_head {mask c i pt : Nat} (h : i ≤ mask) : i ∈ runs mask (c + 1) i pt := by
  refine List.mem_append_left _ ?_
  rw [List.mem_range'_1]
  have := runEnd_le h
  omega
theorem leaps_pt (mask : Nat) : ∀ (n : Nat) (p : Nat × Nat), (leaps mask n p).2 = p.2 / 32 ^ n
  | 0, p => by simp [leaps]
  | n + 1, p => by
    show (leaps mask n (leap mask p.1 p.2)).2 = _
    rw [leaps_pt mask n]
    show p.2 / 32 / 32 ^ n = _
    rw [Nat.div_div_eq_div_mul, Nat.pow_succ, Nat.mul_comm]
theorem leaps_zero {mask k : Nat} (hk : mask + 1 = 2 ^ k) : ∀ (n i : Nat), i ≤ mask → (leaps mask n (i, 0)).1 = (5 ^ n * i + S n) % 2 ^ k
  | 0, i, h => by
    show i = _
    rw [Nat.pow_zero, Nat.one_mul]
    show i = (i + 0) % 2 ^ k
    rw [Nat.add_zero, Nat.mod_eq_of_lt (by omega)]
  | n + 1, i, h => by
    have e : leap mask i 0 = ((i * 5 + 1) % (mask + 1), 0) := by unfold leap; simp
    show (leaps mask n (leap mask i 0)).1 = _
    rw [e, leaps_zero hk n _ (by have := Nat.mod_lt (i * 5 + 1) (show 0 < mask + 1 by omega); omega), hk]
    have a : (5 ^ n * ((i * 5 + 1) % 2 ^ k) + S n) % 2 ^ k = (5 ^ n * (i * 5 + 1) + S n) % 2 ^ k := by
      rw [Nat.add_mod, Nat.mul_mod, Nat.mod_mod, ← Nat.mul_mod, ← Nat.add_mod]
    rw [a, Nat.pow_succ]
    congr 1
    show _ = 5 ^ n * 5 * i + (5 * S n + 1)
    have := S_pow n
    rw [this]
    grind
theorem leaps_add (mask : Nat) : ∀ (m n : Nat) (p : Nat × Nat), leaps mask (m + n) p = leaps mask n (leaps mask m p)
  | 0, n, p => by rw [Nat.zero_add]; rfl
  | m + 1, n, p => by
    rw [show m + 1 + n = (m + n) + 1 by omega]
    exact leaps_add mask m n _
theorem leaps_le (mask : Nat) : ∀ (n : Nat) (p : Nat × Nat), p.1 ≤ mask → (leaps mask n p).1 ≤ mask
  | 0, _, h => h
  | n + 1, p, _ => leaps_le mask n _ (leap_le _ _ _)
theorem cover {mask k : Nat} (hk : mask + 1 = 2 ^ k) (h : Int) {e : Nat} (he : e ≤ mask) : e ∈ visits mask h := by
  have hb : bits h < 2 ^ 64 := by
    unfold bits
    have := Int.emod_lt_of_pos h (show (0 : Int) < 2 ^ 64 by decide)
    have := Int.emod_nonneg h (show (2 ^ 64 : Int) ≠ 0 by decide)
    omega
  have hi : bits h % (mask + 1) ≤ mask := by have := Nat.mod_lt (bits h) (show 0 < mask + 1 by omega); omega
  generalize hp : (bits h % (mask + 1), bits h) = p
  have p1 : p.1 ≤ mask := by rw [← hp]; exact hi
  have z : (leaps mask 13 p).2 = 0 := by
    rw [leaps_pt, ← hp]
    exact Nat.div_eq_of_lt (Nat.lt_of_lt_of_le hb (by decide))
  have q1 := leaps_le mask 13 p p1
  obtain ⟨n, hn, en⟩ := round k (leaps mask 13 p).1 e (by omega)
  have ee : (leaps mask (13 + n) p).1 = e := by
    rw [leaps_add]
    have : leaps mask 13 p = ((leaps mask 13 p).1, 0) := Prod.ext rfl z
    rw [this, leaps_zero hk n _ q1]
    exact en
  have := runs_leaps (mask := mask) (n := 13 + n) (c := (mask - n) + 2) (i := bits h % (mask + 1)) (pt := bits h) e (by
    have hp' : (bits h % (mask + 1), bits h) = p := hp
    rw [hp', ee]
    exact runs_head he)
  unfold visits turns
  rw [show mask + 15 = 13 + n + (mask - n + 2) by omega]
  exact this
def Rise (xs : Array Nat) : Prop := ∀ a b : Nat, a < b → b < xs.size → xs.getD a 0 < xs.getD b 0
theorem below_go {xs : Array Nat} {j : Nat} (hr : Rise xs) : ∀ (fuel lo hi : Nat), lo ≤ hi → hi ≤ xs.size → hi - lo ≤ fuel → (∀ a, a < lo → xs.getD a 0 < j) → (∀ a, hi ≤ a → a < xs.size → j ≤ xs.getD a 0) →
    (below.go xs j fuel lo hi ≤ xs.size) ∧ (∀ a, a < below.go xs j fuel lo hi → xs.getD a 0 < j) ∧ ∀ a, below.go xs j fuel lo hi ≤ a → a < xs.size → j ≤ xs.getD a 0
  | 0, lo, hi, h1, h2, h3, h4, h5 => by
    have : lo = hi := by omega
    subst this
    exact ⟨h2, h4, h5⟩
  | fuel + 1, lo, hi, h1, h2, h3, h4, h5 => by
    unfold below.go
    by_cases hlt : lo < hi
    · rw [if_pos hlt]
      have hm : (lo + hi) / 2 < hi ∧ lo ≤ (lo + hi) / 2 := by omega
      have hg : xs.getD ((lo + hi) / 2) j = xs.getD ((lo + hi) / 2) 0 := by
        have : (lo + hi) / 2 < xs.size := by omega
        simp [Array.getD, this]
      simp only [hg]
      split
      · rename_i z
        refine below_go hr fuel _ hi (by omega) h2 (by omega) (fun a ha => ?_) h5
        by_cases e : a = (lo + hi) / 2
        · rw [e]; exact z
        · exact Nat.lt_trans (hr a ((lo + hi) / 2) (by omega) (by omega)) z
      · rename_i z
        refine below_go hr fuel lo _ (by omega) (by omega) (by omega) h4 fun a ha hs => ?_
        by_cases e : a = (lo + hi) / 2
        · rw [e]; omega
        · have := hr ((lo + hi) / 2) a (by omega) hs
          omega
    · rw [if_neg hlt]
      have : lo = hi := by omega
      subst this
      exact ⟨h2, h4, h5⟩
theorem below_spec {xs : Array Nat} (hr : Rise xs) (j : Nat) : below xs j ≤ xs.size ∧ (∀ a, a < below xs j → xs.getD a 0 < j) ∧ ∀ a, below xs j ≤ a → a < xs.size → j ≤ xs.getD a 0 :=
  below_go hr xs.size 0 xs.size (Nat.zero_le _) (Nat.le_refl _) (by omega) (fun a h => absurd h (Nat.not_lt_zero _)) fun a h h' => by omega
theorem getD_of {xs : Array Nat} {a x : Nat} (h : xs[a]? = some x) : xs.getD a 0 = x ∧ a < xs.size := by
  obtain ⟨l, e⟩ := Array.getElem?_eq_some_iff.mp h
  exact ⟨by simp [Array.getD, l, e], l⟩
theorem get_of {xs : Array Nat} {a : Nat} (h : a < xs.size) : xs[a]? = some (xs.getD a 0) := by simp [Array.getD, h]
def ahead (mask : Nat) (c : Nat) (p : Probe) : List Nat := List.range' p.j (p.more + 1) ++ runs mask c (leap mask p.i p.perturb).1 (leap mask p.i p.perturb).2
structure Tab (t : SetTable) (hs : List Int) : Prop where
  k : ∃ k, t.mask + 1 = 2 ^ (k + 1)
  rise : Rise t.place
  le : ∀ x ∈ t.place.toList, x ≤ t.mask
  dum : t.dummies = #[]
  len : t.place.size = hs.length
  room : t.place.size ≤ t.mask
  reach : ∀ (a x : Nat) (h : Int), t.place[a]? = some x → hs[a]? = some h → ∃ pre post, visits t.mask h = pre ++ x :: post ∧ ∀ y ∈ pre, y ∈ t.place.toList
theorem Tab.stays {t : SetTable} {hs : List Int} (T : Tab t hs) : t.gaveWay = false := by
  obtain ⟨k, e⟩ := T.k
  unfold SetTable.gaveWay
  rw [Nat.pow_succ] at e
  have : t.mask % 2 = 1 := by omega
  rw [this]
  rfl
theorem rise_inj {xs : Array Nat} (hr : Rise xs) {a b x y : Nat} (ha : xs[a]? = some x) (hb : xs[b]? = some y) (h : x < y) : a < b := by
  obtain ⟨e1, l1⟩ := getD_of ha
  obtain ⟨e2, l2⟩ := getD_of hb
  rcases Nat.lt_trichotomy a b with z | z | z
  · exact z
  · subst z; omega
  · have := hr b a z l1
    omega
theorem mem_get {xs : Array Nat} {x : Nat} (h : x ∈ xs.toList) : ∃ a : Nat, xs[a]? = some x := by
  obtain ⟨a, hla, ea⟩ := List.getElem_of_mem h
  exact ⟨a, by rw [← Array.getElem?_toList, List.getElem?_eq_getElem hla, ea]⟩
theorem get_mem {xs : Array Nat} {a x : Nat} (h : xs[a]? = some x) : x ∈ xs.toList := by
  obtain ⟨l, q⟩ := Array.getElem?_eq_some_iff.mp h
  rw [← q]
  exact Array.getElem_mem_toList l
theorem free_ex {xs : Array Nat} (hr : Rise xs) {mask : Nat} (hs : xs.size ≤ mask) : ∃ e, e ≤ mask ∧ e ∉ xs.toList := by
  refine Classical.byContradiction fun no => ?_
  have all : ∀ e, e ≤ mask → e ∈ xs.toList := fun e he => Classical.byContradiction fun n => no ⟨e, he, n⟩
  have up : ∀ j, j ≤ mask → ∃ a, xs[a]? = some j ∧ j ≤ a := by
    intro j
    induction j with
    | zero => intro h; obtain ⟨a, ha⟩ := mem_get (all 0 h); exact ⟨a, ha, Nat.zero_le _⟩
    | succ j ih =>
      intro h
      obtain ⟨a, ha, hja⟩ := ih (by omega)
      obtain ⟨b, hb⟩ := mem_get (all (j + 1) h)
      have := rise_inj hr ha hb (by omega)
      exact ⟨b, hb, by omega⟩
  obtain ⟨a, ha, hm⟩ := up mask (Nat.le_refl _)
  have := (getD_of ha).2
  omega
theorem Tab.empty {t : SetTable} {hs : List Int} (T : Tab t hs) (h : Int) : ∃ x ∈ visits t.mask h, x ∉ t.place.toList := by
  obtain ⟨e, he, ne⟩ := free_ex T.rise T.room
  obtain ⟨k, hk⟩ := T.k
  exact ⟨e, cover hk h he, ne⟩
theorem visits_le (mask : Nat) (h : Int) : ∀ x ∈ visits mask h, x ≤ mask := runs_le (by have := Nat.mod_lt (bits h) (show 0 < mask + 1 by omega); omega)
theorem ins_list {α : Type} (xs : Array α) (p : Nat) (x : α) : (insertAt xs p x).toList = xs.toList.take p ++ x :: xs.toList.drop p := by
  unfold insertAt
  simp
  exact List.take_of_length_le (by rw [List.length_drop, Array.length_toList]; exact Nat.le_refl _)
theorem get_ins {α : Type} {l : List α} {p : Nat} (hp : p ≤ l.length) (x : α) (a : Nat) : (l.take p ++ x :: l.drop p)[a]? = if a < p then l[a]? else if a = p then some x else l[a - 1]? := by
  by_cases h : a < p
  · rw [if_pos h, List.getElem?_append_left (by rw [List.length_take]; omega), List.getElem?_take, if_pos h]
  · rw [if_neg h, List.getElem?_append_right (by rw [List.length_take]; omega), List.length_take, Nat.min_eq_left hp]
    by_cases e : a = p
    · rw [if_pos e, e, Nat.sub_self]; rfl
    · rw [if_neg e, show a - p = (a - p - 1) + 1 by omega, List.getElem?_cons_succ, List.getElem?_drop, show p + (a - p - 1) = a - 1 by omega]
theorem Tab.put {t : SetTable} {hs : List Int} (T : Tab t hs) {h : Int} {j : Nat} {pre post : List Nat} (hj : j ∉ t.place.toList) (hv : visits t.mask h = pre ++ j :: post) (hp : ∀ y ∈ pre, y ∈ t.place.toList) (hroom : t.place.size + 1 ≤ t.mask) :
    Tab (t.put j).1 (hs.take (t.put j).2 ++ h :: hs.drop (t.put j).2) ∧ (t.put j).2 ≤ hs.length ∧ (t.put j).1.mask = t.mask ∧ (t.put j).1.place.size = t.place.size + 1 := by
  have e1 : (t.put j).1.place = insertAt t.place (below t.place j) j := rfl
  have e2 : (t.put j).2 = below t.place j := rfl
  have e3 : (t.put j).1.mask = t.mask := rfl
  have e4 : (t.put j).1.dummies = #[] := by
    show (if has t.dummies j then _ else t.dummies) = _
    rw [T.dum]
    have : has #[] j = false := by unfold has; simp
    rw [this]
    rfl
  obtain ⟨b1, b2, b3⟩ := below_spec T.rise j
  have bp : below t.place j ≤ t.place.toList.length := by rw [Array.length_toList]; exact b1
  have bh : below t.place j ≤ hs.length := by rw [← T.len]; exact b1
  have gl : ∀ a, (t.put j).1.place[a]? = if a < below t.place j then t.place[a]? else if a = below t.place j then some j else t.place[a - 1]? := fun a => by
    rw [e1, ← Array.getElem?_toList, ins_list, get_ins bp, Array.getElem?_toList, Array.getElem?_toList]
  have sz : (t.put j).1.place.size = t.place.size + 1 := by
    rw [e1, ← Array.length_toList, ins_list, List.length_append, List.length_take, List.length_cons, List.length_drop, Array.length_toList]
    omega
  have mem : ∀ x, x ∈ (t.put j).1.place.toList ↔ x = j ∨ x ∈ t.place.toList := fun x => by
    rw [e1, ins_list, List.mem_append, List.mem_cons]
    constructor
    · rintro (z | z | z)
      · exact .inr (List.mem_of_mem_take z)
      · exact .inl z
      · exact .inr (List.mem_of_mem_drop z)
    · rintro (z | z)
      · exact .inr (.inl z)
      · rw [← List.take_append_drop (below t.place j) t.place.toList] at z
        rcases List.mem_append.mp z with q | q
        · exact .inl q
        · exact .inr (.inr q)
  refine ⟨⟨T.k, ?_, ?_, e4, ?_, by rw [sz]; exact hroom, ?_⟩, bh, e3, sz⟩
  · intro a b hab hb
    rw [sz] at hb
    have ga := get_of (xs := (t.put j).1.place) (a := a) (by rw [sz]; omega)
    have gb := get_of (xs := (t.put j).1.place) (a := b) (by rw [sz]; exact hb)
    rw [gl a] at ga
    rw [gl b] at gb
    have jn : ∀ c, c < t.place.size → t.place.getD c 0 ≠ j := fun c hc e => hj (by rw [← e]; exact get_mem (get_of hc))
    by_cases a1 : a < below t.place j
    · rw [if_pos a1] at ga
      obtain ⟨ea, la⟩ := getD_of ga
      have := b2 a a1
      by_cases c1 : b < below t.place j
      · rw [if_pos c1] at gb
        obtain ⟨eb, lb⟩ := getD_of gb
        have := T.rise a b hab lb
        omega
      · rw [if_neg c1] at gb
        by_cases c2 : b = below t.place j
        · rw [if_pos c2] at gb
          have := Option.some.inj gb
          omega
        · rw [if_neg c2] at gb
          obtain ⟨eb, lb⟩ := getD_of gb
          have := T.rise a (b - 1) (by omega) lb
          omega
    · rw [if_neg a1] at ga
      have c1 : ¬ b < below t.place j := by omega
      have c2 : ¬ b = below t.place j := by omega
      rw [if_neg c1, if_neg c2] at gb
      obtain ⟨eb, lb⟩ := getD_of gb
      by_cases a2 : a = below t.place j
      · rw [if_pos a2] at ga
        have := Option.some.inj ga
        have := b3 (b - 1) (by omega) lb
        have := jn (b - 1) lb
        omega
      · rw [if_neg a2] at ga
        obtain ⟨ea, la⟩ := getD_of ga
        have := T.rise (a - 1) (b - 1) (by omega) lb
        omega
  · intro x hx
    rcases (mem x).mp hx with z | z
    · subst z
      exact visits_le t.mask h x (by rw [hv]; simp)
    · exact T.le x z
  · rw [sz, e2, List.length_append, List.length_take, List.length_cons, List.length_drop, ← T.len]
    omega
  · intro a x h' hx hh
    rw [gl a] at hx
    rw [e2, get_ins bh] at hh
    have up : ∀ {l : List Nat}, (∀ y ∈ l, y ∈ t.place.toList) → ∀ y ∈ l, y ∈ (t.put j).1.place.toList := fun hl y hy => (mem y).mpr (.inr (hl y hy))
    by_cases a1 : a < below t.place j
    · rw [if_pos a1] at hx hh
      obtain ⟨p1, p2, q1, q2⟩ := T.reach a x h' hx hh
      exact ⟨p1, p2, q1, up q2⟩
    · rw [if_neg a1] at hx hh
      by_cases a2 : a = below t.place j
      · rw [if_pos a2] at hx hh
        cases hx
        cases hh
        exact ⟨pre, post, hv, up hp⟩
      · rw [if_neg a2] at hx hh
        obtain ⟨p1, p2, q1, q2⟩ := T.reach (a - 1) x h' hx hh
        exact ⟨p1, p2, q1, up q2⟩
theorem free_find (mask : Nat) (owner : Array (Option Nat)) : ∀ (fuel i pt : Nat), layClean.free mask owner fuel i pt = (runs mask fuel i pt).find? fun y => (owner.getD y (some 0)).isNone
  | 0, _, _ => rfl
  | fuel + 1, i, pt => by
    rw [runs_succ, List.find?_append, List.range'_eq_map_range, List.find?_map]
    unfold layClean.free
    have ih := free_find mask owner fuel (leap mask i pt).1 (leap mask i pt).2
    have ef : ((fun y => (owner.getD y (some 0)).isNone) ∘ fun x => i + x) = fun k => (owner.getD (i + k) (some 0)).isNone := rfl
    rw [ef]
    cases (List.range (runEnd mask i + 1 - i)).find? fun k => (owner.getD (i + k) (some 0)).isNone with
    | some k => rfl
    | none => exact ih
structure Ow (mask : Nat) (hs : List Int) (owner : Array (Option Nat)) : Prop where
  size : owner.size = mask + 1
  cnt : (owner.toList.filter Option.isSome).length = hs.length
  at_ : ∀ (i : Nat) (h : Int), hs[i]? = some h → ∃ j : Nat, owner[j]? = some (some i) ∧ ∃ pre post, visits mask h = pre ++ j :: post ∧ ∀ y ∈ pre, ∃ q, owner[y]? = some (some q)
  lt : ∀ j i : Nat, owner[j]? = some (some i) → i < hs.length
  inj : ∀ j j' i : Nat, owner[j]? = some (some i) → owner[j']? = some (some i) → j = j'
theorem find_split {α : Type} {p : α → Bool} : ∀ {l : List α} {x : α}, l.find? p = some x → ∃ pre post, l = pre ++ x :: post ∧ p x = true ∧ ∀ y ∈ pre, p y = false
  | [], _, h => by cases h
  | a :: r, x, h => by
    rw [List.find?_cons] at h
    cases pa : p a with
    | true => rw [pa] at h; cases h; exact ⟨[], r, rfl, pa, by simp⟩
    | false =>
      rw [pa] at h
      obtain ⟨pre, post, e, q1, q2⟩ := find_split h
      refine ⟨a :: pre, post, by rw [e]; rfl, q1, fun y hy => ?_⟩
      rcases List.mem_cons.mp hy with z | z
      · rw [z]; exact pa
      · exact q2 y z
theorem filter_set {α : Type} {p : α → Bool} : ∀ {l : List α} {j : Nat} {a b : α}, l[j]? = some a → p a = false → p b = true → ((l.set j b).filter p).length = (l.filter p).length + 1
  | [], _, _, _, h, _, _ => by simp at h
  | x :: r, 0, a, b, h, ha, hb => by
    simp at h
    subst h
    rw [List.set_cons_zero, List.filter_cons_of_pos hb, List.filter_cons_of_neg (by simp [ha]), List.length_cons]
  | x :: r, j + 1, a, b, h, ha, hb => by
    have ih := filter_set (l := r) (j := j) (by simpa using h) ha hb
    rw [List.set_cons_succ]
    by_cases c : p x = true
    · rw [List.filter_cons_of_pos c, List.filter_cons_of_pos c, List.length_cons, List.length_cons, ih]
    · rw [List.filter_cons_of_neg c, List.filter_cons_of_neg c, ih]
theorem Ow.step {mask k : Nat} (hk : mask + 1 = 2 ^ k) {hs : List Int} {owner : Array (Option Nat)} (O : Ow mask hs owner) (hn : hs.length ≤ mask) (h : Int) :
    ∃ j, layClean.free mask owner (turns mask) (bits h % (mask + 1)) (bits h) = some j ∧ Ow mask (hs ++ [h]) (owner.setIfInBounds j (some hs.length)) := by
  have ex : ∃ e : Nat, e ≤ mask ∧ owner[e]? = some none := by
    refine Classical.byContradiction fun no => ?_
    have all : ∀ x ∈ owner.toList, Option.isSome x = true := fun x hx => by
      obtain ⟨e, le, ee⟩ := List.getElem_of_mem hx
      rw [Array.length_toList, O.size] at le
      cases x with
      | some _ => rfl
      | none => exact absurd ⟨e, by omega, by rw [← Array.getElem?_toList, List.getElem?_eq_getElem (by rw [Array.length_toList, O.size]; exact le), ee]⟩ no
    have := O.cnt
    rw [List.filter_eq_self.mpr all, Array.length_toList, O.size] at this
    omega
  have emp : ∀ y, y ≤ mask → ((owner.getD y (some 0)).isNone = true ↔ owner[y]? = some none) := fun y hy => by
    have l : y < owner.size := by rw [O.size]; omega
    rw [Array.getElem?_eq_getElem l]
    simp [Array.getD, l]
  obtain ⟨e, he, ee⟩ := ex
  have fs : ((visits mask h).find? fun y => (owner.getD y (some 0)).isNone).isSome = true := by
    rw [List.find?_isSome]
    exact ⟨e, cover hk h he, (emp e he).mpr ee⟩
  obtain ⟨j, fj⟩ := Option.isSome_iff_exists.mp fs
  obtain ⟨pre, post, ev, pj, pp⟩ := find_split fj
  have jm : j ≤ mask := visits_le mask h j (by rw [ev]; simp)
  have oj := (emp j jm).mp pj
  have jl : j < owner.size := by rw [O.size]; omega
  refine ⟨j, by rw [free_find]; exact fj, ?_⟩
  have gs : ∀ y : Nat, (owner.setIfInBounds j (some hs.length))[y]? = if j = y then some (some hs.length) else owner[y]? := fun y => by
    rw [Array.getElem?_setIfInBounds]
    by_cases c : j = y
    · rw [if_pos c, if_pos c, if_pos jl]
    · rw [if_neg c, if_neg c]
  have keep : ∀ (y q : Nat), owner[y]? = some (some q) → (owner.setIfInBounds j (some hs.length))[y]? = some (some q) := fun y q hy => by
    rw [gs, if_neg (fun c => by subst c; rw [oj] at hy; cases hy)]
    exact hy
  refine ⟨by rw [Array.size_setIfInBounds]; exact O.size, ?_, ?_, ?_, ?_⟩
  · rw [Array.toList_setIfInBounds, filter_set (a := none) (by rw [Array.getElem?_toList]; exact oj) rfl rfl, O.cnt, List.length_append]
    rfl
  · intro i h' hi
    by_cases c : i < hs.length
    · rw [List.getElem?_append_left c] at hi
      obtain ⟨j', o', p1, p2, q1, q2⟩ := O.at_ i h' hi
      exact ⟨j', keep _ _ o', p1, p2, q1, fun y hy => let ⟨q, z⟩ := q2 y hy; ⟨q, keep _ _ z⟩⟩
    · rw [List.getElem?_append_right (by omega)] at hi
      have ei : i = hs.length := by
        have := (List.getElem?_eq_some_iff.mp hi).1
        simp at this
        omega
      subst ei
      simp at hi
      subst hi
      refine ⟨j, by rw [gs, if_pos rfl], pre, post, ev, fun y hy => ?_⟩
      have ym : y ≤ mask := visits_le mask h y (by rw [ev]; simp [hy])
      have ny := pp y hy
      have yl : y < owner.size := by rw [O.size]; omega
      cases oy : owner[y] with
      | none =>
        have := (emp y ym).mpr (by rw [Array.getElem?_eq_getElem yl, oy])
        rw [this] at ny
        cases ny
      | some q => exact ⟨q, keep y q (by rw [Array.getElem?_eq_getElem yl, oy])⟩
  · intro y i hy
    rw [gs] at hy
    rw [List.length_append]
    by_cases c : j = y
    · rw [if_pos c] at hy
      cases hy
      simp
    · rw [if_neg c] at hy
      have := O.lt y i hy
      simp
      omega
  · intro y y' i hy hy'
    rw [gs] at hy hy'
    by_cases c : j = y <;> by_cases c' : j = y'
    · omega
    · rw [if_pos c] at hy
      rw [if_neg c'] at hy'
      cases hy
      have := O.lt y' _ hy'
      omega
    · rw [if_neg c] at hy
      rw [if_pos c'] at hy'
      cases hy'
      have := O.lt y _ hy
      omega
    · rw [if_neg c] at hy
      rw [if_neg c'] at hy'
      exact O.inj y y' i hy hy'
theorem above_go : ∀ (fuel size n : Nat), n < size * 2 ^ fuel → ∃ m, sizeAbove.go n fuel size = size * 2 ^ m ∧ n < size * 2 ^ m
  | 0, size, n, h => ⟨0, by simp [sizeAbove.go], h⟩
  | fuel + 1, size, n, h => by
    unfold sizeAbove.go
    by_cases c : size ≤ n
    · rw [if_pos c]
      obtain ⟨m, e1, e2⟩ := above_go fuel (size * 2) n (by rw [Nat.pow_succ] at h; rw [Nat.mul_assoc, Nat.mul_comm 2]; exact h)
      refine ⟨m + 1, ?_, ?_⟩
      · rw [e1, Nat.pow_succ, Nat.mul_assoc, Nat.mul_comm 2]
      · rw [Nat.pow_succ, Nat.mul_comm (2 ^ m), ← Nat.mul_assoc]; exact e2
    · rw [if_neg c]
      exact ⟨0, by simp, by simp; omega⟩
theorem above {n : Nat} (h : n < 2 ^ 60) : ∃ k, sizeAbove n - 1 + 1 = 2 ^ (k + 1) ∧ n ≤ sizeAbove n - 1 := by
  obtain ⟨m, e1, e2⟩ := above_go 64 8 n (Nat.lt_of_lt_of_le h (by decide))
  have e : sizeAbove n = 8 * 2 ^ m := e1
  have hp := Nat.two_pow_pos m
  refine ⟨m + 2, ?_, by omega⟩
  rw [e, show 2 ^ (m + 2 + 1) = 8 * 2 ^ m by rw [Nat.pow_succ, Nat.pow_succ, Nat.pow_succ]; omega]
  omega
end ST
namespace SW
open PySem PySem.SetTable ST
section
variable {prog : Program} {w : World} {A : Around} {E : Value → Shared → Prop} {s : Shared}
abbrev TK (prog : Program) (w : World) : HeapKind prog w (List Int) := tupleKind (intKind prog w)
theorem items_int : ∀ {ks : List Int} {vs : List Value}, ItemsAre (intKind prog w) ks vs → ∀ v ∈ vs, ∃ n t, v = Value.int n t
  | _, _, .nil, v, h => by cases h
  | _, _, .cons h t, v, hv => by
    rcases List.mem_cons.mp hv with z | z
    · subst z
      obtain ⟨t, e⟩ := Value.isInt_shape h
      exact ⟨_, t, e⟩
    · exact items_int t v z
structure SetT (prog : Program) (w : World) (h : Heap) (a : Addr) (xs : List (List Int × Addr)) : Prop where
  ex : ∃ o es ep t, h.get? a = some o ∧ o.ExactSet ∧ o.data = .set es ep t ∧ es.toList = xs.map (fun x => ((TK prog w).hash x.1, Value.ref x.2)) ∧ Tab t (xs.map fun x => (TK prog w).hash x.1) ∧ (t.plain = true ∧ t.led = !w.params.followText "set-order") ∧ t.place.size * 5 < t.mask * 3 ∧ t.mask ≤ 8191
  is_ : ∀ x ∈ xs, (TK prog w).is h x.1 x.2
  nd : (xs.map (·.1)).Nodup
theorem SetT.ext {h h' : Heap} {a : Addr} {xs : List (List Int × Addr)} (S : SetT prog w h a xs) (e : ∀ o, h.get? a = some o → h'.get? a = some o) (hk : ∀ x ∈ xs, (TK prog w).is h' x.1 x.2) : SetT prog w h' a xs := by
  obtain ⟨⟨o, es, ep, t, ho, r⟩, _, nd⟩ := S
  exact ⟨⟨o, es, ep, t, e o ho, r⟩, hk, nd⟩
set_option maxHeartbeats 1000000 in
end
end SW
namespace SS
open PySem PySem.W PyProof.Rows
section
variable {r : Nat → Nat} {n : Nat}
def v (r : Nat → Nat) (p : Array Nat) (k : Nat) : Nat := r (p.getD k 0)
def S (r : Nat → Nat) (p : Array Nat) (k : Nat) : Prop := ∀ i j, i ≤ j → j < k → v r p i ≤ v r p j
def D (r : Nat → Nat) (p : Array Nat) (k : Nat) : Prop := ∀ i j, i ≤ j → j < k → v r p j ≤ v r p i
structure Ok (n : Nat) (p : Array Nat) : Prop where
  perm : p.Perm (List.toArray (List.range n))
theorem Ok.size {p : Array Nat} (h : Ok n p) : p.size = n := by have := h.perm.size_eq; simpa using this
theorem Ok.lt {p : Array Nat} (h : Ok n p) {k : Nat} (hk : k < n) : p.getD k 0 < n := by
  have hs := h.size
  have e : p.getD k 0 = p[k]'(by omega) := by simp [Array.getD, hs, hk]
  have m : p[k]'(by omega) ∈ p.toList := by simp
  have := (Array.perm_iff_toList_perm.mp h.perm).mem_iff.mp m
  rw [e]
  simpa using this
end
end SS
namespace TS
open PySem PyProof.Rows
structure Cmp (M : Model) (A : Around) (E : Value → Shared → Prop) (s : Shared) (r : Keyed → Nat) (Mem : Keyed → Prop) (k0 : SortKind) : Prop where
  lt : ∀ (x y : Keyed) (st : SortSt) (Q : Option Bool → SortSt → Prop), Mem x → Mem y → kindOf st = k0 → Q (some (decide (r x < r y))) st → wpS M A E s (lt' x y) Q st
structure Cut (B : Nat → Bool) (n k : Nat) : Prop where
  le : k ≤ n
  lo : ∀ i, i < k → B i = true
  hi : ∀ i, k ≤ i → i < n → B i = false
inductive GV (st : SortSt) (P : Nat → Nat → Prop) : Option (Option Nat) × Nat × Nat → SortSt → Prop
  | mk {l u : Nat} (p : P l u) : GV st P (none, l, u) st
structure G1 (B : Nat → Bool) (n hint : Nat) (D : Nat → Prop) (l u : Nat) : Prop where
  a1 : hint + l < n
  a2 : B (hint + l) = true
  a3 : l < u
  a4 : D u
structure G2 (B : Nat → Bool) (hint : Nat) (D : Nat → Prop) (l u : Nat) : Prop where
  a1 : l ≤ hint
  a2 : B (hint - l) = false
  a3 : l < u
  a4 : D u
structure G3 (B : Nat → Bool) (n x l u : Nat) : Prop where
  a1 : u ≤ n
  a2 : ∀ i, i < l → i < n → B i = true
  a3 : ∀ i, u ≤ i → i < n → B i = false
  a4 : l ≤ u
  a5 : u + x ≤ n + l
structure MI (R : Keyed → Keyed → Prop) (T o a b : List Keyed) : Prop where
  p : (o ++ (a ++ b)).Perm T
  so : o.Pairwise R
  sa : a.Pairwise R
  sb : b.Pairwise R
  oa : ∀ x ∈ o, ∀ y ∈ a, R x y
  ob : ∀ x ∈ o, ∀ y ∈ b, R x y
section
variable {R : Keyed → Keyed → Prop} {T o a b : List Keyed}
theorem MI.left {a1 a2 : List Keyed} (h : MI R T o (a1 ++ a2) b) (q : ∀ x ∈ a1, ∀ y ∈ b, R x y) : MI R T (o ++ a1) a2 b where
  p := by have := h.p; rw [List.append_assoc] at this; rw [List.append_assoc]; exact this
  so := List.pairwise_append.mpr ⟨h.so, (List.pairwise_append.mp h.sa).1, fun x hx y hy => h.oa x hx y (List.mem_append_left _ hy)⟩
  sa := (List.pairwise_append.mp h.sa).2.1
  sb := h.sb
  oa := fun x hx y hy => by
    rcases List.mem_append.mp hx with c | c
    · exact h.oa x c y (List.mem_append_right _ hy)
    · exact (List.pairwise_append.mp h.sa).2.2 x c y hy
  ob := fun x hx y hy => by
    rcases List.mem_append.mp hx with c | c
    · exact h.ob x c y hy
    · exact q x c y hy
theorem MI.swap (h : MI R T o a b) : MI R T o b a := ⟨(List.Perm.append_left _ List.perm_append_comm).trans h.p, h.so, h.sb, h.sa, h.ob, h.oa⟩
theorem MI.right {b1 b2 : List Keyed} (h : MI R T o a (b1 ++ b2)) (q : ∀ y ∈ b1, ∀ x ∈ a, R y x) : MI R T (o ++ b1) a b2 := (h.swap.left q).swap
theorem MI.last (h : MI R T o a b) (q : ∀ y ∈ b, ∀ x ∈ a, R y x) : (o ++ b ++ a).Pairwise R ∧ (o ++ b ++ a).Perm T := by
  have h' : MI R T o a (b ++ []) := by rw [List.append_nil]; exact h
  have m := h'.right q
  refine ⟨List.pairwise_append.mpr ⟨m.so, m.sa, m.oa⟩, ?_⟩
  have := m.p
  rw [List.append_nil] at this
  exact this
theorem MI.done (h : MI R T o a b) (q : a = [] ∨ b = []) : (o ++ a ++ b).Pairwise R ∧ (o ++ a ++ b).Perm T := h.swap.last fun x hx y hy => by
  rcases q with q | q
  · rw [q] at hx; cases hx
  · rw [q] at hy; cases hy
theorem MI.start (h : a.Pairwise R) (h' : b.Pairwise R) : MI R (a ++ b) [] a b := ⟨List.Perm.refl _, .nil, h, h', fun _ z => (by cases z), fun _ z => (by cases z)⟩
theorem MI.len (h : MI R T o a b) : o.length + a.length + b.length = T.length := by
  have := h.p.length_eq
  rw [List.length_append, List.length_append] at this
  omega
end
structure Like (st st' : SortSt) : Prop where
  k : kindOf st' = kindOf st
  a : arrOf st' = arrOf st
  p : pendingOf st' = pendingOf st
  f : failedOf st' = failedOf st
theorem Like.refl (st : SortSt) : Like st st := ⟨rfl, rfl, rfl, rfl⟩
section
variable {M : Model} {A : Around} {E : Value → Shared → Prop} {s : Shared} {r : Keyed → Nat} {Mem : Keyed → Prop} {k0 : SortKind}
inductive DG (l : List Keyed) (i : Nat) (t : Keyed → Prop) : Prop
  | mk (x : Keyed) (h : l[i]? = some x) (e : t x) (m : x ∈ l)
structure Mid (r : Keyed → Nat) (a b : Array Keyed) (o : Array Keyed) (i j : Nat) : Prop where
  m : MI (fun x y => r x ≤ r y) (a.toList ++ b.toList) o.toList (a.toList.drop i) (b.toList.drop j)
  hi : i + 1 < a.size
  hj : j < b.size
theorem Mid.sz {a b o : Array Keyed} {i j : Nat} (h : Mid r a b o i j) : i + j < a.size + b.size := Nat.add_lt_add (Nat.lt_of_succ_lt h.hi) h.hj
inductive VL {γ : Type} (st : SortSt) (M : Array Keyed → Nat → Nat → Prop) (P : Nat → Nat → Prop) : Option (Array Keyed) × Array Keyed × Nat × Nat × γ → SortSt → Prop
  | mk {o : Array Keyed} {i j : Nat} {g : γ} {st' : SortSt} (L : Like st st') (m : M o i j) (p : P i j) : VL st M P (none, o, i, j, g) st'
inductive VW {β : Type} (st : SortSt) (R : Array Keyed → Prop) : Option (Array Keyed) × β → SortSt → Prop
  | mk {w : Array Keyed} {q : β} {st' : SortSt} (L : Like st st') (h : R w) : VW st R (some w, q) st'
structure Mir (r : Keyed → Nat) (a b : Array Keyed) (o : Array Keyed) (i j : Nat) : Prop where
  m : MI (fun x y => r y ≤ r x) (a.toList ++ b.toList) o.toList (a.toList.take i).reverse (b.toList.take j).reverse
  h0 : 0 < i
  hi : i ≤ a.size
  h1 : 1 < j
  hj : j ≤ b.size
inductive VR {γ : Type} (st : SortSt) (M : Array Keyed → Nat → Nat → Prop) (P : Nat → Nat → Prop) : Option (Array Keyed) × Nat × Nat × Array Keyed × γ → SortSt → Prop
  | mk {o : Array Keyed} {i j : Nat} {g : γ} {st' : SortSt} (L : Like st st') (m : M o i j) (p : P i j) : VR st M P (none, i, j, o, g) st'
end
def rk (r : Keyed → Nat) (xs : Array Keyed) (i : Nat) : Nat := match xs[i]? with
  | some p => r p
  | none => 0
def Seg (r : Keyed → Nat) (xs : Array Keyed) (lo hi : Nat) : Prop := ∀ i j, lo ≤ i → i ≤ j → j < hi → rk r xs i ≤ rk r xs j
section
variable {r : Keyed → Nat} {xs : Array Keyed} {P W S : List Keyed}
theorem cut_at (xs : Array Keyed) {lo n : Nat} (h : lo + n ≤ xs.size) : ∃ P W S, xs.toList = P ++ (W ++ S) ∧ P.length = lo ∧ W.length = n := by
  refine ⟨xs.toList.take lo, (xs.toList.drop lo).take n, (xs.toList.drop lo).drop n, by rw [List.take_append_drop, List.take_append_drop], ?_, ?_⟩
  · rw [List.length_take]; exact Nat.min_eq_left (Nat.le_trans (Nat.le_add_right _ _) h)
  · rw [List.length_take, List.length_drop]; exact Nat.min_eq_left (Nat.le_sub_of_add_le' h)
end
section
variable {r : Keyed → Nat}
def Dn (r : Keyed → Nat) (xs : Array Keyed) (lo hi : Nat) : Prop := ∀ i j, lo ≤ i → i ≤ j → j < hi → rk r xs j ≤ rk r xs i
end
structure Nr (lo : Nat) (st st' : SortSt) : Prop where
  k : kindOf st' = kindOf st
  f : failedOf st' = failedOf st
  p : pendingOf st' = pendingOf st
  a : (arrOf st').Perm (arrOf st)
  fr : ∀ i, i < lo → (arrOf st')[i]? = (arrOf st)[i]?
theorem Nr.refl (lo : Nat) (st : SortSt) : Nr lo st st := ⟨rfl, rfl, rfl, Array.Perm.refl _, fun _ _ => rfl⟩
theorem Nr.size {lo : Nat} {st st' : SortSt} (h : Nr lo st st') : (arrOf st').size = (arrOf st).size := h.a.size_eq
theorem Nr.trans {lo : Nat} {st st' st2 : SortSt} (h : Nr lo st st') (g : Nr lo st' st2) : Nr lo st st2 := ⟨g.k.trans h.k, g.f.trans h.f, g.p.trans h.p, g.a.trans h.a, fun i hi => (g.fr i hi).trans (h.fr i hi)⟩
section
variable {M : Model} {A : Around} {E : Value → Shared → Prop} {s : Shared} {r : Keyed → Nat} {Mem : Keyed → Prop} {k0 : SortKind}
theorem Nr.mem {lo : Nat} {st st' : SortSt} (h : Nr lo st st') (hm : ∀ x ∈ (arrOf st).toList, Mem x) : ∀ x ∈ (arrOf st').toList, Mem x := fun x hx => hm x ((Array.perm_iff_toList_perm.mp h.a).mem_iff.mp hx)
theorem snoc {f : Nat → Nat → Prop} (rf : ∀ i, f i i) (tr : ∀ i j k, f i j → f j k → f i k) {lo x : Nat} (x1 : 1 ≤ x) (h : ∀ i j, lo ≤ i → i ≤ j → j < lo + x → f i j) (c : f (lo + x - 1) (lo + x)) : ∀ i j, lo ≤ i → i ≤ j → j < lo + (x + 1) → f i j := fun i j a b d => by
  cases x with
  | zero => cases x1
  | succ y =>
    rcases Nat.lt_or_eq_of_le (Nat.le_of_lt_succ d) with e | e
    · exact h i j a b e
    · rw [e] at b ⊢
      rcases Nat.lt_or_eq_of_le b with e | e
      · exact tr _ _ _ (h i (lo + y) a (Nat.le_of_lt_succ e) (Nat.lt_succ_self _)) c
      · rw [e]; exact rf _
theorem Seg.snoc {xs : Array Keyed} {e0 x : Nat} (x1 : 1 ≤ x) (h : Seg r xs e0 (e0 + x)) (c : rk r xs (e0 + x - 1) ≤ rk r xs (e0 + x)) : Seg r xs e0 (e0 + (x + 1)) := TS.snoc (f := fun i j => rk r xs i ≤ rk r xs j) (fun _ => Nat.le_refl _) (fun _ _ _ => Nat.le_trans) x1 h c
theorem Dn.snoc {xs : Array Keyed} {e0 x : Nat} (x1 : 1 ≤ x) (h : Dn r xs e0 (e0 + x)) (c : rk r xs (e0 + x) ≤ rk r xs (e0 + x - 1)) : Dn r xs e0 (e0 + (x + 1)) := TS.snoc (f := fun i j => rk r xs j ≤ rk r xs i) (fun _ => Nat.le_refl _) (fun _ _ _ p q => Nat.le_trans q p) x1 h c
theorem one_eq {e0 i j : Nat} (a : e0 ≤ i) (b : i ≤ j) (c : j < e0 + 1) : i = j := Nat.le_antisymm b (Nat.le_trans (Nat.le_of_lt_succ c) a)
theorem Seg.one {xs : Array Keyed} {e0 : Nat} : Seg r xs e0 (e0 + 1) := fun i j a b c => by rw [one_eq a b c]; exact Nat.le_refl _
theorem Dn.one {xs : Array Keyed} {e0 : Nat} : Dn r xs e0 (e0 + 1) := fun i j a b c => by rw [one_eq a b c]; exact Nat.le_refl _
theorem Dn.congr {xs ys : Array Keyed} {e0 hi : Nat} (h : Dn r ys e0 hi) (e : ∀ k, rk r xs k = rk r ys k) : Dn r xs e0 hi := fun i j a b c => by rw [e, e]; exact h i j a b c
theorem Nr.le {e0 n y : Nat} {st st' : SortSt} (N : Nr e0 st st') (hs : e0 + n ≤ (arrOf st).size) (h : y ≤ n) : e0 + y ≤ (arrOf st').size := by rw [N.size]; exact Nat.le_trans (Nat.add_le_add_left h e0) hs
inductive CW {ρ γ : Type} (y : γ) (P : SortSt → Prop) : Option ρ × γ → SortSt → Prop
  | mk {st : SortSt} (p : P st) : CW y P (none, y) st
inductive CV {ρ γ : Type} (P : γ → SortSt → Prop) : Option ρ × γ → SortSt → Prop
  | mk {y : γ} {st : SortSt} (p : P y st) : CV P (none, y) st
structure S1 (r : Keyed → Nat) (lo : Nat) (st : SortSt) (x : Nat) (st' : SortSt) : Prop where
  n : Nr lo st st'
  x1 : 1 ≤ x
  sg : Seg r (arrOf st') lo (lo + x)
theorem S1.snoc {e0 x : Nat} {st st' : SortSt} (h : S1 r e0 st x st') (c : ¬ decide (rk r (arrOf st') (e0 + x) < rk r (arrOf st') (e0 + x - 1)) = true) : S1 r e0 st (x + 1) st' := ⟨h.n, Nat.le_succ_of_le h.x1, h.sg.snoc h.x1 (Nat.not_lt.mp fun e => c (decide_eq_true e))⟩
structure S2 (r : Keyed → Nat) (lo : Nat) (st : SortSt) (x q : Nat) (st' : SortSt) : Prop where
  n : Nr lo st st'
  q1 : q + 1 ≤ x
  dn : Dn r (arrOf st') lo (lo + x)
  eq : ∀ i, lo + x - (q + 1) ≤ i → i < lo + x → rk r (arrOf st') i = rk r (arrOf st') (lo + x - 1)
theorem S2.x1 {e0 x q : Nat} {st st' : SortSt} (h : S2 r e0 st x q st') : 1 ≤ x := Nat.le_trans (Nat.succ_le_succ (Nat.zero_le _)) h.q1
theorem S2.zero {e0 x : Nat} {st st' : SortSt} (N : Nr e0 st st') (d : Dn r (arrOf st') e0 (e0 + (x + 1))) : S2 r e0 st (x + 1) 0 st' := ⟨N, Nat.succ_le_succ (Nat.zero_le _), d, fun _ a b => congrArg _ (Nat.le_antisymm (Nat.le_of_lt_succ b) a)⟩
theorem S2.succ {e0 x q : Nat} {st st' : SortSt} (h : S2 r e0 st x q st') (e : rk r (arrOf st') (e0 + x) = rk r (arrOf st') (e0 + x - 1)) : S2 r e0 st (x + 1) (q + 1) st' := ⟨h.n, Nat.succ_le_succ h.q1, h.dn.snoc h.x1 (Nat.le_of_eq e), fun i a b => by
  rcases Nat.lt_or_eq_of_le (Nat.le_of_lt_succ b) with d | d
  · exact (h.eq i (by rw [← Nat.succ_sub_succ]; exact a) d).trans e.symm
  · rw [d]; rfl⟩
structure B1 (f : Nat → Nat) (lo k x l u : Nat) : Prop where
  lu : l ≤ u
  uk : u ≤ k
  m : u + x ≤ k + l
  dn : ∀ i, lo ≤ i → i < lo + l → f i ≤ f (lo + k)
  up : ∀ i, lo + u ≤ i → i < lo + k → f (lo + k) < f i
end
def Chain : List (Nat × Nat × Nat) → Nat → Nat → Prop
  | [], s, e => s = e
  | q :: ps, s, e => q.1 = s ∧ 0 < q.2.1 ∧ Chain ps (s + q.2.1) e
theorem Chain.len : ∀ {ps : List (Nat × Nat × Nat)} {s e : Nat}, Chain ps s e → s + ps.length ≤ e
  | [], s, e, h => by have h' : s = e := h; simp [h']
  | q :: ps, s, e, h => by
    obtain ⟨_, h2, h3⟩ := h
    rw [List.length_cons, Nat.add_comm _ 1, ← Nat.add_assoc]
    exact Nat.le_trans (Nat.add_le_add_right (Nat.add_le_add_left h2 s) _) (Chain.len h3)
theorem Chain.app : ∀ {ps qs : List (Nat × Nat × Nat)} {s e : Nat}, Chain (ps ++ qs) s e ↔ ∃ m, Chain ps s m ∧ Chain qs m e
  | [], qs, s, e => ⟨fun h => ⟨s, rfl, h⟩, fun ⟨m, h1, h2⟩ => by have : s = m := h1; rw [this]; exact h2⟩
  | q :: ps, qs, s, e => by
    constructor
    · rintro ⟨a, b, c⟩
      obtain ⟨m, h1, h2⟩ := Chain.app.mp c
      exact ⟨m, ⟨a, b, h1⟩, h2⟩
    · rintro ⟨m, ⟨a, b, c⟩, h2⟩
      exact ⟨a, b, Chain.app.mpr ⟨m, c, h2⟩⟩
section
variable {M : Model} {A : Around} {E : Value → Shared → Prop} {s : Shared} {r : Keyed → Nat} {Mem : Keyed → Prop} {k0 : SortKind}
structure PI (r : Keyed → Nat) (st st' : SortSt) (lo : Nat) : Prop where
  k : kindOf st' = kindOf st
  f : failedOf st' = failedOf st
  a : (arrOf st').Perm (arrOf st)
  ch : Chain (pendingOf st').toList 0 lo
  sg : ∀ q ∈ (pendingOf st').toList, Seg r (arrOf st') q.1 (q.1 + q.2.1)
theorem PI.size {st st' : SortSt} {lo : Nat} (h : PI r st st' lo) : (arrOf st').size = (arrOf st).size := h.a.size_eq
theorem PI.mem {st st' : SortSt} {lo : Nat} (h : PI r st st' lo) (hm : ∀ x ∈ (arrOf st).toList, Mem x) : ∀ x ∈ (arrOf st').toList, Mem x := fun x hx => hm x ((Array.perm_iff_toList_perm.mp h.a).mem_iff.mp hx)
structure RI (r : Keyed → Nat) (st : SortSt) (x lo : Nat) (st' : SortSt) : Prop where
  le : lo ≤ (arrOf st).size
  x : x ≤ lo ∨ (arrOf st).size ≤ lo
  i : PI r st st' lo
end
end TS
namespace HT
open PySem PyProof.Rows
section
open PySem.SeqAt
open PySem.AutoSeq1 (wpAny_loadPart')
open PySem.MeetsSeq PySem.MeetsSeq2 PySem.MeetsSeq3
end
end HT
namespace SW
open PySem PySem.SetTable ST PySem.W PyProof.Rows
section
variable {prog : Program} {w : World} {A : Around} {E : Value → Shared → Prop} {s : Shared}
structure SetI (prog : Program) (w : World) (h : Heap) (a : Addr) (xs : List (Int × Tok)) : Prop where
  ex : ∃ o es ep t, h.get? a = some o ∧ o.ExactSet ∧ o.data = .set es ep t ∧ es.toList = xs.map (fun x => ((intKind prog w).hash x.1, Value.int x.1 x.2)) ∧ Tab t (xs.map fun x => (intKind prog w).hash x.1) ∧ (t.plain = true ∧ t.led = !w.params.followText "set-order") ∧ 7 ≤ t.mask
  nd : (xs.map (·.1)).Nodup
theorem SetI.ext {h h' : Heap} {a : Addr} {xs : List (Int × Tok)} (S : SetI prog w h a xs) (e : ∀ o, h.get? a = some o → h'.get? a = some o) : SetI prog w h' a xs := by
  obtain ⟨⟨o, es, ep, t, ho, r⟩, nd⟩ := S
  exact ⟨⟨o, es, ep, t, e o ho, r⟩, nd⟩
end
end SW
namespace PD
open PySem PySem.Spec PyProof.Rows L2
section
variable {X : Cx} {pos : Pos}
theorem vals_ints : ∀ {out : List Value} {ms : List Int}, IntsAre out ms → Vals (ms.map V.int) out
  | _, _, .nil => .nil
  | _, _, .cons n t r => .cons ⟨t, rfl⟩ (vals_ints r)
end
section
variable {X : Cx}
inductive BDQ (X : Cx) (pins : List (Addr × Obj)) (P : Bool → Addr → Prop) (Q : D → Prop) (f : Flow) (s1 : Shared) : Prop
  | mk (u : Value) (v : V) (d : D) (σ' : St) (H' : Hp) (_ : f = .ret u) (_ : Inv X pins σ' H' s1) (_ : RelV v u) (_ : Same X.H₀ H') (_ : Den X.K P H' d v) (_ : Q d)
abbrev BDP (X : Cx) (pins : List (Addr × Obj)) (W : Own) (Q : D → Prop) : Flow → Shared → Prop := BDQ X pins (fun t a => W.B a ∨ (t = true ∧ W.S a)) Q
abbrev DB := (D → Prop) → Ro → Prop
def PBd (X : Cx) (ss : List Stmt) (t : DB) : Prop :=
  ∀ (pins : List (Addr × Obj)) (s : Shared) (σ : St) (H : Hp) (W : Own) (ρ : Ro) (Q : D → Prop), Inv X pins σ H s → Rel X W H σ ρ → (∀ a o, X.H₀ a = some o → W.S a) → t Q ρ →
    wpAny (model X.prog X.w) X.A (execs ss X.env) (BDP X pins W Q) X.xe s
theorem Fwd.ent {W W' : Own} {H H' : Hp} {σ : St} {ρ : Ro} (f : Fwd W H W' H') (r : Rel X W H σ ρ) : Same X.H₀ H' where
  kp := fun b o e n => f.kp b o (fun i z => by have := r.ke i b z; rw [e] at this; cases this) (r.ent.kp b o e n) n
  tb := fun b ps e => by
    obtain ⟨m1, h1⟩ := r.ent.tb b ps e
    obtain ⟨m2, h2⟩ := f.tb b _ h1
    exact ⟨m1 ++ m2, by rw [h2, Array.append_assoc]⟩
  ok := fun k => f.ok (r.ent.ok k)
def liftB (X : Cx) (t : DB) : TS := fun D σ H => ∃ W ρ Q, Rel X W H σ ρ ∧ (∀ a o, X.H₀ a = some o → W.S a) ∧ t Q ρ ∧ ∀ H' v d, Same X.H₀ H' → Den X.K (fun t a => W.B a ∨ (t = true ∧ W.S a)) H' d v → Q d → D.rt v H'
theorem PBd.ps {ss : List Stmt} {t : DB} (h : PBd X ss t) : PSs X ss (liftB X t) := by
  intro pins s σ H D I q
  obtain ⟨W, ρ, Q, r, s0, ht, k⟩ := q
  refine thn (h pins s σ H W ρ Q I r s0 ht) fun f s1 ⟨u, v, d, σ', H', e, I1, rv, sm, hd, qd⟩ => ?_
  subst e
  exact ⟨v, σ', H', I1, rv, k H' v d sm hd qd⟩
theorem PBd.nox {ss : List Stmt} {t : DB} (h : PBd X.nox ss t) : PBd X ss t := fun pins s σ H W ρ Q I r s0 hw =>
  wpAny_mono (h pins s σ H W ρ Q (I.wish _) (r.wish _) s0 hw) (fun _ _ ⟨u, v, d, σ', H', e, I1, a, b, c, q⟩ => ⟨u, v, d, σ', H', e, I1.unwish, a, b, c, q⟩) fun _ _ z => False.elim z
theorem Rel.apart {W : Own} {H H' : Hp} {σ : St} {ρ : Ro} {Z : Addr → Prop} (r : Rel X W H σ ρ) (ag : ∀ a, ¬ Z a → H' a = H a) (ls : ∀ a, Z a → ∃ us us', H a = some (.lst us) ∧ H' a = some (.lst us')) (nO : ∀ i a, W.O i = some a → ¬ Z a)
    (hv : ∀ (j : Nat) (d : D) (v : V), ρ[j]? = some (some (Sl.val d)) → σ[j]? = some (some v) → Den X.K W.bad H d v → Den X.K (fun t a => W.bad t a ∨ Z a) H d v)
    (ho : ∀ (j : Nat) (x : OS), ρ[j]? = some (some (Sl.ob x)) → ∃ zs, x = OS.lst zs ∧ nolDs zs = true) (ent : Same X.H₀ H') (tab : TabK X.K H') : Rel X W H' σ ρ := by
  have noT : ∀ c ws, SqT X.K H c ws → SqT X.K H' c ws := fun c ws q => by
    have q' : H c = some (.tup ws) := q
    show H' c = _
    rw [ag c fun z => by obtain ⟨us, _, h1, _⟩ := ls c z; rw [h1] at q'; cases q']
    exact q'
  have noX : ∀ c u, Sol u → H c = some u → H' c = some u := fun c u n q => by
    rw [ag c fun z => by obtain ⟨us, _, h1, _⟩ := ls c z; rw [h1] at q; cases q; exact n]; exact q
  have noL : ∀ t c ws, ¬ (W.bad t c ∨ Z c) → SqG X.K H t c ws → ¬ W.bad t c ∧ SqG X.K H' t c ws := fun t c ws n q => by
    have e := ag c fun z => n (.inr z)
    refine ⟨fun z => n (.inl z), ?_, fun z => ⟨by rw [e]; exact (q.2 z).1, (q.2 z).2⟩⟩
    rcases q.1 with (q | ⟨u, q⟩) | q
    · exact .inl (.inl (by rw [e]; exact q))
    · exact .inl (.inr ⟨u, by rw [e]; exact q⟩)
    · exact .inr q
  have tr : ∀ c u, H c = some u → ∃ u', H' c = some u' := fun c u q => by
    by_cases z : Z c
    · obtain ⟨_, us', _, h2⟩ := ls c z; exact ⟨_, h2⟩
    · exact ⟨u, by rw [ag c z]; exact q⟩
  refine ⟨fun j d h => ?_, fun j x h => ?_, r.inj, fun j a h => ?_, r.ke, fun a h => let ⟨u, q⟩ := r.bt a h; tr a u q, fun a h => let ⟨u, q⟩ := r.st a h; tr a u q, ent, tab⟩
  · obtain ⟨v, h1, h2⟩ := r.val j d h
    exact ⟨v, h1, Den.map noT noL noX d v (hv j d v h h1 h2)⟩
  · obtain ⟨zs, rfl, hz⟩ := ho j x h
    obtain ⟨a, vs, h1, h2, h3, h4⟩ := r.ownL j zs h
    refine ⟨a, .lst vs, h1, h2, by rw [ag a (nO j a h1)]; exact h3, .lst ?_⟩
    exact Dens.map noT noL noX zs vs (Dens.nol zs vs hz h4)
  · obtain ⟨k1, k2, o, k3, k4⟩ := r.kn j a h
    exact ⟨k1, k2, o, by rw [ag a (nO j a h)]; exact k3, k4⟩
end
def FL (K : PySem.W.Frag) (x : Str) (st : Stmt) : Prop := ∃ (f : Addr) (oc : Value) (od : Option Addr) (kV dc pm : Value) (an : Option Addr) (cd ct : Value) (sl : Array (Option Value)),
  PySem.W.nsIn K mainGlobals x = some (some (.ref f)) ∧ K.lookup f = some ⟨oc, od, .func (PySem.W.fnOf x x (defArgs st) (defBody st) (defScope st) .none kV dc pm an cd ct), sl⟩ ∧ PySem.W.codeIn K cd x = true ∧ PySem.W.keepIn K (.ref f) = true
theorem FL.mk {K : PySem.W.Frag} {x : Str} {st : Stmt} {f : Addr} {oc : Value} {od : Option Addr} {kV dc pm : Value} {an : Option Addr} {cd ct : Value} {sl : Array (Option Value)} (a : PySem.W.nsIn K mainGlobals x = some (some (.ref f)))
    (b : K.lookup f = some ⟨oc, od, .func (PySem.W.fnOf x x (defArgs st) (defBody st) (defScope st) .none kV dc pm an cd ct), sl⟩) (c : PySem.W.codeIn K cd x = true) (d : PySem.W.keepIn K (.ref f) = true) : FL K x st := ⟨f, oc, od, kV, dc, pm, an, cd, ct, sl, a, b, c, d⟩
theorem len1 {α : Type} : ∀ {us : List α}, us.length = 1 → ∃ a, us = [a]
  | [a], _ => ⟨a, rfl⟩
theorem len2 {α : Type} : ∀ {us : List α}, us.length = 2 → ∃ a b, us = [a, b]
  | [a, b], _ => ⟨a, b, rfl⟩
theorem len3 {α : Type} : ∀ {us : List α}, us.length = 3 → ∃ a b c, us = [a, b, c]
  | [a, b, c], _ => ⟨a, b, c, rfl⟩
theorem len4 {α : Type} : ∀ {us : List α}, us.length = 4 → ∃ a b c d, us = [a, b, c, d]
  | [a, b, c, d], _ => ⟨a, b, c, d, rfl⟩
theorem len5 {α : Type} : ∀ {us : List α}, us.length = 5 → ∃ a b c d e, us = [a, b, c, d, e]
  | [a, b, c, d, e], _ => ⟨a, b, c, d, e, rfl⟩
theorem FL.has {K : PySem.W.Frag} {x : Str} {st : Stmt} {h : Heap} {mg : Str → Option Value} {k : Nat} {ps : List Str} {sp : DSp} (e : FL K x st) (P : Program) (w : World) (base : Heap) (X : K.In h) (G : h.Ns mainGlobals mg)
    (ok : ∀ {f : Addr} {fd : FuncData}, FunD K x x st f fd → FnOk P w K mg base (CX1 P w) k f fd ps (spOf K sp))
    (hb : ∀ (kV dc pm : Value) (an : Option Addr) (cd ct : Value), allN ps.length fun us => bindArgs (PySem.W.fnOf x x (defArgs st) (defBody st) (defScope st) .none kV dc pm an cd ct) ⟨us, []⟩ = pure (ps.zip us) := by
      repeat intro _
      rfl) : Has P w K mg base x k ps sp := by
  obtain ⟨f, oc, od, kV, dc, pm, an, cd, ct, sl, a, b, c, d⟩ := e
  exact ⟨f, _, ok (funD_mk b c d), PySem.W.mg_of X G a, d, .all fun us hl => allN_of us hl (hb kV dc pm an cd ct)⟩
end PD
namespace HT
open PySem PyProof.Rows
section
open PySem.SeqAt
open PySem.AutoSeq1 (wpAny_loadPart')
open PySem.MeetsSeq PySem.MeetsSeq2 PySem.MeetsSeq3
end
end HT
namespace PD
open PySem PySem.Spec PyProof.Rows L2
def HasM (P : Program) (w : World) (K : PySem.W.Frag) (mg : Str → Option Value) (base : Heap) (C : Addr) (m : Str) (k : Nat) (ps : List Str) (sp : DSp) : Prop :=
  ∃ f fd, FnOk P w K mg base (CX1 P w) k f fd ps (spOf K sp) ∧ Meth K C m f ∧ Binds K fd ps []
section
variable {X : Cx} {k : Nat} {ps : List Str} {sp : DSp} {x m f : Str} {p pos apos : Pos} {e o : Expr} {es : List Expr} {te to : DE} {t : DA} {C : Addr}
def HasC (P : Program) (w : World) (K : PySem.W.Frag) (mg : Str → Option Value) (base : Heap) (x : Str) (C : Addr) (k : Nat) (sp : Sp) : Prop :=
  ∃ f fd ps, FnOk P w K mg base (CX1 P w) k f fd ps sp ∧ Mk K C f ∧ mg x = some (.ref C) ∧ PX.ObjK K C ∧ Binds K fd ps []
end
def clsK (K : PySem.W.Frag) (C : Addr) : Bool := PySem.W.plainGet K C Str.empty && PySem.W.hasDictIn K C && PySem.W.plainOver K C && PySem.W.findIn K (.ref C) "__setattr__" == some (some (.builtin "object.__setattr__"))
theorem clsK.of {K : PySem.W.Frag} {C : Addr} (h : clsK K C = true) : Cls K C := by
  unfold clsK at h
  simp only [Bool.and_eq_true, beq_iff_eq] at h
  exact ⟨h.1.1.1, h.1.1.2, h.1.2, h.2⟩
def FLM (K : PySem.W.Frag) (C : Addr) (m qual : Str) (st : Stmt) : Prop := ∃ (f : Addr) (oc : Value) (od : Option Addr) (kV dc pm : Value) (an : Option Addr) (cd ct : Value) (sl : Array (Option Value)),
  PySem.W.findIn K (.ref C) m = some (some (.ref f)) ∧ PySem.W.isFn K (.ref f) = true ∧ K.lookup f = some ⟨oc, od, .func (PySem.W.fnOf m qual (defArgs st) (defBody st) (defScope st) .none kV dc pm an cd ct), sl⟩ ∧ PySem.W.codeIn K cd qual = true ∧ PySem.W.keepIn K (.ref f) = true
theorem FLM.mk {K : PySem.W.Frag} {C : Addr} {m qual : Str} {st : Stmt} {f : Addr} {oc : Value} {od : Option Addr} {kV dc pm : Value} {an : Option Addr} {cd ct : Value} {sl : Array (Option Value)} (a : PySem.W.findIn K (.ref C) m = some (some (.ref f))) (i : PySem.W.isFn K (.ref f) = true)
    (b : K.lookup f = some ⟨oc, od, .func (PySem.W.fnOf m qual (defArgs st) (defBody st) (defScope st) .none kV dc pm an cd ct), sl⟩) (c : PySem.W.codeIn K cd qual = true) (d : PySem.W.keepIn K (.ref f) = true) : FLM K C m qual st := ⟨f, oc, od, kV, dc, pm, an, cd, ct, sl, a, i, b, c, d⟩
section
variable {K : PySem.W.Frag} {C : Addr} {m qual : Str} {st : Stmt} {mg : Str → Option Value} {k : Nat} {ps : List Str} {sp : DSp}
theorem FLM.has (e : FLM K C m qual st) (P : Program) (w : World) (base : Heap)
    (ok : ∀ {f : Addr} {fd : FuncData}, FunD K m qual st f fd → FnOk P w K mg base (CX1 P w) k f fd ps (spOf K sp))
    (hb : ∀ (kV dc pm : Value) (an : Option Addr) (cd ct : Value) (us : List Value), us.length = ps.length → bindArgs (PySem.W.fnOf m qual (defArgs st) (defBody st) (defScope st) .none kV dc pm an cd ct) ⟨us, []⟩ = pure (ps.zip us) := by
      intro _ _ _ _ _ _ us hl
      first
        | (obtain ⟨a, e⟩ := len1 hl; subst e; rfl)
        | (obtain ⟨a, b, e⟩ := len2 hl; subst e; rfl)
        | (obtain ⟨a, b, c, e⟩ := len3 hl; subst e; rfl)
        | (obtain ⟨a, b, c, d, e⟩ := len4 hl; subst e; rfl)
        | (obtain ⟨a, b, c, d, e', e⟩ := len5 hl; subst e; rfl)) : HasM P w K mg base C m k ps sp := by
  obtain ⟨f, oc, od, kV, dc, pm, an, cd, ct, sl, a, i, b, c, d⟩ := e
  exact ⟨f, _, ok (funD_mk b c d), ⟨a, i, d⟩, .all fun us hl => hb kV dc pm an cd ct us hl⟩
theorem FLM.made {x : Str} {sp : Sp} (e : FLM K C "__init__" qual st) (hm : PySem.W.makesIn K C = true) (hk : PySem.W.keepIn K (.ref C) = true) (hx : mg x = some (.ref C)) (ko : PX.ObjK K C) (P : Program) (w : World) (base : Heap)
    (ok : ∀ {f : Addr} {fd : FuncData}, FunD K "__init__" qual st f fd → FnOk P w K mg base (CX1 P w) k f fd ps sp)
    (hb : ∀ (kV dc pm : Value) (an : Option Addr) (cd ct : Value) (us : List Value), us.length = ps.length → bindArgs (PySem.W.fnOf "__init__" qual (defArgs st) (defBody st) (defScope st) .none kV dc pm an cd ct) ⟨us, []⟩ = pure (ps.zip us) := by
      intro _ _ _ _ _ _ us hl
      first
        | (obtain ⟨a, e⟩ := len1 hl; subst e; rfl)
        | (obtain ⟨a, b, e⟩ := len2 hl; subst e; rfl)
        | (obtain ⟨a, b, c, e⟩ := len3 hl; subst e; rfl)
        | (obtain ⟨a, b, c, d, e⟩ := len4 hl; subst e; rfl)
        | (obtain ⟨a, b, c, d, e', e⟩ := len5 hl; subst e; rfl)) : HasC P w K mg base x C k sp := by
  obtain ⟨f, oc, od, kV, dc, pm, an, cd, ct, sl, a, i, b, c, d⟩ := e
  exact ⟨f, _, ps, ok (funD_mk b c d), ⟨hm, a, i, hk⟩, hx, ko, .all fun us hl => hb kV dc pm an cd ct us hl⟩
end
open PySem PySem.Spec PyProof.Rows L2 PX
section
variable {X : Cx}
def Own.puts (W : Own) (n i : Nat) (D : Addr) (bs : Nat → Option Addr) : Own := ⟨W.B, fun j => if j = i then some D else if j % n = i ∧ n ≤ j then bs (j / n - 1) else W.O j, W.S⟩
theorem vix_mod {n i k : Nat} (h : i < n) : vix n i k % n = i := by unfold vix; rw [Nat.mul_add_mod, Nat.mod_eq_of_lt h]
theorem vix_ge {n i k : Nat} : n ≤ vix n i k := by unfold vix; rw [Nat.mul_add]; omega
theorem vix_div {n i k : Nat} (h : i < n) : vix n i k / n - 1 = k := by
  unfold vix
  rw [Nat.mul_add_div (by omega), Nat.div_eq_of_lt h]
  omega
theorem vix_of {n i j : Nat} (h : j % n = i) (hj : n ≤ j) (hn : 0 < n) : j = vix n i (j / n - 1) := by
  unfold vix
  have h1 := Nat.div_add_mod j n
  have h2 : 1 ≤ j / n := Nat.div_pos hj hn
  rw [show j / n - 1 + 1 = j / n by omega, ← h, h1]
theorem Own.puts_O {W : Own} {n i : Nat} {D : Addr} {bs : Nat → Option Addr} (hi : i < n) {j : Nat} {a : Addr} (h : (W.puts n i D bs).O j = some a) : (j = i ∧ a = D) ∨ (∃ k, j = vix n i k ∧ bs k = some a) ∨ (j ≠ i ∧ (∀ k, j ≠ vix n i k) ∧ W.O j = some a) := by
  have h1 : (if j = i then some D else if j % n = i ∧ n ≤ j then bs (j / n - 1) else W.O j) = some a := h
  by_cases e : j = i
  · rw [if_pos e] at h1; cases h1; exact .inl ⟨e, rfl⟩
  · rw [if_neg e] at h1
    by_cases e2 : j % n = i ∧ n ≤ j
    · rw [if_pos e2] at h1; exact .inr (.inl ⟨_, vix_of e2.1 e2.2 (by omega), h1⟩)
    · rw [if_neg e2] at h1; exact .inr (.inr ⟨e, fun k z => e2 (by rw [z]; exact ⟨vix_mod hi, vix_ge⟩), h1⟩)
theorem Own.puts_v {W : Own} {n i : Nat} {D : Addr} {bs : Nat → Option Addr} (hi : i < n) (k : Nat) : (W.puts n i D bs).O (vix n i k) = bs k := by
  show (if vix n i k = i then some D else if vix n i k % n = i ∧ n ≤ vix n i k then bs (vix n i k / n - 1) else W.O (vix n i k)) = bs k
  rw [if_neg (vix_ne hi), if_pos ⟨vix_mod hi, vix_ge⟩, vix_div hi]
theorem Own.puts_n {W : Own} {n i : Nat} {D : Addr} {bs : Nat → Option Addr} {j : Nat} (h1 : j ≠ i) (h2 : j % n ≠ i ∨ j < n) : (W.puts n i D bs).O j = W.O j := by
  show (if j = i then some D else if j % n = i ∧ n ≤ j then bs (j / n - 1) else W.O j) = _
  rw [if_neg h1, if_neg fun z => h2.elim (fun q => q z.1) fun q => by omega]
theorem Rel.puts {W : Own} {H H' : Hp} {σ : St} {ρ : Ro} {i : Nat} {D : Addr} {bs : Nat → Option Addr} {out : List LI} {vs : List V} (r : Rel X W H σ ρ) (hi : i < σ.length) (sm : Same H H') (nD : H D = none) (kD : X.K.lookup D = none) (hD : H' D = some (.lst vs))
    (hb : BsOk X.K H D out.length bs) (hl : ∀ k b, bs k = some b → ∃ us, H' b = some (.lst us)) (hd : LDens X.K (fun t b => W.bad t b ∨ b = D ∨ ∃ k, bs k = some b) H' bs 0 out vs) :
    Rel X (W.puts σ.length i D bs) H' (σ.set i (some (.ref D))) (ρ.set i (some (.ob (.ll out)))) ∧ Fwd W H (W.puts σ.length i D bs) H' := by
  have bad' : ∀ t a, (W.puts σ.length i D bs).bad t a → W.bad t a ∨ a = D ∨ ∃ k, bs k = some a := fun t a z => by
    rcases z with z | ⟨j, z⟩ | z
    · exact .inl (.inl z)
    · rcases Own.puts_O hi z with ⟨_, q⟩ | ⟨k, _, q⟩ | ⟨_, _, q⟩
      · exact .inr (.inl q)
      · exact .inr (.inr ⟨k, q⟩)
      · exact .inl (.inr (.inl ⟨j, q⟩))
    · exact .inl (.inr (.inr z))
  have new : ∀ a, (a = D ∨ ∃ k, bs k = some a) → H a = none ∧ X.K.lookup a = none := fun a z => by
    rcases z with z | ⟨k, z⟩
    · subst z; exact ⟨nD, kD⟩
    · exact ⟨(hb.ok k a z).2.1, (hb.ok k a z).2.2.1⟩
  have nb : ∀ {t : Bool} {a : Addr} {ws : List V}, SqG X.K H t a ws → ¬ (a = D ∨ ∃ k, bs k = some a) := fun {t a ws} q z => by
    obtain ⟨n1, n2⟩ := new a z
    rcases q.1 with (q | ⟨o, q⟩) | ⟨o, its, n, q, _⟩
    · rw [n1] at q; cases q
    · rw [n1] at q; cases q
    · rw [n2] at q; cases q
  have up : ∀ (d : PD.D) (v : V), Den X.K W.bad H d v → Den X.K (W.puts σ.length i D bs).bad H' d v := Den.map (fun _ _ q => SqT.same sm q) (fun t a ws n q => ⟨fun z => (bad' t a z).elim n (nb q), q.same sm⟩) (fun a _ n q => sm.kp a _ q n.nt)
  have ups : ∀ (ds : List PD.D) (vs' : List V), Dens X.K W.bad H ds vs' → Dens X.K (W.puts σ.length i D bs).bad H' ds vs' := Dens.map (fun _ _ q => SqT.same sm q) (fun t a ws n q => ⟨fun z => (bad' t a z).elim n (nb q), q.same sm⟩) (fun a _ n q => sm.kp a _ q n.nt)
  have nO : ∀ j a, W.O j = some a → ¬ (a = D ∨ ∃ k, bs k = some a) := fun j a q z => by
    obtain ⟨_, _, o, h3, _⟩ := r.kn j a q
    rw [(new a z).1] at h3; cases h3
  refine ⟨⟨fun j d h => ?_, fun j x h => ?_, fun j l a h1 h2 => ?_, fun j a h1 => ?_, fun j a h1 => ?_, fun a h => let ⟨_, q⟩ := r.bt a h; sm.ex q, fun a h => let ⟨_, q⟩ := r.st a h; sm.ex q, r.ent.trans sm, r.tab.same sm⟩, rfl, rfl, fun b o _ q n => sm.kp b o q n, fun j a h => ?_, sm.tb, sm.ok⟩
  · have hji : j ≠ i := fun e => by
      subst e
      by_cases l : j < ρ.length
      · rw [List.getElem?_set_self l] at h; cases h
      · rw [List.getElem?_eq_none (by rw [List.length_set]; omega)] at h; cases h
    rw [List.getElem?_set_ne (Ne.symm hji)] at h
    obtain ⟨w, h1, h2⟩ := r.val j d h
    exact ⟨w, by rw [List.getElem?_set_ne (Ne.symm hji)]; exact h1, up d w h2⟩
  · rw [List.length_set]
    by_cases hji : j = i
    · subst hji
      by_cases l : j < ρ.length
      · rw [List.getElem?_set_self l] at h
        cases h
        refine ⟨D, _, ?_, by rw [List.getElem?_set_self hi], hD, .ll (hd.map (fun _ _ z => z.fewer bad') fun k b q => ⟨by rw [← q]; exact Own.puts_v hi k, fun _ z => z⟩)⟩
        show (if j = j then some D else _) = some D
        rw [if_pos rfl]
      · rw [List.getElem?_eq_none (by rw [List.length_set]; omega)] at h; cases h
    · rw [List.getElem?_set_ne (Ne.symm hji)] at h
      obtain ⟨a, ws, h1, h2, h3, h4⟩ := r.own j x h
      have jl : j < σ.length := (List.getElem?_eq_some_iff.mp h2).1
      refine ⟨a, ws, (Own.puts_n hji (.inr jl)).trans h1, by rw [List.getElem?_set_ne (Ne.symm hji)]; exact h2, sm.kp _ _ h3 h4.mut.nt, h4.map ups fun l b q => ⟨(Own.puts_n ?_ (.inl (by rw [vix_mod jl]; exact hji))).trans q, fun _ z => sm _ _ z⟩⟩
      exact vix_ne hi
  · rcases Own.puts_O hi h1 with ⟨e1, q1⟩ | ⟨k1, e1, q1⟩ | ⟨_, _, q1⟩ <;> rcases Own.puts_O hi h2 with ⟨e2, q2⟩ | ⟨k2, e2, q2⟩ | ⟨_, _, q2⟩
    · rw [e1, e2]
    · exact absurd (q1 ▸ rfl) (q1 ▸ (hb.ok k2 a q2).2.2.2)
    · exact (nO l a q2 (.inl q1)).elim
    · exact absurd (q2 ▸ rfl) (q2 ▸ (hb.ok k1 a q1).2.2.2)
    · rw [e1, e2, hb.inj k1 k2 a q1 q2]
    · exact (nO l a q2 (.inr ⟨k1, q1⟩)).elim
    · exact (nO j a q1 (.inl q2)).elim
    · exact (nO j a q1 (.inr ⟨k2, q2⟩)).elim
    · exact r.inj j l a q1 q2
  · have fresh : (a = D ∨ ∃ k, bs k = some a) → X.K.lookup a = none ∧ (¬ W.B a ∧ ¬ W.S a) := fun z => by
      obtain ⟨n1, n2⟩ := new a z
      exact ⟨n2, fun q => (by obtain ⟨o, y⟩ := r.bt _ q; rw [n1] at y; cases y), fun q => (by obtain ⟨o, y⟩ := r.st _ q; rw [n1] at y; cases y)⟩
    rcases Own.puts_O hi h1 with ⟨_, q⟩ | ⟨k, _, q⟩ | ⟨_, _, q⟩
    · obtain ⟨f1, f2⟩ := fresh (.inl q)
      exact ⟨f1, f2, .lst vs, by rw [q]; exact hD, True.intro⟩
    · obtain ⟨f1, f2⟩ := fresh (.inr ⟨k, q⟩)
      obtain ⟨us, hu⟩ := hl k a q
      exact ⟨f1, f2, .lst us, hu, True.intro⟩
    · obtain ⟨a1, a2, ws, a3, a4⟩ := r.kn j a q
      exact ⟨a1, a2, ws, sm.kp _ _ a3 a4.nt, a4⟩
  · rcases Own.puts_O hi h1 with ⟨_, q⟩ | ⟨k, _, q⟩ | ⟨_, _, q⟩
    · exact r.ent.free (q ▸ nD)
    · exact r.ent.free (hb.ok k a q).2.1
    · exact r.ke j a q
  · rcases Own.puts_O hi h with ⟨_, q⟩ | ⟨k, _, q⟩ | ⟨_, _, q⟩
    · exact .inr (q ▸ nD)
    · exact .inr (hb.ok k a q).2.1
    · exact .inl ⟨j, q⟩
end
section
variable {K : PySem.W.Frag} {P : Bool → Addr → Prop} {H H' : Hp}
mutual
theorem Den.grow {Z : Addr → Prop} (hP : ∀ t a, P false a → P t a) (ag : ∀ a, ¬ Z a → H' a = H a) (ls : ∀ a, Z a → K.lookup a = none ∧ ∃ us, H a = some (.lst us) ∧ H' a = some (.lst (us ++ [.int 0]))) : ∀ (d : D) (v : V), Den K P H d v → ∃ d', Den K P H' d' v ∧ (∀ t ds, d = .lst t ds → ∃ ds', d' = .lst false ds')
  | .non, v, h => ⟨.non, by simpa only [Den] using h, fun _ _ e => by cases e⟩
  | .bl b, v, h => ⟨.bl b, by simpa only [Den] using h, fun _ _ e => by cases e⟩
  | .int i, v, h => ⟨.int i, by simpa only [Den] using h, fun _ _ e => by cases e⟩
  | .str x, v, h => ⟨.str x, by simpa only [Den] using h, fun _ _ e => by cases e⟩
  | .tup ds, v, h => by
    simp only [Den] at h
    obtain ⟨a, vs, e, q, r⟩ := h
    obtain ⟨ds', r'⟩ := Dens.grow hP ag ls ds vs r
    refine ⟨.tup ds', ?_, fun _ _ e => by cases e⟩
    simp only [Den]
    refine ⟨a, vs, e, ?_, r'⟩
    have q' : H a = some (.tup vs) := q
    show H' a = _
    rw [ag a fun z => by obtain ⟨_, us, h1, _⟩ := ls a z; rw [h1] at q'; cases q']
    exact q'
  | .lst t ds, v, h => by
    simp only [Den] at h
    obtain ⟨a, vs, e, p, q, r⟩ := h
    obtain ⟨ds', r'⟩ := Dens.grow hP ag ls ds vs r
    have p' : ¬ P false a := fun z => p (hP t a z)
    by_cases z : Z a
    · obtain ⟨k, us, h1, h2⟩ := ls a z
      have ev : vs = us := by
        rcases q.1 with (q | ⟨u, q⟩) | ⟨o, its, n, q, _⟩
        · rw [h1] at q; cases q; rfl
        · rw [h1] at q; cases q
        · rw [k] at q; cases q
      subst ev
      refine ⟨.lst false (ds' ++ [.int 0]), ?_, fun _ _ _ => ⟨_, rfl⟩⟩
      simp only [Den]
      exact ⟨a, _, e, p', SqG.any (SqL.of h2), Dens.append r' (Dens.one (Den.int 0))⟩
    · refine ⟨.lst false ds', ?_, fun _ _ _ => ⟨_, rfl⟩⟩
      simp only [Den]
      refine ⟨a, vs, e, p', SqG.any ?_, r'⟩
      have eq := ag a z
      rcases q.1 with (q | ⟨u, q⟩) | q
      · exact .inl (.inl (by rw [eq]; exact q))
      · exact .inl (.inr ⟨u, by rw [eq]; exact q⟩)
      · exact .inr q
  | .exc c, v, h => by
    refine ⟨.exc c, ?_, fun _ _ e => by cases e⟩
    simp only [Den] at h ⊢
    obtain ⟨a, e, q, k⟩ := h
    exact ⟨a, e, by rw [ag a fun z => by obtain ⟨_, us, h1, _⟩ := ls a z; rw [h1] at q; cases q]; exact q, k⟩
  | .obj C ns ds, v, h => by
    simp only [Den] at h
    obtain ⟨a, dx, vs, e, q, l, k, r⟩ := h
    obtain ⟨ds', r'⟩ := Dens.grow hP ag ls ds vs r
    refine ⟨.obj C ns ds', ?_, fun _ _ e => by cases e⟩
    simp only [Den]
    exact ⟨a, dx, vs, e, by rw [ag a fun z => by obtain ⟨_, us, h1, _⟩ := ls a z; rw [h1] at q; cases q]; exact q, l, k, r'⟩
  | .dik ks ds, v, h => by
    simp only [Den] at h
    obtain ⟨a, o, kws, vs, e, q, l, k, r⟩ := h
    obtain ⟨ds', r'⟩ := Dens.grow hP ag ls ds vs r
    refine ⟨.dik ks ds', ?_, fun _ _ e => by cases e⟩
    simp only [Den]
    exact ⟨a, o, kws, vs, e, by rw [ag a fun z => by obtain ⟨_, us, h1, _⟩ := ls a z; rw [h1] at q; cases q]; exact q, l, k, r'⟩
  | .dic, v, h => by
    refine ⟨.dic, ?_, fun _ _ e => by cases e⟩
    simp only [Den] at h ⊢
    obtain ⟨a, e, q⟩ := h
    exact ⟨a, e, by rw [ag a fun z => by obtain ⟨_, us, h1, _⟩ := ls a z; rw [h1] at q; cases q]; exact q⟩
theorem Dens.grow {Z : Addr → Prop} (hP : ∀ t a, P false a → P t a) (ag : ∀ a, ¬ Z a → H' a = H a) (ls : ∀ a, Z a → K.lookup a = none ∧ ∃ us, H a = some (.lst us) ∧ H' a = some (.lst (us ++ [.int 0]))) : ∀ (ds : List D) (vs : List V), Dens K P H ds vs → ∃ ds', Dens K P H' ds' vs
  | [], vs, h => ⟨[], by simpa only [Dens] using h⟩
  | d :: ds, vs, h => by
    simp only [Dens] at h
    obtain ⟨v, r, e, h1, h2⟩ := h
    obtain ⟨d', q1, _⟩ := Den.grow hP ag ls d v h1
    obtain ⟨ds', q2⟩ := Dens.grow hP ag ls ds r h2
    refine ⟨d' :: ds', ?_⟩
    simp only [Dens]
    exact ⟨v, r, e, q1, q2⟩
end
end
section
variable {X : Cx}
structure Told (K : PySem.W.Frag) (H : Hp) (b c t0 : Addr) (k0 : Int) (us ws qs : List V) : Prop where
  hb : H b = some (.lst (.int k0 :: us))
  hc : H c = some (.lst (.ref t0 :: ws))
  ht : H t0 = some (.tup (.ref b :: qs))
  kb : K.lookup b = none
  kc : K.lookup c = none
  kt : K.lookup t0 = none
theorem LDens.nol {K : PySem.W.Frag} {P P' : Bool → Addr → Prop} {H : Hp} {B : Nat → Option Addr} : ∀ {k : Nat} {xs : List LI} {vs : List V}, (∀ li ∈ xs, ∃ ds, li = .own ds ∧ nolDs ds = true) → LDens K P H B k xs vs → LDens K P' H B k xs vs
  | _, [], _, _, h => by simpa only [LDens] using h
  | k, .own ds :: r, _, hn, h => by
    simp only [LDens] at h ⊢
    obtain ⟨b, us, u, e, q1, q2, q3, q4⟩ := h
    obtain ⟨ds', e', nl⟩ := hn (.own ds) (by simp)
    cases e'
    exact ⟨b, us, u, e, q1, q2, Dens.nol _ _ nl q3, LDens.nol (fun z hz => hn z (List.mem_cons_of_mem _ hz)) q4⟩
  | k, .val d :: r, _, hn, h => by
    obtain ⟨ds', e', _⟩ := hn (.val d) (by simp)
    cases e'
theorem Rel.part {W : Own} {H : Hp} {σ : St} {ρ ρ' : Ro} (r : Rel X W H σ ρ) (h : ∀ (j : Nat) (z : Sl), ρ'[j]? = some (some z) → ρ[j]? = some (some z)) : Rel X W H σ ρ' :=
  ⟨fun j d q => r.val j d (h j _ q), fun j x q => r.own j x (h j _ q), r.inj, r.kn, r.ke, r.bt, r.st, r.ent, r.tab⟩
end
end PD
namespace PZ
open PySem PySem.Spec PyProof.Rows
def ZHe (h : Heap) (z TI TO a : Addr) (f : Bool) : Prop := h.get? z = some { cls := .type "zip", dict := none, data := .fields #[rawInt a, .bool f, .bool false, .ref TI, .ref TO], slots := #[] }
section
variable {prog : Program} {w : World} {A : Around} {E : Value → Shared → Prop} {s : Shared} {k1 k2 : Bool} {z TI TO i1 i2 l1 l2 a : Addr} {f : Bool} {i : Nat} {xs ys : Array Value} {oa : Obj}
theorem heldFree {Q : Bool → Shared → Prop} (hz : ZHe s.heap z TI TO a f) (ha : s.heap.get? a = some oa) (h : ∀ g, ZHe g z TI TO a true → Heap.SameBut z s.heap g → Q false { s with heap := g }) : wpAny (model prog w) A (Builtin.SmallTypes.ownedTupleIsFree (.ref z)) Q E s := by
  unfold Builtin.SmallTypes.ownedTupleIsFree
  refine wpAny_bind (wpAny_field hz rfl (x := rawInt a) rfl ?_); show wpAny _ _ (loadIfAlive ((a : Int).toNat) >>= _) _ _ _
  rw [Int.toNat_natCast]; refine wpAny_bind (PySem.W.kdx_alive ha ?_)
  simp only [Option.isNone_some, Bool.false_eq_true, if_false]; refine wpAny_bind (wpAny_field hz rfl (x := .bool f) rfl ?_)
  cases f with
  | true => rw [if_neg (show ¬ (Value.bool true != Value.bool true) = true by decide)]; exact wpAny_pure (h s.heap hz (Heap.SameBut.refl _ _))
  | false => rw [if_pos (show (Value.bool false != Value.bool true) = true from rfl)]; exact wpAny_bind (wpAny_setField_rec hz (by simp) fun g (zg : ZHe g z TI TO a true) b => wpAny_pure (h g zg b))
theorem zHeldNext {x y : Value} {Q : Option Value → Shared → Prop} (D : Ap z TI TO i1 i2) (D1 : Out z TO i1 i2 l1) (D2 : Out z TO i1 i2 l2) (hz : ZHe s.heap z TI TO a f) (ha : s.heap.get? a = some oa) (hTI : IsPair s.heap TI (.ref i1) (.ref i2)) (h1 : SIt k1 s.heap i1 l1 i) (h2 : SIt k2 s.heap i2 l2 i)
    (q1 : SSq k1 s.heap l1 xs) (q2 : SSq k2 s.heap l2 ys) (hx : xs[i]? = some x) (hy : ys[i]? = some y)
    (hQ : ∀ h', ZHe h' z TI TO a true → IsPair h' TI (.ref i1) (.ref i2) → SIt k1 h' i1 l1 (i + 1) → SIt k2 h' i2 l2 (i + 1) → IsPair h' s.heap.objs.size x y → (∀ c o, c ≠ z → c ≠ i1 → c ≠ i2 → s.heap.get? c = some o → h'.get? c = some o) → Q (some (.ref s.heap.objs.size)) { s with heap := h' }) : wpAny (model prog w) A (pyNext (.ref z)) Q E s := by
  have hT : s.TypeIs (.ref z) "zip" := ⟨_, hz, rfl⟩
  unfold pyNext; refine wpAny_bind (wpAny_attempt (wpAny_callSpecial?_slot (name := Str.ofString "__next__") hT F.slot_zip_next (wpAny_call_entry F.slot_zip_next hT F.entry_zip_next ?_ (F.args_zip_next_1 _))))
  show wpAny _ _ (field (.ref z) 2 >>= _) _ _ _; refine wpAny_bind (wpAny_field hz rfl (x := .bool false) rfl ?_)
  show wpAny _ _ (field (.ref z) 3 >>= _) _ _ _; refine wpAny_bind (wpAny_field hz rfl (x := .ref TI) rfl (wpAny_bind (wpAny_seqItems hTI rfl ?_)))
  show wpAny _ _ (Builtin.SmallTypes.ownedTupleIsFree (.ref z) >>= _) _ _ _; refine wpAny_bind (heldFree hz ha fun g1 z1 b1 => ?_)
  simp only [Bool.false_eq_true, if_false]
  rw [← Array.forIn_toList]
  simp only [List.forIn_cons, List.forIn_nil]
  have u1 : ∀ c o, c ≠ z → s.heap.get? c = some o → g1.get? c = some o := fun c o n e => b1.extBut c o n e
  refine wpAny_bind (wpAny_bind (wpAny_bind (wpAny_holding ?_))); show wpAny _ _ (Builtin.SmallTypes.nextOf (.ref i1) >>= _) _ _ _
  refine wpAny_bind (next1 (s := { s with heap := g1 }) (h1.of fun o e => u1 _ o D.a3 e) (q1.of fun o e => u1 _ o D1.c1 e) hx fun g2 n2 b2 => wpAny_pure (wpAny_pure ?_))
  have u2 : ∀ c o, c ≠ z → c ≠ i1 → s.heap.get? c = some o → g2.get? c = some o := fun c o n m e => b2.extBut c o m (u1 c o n e)
  refine wpAny_bind (wpAny_bind (wpAny_holding ?_)); show wpAny _ _ (Builtin.SmallTypes.nextOf (.ref i2) >>= _) _ _ _
  refine wpAny_bind (next1 (s := { s with heap := g2 }) (h2.of fun o e => u2 _ o D.a4 (Ne.symm D.b1) e) (q2.of fun o e => u2 _ o D2.c1 D2.c3 e) hy fun g3 n3 b3 => wpAny_pure (wpAny_pure ?_))
  refine wpAny_pure ?_; show wpAny _ _ (newTuple [x, y] >>= _) _ _ _
  have sz : g3.objs.size = s.heap.objs.size := by rw [b3.1, b2.1, b1.1]
  have u3 : ∀ c o, c ≠ z → c ≠ i1 → c ≠ i2 → s.heap.get? c = some o → g3.get? c = some o := fun c o n m k e => b3.extBut c o k (u2 c o n m e)
  refine wpAny_bind (wpAny_newTuple (wpAny_pure ⟨_, rfl, wpAny_pure ?_⟩)); show Q (some (.ref g3.objs.size)) _; rw [sz]
  refine hQ _ ?_ ?_ (n2.of fun o e => ?_) (n3.of fun o e => ?_) ?_ fun c o n m k e => ?_
  · exact Heap.get?_push_of_some _ (b3.extBut _ _ (Ne.symm D.a4) (b2.extBut _ _ (Ne.symm D.a3) z1))
  · exact Heap.get?_push_of_some _ (u3 _ _ D.a1 D.a6 D.a7 hTI)
  · exact Heap.get?_push_of_some _ (b3.extBut _ _ D.b1 e)
  · exact Heap.get?_push_of_some _ e
  · rw [← sz]; exact Heap.get?_push_size _ rfl
  · exact Heap.get?_push_of_some _ (u3 c o n m k e)
theorem zHeldStop {Q : Option Value → Shared → Prop} (hh : A.handled = none) (D : Ap z TI TO i1 i2) (D1 : Out z TO i1 i2 l1) (hz : ZHe s.heap z TI TO a f) (ha : s.heap.get? a = some oa) (hTI : IsPair s.heap TI (.ref i1) (.ref i2)) (h1 : SIt k1 s.heap i1 l1 i) (q1 : SSq k1 s.heap l1 xs) (hx : xs[i]? = none)
    (hQ : ∀ h', (∀ c o, c ≠ z → c ≠ i1 → s.heap.get? c = some o → h'.get? c = some o) → Q none { s with heap := h' }) : wpAny (model prog w) A (pyNext (.ref z)) Q E s := by
  have hT : s.TypeIs (.ref z) "zip" := ⟨_, hz, rfl⟩
  unfold pyNext; refine wpAny_bind (wpAny_attempt (wpAny_callSpecial?_slot (name := Str.ofString "__next__") hT F.slot_zip_next (wpAny_call_entry F.slot_zip_next hT F.entry_zip_next ?_ (F.args_zip_next_1 _))))
  show wpAny _ _ (field (.ref z) 2 >>= _) _ _ _; refine wpAny_bind (wpAny_field hz rfl (x := .bool false) rfl ?_)
  show wpAny _ _ (field (.ref z) 3 >>= _) _ _ _; refine wpAny_bind (wpAny_field hz rfl (x := .ref TI) rfl (wpAny_bind (wpAny_seqItems hTI rfl ?_)))
  show wpAny _ _ (Builtin.SmallTypes.ownedTupleIsFree (.ref z) >>= _) _ _ _; refine wpAny_bind (heldFree hz ha fun g1 z1 b1 => ?_)
  simp only [Bool.false_eq_true, if_false]
  rw [← Array.forIn_toList]
  simp only [List.forIn_cons, List.forIn_nil]
  have u1 : ∀ c o, c ≠ z → s.heap.get? c = some o → g1.get? c = some o := fun c o n e => b1.extBut c o n e
  refine wpAny_bind (wpAny_bind (wpAny_bind (wpAny_holding ?_))); show wpAny _ _ (Builtin.SmallTypes.nextOf (.ref i1) >>= _) _ _ _
  refine wpAny_bind (next0 (s := { s with heap := g1 }) hh (h1.of fun o e => u1 _ o D.a3 e) (q1.of fun o e => u1 _ o D1.c1 e) hx fun g2 e b2 he => ?_)
  obtain ⟨oe, ho, hc⟩ := he
  exact wpAny_bind (wpAny_isInstance (T := "StopIteration") (b := true) ⟨oe, ho, hc⟩ isSubtype_stop (wpAny_pure (hQ g2 fun c o n m q => b2 c o m (u1 c o n q))))
def ZL (k1 k2 : Bool) (z TI TO i1 i2 l1 l2 S : Addr) (i : Nat) (h : Heap) : Prop := (i = 0 ∧ ZSt k1 k2 z TI TO i1 i2 l1 l2 0 h) ∨ ((∃ a f oa, ZHe h z TI TO a f ∧ h.get? a = some oa ∧ a ≠ S ∧ a ≠ z ∧ a ≠ TO ∧ a ≠ i1 ∧ a ≠ i2) ∧ IsPair h TI (.ref i1) (.ref i2) ∧ SIt k1 h i1 l1 i ∧ SIt k2 h i2 l2 i)
theorem ZL.keep {h h' : Heap} {S : Addr} (x : ZL k1 k2 z TI TO i1 i2 l1 l2 S i h) (n1 : z ≠ S) (n2 : TI ≠ S) (n3 : TO ≠ S) (n4 : i1 ≠ S) (n5 : i2 ≠ S) (kp : ∀ b o, b ≠ S → h.get? b = some o → h'.get? b = some o) : ZL k1 k2 z TI TO i1 i2 l1 l2 S i h' := by
  rcases x with ⟨e, Z⟩ | ⟨⟨a, f, oa, m1, m2, m3, m4⟩, m5, m6, m7⟩
  · obtain ⟨hz, hTI, ⟨a, b, hTO⟩, h1, h2⟩ := Z
    exact .inl ⟨e, kp _ _ n1 hz, kp _ _ n2 hTI, ⟨a, b, kp _ _ n3 hTO⟩, h1.of fun o q => kp _ o n4 q, h2.of fun o q => kp _ o n5 q⟩
  · exact .inr ⟨⟨a, f, oa, kp _ _ n1 m1, kp _ _ m3 m2, m3, m4⟩, kp _ _ n2 m5, m6.of fun o q => kp _ o n4 q, m7.of fun o q => kp _ o n5 q⟩
theorem ZL.item {x y : Value} {S : Addr} {Q : Option Value → Shared → Prop} (D : Ap z TI TO i1 i2) (D1 : Out z TO i1 i2 l1) (D2 : Out z TO i1 i2 l2) (Z : ZL k1 k2 z TI TO i1 i2 l1 l2 S i s.heap) (hS : S < s.heap.objs.size) (hb : z < s.heap.objs.size ∧ TO < s.heap.objs.size ∧ i1 < s.heap.objs.size ∧ i2 < s.heap.objs.size) (q1 : SSq k1 s.heap l1 xs) (q2 : SSq k2 s.heap l2 ys) (hx : xs[i]? = some x) (hy : ys[i]? = some y)
    (hQ : ∀ h', ZL k1 k2 z TI TO i1 i2 l1 l2 S (i + 1) h' → IsPair h' s.heap.objs.size x y → (∀ c o, c ≠ z → c ≠ TO → c ≠ i1 → c ≠ i2 → s.heap.get? c = some o → h'.get? c = some o) → Q (some (.ref s.heap.objs.size)) { s with heap := h' }) : wpAny (model prog w) A (pyNext (.ref z)) Q E s := by
  obtain ⟨b1, b2, b3, b4⟩ := hb
  rcases Z with ⟨rfl, Z⟩ | ⟨⟨a, f, oa, m1, m2, m3, m4, m5, m6, m7⟩, m8, m9, m10⟩
  · refine zNext D D1 D2 Z q1 q2 hx hy fun h' e1 e2 _ e4 e5 e6 kp => hQ h' (.inr ⟨⟨s.heap.objs.size, false, _, e1, e6, Nat.ne_of_gt hS, Nat.ne_of_gt b1, Nat.ne_of_gt b2, Nat.ne_of_gt b3, Nat.ne_of_gt b4⟩, e2, e4, e5⟩) e6 kp
  · refine zHeldNext D D1 D2 m1 m2 m8 m9 m10 q1 q2 hx hy fun h' e1 e2 e3 e4 e5 kp => hQ h' (.inr ⟨⟨a, true, oa, e1, kp a oa m4 m6 m7 m2, m3, m4, m5, m6, m7⟩, e2, e3, e4⟩) e5 fun c o n1 _ n3 n4 e => kp c o n1 n3 n4 e
theorem ZL.stop {S : Addr} {Q : Option Value → Shared → Prop} (hh : A.handled = none) (D : Ap z TI TO i1 i2) (D1 : Out z TO i1 i2 l1) (D2 : Out z TO i1 i2 l2) (Z : ZL k1 k2 z TI TO i1 i2 l1 l2 S i s.heap) (q1 : SSq k1 s.heap l1 xs) (q2 : SSq k2 s.heap l2 ys) (hx : xs[i]? = none)
    (hQ : ∀ h', (∀ c o, c ≠ z → c ≠ TO → c ≠ i1 → c ≠ i2 → s.heap.get? c = some o → h'.get? c = some o) → Q none { s with heap := h' }) : wpAny (model prog w) A (pyNext (.ref z)) Q E s := by
  rcases Z with ⟨rfl, Z⟩ | ⟨⟨a, f, oa, m1, m2, m3, m4, m5, m6, m7⟩, m8, m9, m10⟩
  · exact zStop hh D D1 D2 Z q1 q2 (.inl hx) hQ
  · exact zHeldStop hh D D1 m1 m2 m8 m9 q1 hx fun h' kp => hQ h' fun c o n1 _ n3 _ e => kp c o n1 n3 e
end
structure ZT (h : Heap) (xs ys : Array Value) (B : Addr) (as : List Addr) : Prop where
  nd : as.Nodup
  ab : ∀ a ∈ as, B ≤ a
  pr : ∀ (j : Nat) (a : Addr), as[j]? = some a → ∃ x y, xs[j]? = some x ∧ ys[j]? = some y ∧ IsPair h a x y
section
variable {prog : Program} {w : World} {A : Around} {E : Value → Shared → Prop} {s : Shared} {k1 k2 : Bool} {z TI TO i1 i2 l1 l2 S B : Addr} {xs ys : Array Value}
theorem SIt.lt {k : Bool} {h : Heap} {it a : Addr} {i : Nat} (x : SIt k h it a i) : it < h.objs.size := let ⟨_, e, _⟩ := x.obj; Heap.lt_size e
theorem SSq.lt {k : Bool} {h : Heap} {a : Addr} {xs : Array Value} (x : SSq k h a xs) : a < h.objs.size := let ⟨_, _, e, _⟩ := x.obj; Heap.lt_size e
end
end PZ
namespace PD
open PySem PySem.Spec PyProof.Rows L2
def ownC (xs : List Str) (cc : Addr) (cl : List (Str × Addr)) : List (Str × Addr) := match xs with
  | [] => cl
  | x :: _ => (x, cc) :: cl
structure CSC (osc sc : Scope) (xs ns : List Str) : Prop where
  kind : sc.kind = .function
  one : ∃ x, xs = [x]
  onecell : ∀ y ∈ sc.names, y.2 = .cell → y.1 ∈ xs
  names : ∀ y ∈ sc.names, y.2 = .local → sc.names.lookup y.1 = some .local
  tgt : ∀ x ∈ xs, sc.names.lookup x = some .cell
  free : ∀ y ∈ sc.names, y.2 = .free → y.1 ∈ ns ∧ osc.names.lookup y.1 = some .cell
  cells : ∀ n ∈ ns, sc.names.lookup n = some .free ∧ osc.names.lookup n = some .cell
  nd : (xs ++ ns).Nodup
  lay : ∀ n acc, cellsFrom n sc.names acc = ownC xs n acc
  psh : ∀ h : Heap, pushCells h sc.names = h.push { cls := .type "cell", data := .cell none }
end PD
set_option linter.all false
namespace WC
open PySem PySem.Spec PySem.W PyProof.Rows L2 PD
def HC (Γ : PySem.Ctx) : Prop := (Γ.below.any fun x => x.1.isCaller) = true
def wpC {α : Type} (M : Model) (A : Around) (t : Sem α) (Q : α → Shared → Prop) (E : Value → Shared → Prop) (s : Shared) : Prop :=
  ∀ Γ p, PySem.Ctx.In Γ A → HC Γ → Sem.wp M Γ t (fun a _ s' => Q a s') (fun e _ s' => E e s') p s
def codeC (M : Model) (A : Around) (c : Code) (R : Result → Shared → Prop) (s : Shared) : Prop :=
  ∀ Γ p, PySem.Ctx.code Γ = c → Γ.Below A → HC Γ → wpCode M Γ R p s
section
variable {α β : Type} {M : Model} {A : Around} {E : Value → Shared → Prop} {s : Shared}
theorem wpC.of {t : Sem α} {Q : α → Shared → Prop} (h : wpAny M A t Q E s) : wpC M A t Q E s := fun Γ p hΓ _ => h Γ p hΓ
theorem codeC.of {c : Code} {R : Result → Shared → Prop} (h : codeAny M A c R s) : codeC M A c R s := fun Γ p hc hΓ _ => h Γ p hc hΓ
theorem wpC.mono {t : Sem α} {Q Q' : α → Shared → Prop} {E' : Value → Shared → Prop} (h : wpC M A t Q E s) (hQ : ∀ a s, Q a s → Q' a s) (hE : ∀ e s, E e s → E' e s) : wpC M A t Q' E' s :=
  fun Γ p hΓ c => Sem.wp_mono M Γ t (fun a _ s => hQ a s) (fun e _ s => hE e s) p s (h Γ p hΓ c)
theorem wpC.thn {t : Sem α} {Q Q' : α → Shared → Prop} (h : wpC M A t Q E s) (hQ : ∀ a s, Q a s → Q' a s) : wpC M A t Q' E s := h.mono hQ fun _ _ z => z
theorem codeC.mono {c : Code} {R R' : Result → Shared → Prop} (h : codeC M A c R s) (hR : ∀ r s, R r s → R' r s) : codeC M A c R' s := fun Γ p hc hΓ k => wpCode_mono hR (h Γ p hc hΓ k)
theorem wpC.bind {m : Sem α} {f : α → Sem β} {Q : β → Shared → Prop} (h : wpC M A m (fun a s' => wpC M A (f a) Q E s') E s) : wpC M A (m >>= f) Q E s := fun Γ p hΓ c => by
  rw [Sem.wp_bind']
  exact Sem.wp_mono M Γ m (fun a p' s' h' => h' Γ p' hΓ c) (fun _ _ _ z => z) p s (h Γ p hΓ c)
theorem wpC.bindA {m : Sem α} {f : α → Sem β} {Q : β → Shared → Prop} (h : wpAny M A m (fun a s' => wpC M A (f a) Q E s') E s) : wpC M A (m >>= f) Q E s := wpC.bind (wpC.of h)
theorem wpC.pure {a : α} {Q : α → Shared → Prop} (h : Q a s) : wpC M A (pure a) Q E s := fun _ _ _ _ => h
theorem wpC.holding {vs : List Value} {m : Sem α} {Q : α → Shared → Prop} (h : wpC M A m Q E s) : wpC M A (holding vs m) Q E s := fun Γ p hΓ c => by rw [Sem.wp_holding]; exact h Γ p hΓ c
theorem wpC.attempt {m : Sem α} {Q : Except Value α → Shared → Prop} (h : wpC M A m (fun a => Q (.ok a)) (fun e => Q (.error e)) s) : wpC M A m.attempt Q E s := fun Γ p hΓ c => by rw [Sem.wp_attempt]; exact h Γ p hΓ c
theorem wpC.onRaise {m : Sem α} {k : Value → Sem Unit} {Q : α → Shared → Prop} (h : wpC M A m Q (fun e s' => wpC M A (k e) (fun _ s'' => E e s'') E s') s) : wpC M A (m.onRaise k) Q E s := fun Γ p hΓ c => by
  rw [Sem.wp_onRaise]
  exact Sem.wp_mono M Γ m (fun _ _ _ z => z) (fun e p' s' h' => h' Γ p' hΓ c) p s (h Γ p hΓ c)
theorem wpC.stand {pos : Pos} {f : Unit → Sem β} {Q : β → Shared → Prop} (h : wpC M A (f ()) Q E s) : wpC M A (standAt pos >>= f) Q E s := wpC.bindA (wpAny_standAt h)
theorem HC.enter {Γ : PySem.Ctx} (h : HC Γ) (c : Code) (hd : Option Value) (p : Pos) : HC (Γ.enter c hd p) := by
  show (((Γ.code, p) :: Γ.below).any fun x => x.1.isCaller) = true
  rw [List.any_cons, show (Γ.below.any fun x => x.1.isCaller) = true from h, Bool.or_true]
theorem codeC.tree {c : Code} {R : Result → Shared → Prop} (h : wpC M (A.under c) (M.den c) (fun fin s' => match fin with | .done f => R (.ok f) s' | .again c' => c'.quiet = true ∧ codeC M A c' R s') (fun e s' => R (.error e) s') s) : codeC M A c R s := by
  intro Γ p hc hΓ k
  rw [wpCode_iff_wp, hc]
  refine Sem.wp_mono M Γ _ (fun fin p' s' h' => ?_) (fun _ _ _ z => z) p s (h Γ p (hc ▸ hΓ.in) k)
  cases fin with
  | done f => exact h'
  | again c' => exact ⟨h'.1, h'.2 (Γ.goto c') p' rfl (hΓ.goto c') k⟩
theorem wpC.runValue {c : Code} {Q : Value → Shared → Prop} (hc : codeC M A c (fun r s' => match r with | .ok (.ret v) => Q v s' | .ok _ => False | .error e => E e s') s) : wpC M A (runValue c) Q E s :=
  fun Γ p hΓ k => by rw [Sem.wp_runValue]; exact hc _ p rfl (hΓ.enter c none p (by intro x; cases x)) (k.enter _ _ _)
theorem wpC.call {f : Value} {us : List Value} {kw : List (Str × Value)} {Q : Value → Shared → Prop} (hc : codeC M A (.call f ⟨us, kw⟩) (fun r s' => match r with | .ok (.ret v) => Q v s' | .ok _ => False | .error e => E e s') s) : wpC M A (PySem.call f us kw) Q E s := wpC.runValue hc
theorem wpC.run {c : Code} {Q : Flow → Shared → Prop} (hc : codeC M A c (fun r s' => match r with | .ok f => Q f s' | .error e => E e s') s) : wpC M A (PySem.run c) Q E s :=
  fun Γ p hΓ k => by rw [Sem.wp_run]; exact hc _ p rfl (by have := hΓ.enter c none p (by intro x; cases x); exact this) (k.enter _ _ _)
theorem wpC.noted {env : Env} {m : Sem α} {Q : α → Shared → Prop} (h : wpC M A m Q (notedBy M A env E) s) : wpC M A (m.onRaise fun x => do noteFrame x env; theTreesLotGoes x) Q E s :=
  wpC.onRaise (h.mono (fun _ _ q => q) fun _ _ hx => wpC.of (wpAny_bind (wpAny_mono hx (fun _ _ e => wpAny_theTreesLotGoes e) fun _ _ e => e)))
end
section
variable {M : Model} {A : Around} {E : Value → Shared → Prop} {s : Shared} {env : Env}
theorem c_execs {st : Stmt} {rest : List Stmt} {Q : Flow → Shared → Prop} (h : wpC M A (exec st env) (fun f s' => match f with | .next => wpC M A (execs rest env) Q E s' | f => Q f s') E s) : wpC M A (execs (st :: rest) env) Q E s := by
  rw [execs_cons]
  refine wpC.bind (h.thn fun f s' z => ?_)
  cases f with
  | next => exact z
  | brk => exact wpC.pure z
  | cont => exact wpC.pure z
  | ret v => exact wpC.pure z
theorem c_set {x : Str} {pos' pos : Pos} {value : Expr} {Q : Flow → Shared → Prop} (h : wpC M A (eval value env) (fun v s₁ => wpAny M A (storeName env x v) (fun _ => Q .next) E s₁) E s)
    (hs : swapsWith value (some (.Name x pos')) pos.line env = pure false := by rfl) : wpC M A (exec (.Assign [.Name x pos'] value pos) env) Q E s := by
  rw [exec_Assign_Name env x pos' value pos hs]
  exact wpC.stand (wpC.bind (h.thn fun v s1 z => wpC.stand (wpC.bindA (wpAny_bindName (wpAny_mono z (fun _ _ q => wpC.pure q) fun _ _ q => q)))))
theorem c_if {test : Expr} {body orelse : List Stmt} {pos : Pos} {Q : Flow → Shared → Prop} (h : wpC M A (isTrue test env (eval test env)) (fun b s₂ => if b then wpC M A (execs body env) Q E s₂ else wpC M A (execs orelse env) Q E s₂) E s) :
    wpC M A (exec (.If test body orelse pos) env) Q E s := by
  rw [exec_If]
  refine wpC.stand (wpC.bind (h.thn fun b s1 z => ?_))
  cases b <;> exact z
theorem c_ret {e : Expr} {pos : Pos} {Q : Flow → Shared → Prop} (h : wpC M A (eval e env) (fun v => Q (.ret v)) E s) : wpC M A (exec (.Return (some e) pos) env) Q E s := by
  rw [exec_Return_some]
  exact wpC.stand (wpC.bind (h.thn fun v s1 z => wpC.pure z))
theorem c_try {body : List Stmt} {h₀ : ExceptHandler} {hs : List ExceptHandler} {pos : Pos} {Q : Flow → Shared → Prop}
    (h : wpC M A (execs body env) (fun f s₁ => match f with | .next => wpAny M A (execs [] env) Q E s₁ | f => Q f s₁)
      (fun e s₁ => wpAny M A (noteFrame e env) (fun _ s₂ => wpAny M A (setFlight e none) (fun _ s₃ => wpAny M A (handleBy e env (h₀ :: hs)) Q E s₃) E s₂) E s₁) s) :
    wpC M A (exec (.Try body (h₀ :: hs) [] [] pos) env) Q E s := by
  rw [arm_exec_Try]
  refine wpC.stand ?_
  unfold tryStmt
  simp only [List.isEmpty_nil, if_true, List.isEmpty_cons, Bool.false_and, Bool.false_eq_true, if_false]
  refine wpC.bind (wpC.attempt (h.mono (fun f s1 z => ?_) fun e s1 z => ?_))
  · cases f with
    | next => exact wpC.of z
    | brk => exact wpC.pure z
    | cont => exact wpC.pure z
    | ret v => exact wpC.pure z
  · exact wpC.of (wpAny_bind (wpAny_mono z (fun _ _ q => wpAny_bind q) fun _ _ q => q))
end
section
variable {prog : Program} {w : World} {A : Around} {E : Value → Shared → Prop} {s : Shared} {env : Env}
theorem c_expr {e : Expr} {pos : Pos} {Q : Flow → Shared → Prop} (h : wpC (model prog w) A (eval e env) (fun _ => Q .next) E s) (hi : interactive env = false := by rfl) (hs : swapsWith e none pos.line env = pure false := by rfl) :
    wpC (model prog w) A (exec (.Expr e pos) env) Q E s := by
  rw [exec_Expr env e pos hi hs]
  exact wpC.stand (wpC.bind (h.thn fun v s' z => wpC.of (wpAny_dropValue z)))
theorem c_loop {c : Code} {M : Model} {R : Result → Shared → Prop} (hq : c.quiet = true) (I : Nat → Shared → Prop)
    (turn : ∀ n s, I n s → wpC M (A.under c) (M.den c) (fun fin s' => match fin with
        | .done f => R (.ok f) s'
        | .again c' => (c' = c ∧ ∃ m, m < n ∧ I m s') ∨ (c'.quiet = true ∧ codeC M A c' R s')) (fun e s' => R (.error e) s') s) : ∀ (n : Nat) (s : Shared), I n s → codeC M A c R s := by
  intro n
  induction n using Nat.strongRecOn with
  | ind n ih =>
    intro s h
    refine codeC.tree ((turn n s h).thn fun fin s' z => ?_)
    cases fin with
    | done f => exact z
    | again c' =>
      rcases z with ⟨rfl, m, hm, hI⟩ | z
      · exact ⟨hq, ih m hm s' hI⟩
      · exact z
end
section
variable {M : Model} {A : Around} {E : Value → Shared → Prop} {s : Shared} {env : Env}
theorem c_not {x : Expr} {pos : Pos} {whole : Sem Value} {Q : Bool → Shared → Prop} (h : wpC M A (isTrue x env (eval x env)) (fun c s' => Q (!c) s') E s) : wpC M A (isTrue (.UnaryOp .Not x pos) env whole) Q E s := by
  show wpC M A (do return !(← isTrue x env (eval x env))) Q E s
  exact wpC.bind (h.thn fun c s' z => wpC.pure z)
theorem c_truth {e : Expr} {whole : Sem Value} {Q : Bool → Shared → Prop} (h : wpC M A whole (fun v s₁ => wpAny M A (truthy v) Q E s₁) E s) (he : isTrue e env whole = (do let v ← whole; standAt e.pos; holding [v] (truthy v)) := by rfl) : wpC M A (isTrue e env whole) Q E s := by
  rw [he]
  exact wpC.bind (h.thn fun v s1 z => wpC.stand (wpC.of (wpAny_holding z)))
theorem c_callN {id : Str} {p pos : Pos} {args : List Expr} {Q : Value → Shared → Prop}
    (h : wpAny M A (eval (.Name id p) env) (fun f s₁ => wpC M A (callWith pos f [] (backTo pos (starEach args env)) (backToKw pos (keywordEach [] env))) Q E s₁) E s) : wpC M A (eval (.Call (.Name id p) args [] pos) env) Q E s := by
  rw [arm_eval_Call_Name']
  exact wpC.bindA h
theorem c_splice {x : Sem Value} {rest : List (Bool × Sem Value)} {Q : List Value → Shared → Prop} (h : wpC M A x (fun v s₁ => wpC M A (spliced rest) (fun vs s₂ => Q (v :: vs) s₂) E s₁) E s) : wpC M A (spliced ((false, x) :: rest)) Q E s := by
  rw [spliced]
  refine wpC.bind (h.thn fun v s1 z => ?_)
  simp only [Bool.false_eq_true, if_false]
  exact wpC.bind (wpC.pure (wpC.bind (wpC.holding (z.thn fun vs s2 q => wpC.pure q))))
theorem c_args {f : Value} {x : Sem Value} {rest : List (Bool × Sem Value)} {Q : Args → Shared → Prop} (h : wpC M A (spliced ((false, x) :: rest)) (fun vs s' => Q ⟨vs, []⟩ s') E s) : wpC M A (evalArgs f true ((false, x) :: rest) []) Q E s := by
  unfold evalArgs
  show wpC M A (spliced ((false, x) :: rest) >>= _) Q E s
  exact wpC.bind (h.thn fun vs s' z => wpC.of (wpAny_holding (wpAny_bind (wpAny_pure (wpAny_bind (wpAny_pure (wpAny_pure z)))))))
theorem c_with {P : Heap → Prop} {f : Value} {first : List Value} {pos : Pos} {Q : Value → Shared → Prop} {args : List (Bool × Sem Value)} (hplain : (args.any (·.1) || false) = false)
    (hk : ∀ h, P h → ∃ k, (k = Keeper.frame ∨ k = Keeper.machine ∨ k = Keeper.boundFrame) ∧ Looks M h (keeperOf f) k)
    (h : wpC M A (evalArgs f true args []) (fun a s₁ => P s₁.heap ∧ wpC M A (PySem.call f (first ++ a.pos) a.kw) Q E s₁) E s) : wpC M A (callWith pos f first args []) Q E s := by
  unfold callWith
  refine wpC.bind (wpC.holding (h.thn fun a s1 z => wpC.stand ?_))
  obtain ⟨k, hk', L⟩ := hk _ z.1
  simp only [List.any_nil, hplain]
  refine wpC.bindA (L.here ?_)
  have tail : ∀ {t : Sem Value}, wpC M A t Q E s1 → wpC M A (t >>= fun r => holding [r] point >>= fun _ => pure r) Q E s1 :=
    fun ht => wpC.bind (ht.thn fun r s2 hr => wpC.of (wpAny_bind (wpAny_holding (wpAny_point (wpAny_pure hr)))))
  have marked (mk : Value) : wpC M A (callMarked mk f (first ++ a.pos) a.kw) Q E s1 := by
    unfold callMarked
    intro Γ p hΓ c
    rw [Sem.wp_keep]
    exact z.2 Γ p hΓ c
  rcases hk' with rfl | rfl | rfl <;> dsimp only <;> first | exact tail z.2 | (split <;> first | exact tail z.2 | exact tail (marked _))
theorem c_withK {h₀ : Heap} {K : PySem.W.Frag} {f : Value} {first : List Value} {pos : Pos} {Q : Value → Shared → Prop} {e : Expr} {rest : List Expr} (_X : K.In h₀) (hk : keepIn K f = true)
    (h : wpC M A (spliced (backTo pos (starEach (e :: rest) env))) (fun vs s₁ => K.In s₁.heap ∧ wpC M A (PySem.call f (first ++ vs)) Q E s₁) E s)
    (he : starEach (e :: rest) env = (false, eval e env) :: starEach rest env := by rfl) (hplain : (backTo pos (starEach rest env)).any (·.1) = false := by rfl) :
    wpC M A (callWith pos f first (backTo pos (starEach (e :: rest) env)) []) Q E s := by
  rw [he] at h ⊢
  exact c_with (by show ((false || (backTo pos (starEach rest env)).any (·.1)) || false) = false; rw [hplain]; rfl) (keeps_K hk) (c_args h)
end
section
variable {prog : Program} {w : World} {A : Around} {E : Value → Shared → Prop} {s : Shared} {env : Env}
theorem c_tuple {elts : List Expr} {pos : Pos} {x1 : Nat} {Q : Value → Shared → Prop} (h : wpC (model prog w) A (spliced (backTo pos (starEach elts env))) (fun vs s₁ => wpAny (model prog w) A (newTuple vs) Q E s₁) E s) :
    wpC (model prog w) A (eval (.Tuple elts x1 pos) env) Q E s := by
  rw [arm_eval_Tuple]
  exact wpC.stand (wpC.bind (h.thn fun vs s1 z => wpC.of z))
theorem c_func {R : Result → Shared → Prop} {body : List Stmt} (h : wpC (model prog w) (A.deeper env) (execs body env) (fun f s' => R (.ok (.ret (match f with | .ret v => v | _ => .none))) s')
      (fun e s' => wpAny (model prog w) (A.deeper env) (leaving env e) (fun _ s'' => R (.error e) s'') (fun e' s'' => R (.error e') s'') s') s) : codeC (model prog w) A (.func body env) R s := by
  refine codeC.tree ?_
  show wpC _ (A.deeper env) (do point; match ← (execs body env).onRaise (leaving env) with | .ret v => ret v | _ => ret .none) _ _ s
  refine wpC.bindA (wpAny_point (wpC.bind (wpC.onRaise (h.mono (fun f s' z => ?_) fun _ _ z => wpC.of z))))
  cases f <;> exact wpC.pure z
theorem c_call {R : Result → Shared → Prop} {a : Addr} {args : Args} {o : Obj} {fd : FuncData} {body : List Stmt} (hroom : A.depth < recursionLimit) (ho : s.heap.get? a = some o)
    (hd' : o.data = .func fd) (hco : fd.scope.isCoroutine = false) (hgen : fd.scope.isGenerator = false) (hbody : fd.body = .stmts body) (hcd : s.heap.CodeRec fd.code fd.qualname)
    (h : wpAny (model prog w) A.in1 (bindArgs fd args) (fun binds s₁ =>
      wpAny (model prog w) A.in1 (newFunctionEnv fd.scope fd.globals fd.closure binds (fd.qualname ++ ".<locals>.") (some a) fd.code none fd.builtins)
        (fun env s₂ => s₂.heap.NoLimit ∧ codeC (model prog w) A (.func body env) R s₂) (fun e s' => R (.error e) s') s₁) (fun e s' => R (.error e) s') s) :
    codeC (model prog w) A (.call (.ref a) args) R s := by
  refine codeC.tree ?_
  show wpC _ A.in1 (callAny (.ref a) args) _ _ s
  simp only [callAny]
  refine wpC.bindA (wpAny_load ho ?_)
  obtain ⟨c, oc, vs, tq, hc, hoc, hdc, hq⟩ := hcd
  simp only [hd', callFunction, hco, hgen, hbody, hc]
  rw [hc] at h
  refine wpC.bindA (m := field (.ref c) 1) (wpAny_field hoc hdc hq (wpC.bind (wpC.pure ?_)))
  exact wpC.bindA (wpAny_mono h (fun binds s1 z => wpC.bindA (wpAny_mono z (fun env s2 q => wpC.bindA (wpAny_enterFrame q.1 hroom (wpC.pure (And.intro rfl q.2)))) fun _ _ z => z)) fun _ _ z => z)
end
abbrev treeO (x : Str) (vs : List Value) : Sem Fin := do
  match ← nsGet mainNs x with
  | some f => do ret (← PySem.call f vs)
  | none => unsupported "claim.caller:no-such-global"
theorem top_wp {prog : Program} {w : World} {x : Str} {vs : List Value} {s : Shared} {mg : Str → Option Value} {f : Value} {R : Result → Shared → Prop} (hg : s.heap.Ns mainGlobals mg) (hf : mg x = some f)
    (h : codeC (model prog w) callerA (.call f ⟨vs, []⟩) (fun r s' => match r with | .ok (.ret v) => R (.ok (.ret v)) s' | .ok _ => False | .error e => R (.error e) s') s) :
    Sem.wp (model prog w) ⟨.builtin "claim.caller" {}, none, none, [], none⟩ (treeO x vs) (Sem.finPost (model prog w) ⟨.builtin "claim.caller" {}, none, none, [], none⟩ R) (fun e _ s' => R (.error e) s') default s := by
  have a : wpAny (model prog w) callerA (nsGet mainNs x) (fun o s' => o = some f ∧ s' = s) (fun _ _ => False) s := wpAny_nsGet hg ⟨hf, rfl⟩
  unfold treeO
  rw [Sem.wp_bind']
  refine Sem.wp_mono _ _ _ (fun o p s' z => ?_) (fun _ _ _ z => z.elim) default s (a _ default caller_in)
  obtain ⟨rfl, rfl⟩ := z
  show Sem.wp _ _ (PySem.call f vs >>= fun v => ret v) _ _ _ _
  rw [Sem.wp_bind']
  unfold PySem.call
  rw [Sem.wp_runValue]
  refine wpCode_mono (fun r s' z => ?_) (h _ p rfl (caller_in.enter _ none p (by intro z; cases z)) (by show (List.any [_] _) = true; rfl))
  cases r with
  | error e => exact z
  | ok fl => cases fl <;> first | exact z | exact z.elim
theorem cf_own {c : ClaimW} {x : Str} {w : World} {s : Shared} {free : Addr → Prop} {gens : Prop} {kept : Heap → Prop} (hz : s.asleep) (hgens : s.gens = #[])
    (spec : ∀ args, c.pre args = true → WData.layableAll args = true → ∀ ord : List DictEntry → List DictEntry, (∀ l, (ord l).Perm l) →
      ∃ vs s₁ mg f, layAllW c.records (classAt s.heap) w.params ord args s = some (vs, s₁) ∧ s₁.heap.Ns mainGlobals mg ∧ mg x = some f ∧
        codeC (model c.prog w) callerA (.call f ⟨vs, []⟩) (fun r s' => match r with
          | .ok (.ret v) => c.Ends s args vs s₁ (.ok (.ret v)) s' ∧ s'.os = s.os ∧ AllBare s'.gens ∧ kept s'.heap
          | .ok _ => False
          | .error e => c.Ends s args vs s₁ (.error e) s' ∧ s'.os = s.os ∧ AllBare s'.gens ∧ kept s'.heap) s₁) : c.CallFrom (callStub x) w free gens kept s := by
  intro args hp hl ord ho
  obtain ⟨vs, s1, mg, f, laid, hg, hf, hc⟩ := spec args hp hl ord ho
  have al := layAllW_rest _ _ _ laid
  obtain ⟨n, r, s', s'', hs, hn, fo, E1, E2, E3⟩ := wp_halts_full (M := model c.prog w) (R := fun r s' => c.Ends s args vs s1 r s' ∧ s'.os = s.os ∧ kept s'.heap) (Shared.asleep_of_life al.2.2.2 hz)
    (top_wp (R := fun r s' => (c.Ends s args vs s1 r s' ∧ s'.os = s.os ∧ kept s'.heap) ∧ leftWithCleanup s'.gens = false) hg hf (hc.mono fun r s' z => by
      cases r with
      | error e => exact ⟨⟨z.1, z.2.1, z.2.2.2⟩, leftWithCleanup_false_of_bare z.2.2.1⟩
      | ok fl => cases fl <;> first | exact ⟨⟨z.1, z.2.1, z.2.2.2⟩, leftWithCleanup_false_of_bare z.2.2.1⟩ | exact z))
  obtain ⟨eh, _, _, eo, _⟩ := Shared.forget_eq fo
  have E1 : c.Ends s args vs s1 r s'' := E1.congr eh
  have E3 : kept s''.heap := by rw [eh]; exact E3
  have E2 : s''.os = s.os := eo.trans E2
  have life : s''.heap.life = s.heap.life := (runN_life _ _ _ hn).trans al.2.2.2
  refine ⟨vs, s1, laid, n, _, s'', hs, ?_, (fun _ i y hy => by rw [hgens] at hy; simp at hy), E3, by rw [life], Shared.rest_eq E2⟩
  rcases E1 with ⟨v, rfl, d1, d2, d3, d4, d5⟩ | ⟨e, ob, cls, rfl, d1, d2, d3, d4, d5⟩
  · exact .inl ⟨v, rfl, d1, d2, d3, fun b o y _ => d4 b o y, d5⟩
  · exact .inr ⟨e, ob, cls, rfl, d1, d2, d3, d4, fun b o y _ => d5 b o y⟩
abbrev WalkC (q : Program) (loose : List Str) (XP : (Str → Option Value) → Heap → Prop) (YP : World → Heap → Prop) (r : RowW) (d : DefRec) (kwd : List (Str × Expr)) : Prop :=
  ∀ (w : World) (s₀ s₁ : Shared) (mg mb : Str → Option Value), Ground q loose r.records XP w s₀ mg mb s₁.heap → YP w s₁.heap → ∀ (a : Addr) (o : Obj) (pm cd doc dV kV : Value), s₁.heap.get? a = some o →
    o.data = .func { Calls.docDef d.name d.params d.body d.scope pm cd doc with defaults := dV, kwdefaults := kV } → s₁.heap.CodeRec cd d.name → Dflts mg s₁.heap d.params kwd dV kV → mg d.name = some (.ref a) → s₁.gens = #[] →
    ∀ (args : List WData) (vals : List Value) (as : List Addr), r.claim.pre args = true → WData.layableAll args = true → ReadsAllW r.records (classAt s₀.heap) s₁.heap vals args as → WellAll w.params s₁.heap vals args → (∀ a ∈ as, (a == sysModules) = false) →
      codeC (model r.prog w) callerA (.call (.ref a) ⟨vals, []⟩) (fun res s' => match res with
        | .ok (.ret v) => GoodWG r.claim (classAt s₀.heap) (ExcName.means s₀.heap) args s₁ (.ok (.ret v)) s'
        | .ok _ => False
        | .error e => GoodWG r.claim (classAt s₀.heap) (ExcName.means s₀.heap) args s₁ (.error e) s') s₁
theorem PySem.W.holds_open {r : OpenRow} {q : Program} {loose : List Str} {Xt : Shared → Bool} {XP : (Str → Option Value) → Heap → Prop} {α : Type} {Yf : Shared → α} {Ya : World → α} {YP : World → Heap → Prop} {d : DefRec} {kwd : List (Str × Expr)} {N : Nat}
    (left : LeftO r.prog q loose Xt Yf Ya N) (hY : ∀ w s, Yf s = Ya w → YP w s.heap) (hYk : ∀ w h h', YP w h → (∀ b o, h.get? b = some o → h'.get? b = some o) → YP w h')
    (hX : ∀ s, Xt s = true → XP (s.heap.nsMap mainGlobals) s.heap) (hXk : ∀ mg h h', XP mg h → (∀ b o, h.get? b = some o → h'.get? b = some o) → XP mg h')
    (hdef : defOf q r.name = some (d, kwd)) (hp : r.prog.theDef r.name = some (d.params, d.body, d.scope)) (hk : kwWritten? d.params.kwonlyargs d.params.kw_defaults = some kwd) (hRf : ∀ s, Xt s = true → RecFacts r.records s.heap) (hwr : (!r.writes || r.records.isEmpty) = true)
    (k1 : r.wellSaid = true) (ok : (chainsOk q && opensWell r.prog && (frees r.toRowW && r.within.isEmpty)) = true) (hb : r.prog.bare) (hw : r.toRowW.promised)
    (call : WalkC q loose XP YP r.toRowW d kwd) : r.Holds := by
  refine ⟨k1, hw, ?_⟩
  obtain ⟨ok, k5⟩ := Bool.and_eq_true_iff.mp ok
  obtain ⟨hch, o1⟩ := Bool.and_eq_true_iff.mp ok
  obtain ⟨k5, k6⟩ := Bool.and_eq_true_iff.mp k5
  obtain ⟨same, hu, ha, hap, hm⟩ := frees_parts k5
  refine ⟨⟨hb, o1, by show r.makers.map _ = []; rw [hm]; rfl⟩, hw.witness, fun w => ⟨(left.behind hX hch w).1, fun s' hs' => ?_⟩⟩
  obtain ⟨s0, hf, hg0, s, hT, hz, hgens, hg, G00, y⟩ := (left.behind (XP := fun mg h => XP mg h ∧ RecFacts r.records h) (fun s hs => ⟨hX s hs, hRf s hs⟩) hch w).2 s' hs'
  have G0 : Ground q loose [] XP w s (s.heap.nsMap mainGlobals) (s.heap.nsMap builtinsNs) s.heap := ⟨G00.T, G00.B, G00.D, G00.TE, G00.TD, G00.W, G00.X.1, G00.cls, G00.has, G00.apart, G00.once, G00.K⟩
  have RF := G00.X.2
  refine ⟨s0, hf, hg0, s, hT, fun n hn => ?_, RF.1, RF.2.1, ?_⟩
  · obtain rfl : n = r.name := by split at hn <;> simp_all
    exact pinned_of_view hg G0 hdef hp hk
  have gens : s.gens = #[] := Array.eq_empty_of_size_eq_zero (beq_iff_eq.mp hgens)
  have G : Ground q loose r.records XP w s _ _ s.heap := RF.ground G0
  refine cf_own (c := r.toRowW.claim) hz gens fun args hpre hlay ord hord => ?_
  obtain ⟨⟨vs, s1⟩, laid⟩ := Option.isSome_iff_exists.mp (layAllW_isSome (P := w.params) (ord := ord) G.has args r.args s (pre_splitW hpre).1)
  have keeps := layAllW_keeps _ _ _ laid
  have al := layAllW_rest _ _ _ laid
  obtain ⟨as, hrd, hin, hold⟩ := reads_layAllW hord _ _ _ laid hlay s1.heap (fun _ _ e => e)
  have L : Laid r.records w s s1 args vs as := ⟨⟨ord, hord, laid⟩, hrd, hin, hold, keeps, al.1.trans gens, al.2.2.1⟩
  have G1 := G.keeps hXk keeps
  obtain ⟨a, o, pm, cd, doc, dV, kV, h1, h2, h3, h4, h5⟩ := G1.fn hdef
  have hi := ident_freeW hu ha hap
  have hwi : r.toRowW.claim.within = [] := List.isEmpty_iff.mp k6
  refine ⟨vs, s1, _, .ref a, laid, G1.T.g, h1, (call w s s1 _ _ G1 (hYk _ _ _ (hY w s y) keeps) a o pm cd doc dV kV h2 h3 h4 h5 (defOf_name hdef ▸ h1) L.gens args vs as hpre hlay L.reads L.well (L.low G.low)).mono fun res s' z => ?_⟩
  cases res with
  | error e => have q := z.laid (c := r.toRowW.claim) same hwi hi L; exact ⟨q.1, q.2.1, q.2.2, fun k => ⟨namesKept_of hT hg r.keeps keeps z.2.1.old, noTable hwr k⟩⟩
  | ok fl => cases fl <;> first | exact z.elim | (have q := z.laid (c := r.toRowW.claim) same hwi hi L; exact ⟨q.1, q.2.1, q.2.2, fun k => ⟨namesKept_of hT hg r.keeps keeps z.2.1.old, noTable hwr k⟩⟩)
end WC
set_option linter.all false
namespace PD
open PySem PySem.Spec PyProof.Rows L2 PX WC
def PEC (X : Cx) (e : Expr) (t : DE) : Prop :=
  ∀ (pins : List (Addr × Obj)) (s : Shared) (σ : St) (H : Hp) (W : Own) (ρ : Ro) (Q : D → Prop), Inv X pins σ H s → Rel X W H σ ρ → t ρ Q →
    wpC (model X.prog X.w) X.A (eval e X.env) (DP X pins σ W H Q) X.xe s
def PTC (X : Cx) (e : Expr) (t : DT) : Prop :=
  ∀ (pins : List (Addr × Obj)) (s : Shared) (σ : St) (H : Hp) (W : Own) (ρ : Ro) (Q : Bool → Prop), Inv X pins σ H s → Rel X W H σ ρ → t ρ Q →
    wpC (model X.prog X.w) X.A (isTrue e X.env (eval e X.env)) (DTP X pins σ H Q) X.xe s
def PWC (X : Cx) (e : Expr) (t : DT) : Prop :=
  ∀ (whole : Sem Value) (pins : List (Addr × Obj)) (s : Shared) (σ : St) (H : Hp) (W : Own) (ρ : Ro) (Q : Bool → Prop), Inv X pins σ H s → Rel X W H σ ρ → t ρ Q →
    wpC (model X.prog X.w) X.A (isTrue e X.env whole) (DTP X pins σ H Q) X.xe s
def PAC (X : Cx) (es : List Expr) (t : DA) : Prop :=
  ∀ (pos : Pos) (pins : List (Addr × Obj)) (s : Shared) (σ : St) (H : Hp) (W : Own) (ρ : Ro) (Q : List D → Prop), Inv X pins σ H s → Rel X W H σ ρ → t ρ Q →
    wpC (model X.prog X.w) X.A (spliced (backTo pos (starEach es X.env))) (DAP X pins σ W H Q) X.xe s
def PSC (X : Cx) (st : Stmt) (t : DS) : Prop :=
  ∀ (pins : List (Addr × Obj)) (s : Shared) (σ : St) (H : Hp) (W : Own) (ρ : Ro) (E : DEnds), Inv X pins σ H s → Rel X W H σ ρ → t E ρ →
    wpC (model X.prog X.w) X.A (exec st X.env) (SPD X pins W H E) X.xe s
def PSCs (X : Cx) (st : List Stmt) (t : DS) : Prop :=
  ∀ (pins : List (Addr × Obj)) (s : Shared) (σ : St) (H : Hp) (W : Own) (ρ : Ro) (E : DEnds), Inv X pins σ H s → Rel X W H σ ρ → t E ρ →
    wpC (model X.prog X.w) X.A (execs st X.env) (SPD X pins W H E) X.xe s
section
variable {X : Cx} {e a b : Expr} {es rest' : List Expr} {te : DE} {tA tB : DT} {t u : DS} {tl : DA} {st : Stmt} {rest : List Stmt} {pos : Pos}
theorem PED.c (h : PED X e te) : PEC X e te := fun pins s σ H W ρ Q I r q => wpC.of (h pins s σ H W ρ Q I r q)
theorem PTD.c (h : PTD X e tA) : PTC X e tA := fun pins s σ H W ρ Q I r q => wpC.of (h pins s σ H W ρ Q I r q)
theorem PWD.c (h : PWD X e tA) : PWC X e tA := fun w pins s σ H W ρ Q I r q => wpC.of (h w pins s σ H W ρ Q I r q)
theorem PAD.c (h : PAD X es tl) : PAC X es tl := fun p pins s σ H W ρ Q I r q => wpC.of (h p pins s σ H W ρ Q I r q)
theorem PSD.c (h : PSD X st t) : PSC X st t := fun pins s σ H W ρ E I r q => wpC.of (h pins s σ H W ρ E I r q)
theorem PSDs.c (h : PSDs X rest t) : PSCs X rest t := fun pins s σ H W ρ E I r q => wpC.of (h pins s σ H W ρ E I r q)
theorem PWC.pt (h : PWC X e tA) : PTC X e tA := h _
theorem css_cons (h1 : PSC X st t) (h2 : PSCs X rest u) : PSCs X (st :: rest) (dSeq t u) := by
  intro pins s σ H W ρ E I r h
  refine c_execs ((h1 pins s σ H W ρ { E with nx := u E } I r h).thn fun f s1 ⟨W', σ', H', I', fw, q⟩ => ?_)
  cases f with
  | next =>
    obtain ⟨ρ', r', q⟩ := q
    exact (h2 pins s1 σ' H' W' ρ' E I' r' q).thn fun _ _ z => z.up fw
  | ret v => exact ⟨W', σ', H', I', fw, q⟩
  | brk => exact ⟨W', σ', H', I', fw, q⟩
  | cont => exact ⟨W', σ', H', I', fw, q⟩
theorem cs_set {x : Str} {pos' : Pos} (i : Nat) (hN : X.N.Nodup) (he : PEC X e te) (hi : X.N[i]? = some x := by rfl) (hx : Loc X.env.scope x := by first | exact Or.inl rfl | exact Or.inr rfl) (hs : swapsWith e (some (.Name x pos')) pos.line X.env = pure false := by rfl)
    (hf : X.fn x = true ∨ X.env.scope.names.lookup x = some .local := by first | exact .inl rfl | exact .inr rfl | assumption) : PSC X (.Assign [.Name x pos'] e pos) (dSet i te) := by
  intro pins s σ H W ρ E I r h
  refine c_set ((he pins s σ H W ρ _ I r h).thn fun u s1 ⟨v, H1, d, I1, r1, e1, hd, q1⟩ => ?_) hs
  exact store_ok I1 hN hi hx r1 (fun s2 I2 => ⟨W.drop i, _, H1, I2, (Fwd.same e1).trans (Fwd.drop W H1 i), _, (r.same e1).put (Inv.ilt I1 hi) hd, q1⟩) hf
theorem cs_if {c : Expr} {a b : List Stmt} {tc : DT} (hc : PTC X c tc) (ha : PSCs X a t) (hb : PSCs X b u) : PSC X (.If c a b pos) (dIfS tc t u) := by
  intro pins s σ H W ρ E I r h
  refine c_if ((hc pins s σ H W ρ _ I r h).thn fun d s1 ⟨H1, I1, e1, q1⟩ => ?_)
  cases d with
  | true => exact (ha pins s1 σ H1 W ρ E I1 (r.same e1) q1).thn fun _ _ z => z.up (Fwd.same e1)
  | false => exact (hb pins s1 σ H1 W ρ E I1 (r.same e1) q1).thn fun _ _ z => z.up (Fwd.same e1)
theorem cs_ret (he : PEC X e te) : PSC X (.Return (some e) pos) (dRet te) := by
  intro pins s σ H W ρ E I r h
  exact c_ret ((he pins s σ H W ρ _ I r h).thn fun u s1 ⟨v, H1, d, I1, r1, e1, hd, q1⟩ => ⟨W, σ, H1, I1, Fwd.same e1, v, d, r1, hd, q1⟩)
theorem ct_val (h : PEC X e te) (he : ∀ whole, isTrue e X.env whole = (do let v ← whole; standAt e.pos; holding [v] (truthy v)) := by intro _; rfl) : PTC X e (dB te) := by
  intro pins s σ H W ρ Q I rr hw
  refine c_truth ((h pins s σ H W ρ _ I rr hw).thn fun vv s1 ⟨v, H1, x, I1, rv, e1, hx, q⟩ => ?_) (he _)
  obtain ⟨k, ek, q⟩ := blQ_ex q
  subst ek
  have hz := hx.bl_
  subst hz
  cases rv
  exact wpAny_truthy_bool ⟨H1, I1, e1, q⟩
theorem ct_not (ha : PTC X a tA) : PTC X (.UnaryOp .Not a pos) (dNot tA) := by
  intro pins s σ H W ρ Q I rr h
  exact c_not ((ha pins s σ H W ρ (fun c => Q (!c)) I rr h).thn fun _ _ ⟨a, b, c, d⟩ => ⟨a, b, c, d⟩)
theorem ca_cons (ha : PEC X e te) (hr : PAC X es tl) (hs : starEach (e :: es) X.env = (false, eval e X.env) :: starEach es X.env := by rfl) : PAC X (e :: es) (dCons te tl) := by
  intro pos pins s σ H W ρ Q I rr h
  rw [hs]
  show wpC _ _ (spliced ((false, eval e X.env) :: backTo pos (starEach es X.env))) _ _ s
  refine c_splice ((ha pins s σ H W ρ _ I rr h).thn fun u s1 ⟨v, H1, x, I1, r1, e1, hx, q1⟩ => ?_)
  exact (hr pos pins s1 σ H1 W ρ _ I1 (rr.same e1) q1).thn fun us s2 ⟨vs, H2, xs, I2, r2, e2, hxs, q2⟩ => ⟨v :: vs, H2, x :: xs, I2, .cons r1 r2, e1.trans e2, Dens.cons (hx.same e2) hxs, q2⟩
theorem PSC.nox (h : PSC X.nox st t) : PSC X st t := fun pins s σ H W ρ E I r hw =>
  (h pins s σ H W ρ E (I.wish _) (r.wish _) hw).mono (fun _ _ q => q.unwish) fun _ _ z => False.elim z
theorem PSCs.nox (h : PSCs X.nox rest t) : PSCs X rest t := fun pins s σ H W ρ E I r hw =>
  (h pins s σ H W ρ E (I.wish _) (r.wish _) hw).mono (fun _ _ q => q.unwish) fun _ _ z => False.elim z
end
structure FnC (P : Program) (w : World) (K : PySem.W.Frag) (mg : Str → Option Value) (base : Heap) (k : Nat) (f : Addr) (fd : FuncData) (ps : List Str) (sp : DSp) : Prop where
  len : ∀ vs H Q E, spOf K sp vs H Q E → vs.length = ps.length
  run : ∀ (A : Around) (outer : List Env) (s : Shared) (H : Hp) (args : Args) (us : List Value) (vs : List V) (Q : VK) (E : XK), Room k A → Env0 P w K mg base A outer s H → BindsTo s fd args (ps.zip us) → Vals vs us → spOf K sp vs H Q E →
    codeC (model P w) A (.call (.ref f) args) (CR (CX1 P w) outer P w H s Q E) s
def HasK (P : Program) (w : World) (K : PySem.W.Frag) (mg : Str → Option Value) (base : Heap) (x : Str) (k : Nat) (ps : List Str) (sp : DSp) : Prop :=
  ∃ f fd, FnC P w K mg base k f fd ps sp ∧ mg x = some (.ref f) ∧ PySem.W.keepIn K (.ref f) = true ∧ Binds K fd ps []
section
variable {X : Cx} {k : Nat} {f : Addr} {fd : FuncData} {ps : List Str} {sp : DSp} {x : Str} {p pos : Pos} {e : Expr} {es : List Expr} {t : DA}
theorem run_cX {Ed : Value → Prop} {XE : Value → Shared → Prop} (F : FnC X.prog X.w X.K X.mg X.base k f fd ps sp) (hr : Room k X.A) (hb : Binds X.K fd ps [])
    {pins : List (Addr × Obj)} {σ : St} {H : Hp} {s : Shared} {W : Own} {ρ : Ro} {us : List Value} {vs : List V} {ds : List D} {Q : D → Prop} (I : Inv X pins σ H s) (rr : Rel X W H σ ρ) (r : Vals vs us) (hds : Dens X.K W.bad H ds vs)
    (q : sp (untags ds) Q Ed) (hx : ∀ e s', CX1 X.prog X.w X.stack H s (fun c _ _ => Ed c) e s' → XE e s') : wpC (model X.prog X.w) X.A (call (.ref f) us) (DP X pins σ W H Q) XE s := by
  have hsp : spOf X.K sp vs H (fun v H' => Same H H' ∧ ∃ d, Den X.K W.bad H' d v ∧ Q d) (fun c _ _ => Ed c) :=
    ⟨W.bad false, untags ds, Q, Ed, rr.tab, rr.tracked false, Dens.untag (fun _ _ => Own.bad_up) ds vs hds, q, fun d v H' e h1 h2 => ⟨e, d, Den.back rr.tracked h1, h2⟩, fun _ _ _ _ z => z⟩
  have hl : us.length = ps.length := by rw [← r.length]; exact F.len _ _ _ _ hsp
  refine wpC.call ((F.run X.A X.stack s H ⟨us, []⟩ us vs _ _ hr I.env0 (by have := hb s us I.kIn (by rw [List.append_nil]; exact hl); rwa [List.append_nil] at this) r hsp).mono fun res s' hq => ?_)
  cases res with
  | error er => exact hx er s' hq
  | ok fl =>
    cases fl with
    | ret u =>
      obtain ⟨v, H2, I2, r2, e2, d, h1, h2⟩ := I.after hq
      exact ⟨v, H2, d, I2, r2, e2, h1, h2⟩
    | next => exact False.elim hq
    | brk => exact False.elim hq
    | cont => exact False.elim hq
theorem ce_callX {Ed : Value → Prop} (px : PassX X Ed) (h : HasK X.prog X.w X.K X.mg X.base x k ps sp) (hr : Room k X.A) (ha : PAC X (e :: es) t) (hg : Gl X x := by rfl) (hdb : (x == ("__debug__" : Str)) = false := by decide)
    (he : starEach (e :: es) X.env = (false, eval e X.env) :: starEach es X.env := by rfl) (hpl : (backTo pos (starEach es X.env)).any (·.1) = false := by rfl) : PEC X (.Call (.Name x p) (e :: es) [] pos) (dCallX sp Ed [] t) := by
  obtain ⟨f, fd, F, hm, hk, hb⟩ := h
  intro pins s σ H W ρ Q I rr h
  refine c_callN (ld_glob I hg hm ?_ hdb)
  refine c_withK (h₀ := X.base) I.ok.mod.kin hk ((ha pos pins s σ H W ρ _ I rr h).thn fun us s1 ⟨vs, H1, ds, I1, r, e1, hds, q⟩ => ⟨I1.kIn, ?_⟩) he hpl
  exact (run_cX F hr hb I1 (rr.same e1) r hds (by rwa [List.append_nil] at q) fun er s' hx => px pins σ H1 W ρ s1 er s' I1 (rr.same e1) hx).thn fun _ _ z => z.up e1
theorem passN : PassX X.nox fun _ => False := fun _ _ _ _ _ _ _ _ _ _ h => by
  obtain ⟨_, _, _, _, _, _, _, _, _, _, _, _, _, z⟩ := h
  exact z.elim
end
section
variable {P : Program} {w : World} {K : PySem.W.Frag} {mg : Str → Option Value} {base : Heap}
theorem FunD.okK {x qual : Str} {st : Stmt} {f : Addr} {fd : FuncData} {N ps : List Str} {k : Nat} {sp : DSp} (F : FunD K x qual st f fd) (S : FnScope N ps (defScope st)) (len : ∀ ds Q E, sp ds Q E → ds.length = ps.length)
    (hbody : ∀ (cdv : Value) (A : Around) (outer : List Env) (s : Shared) (H : Hp) (E : XK) (Ed : Value → Prop), Room k (A.deeper (envOfC qual (defScope st) s.heap.objs.size f cdv)) → MadeX (cxOf (CX1 P w) P w K mg base N qual (defScope st) f cdv A outer s H E) Ed → PassX (cxOf (CX1 P w) P w K mg base N qual (defScope st) f cdv A outer s H E) Ed → HeldX (cxOf (CX1 P w) P w K mg base N qual (defScope st) f cdv A outer s H E) Ed →
      ∃ t, PSCs (cxOf (CX1 P w) P w K mg base N qual (defScope st) f cdv A outer s H E) (defBody st) t ∧ ∀ ds Q, sp ds Q Ed → t { nx := fun _ => Q .non, rt := Q } (startD N ds)) : FnC P w K mg base (k + 1) f fd ps sp := by
  obtain ⟨oc, od, dV, kV, doc, pm, an, cdv, ct, osl, rfl, lk, hcd⟩ := F.ex
  have len' : ∀ vs H Q E, spOf K sp vs H Q E → vs.length = ps.length := fun vs H Q E h => by
    obtain ⟨_, ds, _, _, _, _, hd, hs, _⟩ := h
    rw [hd.len]
    exact len ds _ _ hs
  refine ⟨len', fun A outer s H args us vs Q E hr e0 hb r hsp => ?_⟩
  have hl := len' _ _ _ _ hsp
  have KX : K.In s.heap := e0.mod.kin.keeps fun b o e => (e0.bs b o e).1
  have lim : s.heap.NoLimit := e0.mod.nolimit.keeps fun b o e => (e0.bs b o e).1
  have hkind : ∀ y ∈ ps.zip us, (defScope st).names.lookup y.1 = some .local ∨ ((defScope st).names.lookup y.1 = some .cell ∧ ((cellsFrom (s.heap.objs.size + 1) (defScope st).names []).lookup y.1).isSome = true) := fun ⟨n, v⟩ hy => by
    rcases S.par n (List.of_mem_zip hy).1 with q | q
    · exact .inl q
    · exact .inr ⟨q, PySem.W.cellsFrom_some _ _ _ (.inl q)⟩
  refine c_call hr.depth (KX _ _ lk) rfl S.co S.gen rfl (PySem.W.codeRec_of KX hcd) (hb _ _ _ _ ?_)
  refine wpAny_newFunctionEnv_cells S.kind hkind fun env he s1 x => ?_
  subst he
  refine ⟨lim.keeps x.toInCall.keep, c_func ?_⟩
  obtain ⟨Pb, ds, Qd, Ed, hT, hP, hd, hs, kq, ke⟩ := hsp
  obtain ⟨t, ht, kk⟩ := hbody cdv A outer s H E Ed (hr.deeper _) (made1 ke) (passes1 ke) (held1 ke)
  have I : Inv (cxOf (CX1 P w) P w K mg base N qual (defScope st) f cdv A outer s H E) [] (start N vs) H s1 := inv_start S hr.hd e0 hl r x
  refine (ht [] s1 (start N vs) H ⟨Pb, fun _ => none, fun a => ∃ o, H a = some o⟩ _ _ I (Rel.start hP hd rfl hT) (kk ds Qd hs)).mono (fun fl s' hs => ?_) fun e s' hs => hs
  have fin : ∀ {σ' : St} {H' : Hp} {v : V} {u : Value}, Inv (cxOf (CX1 P w) P w K mg base N qual (defScope st) f cdv A outer s H E) [] σ' H' s' → RelV v u → Q v H' → CE outer P w H s Q u s' :=
    fun {σ' H' v u} J rv q => ⟨v, H', J.os, J.bare, J.base, J.hok, rv, q⟩
  obtain ⟨W', σ', H', J, fw, q⟩ := hs
  have sm : Same H H' := ⟨fun b o e n => fw.kp b o (fun i z => by cases z) e n, fw.tb, fw.ok⟩
  cases fl with
  | ret u =>
    obtain ⟨v, d, rv, hd', q⟩ := q
    refine fin J rv (kq d v H' sm (hd'.fewer fun t a z => ?_) q)
    rcases z with z | z
    · exact .inl (by rw [fw.B]; exact z)
    · exact .inr (.inr ⟨z.1, by rw [fw.S]; exact z.2⟩)
  | next =>
    obtain ⟨ρ', r', q⟩ := q
    exact fin (v := V.non) (u := Value.none) J rfl (kq .non .non H' sm Den.non q)
  | brk => obtain ⟨_, _, q⟩ := q; exact False.elim q
  | cont => obtain ⟨_, _, q⟩ := q; exact False.elim q
end
end PD
set_option linter.all false
namespace PD
open PySem PySem.Spec PyProof.Rows L2 PX WC
section
variable {X : Cx} {pos : Pos}
def exOk (K : PySem.W.Frag) (C : Addr) (i : Nat) (su : DS) (E : DEnds) (ρ : Ro) (cv : Value) : Prop := ∃ c, cv = .ref c ∧ ExcK K c ∧ PySem.W.exmOne K (.ref c) (.ref C) = some true ∧
  su ⟨fun ρ' => E.nx (ρ'.set i none), E.rt, fun ρ' => E.bk (ρ'.set i none), fun ρ' => E.ct (ρ'.set i none)⟩ (ρ.set i (some (.val (.exc c))))
theorem caught {C : Addr} {x n : Str} {np hp : Pos} {b₀ : Stmt} {suite : List Stmt} {su : DS} (i : Nat) (hN : X.N.Nodup) (hmx : X.mg x = some (.ref C)) (hsu : ∀ v, PSDs (Cx.markX X v) (b₀ :: suite) su) (hgx : Gl X x) (hi : X.N[i]? = some n) (hkn : X.env.scope.names.lookup n = some .local)
    (hex : X.ex = []) (hst : X.stack = X.env :: X.outer) (hef : X.env.frame = some X.env.locals) (hdx : (x == ("__debug__" : Str)) = false) {pins : List (Addr × Obj)} {s1 s' : Shared} {σ : St} {H H1 : Hp} {W : Own} {ρ : Ro} {E : DEnds} {er : Value}
    (I1 : Inv X pins σ H1 s1) (rr1 : Rel X W H1 σ ρ) (e1 : Same H H1) (hx : CX1 X.prog X.w X.stack H1 s1 (fun c _ _ => exOk X.K C i su E ρ c) er s') :
    wpAny (model X.prog X.w) X.A (noteFrame er X.env) (fun _ s₂ => wpAny (model X.prog X.w) X.A (setFlight er none) (fun _ s₃ => wpAny (model X.prog X.w) X.A (handleBy er X.env [.ExceptHandler (some (.Name x np)) (some n) (b₀ :: suite) hp]) (SPD X pins W H E) X.xe s₃) X.xe s₂) X.xe s' := by
  have ist : i < σ.length := Inv.ilt I1 hi
  obtain ⟨ea, c, H', B, a0, rfl, os, bare, Ff, sm, hn, hn0, fl, c', hc', xk, exm, hsu'⟩ := hx
  cases hc'
  have fr' : X.A.frames = some (X.env :: X.outer) := by rw [← hst]; exact I1.ok.frames
  rw [hst] at fl
  refine wpAny_looks_onW fr' hef fl fun h4 x4 u4 => wpAny_landsW x4 fun h5 x5 u5 => ?_
  have F5 := (Ff.step x4.1 u4).step x5.1 u5
  have I5 : Inv X pins σ H' { s' with heap := h5 } := I1.call' os F5.un F5.hok bare (by intro b z; cases z)
  have ex_ : ∀ {h' : Heap}, Heap.FlyingW B (X.env :: X.outer) ea (.ref c) a0 h' → ExcAt ea c h' := fun {h'} x => by
    obtain ⟨oe, ws, q1, q2, q3, _⟩ := x.first
    exact ⟨oe, ws, q1, q2, q3⟩
  refine wpAny_handleBy_cons (codeAny_handlers_test (ld_glob (Inv.marked I5 (.ref ea)) hgx hmx ?_ hdx)) (by intro q; cases q)
  refine (PySem.W.exm_one I5.kIn (ExcAt.ty (ex_ x5)) exm).here ?_
  refine codeAny_handlers_suite_as (lands_againW x5 fun h6 x6 u6 => ?_)
  have F6 := F5.step x6.1 u6
  have I6 : Inv X pins σ H' { s' with heap := h6 } := I1.call' os F6.un F6.hok bare (by intro b z; cases z)
  have I7 : Inv X pins σ (L2.upd H' ea (.ext (ExcAt ea c))) { s' with heap := h6 } := by
    refine Inv.track I6 hn ?_ ?_ (fun y c' q z => ?_) (fun p hp z => ?_) ⟨ex_ x6, ?_, fun h1 h2 q z => ?_⟩
    · cases q : X.s₀.heap.get? ea with
      | none => rfl
      | some o =>
        by_cases hx : ea ∈ X.ex
        · rw [hex] at hx; cases hx
        · obtain ⟨o', q'⟩ := I1.base.there ea o q hx
          rw [hn0] at q'
          cases q'
    · intro z
      obtain ⟨m, ⟨o, _, _, q, _⟩, _⟩ := I1.loc
      rw [← z, hn0] at q
      cases q
    · obtain ⟨w', o, z', _⟩ := I1.cell y c' q
      rw [z, hn0] at z'
      cases z'
    · have := (I1.pin p hp).1
      rw [z, hn0] at this
      cases this
    · obtain ⟨oe, ws, q1, _⟩ := ex_ x6
      exact ⟨oe, q1⟩
    · obtain ⟨oe, ws, q1, q2, q3⟩ := q
      exact ⟨oe, ws, z _ q1, q2, q3⟩
  have smu : Same H' (L2.upd H' ea (.ext (ExcAt ea c))) := Same.upd hn
  refine store_ok (X := Cx.markX X (.ref ea)) (v := .ref ea) (Inv.marked I7 (.ref ea)) hN hi (.inl hkn) rfl (fun s7 J7 => ?_) (.inr hkn)
  have rl7 : Rel X (W.drop i) (L2.upd H' ea (.ext (ExcAt ea c))) (σ.set i (some (.ref ea))) (ρ.set i (some (.val (.exc c)))) := ((rr1.same sm).same smu).put ist (Den.exc upd_same xk)
  refine wpAny_mono (hsu (.ref ea) pins s7 _ _ _ _ _ J7 (Rel.marked rl7 _) hsu') (fun fw s8 q8 => ?_) fun _ _ z => False.elim z
  obtain ⟨W8, σ8, H8, J8, f8, q8⟩ := q8
  have ff : Fwd W H (W8.drop i) H8 := (Fwd.same ((e1.trans sm).trans smu)).trans ((Fwd.drop W _ i).trans (f8.trans (Fwd.drop W8 H8 i)))
  refine name_gone (Inv.unmark J8 I1.ok) hN hi hkn fun s9 I9 => ⟨W8.drop i, _, H8, I9, ff, ?_⟩
  cases fw with
  | next => obtain ⟨ρ8, r8, n8⟩ := q8; exact ⟨_, (Rel.unmark r8).unset (Inv.ilt (Inv.unmark J8 I1.ok) hi), n8⟩
  | brk => obtain ⟨ρ8, r8, n8⟩ := q8; exact ⟨_, (Rel.unmark r8).unset (Inv.ilt (Inv.unmark J8 I1.ok) hi), n8⟩
  | cont => obtain ⟨ρ8, r8, n8⟩ := q8; exact ⟨_, (Rel.unmark r8).unset (Inv.ilt (Inv.unmark J8 I1.ok) hi), n8⟩
  | ret v => obtain ⟨x8, d8, r8, h8, n8⟩ := q8; exact ⟨x8, d8, r8, h8.fewer fun _ _ => Own.drop_bad, n8⟩
def dTryS (K : PySem.W.Frag) (C : Addr) (i j : Nat) (sp : DSp) (t : DA) (su : DS) : DS := fun E ρ => t ρ fun ds => sp (untags ds) (fun d => E.nx (ρ.set j (some (.val d)))) (exOk K C i su E ρ)
end
end PD
set_option linter.all false
namespace PD
open PySem PySem.Spec PyProof.Rows L2 PX WC
section
variable {X : Cx} {es : List Expr} {t : DA} {pos : Pos}
theorem Has.k {P : Program} {w : World} {K : PySem.W.Frag} {mg : Str → Option Value} {base : Heap} {x : Str} {k : Nat} {ps : List Str} {sp : DSp} (h : Has P w K mg base x k ps sp) : HasK P w K mg base x k ps sp := by
  obtain ⟨f, fd, F, m, k, b⟩ := h
  exact ⟨f, fd, ⟨F.len, fun A outer s H args us vs Q E a b c d e => codeC.of (F.run A outer s H args us vs Q E a b c d e)⟩, m, k, b⟩
theorem FunD.okKN {P : Program} {w : World} {K : PySem.W.Frag} {mg : Str → Option Value} {base : Heap} {x qual : Str} {st : Stmt} {f : Addr} {fd : FuncData} {N ps : List Str} {k : Nat} {sp : DSp} (F : FunD K x qual st f fd) (S : FnScope N ps (defScope st)) (len : ∀ ds Q E, sp ds Q E → ds.length = ps.length)
    (hbody : ∀ (cdv : Value) (A : Around) (outer : List Env) (s : Shared) (H : Hp) (E : XK), Room k (A.deeper (envOfC qual (defScope st) s.heap.objs.size f cdv)) →
      ∃ t, PSCs (cxOf (CX1 P w) P w K mg base N qual (defScope st) f cdv A outer s H E).nox (defBody st) t ∧ ∀ ds Q Ed, sp ds Q Ed → t { nx := fun _ => Q .non, rt := Q } (startD N ds)) : FnC P w K mg base (k + 1) f fd ps sp :=
  FunD.okK F S len fun cdv A outer s H E Ed hr _ _ _ => by
    obtain ⟨t, ht, k⟩ := hbody cdv A outer s H E hr
    exact ⟨t, ht.nox, fun ds Q h => k ds Q Ed h⟩
theorem FL.hasK {K : PySem.W.Frag} {x : Str} {st : Stmt} {h : Heap} {mg : Str → Option Value} {k : Nat} {ps : List Str} {sp : DSp} (e : FL K x st) (P : Program) (w : World) (base : Heap) (X : K.In h) (G : h.Ns mainGlobals mg)
    (ok : ∀ {f : Addr} {fd : FuncData}, FunD K x x st f fd → FnC P w K mg base k f fd ps sp)
    (hb : ∀ (kV dc pm : Value) (an : Option Addr) (cd ct : Value), allN ps.length fun us => bindArgs (PySem.W.fnOf x x (defArgs st) (defBody st) (defScope st) .none kV dc pm an cd ct) ⟨us, []⟩ = pure (ps.zip us) := by
      repeat intro _
      rfl) : HasK P w K mg base x k ps sp := by
  obtain ⟨f, oc, od, kV, dc, pm, an, cd, ct, sl, a, b, c, d⟩ := e
  exact ⟨f, _, ok (funD_mk b c d), PySem.W.mg_of X G a, d, .all fun us hl => allN_of us hl (hb kV dc pm an cd ct)⟩
end
theorem law_callC {P : Program} {w : World} {K : PySem.W.Frag} {mg mb : Str → Option Value} {k : Nat} {fa a : Addr} {fd : FuncData} {x : Str} {sp : DSp} {s₁ : Shared} {vs : List Value} {ns : List Int}
    (KX : K.In s₁.heap) (hns : s₁.heap.Ns mainGlobals mg) (hb : s₁.heap.Ns builtinsNs mb) (hbb : ∀ x : Str, x ≠ "__name__" → mb x = bootBuiltins x) (hlim : s₁.heap.NoLimit) (hg : s₁.gens = #[])
    (ha : s₁.heap.get? a = some { cls := .type "list", data := .seq vs.toArray }) (hi : IntsAre vs ns) (hl : ns.length ≤ sizeLine) (hr : Room k callerA)
    (F : ∀ base : Heap, K.In base → base.Ns mainGlobals mg → FnC P w K mg base k fa fd [x] sp) (hbind : ∀ (s : Shared) (u : Value), BindsTo s fd ⟨[u], []⟩ [(x, u)])
    (hsp : ∀ H : Hp, Only H → SqL K H a (ns.map V.int) → spOf K sp [.ref a] H (fun v _ => v = .bl true) fun _ _ _ => False) :
    codeC (model P w) callerA (.call (.ref fa) ⟨[.ref a], []⟩) (fun r s' => r = .ok (.ret (.bool true)) ∧ OldK s₁.heap s'.heap ∧ s'.os = s₁.os ∧ AllBare s'.gens) s₁ := by
  have rv := vals_ints hi
  have lenV := hi.length
  have core : ∀ H : Hp, Only H → SqL K H a (ns.map V.int) → HOk P w H s₁.heap → (∀ b, H b ≠ none → b = a) → (H a ≠ none → K.lookup a = none) →
      codeC (model P w) callerA (.call (.ref fa) ⟨[.ref a], []⟩) (fun r s' => r = .ok (.ret (.bool true)) ∧ OldK s₁.heap s'.heap ∧ s'.os = s₁.os ∧ AllBare s'.gens) s₁ := by
    intro H hO hS hok hA hK
    have base_of : ∀ {b : Addr} {o : Obj}, s₁.heap.get? b = some o → H b = none → (hidT s₁.heap H).get? b = some o := fun e n => hidT_get e n
    have noA : ∀ {b : Addr} {o : Obj} {es : Array DictEntry} {ep : Nat}, s₁.heap.get? b = some o → o.data = .dict es ep → H b = none := fun {b o es ep} e d => by
      cases q : H b with
      | none => rfl
      | some u =>
        have e' : b = a := hA b (by rw [q]; simp)
        subst e'
        rw [ha] at e; cases e
        have d' : Data.seq vs.toArray _ = Data.dict es ep := d
        cases d'
    have nsK : ∀ {b : Addr} {m : Str → Option Value}, s₁.heap.Ns b m → (hidT s₁.heap H).Ns b m := fun {b m} ⟨o, es, ep, e, d, r⟩ => ⟨o, es, ep, base_of e (noA e d), d, r⟩
    have hKb : K.In (hidT s₁.heap H) := fun b o e => base_of (KX b o e) (by
      cases q : H b with
      | none => rfl
      | some u =>
        have e' : b = a := hA b (by rw [q]; simp)
        subst e'
        rw [hK (by rw [q]; simp)] at e; cases e)
    have hM : Mod K mg (hidT s₁.heap H) := ⟨hKb, nsK hns, ⟨mb, nsK hb, hbb⟩, let ⟨mc, h1, h2⟩ := hlim; ⟨mc, nsK h1, h2⟩⟩
    have e0 : Env0 P w K mg (hidT s₁.heap H) callerA [] s₁ H := ⟨rfl, hM, fun b o e => of_hidT e, Nat.le_of_eq (hidT_size _ _), trivial, fun b hb => absurd (show b ∈ ([] : List Addr) from hb) (by simp), hok, .of_eq hg⟩
    refine ((F _ hKb (nsK hns)).run callerA [] s₁ H ⟨[.ref a], []⟩ [.ref a] [.ref a] _ _ hr e0 (hbind s₁ (.ref a)) (.cons rfl .nil) (hsp H hO hS)).mono fun r s' h => ?_
    cases r with
    | error e => obtain ⟨_, _, _, _, _, _, _, _, _, _, _, _, _, z⟩ := h; exact z.elim
    | ok fl =>
      cases fl with
      | next => exact False.elim h
      | brk => exact False.elim h
      | cont => exact False.elim h
      | ret u =>
        obtain ⟨v, H', os, bare, un, hok', r', q⟩ := h
        have q' : v = .bl true := q
        subst q'
        obtain rfl : u = Value.bool true := r'
        refine ⟨rfl, OldK.of_keep fun b o e => ?_, os, bare⟩
        cases q : H b with
        | none => exact un.keep b o e q (by intro z; exact absurd (show b ∈ ([] : List Addr) from z) (by simp)) (by simp)
        | some u =>
          rcases hO b with z | ⟨ob, xs, z⟩
          · rw [q] at z; cases z
          · have z2 := un.frzs b ob _ z
            obtain ⟨e1, _⟩ := hok b _ z
            obtain ⟨e2, _⟩ := hok' b _ z2
            rw [e] at e1; cases e1
            exact e2
  cases hk : K.lookup a with
  | some o =>
    have e := KX a o hk
    rw [ha] at e
    cases e
    refine core (fun _ => none) (fun _ => .inl rfl) (.inr ⟨_, vs.toArray, _, hk, rfl, rfl, rfl, by rw [List.size_toArray, lenV]; exact hl, by simpa using rv⟩) (fun b u z => by have z' : (none : Option HO) = some u := z; cases z') (fun b z => absurd rfl z) fun z => absurd rfl z
  | none =>
    refine core (fun b => if b = a then some (.frz { cls := .type "list", data := .seq vs.toArray } (.lst (ns.map V.int))) else none) (fun b => ?_) (.inl (.inr ⟨{ cls := .type "list", data := .seq vs.toArray }, if_pos rfl⟩)) (fun b u z => ?_) (fun b z => ?_) fun _ => hk
    · by_cases hb : b = a
      · exact .inr ⟨_, _, if_pos hb⟩
      · exact .inl (if_neg hb)
    · by_cases hb : b = a
      · have z' := (if_pos hb).symm.trans z
        cases z'
        subst hb
        exact ⟨ha, by rw [List.length_map]; exact hl, vs, _, rv, ha⟩
      · have z' := (if_neg hb).symm.trans z
        cases z'
    · by_cases hb : b = a
      · exact hb
      · exact absurd (if_neg hb) z
theorem walkC {l : PySem.W.OpenLaw} {q : Program} {loose : List Str} {XP : (Str → Option Value) → Heap → Prop} {YP : World → Heap → Prop} {d : DefRec} {K : Params → PySem.W.Frag} {k : Nat} {x : Str} (hn : l.most = some 63) (hdf : d.params.defaults = []) (hr : Room k callerA)
    (hY : ∀ (w : World) (h : Heap), YP w h → (K w.params).In h) (hT : ∀ w : World, tabOf (K w.params) = none)
    (F : ∀ (w : World) (mg : Str → Option Value) (fa : Addr) (h : Heap), (K w.params).In h → h.Ns mainGlobals mg → mg d.name = some (.ref fa) →
      ∃ fd : FuncData, (∀ (s : Shared) (u : Value), BindsTo s fd ⟨[u], []⟩ [(x, u)]) ∧ ∀ base : Heap, (K w.params).In base → base.Ns mainGlobals mg → FnC l.prog w (K w.params) mg base k fa fd [x] spLaw) :
    WC.WalkC q loose XP YP l.row.toRowW d [] := by
  intro w s₀ s₁ mg mb G Y fa o pm cd doc dV kV ho hd hcd hD hmg hg args vals as hpre hlay hrd hwl hlo
  obtain ⟨a, vs, ns, rfl, rfl, hobj, hints, hlen⟩ := Att.script_of hn hpre hwl
  have KX := hY w _ Y
  obtain ⟨fd, hb, hF⟩ := F w mg fa _ KX G.T.g hmg
  refine (law_callC KX G.T.g G.T.b G.T.builtins G.T.nolimit hg hobj hints (Nat.le_trans hlen (by decide)) hr hF hb fun H hO hS => law_sp hlen hS ⟨fun P ps e => (by rcases hO P with z | ⟨o, xs, z⟩ <;> rw [z] at e <;> cases e), fun P e => (by rw [hT w] at e; cases e)⟩).mono fun r s' hq => ?_
  obtain ⟨rfl, h2, h3, h4⟩ := hq
  exact ⟨.inl ⟨.bool true, .bool true, [], rfl, fun _ => rfl, .bool true, Att.post_true l _, fun _ => ⟨List.Pairwise.nil, fun _ hm => (nomatch hm)⟩⟩, h2, h3, h4⟩
end PD
set_option linter.all false
set_option maxRecDepth 100000
namespace TX
open PySem PySem.Spec PySem.W WC PySem.Calls PySem.NumText PyProof.Rows L2 PD
theorem new_eq (x : Str) (u : Tok) : Builtin.«int.__new__» ⟨[.type "int", .str x u], []⟩ = ((int_private% "intFromObject") (.str x u) >>= fun v => ret v) := by
  unfold Builtin.«int.__new__»
  simp only [F.conv_sub_int, F.madeHere_int, isType, pure_bind, List.length_cons, List.length_nil, List.isEmpty_nil, Bool.not_true, Bool.false_eq_true, if_false, if_true]
  rfl
theorem obj_eq (x : Str) (u : Tok) : (int_private% "intFromObject") (.str x u) = (int_private% "intFromText") (.str x u) (numTextOf x) 10 := by
  have f6 : typeOf (.str x u) = pure (.type "str") := rfl
  have a : callSpecial? (.str x u) "__int__" = pure none := by unfold callSpecial?; simp only [specialOf, f6, KIN.str_int, pure_bind]
  have b : specialOf (.str x u) "__index__" = pure none := by simp only [specialOf, f6, KIN.str_idx, pure_bind]
  have c : specialOf (.str x u) "__trunc__" = pure none := by simp only [specialOf, f6, KIN.str_trunc, pure_bind]
  show (callSpecial? (.str x u) "__int__" >>= _) = _
  rw [a, pure_bind]
  show (specialOf (.str x u) "__index__" >>= _) = _
  rw [b, pure_bind]
  show (specialOf (.str x u) "__trunc__" >>= _) = _
  rw [c, pure_bind]
  rfl
def refuse (x : Str) (u : Tok) : Sem Value := do
  rule "int.__new__.invalid-literal"
  let shown ← pyRepr (.str x u)
  let refusal ← newExc (.type "ValueError") [← mkStr (((s!"invalid literal for int() with base {10}: " : String) ++ ⟨shown.cps.extract 0 200⟩ : Str))]
  markTheRefusal ["int.__new__"] refusal
  raiseNew refusal
theorem text_eq (x : Str) (u : Tok) (hl : x.length ≤ 640) (hn : PySem.intText? x = none) : (int_private% "intFromText") (.str x u) (numTextOf x) 10 = refuse x u := by
  have hs : (numSeenOf x).length ≤ 640 := Nat.le_trans (seen_length x) hl
  show (do
    let limit ← if (numSeenOf x).length ≤ 640 then pure 0 else _
    _ : Sem Value) = _
  rw [if_pos hs, pure_bind]
  dsimp only
  rcases read0 x hs with ⟨n, h, _⟩ | ⟨_, h | ⟨i, h, h2⟩⟩
  · rw [hn] at h; cases h
  · rw [h]
    rfl
  · rw [h]
    show (if ((numSeenOf x).length == (numTextOf x).length) = true then _ else _) = _
    rw [if_neg h2]
    rfl
theorem mark_c {M : Model} {A : Around} {own : List String} {e : Value} {s : Shared} {Q : Unit → Shared → Prop} {E : Value → Shared → Prop} (h : Q () s) : wpC M A (markTheRefusal own e) Q E s := by
  intro Γ p hΓ c
  unfold markTheRefusal
  rw [Sem.wp_bind']
  show Sem.wp M Γ (if pythonCodeMadeTheCall own (((Γ.code, p) :: Γ.below).map (·.1)) = true then _ else _) _ _ p s
  have : pythonCodeMadeTheCall own (((Γ.code, p) :: Γ.below).map (·.1)) = false := by
    unfold pythonCodeMadeTheCall
    have a : ((((Γ.code, p) :: Γ.below).map (·.1)).any fun c => match c with | .builtin "claim.caller" _ => true | _ => false) = true := by
      rw [List.map_cons, List.any_cons]
      have c' : (Γ.below.any fun x => x.1.isCaller) = true := c
      rw [List.any_map]
      rw [show (Γ.below.any ((fun c => match c with | .builtin "claim.caller" _ => true | _ => false) ∘ fun x => x.1)) = true from c', Bool.or_true]
    exact Bool.and_eq_false_iff.mpr (.inl (Bool.and_eq_false_iff.mpr (.inl (congrArg (!·) a))))
  rw [if_neg (by rw [this]; decide)]
  exact h
theorem refuse_c {prog : Program} {w : World} {A : Around} {x : Str} {u : Tok} {s : Shared} {Q : Value → Shared → Prop} {E : Value → Shared → Prop} (hl : x.length ≤ 640) (hx : ∀ c ∈ x.cps.toList, c < 256) (hh : A.handled = none)
    (h : ∀ h' tk e t y, Heap.MadeExc s.heap h' e "ValueError" [.str y t] → E (.ref e) { s with heap := h', toks := tk }) : wpC (model prog w) A (refuse x u) Q E s := by
  unfold refuse
  refine wpC.bindA (wpAny_rule (wpC.bindA (wpAny_pyRepr_str (wpC.bindA (wpAny_mkStr (wpC.bindA (wpAny_newExc_plain ?_ fun h' e m => ?_)) ?_)) ?_)))
  · exact plainExc_ValueError
  · exact wpC.bind (mark_c (wpC.of (wpAny_raiseNew_none hh (h _ _ _ _ _ m))))
  · rw [sizeLine_eq]
    show (Array.size (_ ++ Array.extract _ 0 200)) ≤ _
    rw [Array.size_append, Array.size_extract]
    have : (Str.ofString (s!"invalid literal for int() with base {10}: ")).cps.size ≤ 1000 := by decide +kernel
    omega
  · have := StrLaws.reprText_len x fun c hc => Nat.lt_trans (hx c hc) (by decide)
    rw [sizeLine_eq]
    omega
theorem tc_eq (v : Value) : ∃ k, Builtin.«type.__call__» ⟨[.type "int", v], []⟩ = (holding [.builtin "int.__new__"] (PySem.call (.builtin "int.__new__") [.type "int", v]) >>= k) := by
  obtain ⟨c, tl, hm⟩ := F.called_int.mro
  unfold Builtin.«type.__call__»
  simp only [F.called_int.notType, Bool.false_eq_true, if_false, F.called_int.canCreate, F.typeCall_int_1, pure_bind, hm, List.isEmpty_cons, F.called_int.made]
  exact ⟨_, rfl⟩
section
variable {prog : Program} {w : World} {A : Around} {s : Shared} {R : Result → Shared → Prop}
theorem c_builtin {id : String} {args : Args} {b : Builtin} (hb : entryFor table id = some b)
    (h : wpC (model prog w) (A.under (.builtin id args)) (b args) (fun fin s' => match fin with | .done f => R (.ok f) s' | .again c' => c'.quiet = true ∧ codeC (model prog w) A c' R s') (fun e s' => R (.error e) s') s) :
    codeC (model prog w) A (.builtin id args) R s := by
  refine codeC.tree ?_
  show wpC _ _ (match entryFor table id with | some b => b args | none => unsupported ((withoutEnding? id "#data").getD id)) _ _ s
  rw [hb]; exact h
theorem c_callB {id : String} {args : Args} (hq : (Code.builtin id args).quiet = true) (hc : checkBuiltinCall id args = pure ()) (h : codeC (model prog w) A (.builtin id args) R s) : codeC (model prog w) A (.call (.builtin id) args) R s := by
  refine codeC.tree ?_
  show wpC _ A.in1 (do checkBuiltinCall id args; again (.builtin id args)) _ _ s
  rw [hc, pure_bind]
  exact wpC.pure ⟨hq, h⟩
theorem c_callT {T : String} {args : Args} (h : codeC (model prog w) A (.builtin "type.__call__" ⟨.type T :: args.pos, args.kw⟩) R s) : codeC (model prog w) A (.call (.type T) args) R s := by
  refine codeC.tree ?_
  show wpC _ _ (callAny (.type T) args) _ _ _
  exact wpC.pure ⟨Code.quiet_builtin _ (by decide +kernel), h⟩
end
theorem int_c {prog : Program} {w : World} {A : Around} {x : Str} {u : Tok} {s : Shared} {Q : Value → Shared → Prop} {E : Value → Shared → Prop} (hl : x.length ≤ 640) (hx : ∀ c ∈ x.cps.toList, c < 256) (hn : PySem.intText? x = none) (hh : A.handled = none)
    (h : ∀ h' tk e t y, Heap.MadeExc s.heap h' e "ValueError" [.str y t] → E (.ref e) { s with heap := h', toks := tk }) : wpC (model prog w) A (PySem.call (.type "int") [.str x u]) Q E s := by
  obtain ⟨k, e⟩ := tc_eq (.str x u)
  refine wpC.call (c_callT (c_builtin F.entry_type_call ?_))
  rw [e, Around.under_plain (weight_type_call_type "int" [.str x u] []) (units_type_call_type "int" [.str x u] [])]
  refine wpC.bind (wpC.holding (wpC.call (c_callB (Code.quiet_builtin _ (by decide +kernel)) (F.newCall_int_1 _) (c_builtin F.entry_int_new ?_))))
  rw [new_eq, obj_eq, text_eq x u hl hn, Around.under_plainId (by decide +kernel)]
  exact wpC.bind (refuse_c hl hx hh h)
end TX
set_option linter.all false
set_option maxRecDepth 100000
namespace TX
open PySem PySem.Spec PySem.W WC PySem.Calls PySem.NumText PyProof.Rows L2 PD PX
theorem entry_unchain : entryFor table "proto.unchain" = some Builtin.«proto.unchain» := entryFor_of_tree (by kernel_rfl)
section
variable {prog : Program} {w : World} {A : Around} {E : Value → Shared → Prop} {env : Env}
variable {nm q : Str} {C N : Addr} {bs bm : List Value} {hdct : Bool} {sn : List Str} {sub : List Value} {ab : Bool} {col : Option Bool} {dd : Option Addr} {k0 k1 k2 k3 k5 : Option Value} {newId : String}
theorem raise_from {s : Shared} {x c : Sem Value} {eh : Addr} {Q : Flow → Shared → Prop} (hbase : bm.contains (.type "BaseException") = true) (hh : A.handled = some (.ref eh))
    (h : wpAny (model prog w) A x (fun v s₁ => ∃ e t oh vs, v = .ref e ∧ s₁.heap.get? C = some (excClassObj nm q C N bs bm hdct sn sub ab col dd k0 k1 k2 k3 k5 newId) ∧
      s₁.heap.get? e = some { cls := .ref C, data := .fields #[.ref t, .none, .none, .none, .bool false, .none] } ∧ s₁.heap.get? eh = some oh ∧ oh.data = .fields vs ∧ vs[2]? = some .none ∧ eh ≠ e ∧ C ≠ e ∧
      (∀ {Q' : Value → Shared → Prop}, Q' .none s₁ → wpAny (model prog w) A c Q' E s₁) ∧
      ∀ h', h'.get? e = some { cls := .ref C, data := .fields #[.ref t, .none, .ref eh, .none, .bool true, .none] } → (∀ b, b ≠ e → h'.get? b = s₁.heap.get? b) → E (.ref e) { s₁ with heap := h' }) E s) :
    wpAny (model prog w) A (raiseStmt env (some x) (some c)) Q E s := by
  have hcB : (Value.ref C :: bm).contains (.type "BaseException") = true := by rw [List.contains_cons, hbase, Bool.or_true]
  unfold raiseStmt
  refine wpAny_bind (wpAny_mono h (fun v s₁ h₁ => ?_) fun _ _ x => x)
  obtain ⟨e, t, oh, vs, rfl, hC, he, hoh, hvs, h2, ne, nC, hc, hE⟩ := h₁
  refine wpAny_bind (wpAny_holding (hc (wpAny_bind (wpAny_pure ?_))))
  obtain ⟨hp, g, d, tk, os⟩ := s₁
  repeat (first | with_reducible refine wpAny_loadPart_at he ?_ | with_reducible refine wpAny_loadPart_at hC ?_ | (with_reducible refine wpAny_isSubtype_exc hC ?_; rw [hcB]) | wp_step)
  have h3 : ((hp.update e (Obj.mapFields fun x => x.setIfInBounds 3 Value.none)).update e (Obj.mapFields fun x => x.setIfInBounds 4 (Value.bool true))).get? e = some { cls := .ref C, data := .fields #[.ref t, .none, .none, .none, .bool true, .none] } := by
    have a := Heap.get?_update_self (Obj.mapFields fun x => x.setIfInBounds 3 Value.none) he rfl
    exact Heap.get?_update_self (Obj.mapFields fun x => x.setIfInBounds 4 (Value.bool true)) a rfl
  have oth : ∀ b, b ≠ e → ((hp.update e (Obj.mapFields fun x => x.setIfInBounds 3 Value.none)).update e (Obj.mapFields fun x => x.setIfInBounds 4 (Value.bool true))).get? b = hp.get? b := fun b hb => by
    rw [Heap.get?_update_other _ _ (Ne.symm hb), Heap.get?_update_other _ _ (Ne.symm hb)]
  generalize (hp.update e (Obj.mapFields fun x => x.setIfInBounds 3 Value.none)).update e (Obj.mapFields fun x => x.setIfInBounds 4 (Value.bool true)) = hq at h3 oth ⊢
  unfold raiseNew
  refine wpAny_bind (wpAny_handled ?_)
  rw [hh]
  have nb : (Value.ref eh != Value.ref e) = true := by simpa using ne
  show wpAny _ _ (if (Value.ref eh != Value.ref e) = true then _ else _) _ _ _
  rw [if_pos nb]
  have hoh' : hq.get? eh = some oh := (oth eh ne).trans hoh
  refine wpAny_bind (wpAny_holding (wpAny_runValue (codeAny_builtin entry_unchain ?_)))
  show wpAny _ _ (field (.ref eh) 2 >>= _) _ _ _
  refine wpAny_bind (wpAny_field hoh' hvs h2 ?_)
  show wpAny _ _ (ret .none) _ _ _
  refine wpAny_pure ?_
  show wpAny _ _ (updateField e 2 (.ref eh) >>= _) _ _ _
  refine wpAny_bind (wpAny_setField (a := e) (i := 2) (x := .ref eh) h3 rfl (by show 2 < 6; decide) (wpAny_throw (hE _ ?_ fun b hb => ?_)))
  · exact Heap.get?_update_self _ h3 rfl
  · rw [Heap.get?_update_other _ _ (Ne.symm hb)]; exact oth b hb
end
end TX
set_option linter.all false
set_option maxRecDepth 100000
namespace PD
open PySem PySem.Spec PyProof.Rows L2 PX WC TX
theorem c_withT {M : Model} {A : Around} {E : Value → Shared → Prop} {s : Shared} {pos : Pos} {T : String} {first : List Value} {args : List (Bool × Sem Value)} {Q : Value → Shared → Prop} (hplain : args.any (·.1) = false)
    (h : wpC M A (evalArgs (.type T) true args []) (fun a s₁ => wpC M A (PySem.call (.type T) (first ++ a.pos) a.kw) Q E s₁) E s) : wpC M A (callWith pos (.type T) first args []) Q E s := by
  unfold callWith
  refine wpC.bind (wpC.holding (h.thn fun a s1 z => wpC.stand ?_))
  simp only [hplain, List.any_nil, Bool.or_false]
  exact wpC.bind (wpC.pure (wpC.bind (z.thn fun r s2 hr => wpC.of (wpAny_bind (wpAny_holding (wpAny_point (wpAny_pure hr)))))))
def NoCtx (h : Heap) (e : Addr) : Prop := ∃ oe vs, h.get? e = some oe ∧ oe.data = .fields vs ∧ vs[2]? = some .none
theorem noteNew {M : Model} {A : Around} {E : Value → Shared → Prop} {s : Shared} {base : Heap} {outer : List Env} {env : Env} {e L : Addr} {oe : Obj} {vs : Array Value} {a0 : Value} {Q : Unit → Shared → Prop} (hfr : A.frames = some (env :: outer)) (hf : env.frame = some L)
    (he : s.heap.get? e = some oe) (hd : oe.data = .fields vs) (h1 : vs[1]? = some .none) (h0 : vs[0]? = some a0) (hkb : base.StaysIn s.heap) (hen : base.get? e = none) (hl : s.heap.FunFrames base (env :: outer))
    (h : ∀ h', AnyW base (env :: outer) e oe.cls a0 h' → s.heap.UpToSlots h' → (vs[2]? = some .none → NoCtx h' e) → Q () { s with heap := h' }) : wpAny M A (noteFrame (.ref e) env) Q E s := by
  unfold noteFrame
  simp only [hf]
  refine wpAny_bind (wpAny_field he hd h1 ?_)
  rw [if_neg (by decide)]
  have z1 : 1 < vs.size := (Array.getElem?_eq_some_iff.mp h1).1
  have ne : ∀ b o, s.heap.get? b = some o → (∀ vs, o.data ≠ .fields vs) → b ≠ e := fun b o hb n q => by
    rw [q, he] at hb
    cases hb
    exact n vs hd
  have nf : e ∉ (env :: outer).filterMap (·.frame) := fun hm => by
    obtain ⟨_, o, ho, n⟩ := hl.mem hm
    exact ne e o ho n rfl
  refine wpAny_bind (wpAny_frameOf_fun hfr hl hf fun g k => wpAny_bind (wpAny_entryPlaceOf fun pl hpl => ?_))
  unfold EntryCells.newEntry newFields
  refine wpAny_bind (wpAny_newObj_type ?_ (hpl.sizeOk5 _ _ _ _ _))
  have e1 : g.get? e = some oe := (k.2.1 e nf).trans he
  have kb : base.StaysIn g := fun b o q => (k.2.1 b fun hm => by rw [(hl.mem hm).1] at q; cases q).trans (hkb b o q)
  have h5 : ∃ fl, ([Value.none, Value.ref L, .none, rawInt L, .none] ++ (if pl.isEmpty then List.replicate 6 Value.none else pl)).toArray[3]? = some fl := ⟨rawInt L, by first | (simp; done) | (rcases hpl with rfl | ⟨_, _, _, _, _, _, _, rfl⟩ <;> simp)⟩
  generalize ([Value.none, Value.ref L, .none, rawInt L, .none] ++ (if pl.isEmpty then List.replicate 6 Value.none else pl)).toArray = ts at h5 ⊢
  have e2 := Heap.get?_push_of_some (h := g) { cls := .type "traceback", dict := none, data := .fields ts } e1
  have T1 := Heap.get?_push_size (o := { cls := .type "traceback", dict := none, data := .fields ts }) g rfl
  have kp : ∀ b o, g.get? b = some o → (g.push { cls := .type "traceback", dict := none, data := .fields ts }).get? b = some o := fun b o q => Heap.get?_push_of_some _ q
  have nT : g.objs.size ≠ e := Nat.ne_of_gt (Heap.lt_size e1)
  generalize g.push { cls := .type "traceback", dict := none, data := .fields ts } = g2 at e2 T1 kp ⊢
  refine wpAny_setField e2 hd z1 (h _ ?_ ?_ fun z2 => ?_)
  · have keep : ∀ b o, b ≠ e → g.get? b = some o → (g2.update e (Obj.mapFields (·.setIfInBounds 1 (Value.ref g.objs.size)))).get? b = some o := fun b o q r => (Heap.get?_update_other _ _ (Ne.symm q)).trans (kp b o r)
    have d3 := Obj.data_mapFields hd (·.setIfInBounds 1 (Value.ref g.objs.size))
    refine ⟨fun b o q => keep b o (fun z => by rw [z, hen] at q; cases q) (kb b o q), hen, hl.of_keeps fun b o q n => ?_, ?_⟩
    · obtain ⟨sl, r⟩ := k.2.2 b o q
      exact ⟨_, keep b _ (ne b o q n) r, rfl⟩
    · obtain ⟨fl, h5⟩ := h5
      exact ⟨fl, _, _, g.objs.size, _, _, Heap.get?_update_self (Obj.mapFields (·.setIfInBounds 1 (Value.ref g.objs.size))) e2 (Obj.isFreed_of_fields d3), ⟨Obj.cls_mapFields _ _, by rw [Array.getElem?_setIfInBounds_ne (by decide)]; exact h0⟩, d3, by simp [z1], kb.fresh, nT, (Heap.get?_update_other _ _ (Ne.symm nT)).trans T1, rfl, h5⟩
  · intro b o q n
    obtain ⟨sl, r⟩ := k.2.2 b o q
    exact ⟨sl, (Heap.get?_update_other _ _ (Ne.symm (ne b o q n))).trans (kp b _ r)⟩
  · have d3 := Obj.data_mapFields hd (·.setIfInBounds 1 (Value.ref g.objs.size))
    exact ⟨_, _, Heap.get?_update_self (Obj.mapFields (·.setIfInBounds 1 (Value.ref g.objs.size))) e2 (Obj.isFreed_of_fields d3), d3, by rw [Array.getElem?_setIfInBounds_ne (by decide)]; exact z2⟩
theorem markV {M : Model} {A : Around} {E : Value → Shared → Prop} {s : Shared} {base : Heap} {l : List Env} {e : Addr} {cls a0 : Value} {fr : Option Addr} {Q : Unit → Shared → Prop} (R : AnyW base l e cls a0 s.heap) (V : NoCtx s.heap e)
    (h : ∀ h', AnyW base l e cls a0 h' → s.heap.UpToSlots h' → NoCtx h' e → Q () { s with heap := h' }) : wpAny M A (setFlight (.ref e) fr) Q E s := by
  obtain ⟨k1, k2, k3, fl, oe, vs, T, oT, ts, g1, g2, g3, g4, g5, g6, g7, g8, g9⟩ := R
  have z3 : 3 < ts.size := (Array.getElem?_eq_some_iff.mp g9).1
  have oth : ∀ b, b ≠ T → (s.heap.update T (Obj.mapFields (·.setIfInBounds 3 (fr.elim Value.none fun f => rawInt f)))).get? b = s.heap.get? b := fun b hb => Heap.get?_update_other _ _ (Ne.symm hb)
  have nrec : ∀ b o, s.heap.get? b = some o → (∀ vs, o.data ≠ .fields vs) → b ≠ T := fun b o hb hn q => by
    rw [q, g7] at hb
    cases hb
    exact hn ts g8
  unfold setFlight
  refine wpAny_bind (wpAny_field g1 g3 g4 ?_)
  rw [if_pos (by simp)]
  refine wpAny_setField g7 g8 z3 (h _ ⟨fun b o hb => (oth b fun q => by rw [q, g5] at hb; cases hb).trans (k1 b o hb), k2, k3.of_keeps fun b o hb hn => ⟨o, (oth b (nrec b o hb hn)).trans hb, rfl⟩, ?_⟩ (fun b o hb hn => ⟨o.slots, (oth b (nrec b o hb hn)).trans hb⟩) ?_)
  · exact ⟨_, oe, vs, T, _, _, (oth e (Ne.symm g6)).trans g1, g2, g3, g4, g5, g6, Heap.get?_update_self _ g7 (Obj.isFreed_of_fields (Obj.data_mapFields g8 _)), Obj.data_mapFields g8 _, by simp [z3]; rfl⟩
  · obtain ⟨oe', vs', v1, v2, v3⟩ := V
    exact ⟨oe', vs', (oth e (Ne.symm g6)).trans v1, v2, v3⟩
section
variable {X : Cx} {pins : List (Addr × Obj)} {σ : St} {H : Hp} {s : Shared}
theorem flStart (I : Inv X pins σ H s) : Fl X.prog X.w X.stack s.heap H H (PySem.W.hideAll s.heap (frs X.stack)) s.heap :=
  ⟨Un.refl, I.hok, fun b hb => ⟨I.stkFree b hb, by
    obtain ⟨_, o, e, d⟩ := I.stack.mem hb
    exact ⟨o, e, d⟩⟩, fun b o e _ n => PySem.W.hideAll_get _ e n⟩
theorem ffStart (I : Inv X pins σ H s) : s.heap.FunFrames (PySem.W.hideAll s.heap (frs X.stack)) X.stack := PySem.W.funFrames_hide I.stack fun env he b hb => List.mem_filterMap.mpr ⟨env, he, hb⟩
end
theorem ve_base : isSubtype (.type "ValueError") (.type "BaseException") = pure true := by rw [isSubtype_type]; kernel_rfl
theorem ve_self : isSubtype (.type "ValueError") (.type "ValueError") = pure true := by rw [isSubtype_type]; kernel_rfl
theorem ve_tup : isSubtype (.type ((Manifest.find? "ValueError").elim "type" fun x => x.metatype)) (.type "tuple") = pure false := by rw [isSubtype_type]; kernel_rfl
def dIntT (Ed : Value → Prop) (C : Addr) (te : DE) : DS := fun E ρ => te ρ fun d => ∃ x, d = .str x ∧ x.length ≤ 640 ∧ (∀ c ∈ x.cps.toList, c < 256) ∧ match PySem.intText? x with
  | some n => E.rt (.int n)
  | none => Ed (.ref C)
section
variable {X : Cx} {pos : Pos}
set_option maxHeartbeats 1000000 in
theorem cs_int {x : Str} {C : Addr} {e : Expr} {te : DE} {Ed : Value → Prop} {p cp rp vp np cpos mp kp pos' hp : Pos} {msg : Str} {j j' : Nat} (px : HeldX X Ed) (hc : X.calm = true) (hm : X.mg x = some (.ref C)) (q : PySem.W.excIn X.K C veMro "ValueError.__new__" = true) (hmi : X.mg "int" = none) (hmv : X.mg "ValueError" = none)
    (he : PED X.nox e te) (hg : Gl X x := by rfl) (hgi : Gl X "int" := by rfl) (hgv : Gl X "ValueError" := by rfl) (hst : X.stack = X.env :: X.outer := by rfl) (hef : X.env.frame = some X.env.locals := by rfl) (hdb : (x == ("__debug__" : Str)) = false := by decide)
    (hs : starEach [e] X.env = (false, eval e X.env) :: starEach [] X.env := by rfl) :
    PSC X (.Try [.Return (some (.Call (.Name "int" p) [e] [] cp)) rp] [.ExceptHandler (some (.Name "ValueError" vp)) none [.Raise (some (.Call (.Name x np) [.Constant (.str msg) j mp] [] cpos)) (some (.Constant .none j' kp)) pos'] hp] [] [] pos) (dIntT Ed C te) := by
  intro pins s σ H W ρ E I r h
  refine c_try (c_execs (c_ret (c_callN (ld_blt I hgi hmi (u := .type "int") rfl ?_ (by decide) (by decide)))))
  rw [hs]
  refine c_withT (by rfl) (c_args ?_)
  show wpC _ _ (spliced ((false, eval e X.env) :: _)) _ _ _
  refine c_splice (wpC.of (wpAny_mono (he pins s σ H W ρ _ (I.wish _) (r.wish _) h) (fun u s1 ⟨v, H1, d, I1, rv, e1, hd, q1⟩ => ?_) fun _ _ z => False.elim z))
  have I1 := I1.unwish
  obtain ⟨y, rfl, hl, hy, q1⟩ := q1
  have hz := hd.str_
  subst hz
  obtain ⟨t, rfl⟩ : ∃ t, u = Value.str y t := rv
  refine wpC.of (Calls.spliced_nil ?_)
  cases hn : PySem.intText? y with
  | some n =>
    rw [hn] at q1
    exact wpC.of (PySem.W.KIN.call_text hn hl ⟨W, σ, H1, I1.tok _, Fwd.same e1, .int n, .int n, ⟨_, rfl⟩, Den.int n, q1⟩)
  | none =>
    rw [hn] at q1
    refine int_c hl hy hn (I.ok.hd hc) fun h1 tk ea t' y' mk => ?_
    obtain ⟨tt, me, _, _⟩ := mk.there
    have fr' : X.A.frames = some (X.env :: X.outer) := by rw [← hst]; exact I1.ok.frames
    have r1 := r.same e1
    have hen : (PySem.W.hideAll s1.heap (frs X.stack)).get? ea = none := by
      cases z : (PySem.W.hideAll s1.heap (frs X.stack)).get? ea with
      | none => rfl
      | some o => have := PySem.W.of_hideAll _ z; rw [mk.new] at this; cases this
    have F0 := flStart I1
    have ff := ffStart I1
    have st1 : (PySem.W.hideAll s1.heap (frs X.stack)).StaysIn h1 := fun b o z => mk.keeps b o (PySem.W.of_hideAll _ z)
    have F1 := F0.step st1 fun b o z _ => ⟨o.slots, mk.keeps b o z⟩
    generalize PySem.W.hideAll s1.heap (frs X.stack) = B at hen F0 ff st1 F1
    have ff1 : h1.FunFrames B (X.env :: X.outer) := by rw [← hst]; exact ff.of_keeps fun b o z _ => ⟨o, mk.keeps b o z, rfl⟩
    refine noteNew (base := B) fr' hef me rfl rfl rfl st1 hen ff1 fun h2 R2 u2 V2 => ?_
    refine markV R2 (V2 rfl) fun h3 R3 u3 V3 => ?_
    have F3 := (F1.step R2.1 u2).step R3.1 u3
    have I3 : Inv X pins σ H1 { s1 with heap := h3, toks := tk } := I1.call' rfl F3.un F3.hok I1.bare (by intro b z; cases z)
    refine wpAny_handleBy_cons (codeAny_handlers_test (ld_blt (Inv.marked I3 (.ref ea)) hgv hmv (u := .type "ValueError") rfl ?_ (by decide) (by decide))) (by intro q; cases q)
    have ty : ({ s1 with heap := h3, toks := tk } : Shared).TypeIs (.ref ea) "ValueError" := by
      obtain ⟨_, _, _, fl, oe, vs, T, oT, ts, g1, g2, _⟩ := R3
      exact ⟨oe, g1, g2.1⟩
    refine wpAny_excMatches_type ty ve_base ve_tup ve_self ?_
    show codeAny (model X.prog X.w) (X.A.mark (some (.ref ea))) (.handlers (.ref ea) [.ExceptHandler none none [_] hp] X.env) _ _
    refine codeAny_handlers_suite (markV R3 V3 fun h4 R4 u4 V4 => ?_)
    have F4 := F3.step R4.1 u4
    have I4 : Inv X pins σ H1 { s1 with heap := h4, toks := tk } := I1.call' rfl F4.un F4.hok I1.bare (by intro b z; cases z)
    have J4 := Inv.marked I4 (.ref ea)
    obtain ⟨tl, N, nm, qn, bs, hd', sn, sub, ab, col, dd, k0, k1, k2, k3, k5, mN, hC, hN, hni, T⟩ := exc_obj I4.ok.mod.kin q
    have FB := PySem.F.excBase_ValueError
    refine wpAny_execs_cons ?_
    rw [arm_exec_Raise]
    refine wpAny_bind (wpAny_standAt ?_)
    refine raise_from (eh := ea) (C := C) (nm := nm) (q := qn) (N := N) (bs := bs) (bm := tl) (hdct := hd') (sn := sn) (sub := sub) (ab := ab) (col := col) (dd := dd) (k0 := k0) (k1 := k1) (k2 := k2) (k3 := k3) (k5 := k5) (newId := "ValueError.__new__") (T.hasType FB.hasBase) rfl ?_
    refine wpAny_bind (wpAny_Call_Name_kw (ld_glob J4 hg hm ?_ hdb))
    have hC4 : h4.get? C = some _ := I4.bk _ _ hC
    have hN4 : h4.Ns N mN := hN.keeps I4.bk
    have T4 : OwnTail h4 veMro tl := T.keeps I4.bk
    show wpAny _ _ (callWith cpos (.ref C) [] ((false, eval (.Constant (.str msg) j mp) X.env) :: []) []) _ _ _
    unfold callWith
    refine wpAny_bind (wpAny_holding (Calls.evalArgs_plain (Calls.spliced_cons (Calls.Constant_str (Calls.spliced_nil ?_)))))
    refine wpAny_bind (wpAny_standAt ?_)
    show wpAny _ _ (keeperOf (.ref C) >>= _) _ _ _
    refine wpAny_bind (wpAny_keeperOf_exc hC4 ?_)
    refine wpAny_bind (wpAny_call_exc_subT (hrest := by show 1 ≤ sizeLine; decide) FB T4 hC4 hN4 hni fun h5 e2 m2 => wpAny_bind (wpAny_holding (wpAny_point (wpAny_pure ?_))))
    refine wpAny_bind (wpAny_standAt (wpAny_pure ?_))
    obtain ⟨t2, me2, _, _⟩ := m2.there
    have nw : ∀ b o, h4.get? b = some o → b ≠ e2 := fun b o z w => by rw [w, m2.new] at z; cases z
    obtain ⟨oh, vs, v1, v2, v3⟩ := V4
    refine ⟨e2, t2, oh, vs, rfl, m2.keeps _ _ hC4, me2, m2.keeps _ _ v1, v2, v3, nw _ _ v1, nw _ _ hC4, fun {Q'} z => wpAny_bind (Constant_none (wpAny_bind (wpAny_standAt (wpAny_pure z)))), fun h6 g6 o6 => ?_⟩
    have k6 : ∀ b o, h4.get? b = some o → h6.get? b = some o := fun b o z => (o6 b (nw b o z)).trans (m2.keeps b o z)
    have hen2 : B.get? e2 = none := by
      cases z : B.get? e2 with
      | none => rfl
      | some o => exact absurd rfl (nw _ _ (R4.1 _ _ z))
    have st6 : B.StaysIn h6 := fun b o z => k6 b o (R4.1 b o z)
    refine noteNew (base := B) (outer := X.outer) (A := X.A.mark (some (.ref ea))) fr' hef g6 rfl rfl rfl st6 hen2 (R4.2.2.1.of_keeps fun b o z _ => ⟨o, k6 b o z, rfl⟩) fun h7 R7 u7 _ => ?_
    have F7 := (F4.step st6 fun b o z _ => ⟨o.slots, k6 b o z⟩).step R7.1 u7
    show cameBackBy _ _ _ _ _ _
    unfold cameBackBy
    obtain ⟨_, _, _, fl7, oe7, vs7, T7, oT7, ts7, w1, w2, w3, w4, _⟩ := id R7
    refine wpAny_bind (wpAny_field w1 w3 w4 ?_)
    rw [if_neg (by simp)]
    refine markAny R7 fun h8 R8 u8 => ?_
    have hn0 : s1.heap.get? e2 = none := by
      cases z : s1.heap.get? e2 with
      | none => rfl
      | some o =>
        obtain ⟨o', z'⟩ := F4.un.there e2 o z (by simp)
        exact absurd rfl (nw _ _ z')
    refine px pins σ H1 W ρ s1 _ e2 C H1 B _ I1 r1 rfl I1.bare (F7.step R8.1 u8) (Same.refl H1) ?_ hn0 (by rw [hst]; exact R8) q1
    cases z : H1 e2 with
    | none => rfl
    | some u =>
      obtain ⟨o, z'⟩ := PD.ObjOk.there (I1.hok e2 u z)
      rw [hn0] at z'
      cases z'
end
end PD
set_option linter.all false
set_option maxRecDepth 100000
namespace PD
open PySem PySem.Spec PyProof.Rows L2 PX WC TX
section
variable {X : Cx} {pos : Pos}
theorem dstr {K : PySem.W.Frag} {P : Bool → Addr → Prop} {H : Hp} {x : Str} {v : V} {u : Value} (h : Den K P H (.str x) v) (r : RelV v u) : ∃ t, u = Value.str x t := by
  have := h.str_
  subst this
  exact r
def rdS (g : Str → Str → D) (C : Str → Str → Prop) : RD2 := fun x y Q => match x, y with
  | .str i, .str j => C i j ∧ Q (g i j)
  | _, _ => False
theorem rdS_ex {g : Str → Str → D} {C : Str → Str → Prop} {x y : D} {Q : D → Prop} (h : rdS g C x y Q) : ∃ i j, x = .str i ∧ y = .str j ∧ C i j ∧ Q (g i j) := by
  unfold rdS at h
  split at h
  · exact ⟨_, _, rfl, rfl, h⟩
  · exact h.elim
theorem od_plusS : OpD X (binaryOp .Add) (rdS (fun i j => .str (i ++ j)) fun i j => i.length + j.length ≤ sizeLine) := OpD.of op_add_str fun P H x y v u Q hx hy z => by
  obtain ⟨i, j, e1, e2, hc, q⟩ := rdS_ex z
  subst e1 e2
  exact ⟨i, j, hx.str_, hy.str_, hc, Same.refl H, _, Den.str _, q⟩
theorem cd_str : CallD X (.type "str") (fun ds Q => ∃ i : Int, ds = [.int i] ∧ i.natAbs.log2 < 1920 ∧ Q (.str (toString i))) := CallD.of call_str_int fun P H ds vs Q _ hd ⟨i, e, l, q⟩ => by
  subst e
  obtain ⟨v, rfl, h1⟩ := dens1 hd
  have e1 := h1.int_
  subst e1
  exact ⟨i, rfl, l, Same.refl H, _, Den.str _, q⟩
theorem cd_lenS : CallD X (.builtin "len") (fun ds Q => ∃ x : Str, ds = [.str x] ∧ x.length ≤ sizeLine ∧ Q (.int x.length)) := by
  intro pins s σ H W ds vs us Q I tr r hd ⟨x, e, l, q⟩
  subst e
  obtain ⟨v, rfl, h1⟩ := dens1 hd
  cases r with
  | cons r1 r2 =>
    cases r2
    obtain ⟨t, rfl⟩ := dstr h1 r1
    refine P.len_str (by rw [sizeLine_eq] at l; omega) ⟨.int _, H, _, I.tok _, ⟨_, rfl⟩, Same.refl H, Den.int _, q⟩
def inT (x y : Str) : Bool := !(Builtin.Str.occurrences x y 0 x.length 1).isEmpty
theorem od_notInS : OpD X (compareOp .NotIn) (rdS (fun i j => .bl (!inT j i)) fun _ _ => True) := by
  intro pins s σ H W x y v u vv uu Q I _ rv ru hx hy z
  obtain ⟨i, j, e1, e2, _, q⟩ := rdS_ex z
  subst e1 e2
  obtain ⟨t, rfl⟩ := dstr hx rv
  obtain ⟨t', rfl⟩ := dstr hy ru
  exact P.notIn_str ⟨.bl _, H, _, I, rfl, Same.refl H, Den.bl _, q⟩
variable {a b o e : Expr} {ta tb to te : DE} {es : List Expr} {t : DA}
def rdIxS : RD2 := fun x y Q => match x, y with
  | .str z, .int i => z.length ≤ sizeLine ∧ ∃ c, atI z.cps.toList i = some c ∧ Q (.str ⟨#[c]⟩)
  | _, _ => False
theorem de_ixS (ha : PED X a ta) (hb : PED X b tb) (hs : PlainIx b := by intro _ _; rfl) : PED X (.Subscript a b pos) (dOp rdIxS ta tb) := by
  intro pins s σ H W ρ Q I rr h
  refine Subscript_ (bind2 ha hb I rr h fun vv uu s2 v u x y H2 I2 e rv ru hx hy q => ?_)
  unfold rdIxS at q
  split at q
  · rename_i z i
    obtain ⟨l, c, ei, q⟩ := q
    have e1 := hx.str_
    have e2 := hy.int_
    subst e1 e2
    exact thn (ix_str a b pins s2 σ H2 _ _ vv uu (fun v' H' => Same H2 H' ∧ ∃ d', Den X.K W.bad H' d' v' ∧ Q d') I2 rv ru ⟨z, i, c, rfl, rfl, l, ei, Same.refl _, _, Den.str _, q⟩ (hs _ _))
      fun _ s3 ⟨w', H3, I3, r3, e3, d', hd', q'⟩ => ⟨w', H3, d', I3, r3, e.trans e3, hd', q'⟩
  · exact q.elim
def dSlS (te : DE) (tl th : DO) : DE := fun ρ Q => te ρ fun d => tl ρ fun l => th ρ fun u => ∃ z, d = .str z ∧ z.length ≤ sizeLine ∧ Q (.str (Txt.slice z l u))
theorem de_slS {lo hi : Option Expr} {tl th : DO} {p2 : Pos} (he : PED X e te) (hl : PDO X lo tl) (hh : PDO X hi th) : PED X (.Subscript e (.Slice lo hi none p2) pos) (dSlS te tl th) := by
  intro pins s σ H W ρ Q I r h
  refine slice_wp (st := none) (ts := dNoPart) (R := fun d l u k => k = none ∧ ∃ z, d = .str z ∧ z.length ≤ sizeLine ∧ Q (.str (Txt.slice z l u))) he hl hh do_none I r ?_ ?_ (fun _ _ => ⟨_, rfl⟩)
  · have e1 : (fun d => tl ρ fun l => th ρ fun u => dNoPart ρ fun k => k = none ∧ ∃ z, d = D.str z ∧ z.length ≤ sizeLine ∧ Q (.str (Txt.slice z l u))) = fun d => tl ρ fun l => th ρ fun u => ∃ z, d = D.str z ∧ z.length ≤ sizeLine ∧ Q (.str (Txt.slice z l u)) := by
      funext d
      congr 1
      funext l
      congr 1
      funext u
      exact propext ⟨fun z => z.2, fun z => ⟨rfl, z⟩⟩
    rw [e1]
    exact h
  · intro v vv vl vu vk l u k d sl H' s' I' sm rv hd hs pl pu pk hR
    obtain ⟨ek, z, ed, hw, q⟩ := hR
    subst ek ed
    obtain ⟨t, rfl⟩ := dstr hd rv
    refine ⟨"str", _, PySem.F.slot_str_getitem.lookup, typeIs_str _ _ _, ?_⟩
    have fin : ∀ t' k, DP X pins σ W H Q (.str (Txt.slice z l u) t') { s' with toks := k } := fun t' k => ⟨.str _, H', _, I'.tok k, ⟨_, rfl⟩, sm, Den.str _, q⟩
    have pv : ∀ {v : Value} {o : Option Int}, IsPart v o → ∃ p : Option (Int × Tok), v = partValue p ∧ p.map (·.1) = o := fun {v o} q => by
      cases q
      · exact ⟨none, rfl, rfl⟩
      · exact ⟨some (_, _), rfl, rfl⟩
    obtain ⟨pl', rfl, rfl⟩ := pv pl
    obtain ⟨pu', rfl, rfl⟩ := pv pu
    obtain ⟨pk', rfl, e3⟩ := pv pk
    have : pk' = none := by cases pk' <;> first | rfl | cases e3
    subst this
    exact wpAny_getItem_str_slice (l := pl') (u := pu') (st := none) hs rfl (post_val_or_str ⟨Nat.le_trans (Txt.slice_le z _ _) hw, fin⟩)
def MtS (X : Cx) (id : String) (r : Str → List D → (D → Prop) → Prop) : Prop :=
  ∀ (pins : List (Addr × Obj)) (s : Shared) (σ : St) (H : Hp) (W : Own) (x : Str) (t : Tok) (ds : List D) (vs : List V) (us : List Value) (Q : D → Prop), Inv X pins σ H s → (∀ t a, W.bad t a → ∃ o, H a = some o) → Vals vs us → Dens X.K W.bad H ds vs → r x ds Q →
    wpAny (model X.prog X.w) X.A (call (.builtin id) (.str x t :: us)) (DP X pins σ W H Q) X.xe s
def dMS (r : Str → List D → (D → Prop) → Prop) (to : DE) (t : DA) : DE := fun ρ Q => to ρ fun d => ∃ x, d = .str x ∧ t ρ fun ds => r x ds Q
theorem de_mS {name : Str} {apos cpos : Pos} {id : String} {r : Str → List D → (D → Prop) → Prop} (pa : PlainAttrs "str") (slot : Slot "str" name id) (hty : typeOf (.builtin id) = pure (.type "method_descriptor")) (hm : MtS X id r) (ho : PED X o to) (ha : PAD X (e :: es) t)
    (hbase : attributeBase o name X.env (eval o X.env) = eval o X.env := by rfl)
    (hfew : ((backTo cpos (starEach (e :: es) X.env)).all (fun x => !x.1) && (backToKw cpos (keywordEach [] X.env)).all (fun x => x.1.isSome)
      && decide ((e :: es).length + ([] : List Keyword).length + (if ([] : List Keyword).isEmpty then 0 else 1) < 30)) = true := by rfl)
    (hline : (apos.endLine == cpos.line) = true := by rfl) (hs : starEach (e :: es) X.env = (false, eval e X.env) :: starEach es X.env := by rfl) (hplain : (backTo cpos (starEach es X.env)).any (·.1) = false := by rfl) :
    PED X (.Call (.Attribute o name apos) (e :: es) [] cpos) (dMS r to t) := by
  intro pins s σ H W ρ Q I rr h
  refine wpAny_Call_method_late hbase hfew hline rfl (thn (ho pins s σ H W ρ _ I rr h) fun v s1 ⟨x, H1, d, I1, r1, e1, hd, z, ed, q1⟩ => ?_)
  subst ed
  obtain ⟨tk, rfl⟩ := dstr hd r1
  refine ⟨"str", id, pa, slot, hty, typeIs_str _ _ _, fun a q => (by cases q), ?_⟩
  have hA := ha cpos pins s1 σ H1 W ρ _ I1 (rr.same e1) q1
  rw [hs] at hA ⊢
  refine Calls.callWith_builtin (by show (false || (backTo cpos (starEach es X.env)).any (·.1)) = false; rw [hplain] <;> rfl) (Calls.evalArgs_plain ?_)
  exact thn hA fun us s2 ⟨vs, H2, ds, I2, r2, e2, hds, q2⟩ => thn (hm pins s2 σ H2 W z tk ds vs us Q I2 ((rr.same e1).same e2).tracked r2 hds q2) fun _ _ y => y.up (e1.trans e2)
def partD (x y : Str) : D := .tup [.str (Txt.partition x y).1, .str (Txt.partition x y).2.1, .str (Txt.partition x y).2.2]
theorem mt_part : MtS X "str.partition" (fun x ds Q => ∃ y, ds = [.str y] ∧ (y.length == 0) = false ∧ x.length ≤ sizeLine ∧ Q (partD x y)) := by
  intro pins s σ H W x t ds vs us Q I tr r hd ⟨y, e, hy, hz, q⟩
  subst e
  obtain ⟨v, rfl, h1⟩ := dens1 hd
  cases r with
  | cons r1 r2 =>
    cases r2
    obtain ⟨t', rfl⟩ := dstr h1 r1
    refine call_meets PySem.F.slot_str_partition (typeIs_str _ _ _) PySem.F.entry_str_partition (PySem.F.args_str_partition_2 _ _) (meets_str_partition x y t t' hy hz) ?_
    have hf : H s.heap.objs.size = none := I.hok.fresh (Nat.le_refl _)
    have fin : ∀ (a b c : Str) (ta tb tc : Tok) (k : Nat), Txt.partition x y = (a, b, c) → DP X pins σ W H Q (.ref s.heap.objs.size) { s with heap := s.heap.push { cls := .type "tuple", data := .seq [Value.str a ta, .str b tb, .str c tc].toArray }, toks := k } := fun a b c ta tb tc k e => by
      unfold partD at q
      rw [e] at q
      refine ⟨.ref s.heap.objs.size, L2.upd H s.heap.objs.size (.tup [.str a, .str b, .str c]), _, I.laid (t' := k) (fun b u e => Heap.get?_push_of_some _ e) (Nat.le_refl _) ⟨by show 3 ≤ sizeLine; decide, _, .cons ⟨_, rfl⟩ (.cons ⟨_, rfl⟩ (.cons ⟨_, rfl⟩ .nil)), ⟨_, Heap.get?_push_size _ rfl, rfl, _, rfl⟩⟩, rfl, Same.upd hf, Den.tup (SqT.of upd_same) ?_, q⟩
      exact Dens.cons (Den.str _) (Dens.cons (Den.str _) (Dens.cons (Den.str _) Dens.nil))
    unfold Txt.partition at fin
    revert fin
    cases Builtin.Str.occurrences x y 0 x.length 1 with
    | nil => intro fin; exact fin _ _ _ _ _ _ _ rfl
    | cons i r => intro fin; exact fin _ _ _ _ _ _ _ rfl
theorem de_part {apos cpos : Pos} (ho : PED X o to) (ha : PAD X [e] t) (hbase : attributeBase o "partition" X.env (eval o X.env) = eval o X.env := by rfl)
    (hfew : ((backTo cpos (starEach [e] X.env)).all (fun x => !x.1) && (backToKw cpos (keywordEach [] X.env)).all (fun x => x.1.isSome) && decide ([e].length + ([] : List Keyword).length + (if ([] : List Keyword).isEmpty then 0 else 1) < 30)) = true := by rfl)
    (hline : (apos.endLine == cpos.line) = true := by rfl) (hs : starEach [e] X.env = (false, eval e X.env) :: starEach [] X.env := by rfl) : PED X (.Call (.Attribute o "partition" apos) [e] [] cpos) (dMS (fun x ds Q => ∃ y, ds = [.str y] ∧ (y.length == 0) = false ∧ x.length ≤ sizeLine ∧ Q (partD x y)) to t) :=
  de_mS PySem.F.plainAttrs_str PySem.F.slot_str_partition PySem.F.type_str_partition mt_part ho ha hbase hfew hline hs
end
end PD
set_option linter.all false
set_option maxRecDepth 100000
namespace PD
open PySem PySem.Spec PyProof.Rows L2 PX WC TX
def chD (x : Str) : List D := x.cps.toList.map fun c => D.str ⟨#[c]⟩
def dIterS (ti : DE) : DA := fun ρ R => ti ρ fun d => ∃ x, d = .str x ∧ x.cps.all (· < 128) = true ∧ R (chD x)
section
variable {X : Cx} {e e' : Expr} {es : List Expr} {te : DE} {pos : Pos}
def PJD (X : Cx) (es : List Expr) (t : Str → Ro → (D → Prop) → Prop) : Prop := ∀ (out : Str) (pins : List (Addr × Obj)) (s : Shared) (σ : St) (H : Hp) (W : Own) (ρ : Ro) (Q : D → Prop), Inv X pins σ H s → Rel X W H σ ρ → t out ρ Q →
  wpAny (model X.prog X.w) X.A (joinParts out (evalEach es X.env)) (DP X pins σ W H Q) X.xe s
def djNil (out : Str) (_ : Ro) (Q : D → Prop) : Prop := out.length ≤ sizeLine ∧ Q (.str out)
def djCons (te : DE) (t : Str → Ro → (D → Prop) → Prop) (out : Str) (ρ : Ro) (Q : D → Prop) : Prop := te ρ fun d => ∃ y, d = .str y ∧ (out ++ y).length ≤ sizeLine ∧ t (out ++ y) ρ Q
theorem dj_nil : PJD X [] djNil := fun out pins s σ H W ρ Q I r ⟨l, q⟩ => joinParts_nil ⟨.str out, H, _, I.tok _, ⟨_, rfl⟩, Same.refl H, Den.str _, q⟩ l
theorem dj_cons {t : Str → Ro → (D → Prop) → Prop} (he : PED X e te) (hr : PJD X es t) (hs : evalEach (e :: es) X.env = eval e X.env :: evalEach es X.env := by rfl) : PJD X (e :: es) (djCons te t) := by
  intro out pins s σ H W ρ Q I r h
  rw [hs]
  refine joinParts_cons (thn (he pins s σ H W ρ _ I r h) fun v s1 ⟨vv, H1, d, I1, rv, e1, hd, y, ed, l, q⟩ => ?_)
  subst ed
  obtain ⟨t', rfl⟩ := dstr hd rv
  exact ⟨l, thn (hr _ pins s1 σ H1 W ρ Q I1 (r.same e1) q) fun _ _ z => z.up e1⟩
theorem de_joined {t : Str → Ro → (D → Prop) → Prop} (h : PJD X (e :: e' :: es) t) (hs : evalEach (e :: e' :: es) X.env = eval e X.env :: eval e' X.env :: evalEach es X.env := by rfl) : PED X (.JoinedStr (e :: e' :: es) pos) (fun ρ Q => t Str.empty ρ Q) := by
  intro pins s σ H W ρ Q I r hq
  have := h Str.empty pins s σ H W ρ Q I r hq
  rw [hs] at this
  exact JoinedStr_many this
def dFmt (te : DE) : DE := fun ρ Q => te ρ fun d => match d with
  | .int i => i.natAbs.log2 < 1920 ∧ Q (.str (toString i))
  | .str x => x.length ≤ sizeLine ∧ Q (.str x)
  | _ => False
theorem de_fmt (he : PED X e te) : PED X (.FormattedValue e (-1) none pos) (dFmt te) := by
  intro pins s σ H W ρ Q I r h
  refine FormattedValue_plain (thn (he pins s σ H W ρ _ I r h) fun v s1 ⟨vv, H1, d, I1, rv, e1, hd, q⟩ => ?_)
  cases d with
  | int i =>
    have := hd.int_
    subst this
    obtain ⟨t, rfl⟩ := rv
    exact wpAny_formatField_int q.1 ⟨.str _, H1, _, I1.tok _, ⟨_, rfl⟩, e1, Den.str _, q.2⟩
  | str x =>
    obtain ⟨t', rfl⟩ := dstr hd rv
    exact formatField_str (fun t' k => ⟨.str x, H1, _, I1.tok k, ⟨_, rfl⟩, e1, Den.str _, q.2⟩) q.1
  | _ => exact False.elim q
end
end PD
set_option linter.all false
set_option maxRecDepth 100000
namespace PD
open PySem PySem.Spec PyProof.Rows L2 PX WC
section
variable {prog : Program} {w : World} {A : Around} {s : Shared} {R : Result → Shared → Prop}
theorem c_compStart {elt target iter : Expr} {ifs : List Expr} {rest : List Comprehension} {scope : Scope} {pos : Pos} {it acc : Value} {env : Env}
    (h0 : codeC (model prog w) A (.compLoop (.ListComp elt (⟨target, iter, ifs, 0⟩ :: rest) scope pos) 0 it acc env) R s)
    (h : wpAny (model prog w) A (pyIter it) (fun it' s' => codeC (model prog w) A (.compLoop (.ListComp elt (⟨target, iter, ifs, 0⟩ :: rest) scope pos) 0 it' acc env) R s') (notedBy (model prog w) A env fun x s' => R (.error x) s') s) :
    codeC (model prog w) A (.compStart (.ListComp elt (⟨target, iter, ifs, 0⟩ :: rest) scope pos) 0 it acc env) R s := by
  refine codeC.tree ?_
  show wpC _ _ ((compStart (.ListComp elt (⟨target, iter, ifs, 0⟩ :: rest) scope pos) 0 it acc env).onRaise (fun x => do noteFrame x env; standAt theWindowsPlace)) _ _ s
  refine wpC.onRaise (wpC.mono (E := notedBy (model prog w) A env fun x s' => R (.error x) s') ?_ (fun _ _ q => q) fun _ _ hx => wpC.of (wpAny_bind (wpAny_mono hx (fun _ _ e => wpAny_standAt e) fun _ _ e => e)))
  unfold compStart
  refine wpC.bindA (wpAny_askSetting ?_)
  split
  · first
      | exact wpC.bind (wpC.pure (wpC.pure ⟨rfl, h0⟩))
      | exact wpC.pure ⟨rfl, h0⟩
  · refine wpC.bindA (wpAny_rule ?_)
    exact wpC.stand (wpC.bindA (wpAny_mono h (fun it' s' h' => wpC.pure ⟨rfl, h'⟩) fun _ _ x => x))
theorem compLoopC {elt target iter : Expr} {ifs : List Expr} {scope : Scope} {pos : Pos} {it acc : Value} {env : Env} (I : Nat → Shared → Prop)
    (turn : ∀ n s, I n s → wpAny (model prog w) A (pyNext it) (fun r s₁ => match r with
      | none => R (.ok .next) s₁
      | some v => wpAny (model prog w) A (letOwnedTupleGo target it v) (fun _ z₁ => wpAny (model prog w) A (assign target env v) (fun _ s₂ =>
          wpAny (model prog w) A (forIn ifs true fun c r => if r = true then do let ok ← isTrue c env (eval c env); pure (ForInStep.yield ok) else pure (ForInStep.yield r)) (fun ok s₃ => if ok = true then wpC (model prog w) A (eval elt env) (fun x s₄ =>
              wpAny (model prog w) A (call (.builtin "list.append") [acc, x]) (fun _ s₅ => ∃ m, m < n ∧ I m s₅) (notedBy (model prog w) A env fun e z => R (.error e) z) s₄) (notedBy (model prog w) A env fun e z => R (.error e) z) s₃
            else ∃ m, m < n ∧ I m s₃) (notedBy (model prog w) A env fun e z => R (.error e) z) s₂) (notedBy (model prog w) A env fun e z => R (.error e) z) z₁) (notedBy (model prog w) A env fun e z => R (.error e) z) s₁) (notedBy (model prog w) A env fun e z => R (.error e) z) s)
    (n : Nat) (h : I n s) : codeC (model prog w) A (.compLoop (.ListComp elt [⟨target, iter, ifs, 0⟩] scope pos) 0 it acc env) R s := by
  refine c_loop rfl I (fun m z hI => ?_) n s h
  show wpC _ A ((compTurn (.ListComp elt [⟨target, iter, ifs, 0⟩] scope pos) 0 it acc env).onRaise (fun e => do noteFrame e env; theTreesLotGoes e)) _ _ z
  refine wpC.noted ?_
  rw [compTurn_list]
  refine wpC.stand (wpC.bindA (wpAny_mono (turn m z hI) (fun r z1 g1 => ?_) fun _ _ q => q))
  cases r with
  | none => exact wpC.pure g1
  | some v =>
    refine wpC.bindA (wpAny_mono g1 (fun _ z2 g2 => ?_) fun _ _ q => q)
    refine wpC.bindA (wpAny_mono g2 (fun _ z3 g3 => wpC.bindA (wpAny_mono g3 (fun ok z4 g4 => ?_) fun _ _ q => q)) fun _ _ q => q)
    cases ok with
    | false => exact wpC.pure (.inl ⟨rfl, g4⟩)
    | true => exact wpC.bind (wpC.bind (g4.thn fun y z5 g5 => wpC.bindA (wpAny_mono g5 (fun _ z6 g6 => wpC.pure (wpC.pure (.inl ⟨rfl, g6⟩))) fun _ _ q => q)))
end
def PEMC (X : Cx) (e : Expr) (t : DM) : Prop :=
  ∀ (pins : List (Addr × Obj)) (s : Shared) (σ : St) (H : Hp) (W : Own) (ρ : Ro) (Q : LI → Prop), Inv X pins σ H s → Rel X W H σ ρ → t ρ Q →
    wpC (model X.prog X.w) X.A (eval e X.env) (MDP X pins σ W H Q) X.xe s
theorem em_valC {X : Cx} {e : Expr} {te : DE} (h : PEC X e te) : PEMC X e fun ρ Q => te ρ fun d => Q (.val d) := fun pins s σ H W ρ Q I r t => (h pins s σ H W ρ _ I r t).thn fun _ _ ⟨v, H', d, a, b, c, q, z⟩ => ⟨v, H', .val d, a, b, c, q, z⟩
section
variable {X : Cx} {pins : List (Addr × Obj)} {σ : St} {H : Hp} {s : Shared} {sc : Scope} {ns : List Str} {js : List Nat} {xs : List Str} {fp : List Addr}
theorem comp_coreC {elt iter tg : Expr} {ifs : List Expr} {pos : Pos} {g : DG} {te : DM} {tc : DT} {W : Own} {ρ : Ro} {J : It} {it : Addr} {tn : Nat → Heap → Prop} {ds : List D} {RR : Value → Addr → Result → Shared → Prop} {cl : List (Str × Addr)} {fn : Str → Bool} {Ad C : Addr} {h₁ : Heap} (hc : X.calm = true)
    (he : PEMC (cxG X sc ns xs cl fn C s H fp (noteG X sc cl RR Ad C)) elt te) (ht : TsD (cxG X sc ns xs cl fn C s H fp (noteG X sc cl RR Ad C)) ifs tc) (hg : PGD (cxG X sc ns xs cl fn C s H fp (noteG X sc cl RR Ad C)) tg g) (I : Inv X pins σ H s) (r : Rel X W H σ ρ) (T : Turn X.prog X.w X.K tg J fp it tn) (st : tn 0 s.heap) (hfp : ∀ b ∈ fp, FpOk X pins H b) (yd : YD X.K W H J ds) (hz : ds.length ≤ sizeLine)
    (Pv : Nat → List LI → Prop) (p0 : Pv 0 []) (step : ∀ j d out ρ1, ds[j]? = some d → Pv j out → CapR xs.length (js.map (getV ρ)) ρ1 → g d ρ1 fun ρ2 => CapR xs.length (js.map (getV ρ)) ρ2 ∧ tc ρ2 fun b => if b = true then te ρ2 (fun e => Pv (j + 1) (out ++ [e])) else Pv (j + 1) out)
    (hRR : ∀ (s' : Shared) (H' : Hp) (m' : Str → Option Value) (out : List LI) (bs : Nat → Option Addr), Inv X pins σ H' s' → Same H H' → s'.heap.Ns C m' → H' C = none → C ≠ X.env.locals → X.s₀.heap.objs.size ≤ C → (∀ y c, X.env.cells.lookup y = some c → c ≠ C) → (∀ p ∈ X.pn ++ pins, p.1 ≠ C) →
      (H Ad = none ∧ X.K.lookup Ad = none ∧ ∃ vs, H' Ad = some (.lst vs) ∧ BsOk X.K H Ad out.length bs ∧ (∀ k b, bs k = some b → ∃ us, H' b = some (.lst us)) ∧ LDens X.K (fun t b => W.bad t b ∨ b = Ad ∨ ∃ k, bs k = some b) H' bs 0 out vs) → Pv ds.length out → RR (.ref Ad) C (.ok .next) s')
    (hDf : H Ad = none) (hKD : X.K.lookup Ad = none) (leD : s.heap.objs.size ≤ Ad) (hCle : s.heap.objs.size ≤ C) (old : ∀ b o, s.heap.get? b = some o → h₁.get? b = some o) (hcl : ∀ y c, cl.lookup y = some c → X.env.cells.lookup y = some c ∨ s.heap.objs.size ≤ c)
    (I1 : Inv (cxG X sc ns xs cl fn C s H fp (noteG X sc cl RR Ad C)) [] (List.replicate xs.length none ++ js.map (getS σ)) (L2.upd H Ad (.lst [])) { s with heap := h₁, toks := s.toks + ([] : List (Str × Value)).length }) :
    codeC (model X.prog X.w) X.A (.compStart (.ListComp elt [⟨tg, iter, ifs, 0⟩] sc pos) 0 (.ref it) (.ref Ad) (compEnvC sc cl C X.env)) (RR (.ref Ad) C) { s with heap := h₁, toks := s.toks + ([] : List (Str × Value)).length } := by
  have hfo : ∀ b ∈ fp, ∃ o, s.heap.get? b = some o := fun b hb => let ⟨o, e, _⟩ := T.obj 0 s.heap st b hb; ⟨o, e⟩
  have nl : ∀ {a : Addr} {ws : List V}, SqL X.K H a ws → a ≠ Ad := fun {a ws} q z => by
    subst z
    rcases q with (q | ⟨o, q⟩) | ⟨o, its, n, q, _⟩
    · rw [hDf] at q; cases q
    · rw [hDf] at q; cases q
    · rw [hKD] at q; cases q
  let W' : Own := ⟨fun a => W.bad false a ∨ a = Ad, fun _ => none, W.S⟩
  have bad' : ∀ t a, W'.bad t a ↔ (W.bad t a ∨ a = Ad) := fun t a => ⟨fun z => by
    rcases z with (z | z) | ⟨_, q⟩ | ⟨z1, z2⟩
    · exact .inl (Own.bad_up z)
    · exact .inr z
    · cases q
    · exact .inl (.inr (.inr ⟨z1, z2⟩)), fun z => by
    rcases z with z | z
    · rcases z with z | z | z
      · exact .inl (.inl (.inl z))
      · exact .inl (.inl (.inr (.inl z)))
      · exact .inr (.inr z)
    · exact .inl (.inr z)⟩
  have hT : ∀ {H' : Hp}, Same H H' → ∀ a vs, SqT X.K H a vs → SqT X.K H' a vs := fun sm a vs q => SqT.same sm q
  have hL : ∀ {H' : Hp}, Same H H' → ∀ t a vs, ¬ W.bad t a → SqG X.K H t a vs → ¬ W'.bad t a ∧ SqG X.K H' t a vs := fun sm t a vs n q => ⟨fun z => ((bad' t a).mp z).elim n (nl q.1), q.same sm⟩
  have relC : Rel (cxG X sc ns xs cl fn C s H fp (noteG X sc cl RR Ad C)) W' (L2.upd H Ad (.lst [])) (List.replicate xs.length none ++ js.map (getS σ)) (List.replicate xs.length none ++ js.map (getV ρ)) := by
    have sm : Same H (L2.upd H Ad (.lst [])) := Same.upd hDf
    have at_ : ∀ {i : Nat} {z : Sl}, (List.replicate xs.length none ++ js.map (getV ρ))[i]? = some (some z) → ¬ i < xs.length ∧ (js.map (getV ρ))[i - xs.length]? = some (some z) := fun {i z} h => by
      by_cases hi : i < xs.length
      · rw [List.getElem?_append_left (by simpa using hi), List.getElem?_replicate, if_pos hi] at h
        cases h
      · rw [List.getElem?_append_right (by simpa using hi)] at h
        exact ⟨hi, by simpa using h⟩
    refine ⟨fun i d h => ?_, fun i x h => ?_, fun i j a h _ => (by cases h), fun i a h => (by cases h), fun i a h => (by cases h), fun a h => ?_, fun a h => ?_, sm, r.tab.same sm⟩
    · obtain ⟨hi, h'⟩ := at_ h
      rw [List.getElem?_map] at h'
      cases e : js[i - xs.length]? with
      | none => rw [e] at h'; cases h'
      | some j =>
        rw [e] at h'
        have h4 : getV ρ j = some (.val d) := Option.some.inj h'
        have h5 : ρ[j]? = some (some (.val d)) := by
          unfold getV at h4
          split at h4
          · rename_i u q
            cases h4
            exact q
          · cases h4
        obtain ⟨v, e1, e2⟩ := r.val j d h5
        refine ⟨v, ?_, Den.map (hT sm) (hL sm) (fun a _ n q => sm.kp a _ q n.nt) d v e2⟩
        rw [List.getElem?_append_right (by simpa using hi)]
        show (js.map (getS σ))[i - (List.replicate xs.length (none : Option V)).length]? = some (some v)
        rw [List.length_replicate, List.getElem?_map, e]
        show some (getS σ j) = some (some v)
        unfold getS
        rw [e1]
    · obtain ⟨hi, h'⟩ := at_ h
      rw [List.getElem?_map] at h'
      cases e : js[i - xs.length]? with
      | none => rw [e] at h'; cases h'
      | some j =>
        rw [e] at h'
        have h4 : getV ρ j = some (.ob x) := Option.some.inj h'
        unfold getV at h4
        split at h4 <;> cases h4
    · rcases h with h | h
      · obtain ⟨o, q⟩ := r.tracked false a h
        exact sm.ex q
      · rw [h]; exact ⟨_, upd_same⟩
    · obtain ⟨o, q⟩ := r.st a h
      exact sm.ex q
  have statC : ∀ {H' : Hp}, (∀ b ∈ fp, H' b = none) → ∀ b ∈ fp, FpOk (cxG X sc ns xs cl fn C s H fp (noteG X sc cl RR Ad C)) [] H' b := fun hn b hb => by
    obtain ⟨f0, f1, f2, f3, f4, f5⟩ := hfp b hb
    obtain ⟨o, ho⟩ := hfo b hb
    refine ⟨hn b hb, fun z => ?_, fun z => ?_, .inl hb, fun y c e z => (hcl y c e).elim (fun e => f4 y c e z) fun q => absurd (Heap.lt_size ho) (by rw [← z]; exact Nat.not_lt.mpr q), fun p hp => absurd (show p ∈ ([] : List (Addr × Obj)) from hp) (by simp)⟩
    · have z' : b = C := z
      have hlt := Heap.lt_size ho
      rw [z'] at hlt
      exact absurd (Nat.lt_of_lt_of_le hlt hCle) (Nat.lt_irrefl _)
    · rcases List.mem_cons.mp (I.stkSub b z) with e | e
      · exact f1 e
      · exact f2 e
  have hch : ∀ b ∈ fp, (b ∈ X.ex ∨ X.s₀.heap.objs.size ≤ b) ∧ b ≠ X.env.locals ∧ (∀ x c, X.env.cells.lookup x = some c → c ≠ b) ∧ ∀ p ∈ X.pn ++ pins, p.1 ≠ b := fun b hb => by
    obtain ⟨f0, f1, f2, f3, f4, f5⟩ := hfp b hb
    exact ⟨f3, f1, f4, f5⟩
  have BD0 : W'.B Ad := .inr rfl
  have loop : ∀ s₃ : Shared, s₃ = { s with heap := h₁, toks := s.toks + ([] : List (Str × Value)).length } →
      codeC (model X.prog X.w) X.A (.compLoop (.ListComp elt [⟨tg, iter, ifs, 0⟩] sc pos) 0 (.ref it) (.ref Ad) (compEnvC sc cl C X.env)) (RR (.ref Ad) C) s₃ := by
    rintro s₃ rfl
    refine compLoopC (CLI X.K (cxG X sc ns xs cl fn C s H fp (noteG X sc cl RR Ad C)) H fp Ad ds W' tn xs.length (js.map (getV ρ)) Pv) ?_ ds.length
      ⟨0, W', _, _, _, [], [], fun _ => none, by simp, Nat.zero_le _, I1, T.keep 0 s.heap h₁ st (fun b hb o e => old b o e), fun b hb => ?_, upd_same, ⟨by funext a; simp, rfl⟩, BsOk.nil, (fun _ _ h => by cases h), by simp only [LDens], Same.upd hDf, relC, ⟨_, by simp, rfl⟩, p0, Nat.le_refl _⟩
    rotate_left
    · obtain ⟨o, ho⟩ := hfo b hb
      rw [upd_ne (fun z => absurd (Heap.lt_size ho) (by rw [z]; exact Nat.not_lt.mpr leD))]
      exact (hfp b hb).1
    rintro n s3 ⟨i, W2, σ2, ρ2, H3, out, vs, bs, en, hle, I3, st3, fr3, hD3, hW2, hbs, hls, hds3, sm3, rl3, cap3, p3, ol⟩
    have nb2 : ∀ {W3 : Own} {H' : Hp} {σ3 : St} {ρ3 : Ro}, (W3.B = (fun a => W'.B a ∨ ∃ k, bs k = some a) ∧ W3.S = W'.S) → Rel (cxG X sc ns xs cl fn C s H fp (noteG X sc cl RR Ad C)) W3 H' σ3 ρ3 → Same H H' → ∀ t a vs, ¬ W.bad t a → SqG X.K H t a vs → ¬ W3.bad t a ∧ SqG X.K H' t a vs := fun {W3 H' σ3 ρ3} hw rl sm t a vs n q => by
      refine ⟨fun z => ?_, q.same sm⟩
      rcases z with z | ⟨k, z⟩ | ⟨z1, z2⟩
      · rw [hw.1] at z
        rcases z with z | ⟨k, z⟩
        · exact (hL sm t a vs n q).1 (.inl z)
        · obtain ⟨_, h0, kk, _⟩ := hbs.ok k a z
          rcases q.1 with (q1 | ⟨o, q1⟩) | ⟨o, its, m, q1, _⟩
          · rw [h0] at q1; cases q1
          · rw [h0] at q1; cases q1
          · rw [kk] at q1; cases q1
      · have h0 : H a = none := rl.ke k a z
        rcases q.1 with (q1 | ⟨o, q1⟩) | ⟨o, its, m, q1, _⟩
        · rw [h0] at q1; cases q1
        · rw [h0] at q1; cases q1
        · have kk : X.K.lookup a = none := (rl.kn k a z).1
          rw [kk] at q1; cases q1
      · rw [hw.2] at z2
        exact (hL sm t a vs n q).1 (.inr (.inr ⟨z1, z2⟩))
    obtain ⟨yg, yy, ys⟩ := yd W2.bad H3 (hT sm3) (nb2 hW2 rl3 sm3) (fun a _ n q => sm3.kp a _ q n.nt) i
    by_cases hlt : i < ds.length
    · refine thn (T.item (cxG X sc ns xs cl fn C s H fp (noteG X sc cl RR Ad C)) rfl rfl rfl hc i [] s3 _ H3 _ I3 (statC fr3) st3 (yg hlt)) fun rr s4 ⟨u, hr, h4⟩ => ?_
      subst hr
      refine thn h4 fun _ s5 ⟨x5, H5, I5, r5, y5, st5, fr5⟩ => ?_
      obtain ⟨e5, d, hd, hden⟩ := yy x5 H5 y5 hlt
      have I5' := I5.pinned (statC fr5) (T.obj _ _ st5)
      have rl5 := rl3.same e5
      have sm5 : Same H H5 := sm3.trans e5
      refine wpAny_mono (hg _ s5 σ2 H5 W2 ρ2 d x5 u _ I5' rl5 r5 hden (step i d out ρ2 hd p3 cap3)) (fun _ s6 ⟨W6, σ6, H6, ρ6, I6, f6, rl6, cap6, q6⟩ => ?_) (fun _ _ z => z)
      have hW6 : W6.B = (fun a => W'.B a ∨ ∃ k, bs k = some a) ∧ W6.S = W'.S := ⟨f6.B.trans hW2.1, f6.S.trans hW2.2⟩
      have sm6 : Same H H6 := ⟨fun b o e n => f6.kp b o (fun k z => by have h0 : H b = none := rl5.ke k b z; rw [e] at h0; cases h0) (sm5.kp b o e n) n, (fun b ps e => by obtain ⟨m1, e1⟩ := sm5.tb b ps e; obtain ⟨m2, e2⟩ := f6.tb b _ e1; exact ⟨m1 ++ m2, by rw [e2, Array.append_assoc]⟩), fun h => f6.ok (sm5.ok h)⟩
      have BD : W'.B Ad := .inr rfl
      have hD6 : H6 Ad = some (.lst vs) := f6.keep Ad _ (fun k z => (rl5.kn k Ad z).2.1.1 (by rw [hW2.1]; exact .inl BD)) (e5 _ _ hD3)
      have hds5 : LDens X.K W2.bad H5 bs 0 out vs := hds3.map (fun _ _ z => z.same e5) fun _ _ q => ⟨q, fun _ z => e5 _ _ z⟩
      have hls6 : ∀ k b, bs k = some b → ∃ us, H6 b = some (.lst us) := fun k b q => let ⟨us, z⟩ := hls k b q; ⟨us, f6.keep b _ (fun l y => (rl5.kn l b y).2.1.1 (by rw [hW2.1]; exact .inr ⟨k, q⟩)) (e5 _ _ z)⟩
      have hds6 : LDens X.K W6.bad H6 bs 0 out vs := hds5.map (fun _ _ z => Dens.fwd rl5 rl6 f6 z) fun k b q => ⟨q, fun us z => f6.keep b _ (fun l y => (rl5.kn l b y).2.1.1 (by rw [hW2.1]; exact .inr ⟨k, q⟩)) z⟩
      have keepT : ∀ {σ7 : St} {H7 : Hp} {s7 : Shared}, Inv (cxG X sc ns xs cl fn C s H fp (noteG X sc cl RR Ad C)) ([] ++ pinsAt fp s5.heap) σ7 H7 s7 → tn (i + 1) s7.heap ∧ ∀ b ∈ fp, H7 b = none := fun {σ7 H7 s7} I7 => by
        refine ⟨T.keep _ _ _ st5 fun b hb o e => (I7.pin (b, o) (List.mem_append_right _ (List.mem_append_right _ (mem_pinsAt hb e)))).1, fun b hb => ?_⟩
        obtain ⟨o, e, _⟩ := T.obj _ _ st5 b hb
        exact (I7.pin (b, o) (List.mem_append_right _ (List.mem_append_right _ (mem_pinsAt hb e)))).2.1
      refine wpAny_mono (ht _ s6 _ H6 W6 _ _ I6 rl6 q6) (fun b s7 ⟨H7, I7, e7, q7⟩ => ?_) (fun _ _ z => z)
      cases b with
      | false =>
        rw [if_neg Bool.false_ne_true] at q7
        rw [if_neg Bool.false_ne_true]
        obtain ⟨t7, f7⟩ := keepT I7
        exact ⟨ds.length - (i + 1), by omega, i + 1, W6, σ6, ρ6, H7, out, vs, bs, rfl, hlt, I7.unpinned, t7, f7, e7 _ _ hD6, hW6, hbs, (fun k b q => let ⟨us, z⟩ := hls6 k b q; ⟨us, e7 _ _ z⟩), hds6.map (fun _ _ z => z.same e7) (fun _ _ q => ⟨q, fun _ z => e7 _ _ z⟩), sm6.trans e7, rl6.same e7, cap6, q7, by omega⟩
      | true =>
        rw [if_pos rfl] at q7
        rw [if_pos rfl]
        refine wpC.mono (he _ s7 _ H7 W6 _ _ I7 (rl6.same e7) q7) (fun u8 s8 ⟨v8, H8, e8, I8, r8, sm8, hd8, q8⟩ => ?_) (fun _ _ z => z)
        have sm78 := e7.trans sm8
        have hD8 := sm78 _ _ hD6
        have rl7 := rl6.same e7
        have hds7 : LDens X.K W6.bad H7 bs 0 out vs := hds6.map (fun _ _ z => z.same e7) fun _ _ q => ⟨q, fun _ z => e7 _ _ z⟩
        have smH : Same H H8 := sm6.trans sm78
        obtain ⟨W8, bs8, hW8, hbs8, hls8, rl8, hds8, hlen8⟩ : ∃ (W8 : Own) (bs8 : Nat → Option Addr), (W8.B = (fun a => W'.B a ∨ ∃ k, bs8 k = some a) ∧ W8.S = W'.S) ∧ BsOk X.K H Ad (out ++ [e8]).length bs8 ∧ (∀ k b, bs8 k = some b → ∃ us, H8 b = some (.lst us)) ∧ Rel (cxG X sc ns xs cl fn C s H fp (noteG X sc cl RR Ad C)) W8 H8 σ6 ρ6 ∧ LDens X.K W8.bad H8 bs8 0 (out ++ [e8]) (vs ++ [v8]) ∧ vs.length = out.length := by
          have ln := hds7.len
          cases e8 with
          | val d =>
            refine ⟨W6, bs, hW6, hbs.up (by simp), (fun k b q => let ⟨us, z⟩ := hls6 k b q; ⟨us, sm78 _ _ z⟩), rl7.same sm8, ?_, ln⟩
            exact (hds7.map (fun _ _ z => z.same sm8) fun _ _ q => ⟨q, fun _ z => sm8 _ _ z⟩).snoc_val hd8
          | own ds' =>
            obtain ⟨a, ws, rfl, na, ka, ha, hds'⟩ := hd8
            obtain ⟨rb, db⟩ := rl7.ban sm8 na ka ha
            have nH : H a = none := (sm6.trans e7).free na
            have nD : a ≠ Ad := fun z => by rw [z, e7 _ _ hD6] at na; cases na
            refine ⟨⟨fun b => W6.B b ∨ b = a, W6.O, W6.S⟩, fun k => if k = out.length then some a else bs k, ⟨?_, hW6.2⟩, hbs.put nH ka nD (fun k z => ?_), (fun k b q => ?_), rb, ?_, ln⟩
            · funext b
              show (W6.B b ∨ b = a) = _
              rw [hW6.1]
              refine propext ⟨fun z => ?_, fun z => ?_⟩
              · rcases z with (z | ⟨k, z⟩) | z
                · exact .inl z
                · exact .inr ⟨k, by show (if k = out.length then some a else bs k) = some b; rw [if_neg (Nat.ne_of_lt (hbs.ok k b z).1)]; exact z⟩
                · exact .inr ⟨out.length, by show (if out.length = out.length then some a else bs out.length) = some b; rw [if_pos rfl, z]⟩
              · rcases z with z | ⟨k, z⟩
                · exact .inl (.inl z)
                · have z : (if k = out.length then some a else bs k) = some b := z
                  by_cases ek : k = out.length
                  · rw [if_pos ek] at z; cases z; exact .inr rfl
                  · rw [if_neg ek] at z; exact .inl (.inr ⟨k, z⟩)
            · obtain ⟨o, hu⟩ := rl7.bt a (by rw [hW6.1]; exact .inr ⟨k, z⟩)
              rw [hu] at na; cases na
            · have q : (if k = out.length then some a else bs k) = some b := q
              by_cases ek : k = out.length
              · rw [if_pos ek] at q; cases q; exact ⟨_, ha⟩
              · rw [if_neg ek] at q
                obtain ⟨us, z⟩ := hls6 k b q
                exact ⟨us, sm78 _ _ z⟩
            · refine LDens.snoc_own (hds7.map (B' := fun k => if k = out.length then some a else bs k) (fun ds vs z => db ds vs z) fun k b q => ⟨by show (if k = out.length then some a else bs k) = some b; rw [if_neg (Nat.ne_of_lt (hbs.ok k b q).1)]; exact q, fun _ z => sm8 _ _ z⟩) (by simp) ha (hds'.fewer fun t b z => ?_)
              rcases z with (z | z) | z | z
              · exact .inl (.inl z)
              · exact .inr z
              · exact .inl (.inr (.inl z))
              · exact .inl (.inr (.inr z))
        have BD8 : W8.B Ad := by rw [hW8.1]; exact .inl BD
        refine wpAny_mono (mt_append (X := cxG X sc ns xs cl fn C s H fp (noteG X sc cl RR Ad C)) _ s8 _ H8 (.ref Ad) [v8] (.ref Ad) [u8] (fun _ H' => H' = L2.upd H8 Ad (.lst (vs ++ [v8]))) I8 rfl (.cons r8 .nil) ⟨Ad, vs, v8, rfl, rfl, hD8, by rw [hlen8]; omega, rfl⟩) (fun _ s9 ⟨v9, H9, I9, _, eH⟩ => ?_) (fun _ _ z => z)
        subst eH
        obtain ⟨t9, f9⟩ := keepT I9
        obtain ⟨rl9, dn9⟩ := rl8.mutB (vs' := vs ++ [v8]) BD8 hD8 hDf
        exact ⟨ds.length - (i + 1), by omega, i + 1, W8, σ6, ρ6, _, out ++ [e8], vs ++ [v8], bs8, rfl, hlt, I9.unpinned, t9, f9, upd_same, hW8, hbs8, (fun k b q => let ⟨us, z⟩ := hls8 k b q; ⟨us, by rw [upd_ne (hbs8.ok k b q).2.2.2]; exact z⟩), hds8.map dn9 (fun k b q => ⟨q, fun us z => by rw [upd_ne (hbs8.ok k b q).2.2.2]; exact z⟩), smH.ins hDf hD8 True.intro True.intro, rl9, cap6, q8, by rw [List.length_append, List.length_singleton]; omega⟩
    · have e : i = ds.length := by omega
      refine thn (T.done (cxG X sc ns xs cl fn C s H fp (noteG X sc cl RR Ad C)) rfl rfl rfl hc i [] s3 _ H3 _ I3 (statC fr3) st3 (ys (by omega))) fun rr s4 ⟨hr, I4⟩ => ?_
      subst hr
      subst e
      have Io : Inv X pins σ H3 s4 := I.call' I4.os I4.base I4.hok I4.bare hch
      obtain ⟨m, hm, _⟩ := I4.loc
      exact hRR s4 H3 m out bs Io sm3 hm I4.free (fun z => absurd I.lt (by rw [← z]; exact Nat.not_lt.mpr hCle)) (Nat.le_trans I.sz hCle) (fun y c e z => by
        obtain ⟨v, q⟩ := I.cell y c e
        exact absurd q.lt (by rw [z]; exact Nat.not_lt.mpr hCle)) (fun p hp z => absurd (Heap.lt_size (I.pin p hp).1) (by rw [z]; exact Nat.not_lt.mpr hCle))
        ⟨hDf, hKD, _, hD3, hbs, hls, hds3.map (fun _ _ z => z.fewer fun t a z => (by
          rcases z with z | z
          · rcases (bad' t a).mpr (.inl z) with q | ⟨k, q⟩ | q
            · exact .inl (by rw [hW2.1]; exact .inl q)
            · cases q
            · exact .inr (.inr ⟨q.1, by rw [hW2.2]; exact q.2⟩)
          · rcases z with z | z
            · exact .inl (by rw [hW2.1]; exact .inl (z ▸ BD0))
            · exact .inl (by rw [hW2.1]; exact .inr z))) fun _ _ q => ⟨q, fun _ z => z⟩⟩ p3
  exact c_compStart (loop _ rfl) (T.self _ 0 _ _ _ (T.keep 0 s.heap h₁ st (fun b hb o e => old b o e)) (loop _ rfl))
theorem comp_blockMC {elt iter tg : Expr} {ifs : List Expr} {pos : Pos} {g : DG} {te : DM} {tc : DT} {W : Own} {ρ : Ro} {J : It} {it : Addr} {tn : Nat → Heap → Prop} {ds : List D} {E : Value → Shared → Prop} {RR : Value → Addr → Result → Shared → Prop} (hc : X.calm = true) (S : CSc X.env.scope sc xs ns)
    (hj : js.length = ns.length ∧ ∀ (i : Nat) (j : Nat) (n : Str), js[i]? = some j → ns[i]? = some n → X.N[j]? = some n)
    {Ed : Value → Prop} (he : ∀ (C : Addr) (s₂ : Shared) (H₂ : Hp) (fp : List Addr) (XE : Value → Shared → Prop), PassX (cxComp X sc ns xs C s₂ H₂ fp XE) Ed → PEMC (cxComp X sc ns xs C s₂ H₂ fp XE) elt te) (ht : ∀ (C : Addr) (s₂ : Shared) (H₂ : Hp) (fp : List Addr) (XE : Value → Shared → Prop), PassX (cxComp X sc ns xs C s₂ H₂ fp XE) Ed → TsD (cxComp X sc ns xs C s₂ H₂ fp XE) ifs tc)
    (hx : ∀ D C : Addr, PassX (cxComp X sc ns xs C s H fp (noteX X sc ns RR D C)) Ed) (I : Inv X pins σ H s) (r : Rel X W H σ ρ) (hg : ∀ (C : Addr) (s₂ : Shared) (H₂ : Hp) (fp : List Addr) (XE : Value → Shared → Prop), PGD (cxComp X sc ns xs C s₂ H₂ fp XE) tg g) (T : Turn X.prog X.w X.K tg J fp it tn) (st : tn 0 s.heap) (hfp : ∀ b ∈ fp, FpOk X pins H b) (yd : YD X.K W H J ds) (hz : ds.length ≤ sizeLine)
    (Pv : Nat → List LI → Prop) (p0 : Pv 0 []) (step : ∀ j d out ρ1, ds[j]? = some d → Pv j out → CapR xs.length (js.map (getV ρ)) ρ1 → g d ρ1 fun ρ2 => CapR xs.length (js.map (getV ρ)) ρ2 ∧ tc ρ2 fun b => if b = true then te ρ2 (fun e => Pv (j + 1) (out ++ [e])) else Pv (j + 1) out)
    (hRR : ∀ (D C : Addr) (s' : Shared) (H' : Hp) (m' : Str → Option Value) (out : List LI) (bs : Nat → Option Addr), Inv X pins σ H' s' → Same H H' → s'.heap.Ns C m' → H' C = none → C ≠ X.env.locals → X.s₀.heap.objs.size ≤ C → (∀ y c, X.env.cells.lookup y = some c → c ≠ C) → (∀ p ∈ X.pn ++ pins, p.1 ≠ C) →
      (H D = none ∧ X.K.lookup D = none ∧ ∃ vs, H' D = some (.lst vs) ∧ BsOk X.K H D out.length bs ∧ (∀ k b, bs k = some b → ∃ us, H' b = some (.lst us)) ∧ LDens X.K (fun t b => W.bad t b ∨ b = D ∨ ∃ k, bs k = some b) H' bs 0 out vs) → Pv ds.length out → RR (.ref D) C (.ok .next) s') :
    wpAny (model X.prog X.w) X.A (newList []) (fun acc s₃ => wpAny (model X.prog X.w) X.A (newFunctionEnv sc X.env.globals (clOf X.env ns) [] X.env.qual none .none (some X.env)) (fun cenv s₄ =>
      codeC (model X.prog X.w) X.A (.compStart (.ListComp elt [⟨tg, iter, ifs, 0⟩] sc pos) 0 (.ref it) acc { cenv with scope := relabel sc X.env }) (RR acc cenv.locals) s₄) E s₃) E s := by
  refine wpAny_newObj_type (wpAny_newFunctionEnv S.nocell (by intro y hy; simp at hy) (fun h₁ hns₁ hsb₁ => ?_) S.kind)
  dsimp only at hns₁ hsb₁ ⊢
  generalize hH2 : s.heap.push { cls := .type "list", dict := none, data := .seq ([] : List Value).toArray } = HP at hns₁ hsb₁ ⊢
  have hC : HP.objs.size = s.heap.objs.size + 1 := by rw [← hH2, Heap.size_push]
  have hDC : s.heap.objs.size ≠ HP.objs.size := by rw [hC]; exact Nat.ne_of_lt (Nat.lt_succ_self _)
  have hCle : s.heap.objs.size ≤ HP.objs.size := by rw [hC]; exact Nat.le_succ _
  have below : ∀ b, b < s.heap.objs.size → b ≠ HP.objs.size := fun b hb => by rw [hC]; exact Nat.ne_of_lt (Nat.lt_succ_of_lt hb)
  have old : ∀ b o, s.heap.get? b = some o → h₁.get? b = some o := fun b o e => hsb₁.extBut b o (below b (Heap.lt_size e)) (Heap.get?_push_of_some _ (hH2 ▸ Heap.get?_push_of_some _ e))
  have hacc : h₁.get? s.heap.objs.size = some { cls := .type "list", data := .seq ([] : List Value).toArray } := hsb₁.extBut _ _ hDC (Heap.get?_push_of_some _ (hH2 ▸ Heap.get?_push_size _ rfl))
  generalize eD : s.heap.objs.size = D at hDC hacc
  generalize eC : HP.objs.size = C at *
  have hDf : H D = none := by rw [← eD]; exact I.hok.fresh (Nat.le_refl _)
  have hKD : X.K.lookup D = none := by rw [← eD]; exact Inv.kfresh I
  have hCf : H C = none := I.hok.fresh hCle
  have hfo : ∀ b ∈ fp, ∃ o, s.heap.get? b = some o := fun b hb => let ⟨o, e, _⟩ := T.obj 0 s.heap st b hb; ⟨o, e⟩
  have leD : s.heap.objs.size ≤ D := Nat.le_of_eq eD
  have okk : HOk X.prog X.w (L2.upd H D (.lst [])) h₁ := I.hok.laid old leD ⟨Nat.zero_le _, [], 0, .nil, hacc⟩
  have upCD : ∀ o, L2.upd H D o C = none := fun o => by rw [upd_ne (Ne.symm hDC)]; exact hCf
  have I1 : Inv (cxComp X sc ns xs C s H fp (noteX X sc ns RR D C)) [] (List.replicate xs.length none ++ js.map (getS σ)) (L2.upd H D (.lst [])) { s with heap := h₁, toks := s.toks + ([] : List (Str × Value)).length } :=
    Inv.comp I S hj hfp hfo hCle rfl I.bare old hns₁ (upCD _) (Same.upd hDf) (fun b o e n => by rw [upd_ne (fun z => absurd (Heap.lt_size e) (by rw [z]; exact Nat.not_lt.mpr leD))]; exact n) okk
  exact comp_coreC (cl := clOf X.env ns) (fn := fun _ => false) hc (he C s H fp _ (hx D C)) (ht C s H fp _ (hx D C)) (hg C s H fp _) I r T st hfp yd hz Pv p0 step (hRR D C) hDf hKD leD hCle old (fun y c e => .inl (clOf_sub e)) I1
theorem comp_blockC {elt iter tg : Expr} {ifs : List Expr} {pos : Pos} {g : DG} {te : DE} {tc : DT} {W : Own} {ρ : Ro} {J : It} {it : Addr} {tn : Nat → Heap → Prop} {ds : List D} {E : Value → Shared → Prop} {RR : Value → Addr → Result → Shared → Prop} (hc : X.calm = true) (S : CSc X.env.scope sc xs ns)
    (hj : js.length = ns.length ∧ ∀ (i : Nat) (j : Nat) (n : Str), js[i]? = some j → ns[i]? = some n → X.N[j]? = some n)
    {Ed : Value → Prop} (he : ∀ (C : Addr) (s₂ : Shared) (H₂ : Hp) (fp : List Addr) (XE : Value → Shared → Prop), PassX (cxComp X sc ns xs C s₂ H₂ fp XE) Ed → PEC (cxComp X sc ns xs C s₂ H₂ fp XE) elt te) (ht : ∀ (C : Addr) (s₂ : Shared) (H₂ : Hp) (fp : List Addr) (XE : Value → Shared → Prop), PassX (cxComp X sc ns xs C s₂ H₂ fp XE) Ed → TsD (cxComp X sc ns xs C s₂ H₂ fp XE) ifs tc)
    (hx : ∀ D C : Addr, PassX (cxComp X sc ns xs C s H fp (noteX X sc ns RR D C)) Ed) (I : Inv X pins σ H s) (r : Rel X W H σ ρ) (hg : ∀ (C : Addr) (s₂ : Shared) (H₂ : Hp) (fp : List Addr) (XE : Value → Shared → Prop), PGD (cxComp X sc ns xs C s₂ H₂ fp XE) tg g) (T : Turn X.prog X.w X.K tg J fp it tn) (st : tn 0 s.heap) (hfp : ∀ b ∈ fp, FpOk X pins H b) (yd : YD X.K W H J ds) (hz : ds.length ≤ sizeLine)
    (Pv : Nat → List D → Prop) (p0 : Pv 0 []) (step : ∀ j d out ρ1, ds[j]? = some d → Pv j out → CapR xs.length (js.map (getV ρ)) ρ1 → g d ρ1 fun ρ2 => CapR xs.length (js.map (getV ρ)) ρ2 ∧ tc ρ2 fun b => if b = true then te ρ2 (fun e => Pv (j + 1) (out ++ [e])) else Pv (j + 1) out)
    (hRR : ∀ (D C : Addr) (s' : Shared) (H' : Hp) (m' : Str → Option Value) (out : List PD.D), Inv X pins σ H' s' → Same H H' → s'.heap.Ns C m' → H' C = none → C ≠ X.env.locals → X.s₀.heap.objs.size ≤ C → (∀ y c, X.env.cells.lookup y = some c → c ≠ C) → (∀ p ∈ X.pn ++ pins, p.1 ≠ C) →
      (H D = none ∧ X.K.lookup D = none ∧ ∃ vs, H' D = some (.lst vs) ∧ Dens X.K (fun t b => W.bad t b ∨ b = D) H' out vs) → Pv ds.length out → RR (.ref D) C (.ok .next) s') :
    wpAny (model X.prog X.w) X.A (newList []) (fun acc s₃ => wpAny (model X.prog X.w) X.A (newFunctionEnv sc X.env.globals (clOf X.env ns) [] X.env.qual none .none (some X.env)) (fun cenv s₄ =>
      codeC (model X.prog X.w) X.A (.compStart (.ListComp elt [⟨tg, iter, ifs, 0⟩] sc pos) 0 (.ref it) acc { cenv with scope := relabel sc X.env }) (RR acc cenv.locals) s₄) E s₃) E s := by
  have e : ∀ k l, (∃ q, l.map LI.val = q.map LI.val ∧ Pv k q) = Pv k l := fun k l => propext ⟨fun ⟨q, a, b⟩ => (List.map_inj_right (fun _ _ => LI.val.inj)).mp a ▸ b, fun b => ⟨l, rfl, b⟩⟩
  refine comp_blockMC (te := fun ρ Q => te ρ fun d => Q (.val d)) hc S hj (fun C s₂ H₂ fp XE p => em_valC (he C s₂ H₂ fp XE p)) ht hx I r hg T st hfp yd hz (fun k o => ∃ q, o = q.map LI.val ∧ Pv k q) ⟨[], rfl, p0⟩ ?_ ?_
  · rintro j d _ ρ1 hd ⟨q, rfl, hp⟩ cr
    have e2 : ∀ x, q.map LI.val ++ [LI.val x] = (q ++ [x]).map LI.val := fun x => by rw [List.map_append]; rfl
    simp only [e2, e]
    exact step j d q ρ1 hd hp cr
  · rintro D C s' H' m' _ bs I' sm a1 a2 a3 a4 a5 a6 ⟨h1, h2, vs, h3, _, _, h4⟩ ⟨q, rfl, hp⟩
    exact hRR D C s' H' m' q I' sm a1 a2 a3 a4 a5 a6 ⟨h1, h2, vs, h3, h4.vals.fewer fun t b z => z.elim .inl fun z => .inr (.inl z)⟩ hp
end
end PD
set_option linter.all false
set_option maxRecDepth 100000
namespace PD
open PySem PySem.Spec PyProof.Rows L2 PX WC
section
variable {M : Model} {A : Around} {E : Value → Shared → Prop} {s : Shared} {env : Env}
theorem c_standIf {α : Type} {c : Prop} [Decidable c] {pos : Pos} {k : PUnit → Sem α} {Q : α → Shared → Prop} (h : wpC M A (k ()) Q E s) : wpC M A (if c then (standAt pos >>= k) else k ()) Q E s := by
  split
  · exact wpC.stand h
  · exact h
theorem c_comp {e : Expr} {scope : Scope} {pos : Pos} {newAcc first : Sem Value} {g : Comprehension} {gs : List Comprehension} {cl : List (Str × Addr)} {use : Option (Value → Sem Unit)} {Q : Value → Shared → Prop} (hcl : clausesOf e = g :: gs) (hs : ∀ x, foldedSetIterable g.iter env x = pure x) (hclos : closureFor scope env = pure cl)
    (hk : scope.kind = .function) (hn : ∀ x ∈ scope.names, x.2 = .local → scope.names.lookup x.1 = some .local)
    (h : wpAny M A first (fun x z₁ => wpAny M A (pyIter x) (fun it z₂ => wpAny M A newAcc (fun acc z₃ => wpAny M A (newFunctionEnv scope env.globals cl [] env.qual none .none (some env)) (fun ce z₄ => codeC M A (.compStart e 0 it acc { ce with scope := relabel scope env }) (compPost M A E use Q acc ce.locals) z₄) E z₃) E z₂) E z₁) E s) :
    wpC M A (comprehension e scope env pos newAcc false first use) Q E s := by
  unfold comprehension
  rw [hclos, hcl]
  refine wpC.bindA (wpAny_mono h (fun x z₁ h₁ => ?_) fun _ _ z => z)
  refine wpC.stand (wpC.bindA (wpAny_of_eq (hs x) ?_))
  refine wpC.bindA (wpAny_holding (wpAny_mono h₁ (fun it z₂ h₂ => ?_) fun _ _ z => z))
  refine c_standIf (wpC.bindA (wpAny_mono h₂ (fun acc z₃ h₃ => ?_) fun _ _ z => z))
  refine wpC.bind (wpC.pure (wpC.bindA (wpAny_mono h₃ (fun ce z₄ h₄ => ?_) fun _ _ z => z)))
  dsimp only
  have kv : ∀ y, y ∈ scope.names → y.2 = .local → Env.kindOf { ce with scope := relabel scope env } y.1 = some .local := fun y hy hl => lookup_relabel_local (hn y hy hl)
  have v1 : ∀ y ∈ (scope.names.filter fun y => (y.2 == .local || y.2 == .cell) && y.1 != (".0" : Str)).reverse, y.2 = .local → Env.kindOf { ce with scope := relabel scope env } y.1 = some .local := fun y hy hl => kv y (List.mem_filter.mp (List.mem_reverse.mp hy)).1 hl
  have v2 : ∀ y ∈ (scope.names.filter fun y => (y.2 == .local || y.2 == .cell) && y.1 != (".0" : Str)).reverse.drop 1 ++ (scope.names.filter fun y => (y.2 == .local || y.2 == .cell) && y.1 != (".0" : Str)).reverse.take 1, y.2 = .local → Env.kindOf { ce with scope := relabel scope env } y.1 = some .local := fun y hy hl =>
    (List.mem_append.mp hy).elim (fun q => v1 y (List.mem_of_mem_drop q) hl) fun q => v1 y (List.mem_of_mem_take q) hl
  refine wpC.holding (wpC.bind (wpC.attempt (wpC.holding (wpC.run (h₄.mono fun r z₅ hr => ?_)))))
  cases r with
  | ok f =>
    cases use with
    | none =>
      obtain ⟨m, hm, hr⟩ := hr
      exact wpC.of (wpAny_bind (wpAny_holding (wpAny_comp_letGo (cenv := { ce with scope := relabel scope env }) hk _ z₅ m v1 hm fun h' m' _ hq => wpAny_pure (hr h' hq))))
    | some u =>
      refine wpC.of (wpAny_bind (wpAny_rule (wpAny_bind (wpAny_holding (wpAny_mono hr (fun _ z₆ hq => ?_) fun _ _ z => z)))))
      obtain ⟨m, hm, hq⟩ := hq
      exact wpAny_bind (wpAny_comp_letGo (cenv := { ce with scope := relabel scope env }) hk _ z₆ m v2 hm fun h' m' _ hz => wpAny_pure (hq h' hz))
  | error x =>
    have hq : ∃ m, z₅.heap.Ns ce.locals m ∧ ∀ h', Heap.SameBut ce.locals z₅.heap h' → ∀ c' : Env, c'.locals = ce.locals → wpAny M A (passOn "comprehension.variables-let-go" x c' : Sem Value) (fun _ _ => False) E { z₅ with heap := h' } := by cases use <;> exact hr
    obtain ⟨m, hm, hq⟩ := hq
    exact wpC.of (wpAny_bind (wpAny_holding (wpAny_comp_letGo (cenv := { ce with scope := relabel scope env }) hk _ z₅ m v1 hm fun h' m' _ hz => wpAny_mono (hq h' hz _ rfl) (fun _ _ z => z.elim) fun _ _ z => z)))
end
section
variable {X : Cx} {pins : List (Addr × Obj)} {σ : St} {H : Hp} {s : Shared} {sc : Scope} {ns : List Str} {js : List Nat} {elt iter : Expr} {ifs : List Expr} {px pos : Pos} {te : DE} {tc : DT} {wi : DA} {x : Str}
theorem cs_setComp {Ed : Value → Prop} {y : Str} {py spos : Pos} (i : Nat) (hN : X.N.Nodup) (hX : HeldX X Ed) (hc : X.calm = true) (S : CSc X.env.scope sc [x] ns) (hj : Caps X.N ns js) (hi : PID X (.Name x px) iter wi) (ht : ∀ (C : Addr) (s₂ : Shared) (H₂ : Hp) (fp : List Addr) (XE : Value → Shared → Prop), PassX (cxComp X sc ns [x] C s₂ H₂ fp XE) Ed → TsD (cxComp X sc ns [x] C s₂ H₂ fp XE) ifs tc)
    (he : ∀ (C : Addr) (s₂ : Shared) (H₂ : Hp) (fp : List Addr) (XE : Value → Shared → Prop), PassX (cxComp X sc ns [x] C s₂ H₂ fp XE) Ed → PEC (cxComp X sc ns [x] C s₂ H₂ fp XE) elt te) (hst : X.stack = X.env :: X.outer := by rfl) (hef : X.env.frame = some X.env.locals := by rfl) (hy : X.N[i]? = some y := by rfl) (hly : X.env.scope.names.lookup y = some .local := by rfl) (hclos : closureFor sc X.env = pure (clOf X.env ns) := by rfl) (hs : ∀ x, foldedSetIterable iter X.env x = pure x := by intro _; rfl)
    (hsw : swapsWith (.ListComp elt [⟨.Name x px, iter, ifs, 0⟩] sc pos) (some (.Name y py)) spos.line X.env = pure true := by rfl) :
    PSC X (.Assign [.Name y py] (.ListComp elt [⟨.Name x px, iter, ifs, 0⟩] sc pos) spos) (dSet i (dComp wi js tc te)) := by
  intro pins s σ H W ρ E I r h
  rw [exec_Assign_Name_used _ _ _ _ hsw]
  refine wpC.stand (wpC.bind ?_)
  show wpC _ X.A (do let _ ← comprehension (.ListComp elt [⟨.Name x px, iter, ifs, 0⟩] sc pos) sc X.env _ (newList []) false (eval iter X.env) (some (assign (.Name y py) X.env))) _ _ s
  refine wpC.bind ((c_comp (use := some (assign (.Name y py) X.env)) (Q := fun _ s' => SPD X pins W H E .next s') rfl hs hclos S.kind S.names
    (thn (hi pins s σ H W ρ _ I r h) fun v s1 h1 => thn h1 fun itv s2 h2 => ?_)).thn fun _ s' hq => wpC.pure (wpC.pure hq))
  obtain ⟨it, fp, tn, J, H2, ds, e, I2, e2, T, st2, f2, yd, hz, Pv, p0, step, fin⟩ := h2
  subst e
  refine comp_blockC (RR := fun acc C => compPost (model X.prog X.w) X.A X.xe (some (assign (.Name y py) X.env)) (fun _ s' => SPD X pins W H E .next s') acc C) hc S hj he ht (comp_pass hX hst hef I2 (r.same e2) f2) I2 (r.same e2) (fun C s₂ H₂ fp XE => gd_nameC S) T st2 f2 yd hz Pv p0 (step1 step) ?_
  intro D C s' H' m' out I' sm hns hCn hC1 hC2 hC3 hC4 ⟨hn, hk, vs, hD, hds⟩ pv
  have hden : Den X.K W.bad H' (.lst true out) (.ref D) := Den.lst ((r.same e2).fresh hn) (.new hD hk) (hds.fewer fun _ _ z => .inl z)
  have rr := (r.same e2).same sm
  show wpAny _ X.A (assign (.Name y py) X.env (.ref D)) _ _ _
  refine wpAny_assign_Name (store_ok2 (v := .ref D) I' hN hy (.inl hly) rfl (fun s3 I3 ⟨a, hsb, ha⟩ => ?_) (.inr hly))
  have hne : C ≠ a := by
    rcases ha with z | z
    · rw [z]; exact hC1
    · exact fun q => hC3 y a z q.symm
  refine ⟨m', hns.sameBut hsb hne, fun h' hsb' => ?_⟩
  refine ⟨W.drop i, _, H', I3.turned (t' := s3.toks) (fun b o hb e => (hsb'.2 b hb).trans e) hCn hC1 (.inr hC2) hC3 hC4, (Fwd.same (e2.trans sm)).trans (Fwd.drop W H' i), _, rr.put (Inv.ilt I' hy) hden, fin out pv⟩
end
end PD
set_option linter.all false
set_option maxRecDepth 100000
namespace PD
open PySem PySem.Spec PyProof.Rows L2 PX WC TX
section
variable {X : Cx} {pos : Pos} {o e : Expr} {to : DE} {t : DA}
theorem dens_str {K : PySem.W.Frag} {P : Bool → Addr → Prop} {H : Hp} : ∀ l : List Str, Dens K P H (l.map D.str) (l.map V.str)
  | [] => Dens.nil
  | x :: l => Dens.cons (Den.str x) (dens_str l)
theorem dens_strs {K : PySem.W.Frag} {P : Bool → Addr → Prop} {H : Hp} : ∀ {l : List Str} {vs : List V}, Dens K P H (l.map D.str) vs → vs = l.map V.str
  | [], _, h => by rw [List.map_nil] at h; exact List.eq_nil_of_length_eq_zero (by rw [h.len]; rfl)
  | x :: l, [], h => by have := h.len; simp at this
  | x :: l, v :: vs, h => by
    have h' : Den K P H (.str x) v ∧ Dens K P H (l.map D.str) vs := by
      rw [List.map_cons] at h
      simp only [Dens] at h
      obtain ⟨a, b, e, h1, h2⟩ := h
      cases e
      exact ⟨h1, h2⟩
    rw [List.map_cons, dens_strs h'.2, h'.1.str_]
theorem vals_str : ∀ l : List (Str × Tok), Vals ((l.map (·.1)).map V.str) (strValues l)
  | [] => .nil
  | p :: l => .cons ⟨p.2, rfl⟩ (vals_str l)
theorem strs_vals : ∀ {l : List Str} {us : List Value}, Vals (l.map V.str) us → StrsAre us l
  | [], _, h => by cases h; exact .nil
  | x :: l, _, h => by
    cases h with
    | cons r rs =>
      obtain ⟨t, rfl⟩ := r
      exact .cons _ _ (strs_vals rs)
theorem mt_split : MtS X "str.split" (fun x ds Q => ∃ y, ds = [.str y] ∧ (y.length == 0) = false ∧ x.length ≤ sizeLine ∧ (Builtin.Str.partsBetween x (Builtin.Str.occurrences x y 0 x.length (x.length + 1)) y.length).length ≤ sizeLine ∧ Q (.lst true ((Txt.split x y).map D.str))) := by
  intro pins s σ H W x t ds vs us Q I tr r hd ⟨y, e, hy, hz, hn, q⟩
  subst e
  obtain ⟨v, rfl, h1⟩ := dens1 hd
  cases r with
  | cons r1 r2 =>
    cases r2
    obtain ⟨t', rfl⟩ := dstr h1 r1
    have hf : H s.heap.objs.size = none := I.hok.fresh (Nat.le_refl _)
    have fin : ∀ (l : List (Str × Tok)) (k : Nat), l.map (·.1) = Txt.split x y → l.length ≤ sizeLine → DP X pins σ W H Q (.ref s.heap.objs.size) { s with heap := s.heap.push { cls := .type "list", data := .seq (strValues l).toArray }, toks := k } := fun l k el hl => by
      rw [← el] at q
      refine ⟨.ref s.heap.objs.size, L2.upd H s.heap.objs.size (.lst ((l.map (·.1)).map V.str)), _, I.laid (t' := k) (fun b u e => Heap.get?_push_of_some _ e) (Nat.le_refl _) ⟨by rw [List.length_map, List.length_map]; exact hl, _, 0, vals_str l, Heap.get?_push_size _ rfl⟩, rfl, Same.upd hf, Den.lst (fun z => ?_) (.new upd_same (Inv.kfresh I)) (dens_str _), q⟩
      obtain ⟨o, z⟩ := tr _ _ z
      rw [hf] at z
      cases z
    cases c1 : (decide (x.length < y.length) || decide (Builtin.Str.strKind x < Builtin.Str.strKind y))
    · cases c2 : (Builtin.Str.occurrences x y 0 x.length (x.length + 1)).isEmpty
      · refine call_meets PySem.F.slot_str_split (typeIs_str _ _ _) PySem.F.entry_str_split (PySem.F.args_str_split_2 _ _) (meets_str_split_sep x y t t' c1 hy c2 hz hn) ?_
        show wants _ _ _ { s with toks := _, heap := s.heap.push { cls := .type "list", data := .seq (strsFrom s.toks (Builtin.Str.partsBetween x (Builtin.Str.occurrences x y 0 x.length (x.length + 1)) y.length)).toArray } }
        rw [strsFrom_eq]
        have et := numbered_texts s.toks (Builtin.Str.partsBetween x (Builtin.Str.occurrences x y 0 x.length (x.length + 1)) y.length)
        refine fin _ _ (et.trans ?_) ?_
        · unfold Txt.split
          rw [c1, c2]
          rfl
        · have := congrArg List.length et
          rw [List.length_map] at this
          rw [this]
          exact hn
      · refine call_meets PySem.F.slot_str_split (typeIs_str _ _ _) PySem.F.entry_str_split (PySem.F.args_str_split_2 _ _) (meets_str_split_not_found x y t t' c1 hy c2) (fin [(x, t)] s.toks ?_ ?_)
        · unfold Txt.split
          rw [c1, c2]
          rfl
        · show 1 ≤ sizeLine; decide
    · refine call_meets PySem.F.slot_str_split (typeIs_str _ _ _) PySem.F.entry_str_split (PySem.F.args_str_split_2 _ _) (meets_str_split_cannot_occur x y t t' c1) (fin [(x, t)] s.toks ?_ ?_)
      · unfold Txt.split
        rw [c1]
        rfl
      · show 1 ≤ sizeLine; decide
theorem mt_join : MtS X "str.join" (fun x ds Q => ∃ (b : Bool) (ys : List Str), ds = [.lst b (ys.map D.str)] ∧ x.length ≤ 16 ∧ (ys.map (·.length)).sum + ys.length ≤ 1048576 ∧ Q (.str (Txt.join x ys))) := by
  intro pins s σ H W x t ds vs us Q I tr r hd ⟨b, ys, e, hx, hw, q⟩
  subst e
  obtain ⟨v, rfl, h1⟩ := dens1 hd
  obtain ⟨a, ws, ev, _, hq, hs⟩ := h1.lst_
  subst ev
  cases r with
  | cons r1 r2 =>
    cases r2
    cases r1
    obtain ⟨its, rv, pl, _⟩ := I.list hq
    rw [dens_strs hs] at rv
    exact join_listW pl.isList (by simpa using strs_vals rv) hx hw fun t' k => ⟨.str _, H, _, I.tok k, ⟨_, rfl⟩, Same.refl H, Den.str _, q⟩
theorem mt_index : MtS X "str.index" (fun x ds Q => ∃ y, ds = [.str y] ∧ ∃ i r, Builtin.Str.occurrences x y 0 x.length 1 = i :: r ∧ Q (.int (i : Nat))) := by
  intro pins s σ H W x t ds vs us Q I tr r hd ⟨y, e, i, rs, ho, q⟩
  subst e
  obtain ⟨v, rfl, h1⟩ := dens1 hd
  cases r with
  | cons r1 r2 =>
    cases r2
    obtain ⟨t', rfl⟩ := dstr h1 r1
    exact call_gives PySem.F.slot_str_index (typeIs_str _ _ _) PySem.F.entry_str_index (PySem.F.args_str_index_2 _ _) (gives_str_index x y t t' i rs ho) ⟨.int _, H, _, I.tok _, ⟨_, rfl⟩, Same.refl H, Den.int _, q⟩
end
end PD
set_option linter.all false
set_option maxRecDepth 100000
namespace PD
open PySem PySem.Spec PyProof.Rows L2 PX WC TX
section
variable {M : Model} {A : Around} {E : Value → Shared → Prop} {s : Shared} {env : Env}
theorem c_ifExp {c a b : Expr} {pos : Pos} {Q : Value → Shared → Prop} (h : wpC M A (isTrue c env (eval c env)) (fun k z => if k then wpC M A (eval a env) Q E z else wpC M A (eval b env) Q E z) E s) : wpC M A (eval (.IfExp c a b pos) env) Q E s := by
  rw [arm_eval_IfExp]
  refine wpC.bind (h.thn fun k z q => ?_)
  cases k <;> exact q
theorem c_and {a b : Expr} {rest : List Expr} {pos : Pos} {Q : Value → Shared → Prop} (h : wpC M A (eval a env) (fun v z => wpAny M A (truthy v) (fun c y => if c then wpC M A (eval (.BoolOp .And (b :: rest) pos) env) Q E y else Q v y) E z) E s) :
    wpC M A (eval (.BoolOp .And (a :: b :: rest) pos) env) Q E s := by
  show wpC M A (eval a env >>= fun v => standAt pos >>= fun _ => holding [v] (truthy v) >>= fun c => match BoolOp.And, c with
    | .And, false | .Or, true => pure v
    | _, _ => boolOp pos .And (eval b env :: evalEach rest env)) Q E s
  refine wpC.bind (h.thn fun v z q => wpC.stand (wpC.bindA (wpAny_holding (wpAny_mono q (fun c y r => ?_) fun _ _ w => w))))
  cases c with
  | true => exact r
  | false => exact wpC.pure r
end
section
variable {X : Cx} {c a b o e : Expr} {es rest : List Expr} {pos apos cpos : Pos} {tA : DT} {ta tb to : DE} {t : DA}
theorem ce_ifExp (hc : PTC X c tA) (ha : PEC X a ta) (hb : PEC X b tb) : PEC X (.IfExp c a b pos) (dIf tA ta tb) := by
  intro pins s σ H W ρ Q I rr h
  refine c_ifExp ((hc pins s σ H W ρ _ I rr h).thn fun d s1 ⟨H1, I1, e1, q1⟩ => ?_)
  cases d with
  | true => exact (ha pins s1 σ H1 W ρ Q I1 (rr.same e1) q1).thn fun _ _ z => z.up e1
  | false => exact (hb pins s1 σ H1 W ρ Q I1 (rr.same e1) q1).thn fun _ _ z => z.up e1
theorem ce_one {op} (h : PEC X a ta) : PEC X (.BoolOp op [a] pos) ta := fun pins s σ H W ρ Q I rr hw => h pins s σ H W ρ Q I rr hw
theorem ce_and (ha : PEC X a ta) (hb : PEC X (.BoolOp .And (b :: rest) pos) tb) : PEC X (.BoolOp .And (a :: b :: rest) pos) (dAndV ta tb) := by
  intro pins s σ H W ρ Q I rr h
  refine c_and ((ha pins s σ H W ρ _ I rr h).thn fun vv s1 ⟨v, H1, x, I1, rv, e1, hx, q1⟩ => ?_)
  obtain ⟨k, ek, q1⟩ := blQ_ex q1
  subst ek
  have hz := hx.bl_
  subst hz
  cases rv
  refine wpAny_truthy_bool ?_
  cases k with
  | true => exact (hb pins s1 σ H1 W ρ Q I1 (rr.same e1) q1).thn fun _ _ z => z.up e1
  | false => exact ⟨.bl false, H1, _, I1, rfl, e1, Den.bl _, q1⟩
theorem ce_tup {x1} (h : PAC X es t) : PEC X (.Tuple es x1 pos) (dTup t) := by
  intro pins s σ H W ρ Q I rr hq
  refine c_tuple ((h pos pins s σ H W ρ _ I rr hq).thn fun us s1 ⟨vs, H1, ds, I1, r, e1, hd, z, q⟩ => ?_)
  rw [← hd.len] at z
  refine wpAny_newTuple ?_ (by rw [← r.length]; exact z)
  have hf : H1 s1.heap.objs.size = none := I1.hok.fresh (Nat.le_refl _)
  exact ⟨.ref s1.heap.objs.size, L2.upd H1 s1.heap.objs.size (.tup vs), _, I1.laid (t' := s1.toks) (fun b u e => Heap.get?_push_of_some _ e) (Nat.le_refl _) ⟨z, us, r, ⟨_, Heap.get?_push_size _ rfl, rfl, _, rfl⟩⟩, rfl, e1.trans (Same.upd hf), Den.tup (SqT.of upd_same) (hd.same (Same.upd hf)), q⟩
theorem de_globS {x : Str} {i : Str} (hm : ∃ t, X.mg x = some (.str i t)) (hg : Gl X x := by rfl) (hd : (x == ("__debug__" : Str)) = false := by decide) : PED X (.Name x pos) (dC (.str i)) := by
  obtain ⟨t, hm⟩ := hm
  exact PED.of (pe_glob (v := .str i) hg hm ⟨t, rfl⟩ hd) fun _ H _ _ _ _ q => ⟨Same.refl H, _, Den.str i, q⟩
def rSplit (x : Str) (ds : List D) (Q : D → Prop) : Prop := ∃ y, ds = [.str y] ∧ (y.length == 0) = false ∧ x.length ≤ sizeLine ∧ (Builtin.Str.partsBetween x (Builtin.Str.occurrences x y 0 x.length (x.length + 1)) y.length).length ≤ sizeLine ∧ Q (.lst true ((Txt.split x y).map D.str))
def rJoin (x : Str) (ds : List D) (Q : D → Prop) : Prop := ∃ (b : Bool) (ys : List Str), ds = [.lst b (ys.map D.str)] ∧ x.length ≤ 16 ∧ (ys.map (·.length)).sum + ys.length ≤ 1048576 ∧ Q (.str (Txt.join x ys))
def rIndex (x : Str) (ds : List D) (Q : D → Prop) : Prop := ∃ y, ds = [.str y] ∧ ∃ i r, Builtin.Str.occurrences x y 0 x.length 1 = i :: r ∧ Q (.int (i : Nat))
theorem de_split (ho : PED X o to) (ha : PAD X [e] t) (hbase : attributeBase o "split" X.env (eval o X.env) = eval o X.env := by rfl)
    (hfew : ((backTo cpos (starEach [e] X.env)).all (fun x => !x.1) && (backToKw cpos (keywordEach [] X.env)).all (fun x => x.1.isSome) && decide ([e].length + ([] : List Keyword).length + (if ([] : List Keyword).isEmpty then 0 else 1) < 30)) = true := by rfl)
    (hline : (apos.endLine == cpos.line) = true := by rfl) (hs : starEach [e] X.env = (false, eval e X.env) :: starEach [] X.env := by rfl) : PED X (.Call (.Attribute o "split" apos) [e] [] cpos) (dMS rSplit to t) :=
  de_mS PySem.F.plainAttrs_str PySem.F.slot_str_split PySem.F.type_str_split mt_split ho ha hbase hfew hline hs
theorem de_join (ho : PED X o to) (ha : PAD X [e] t) (hbase : attributeBase o "join" X.env (eval o X.env) = eval o X.env := by rfl)
    (hfew : ((backTo cpos (starEach [e] X.env)).all (fun x => !x.1) && (backToKw cpos (keywordEach [] X.env)).all (fun x => x.1.isSome) && decide ([e].length + ([] : List Keyword).length + (if ([] : List Keyword).isEmpty then 0 else 1) < 30)) = true := by rfl)
    (hline : (apos.endLine == cpos.line) = true := by rfl) (hs : starEach [e] X.env = (false, eval e X.env) :: starEach [] X.env := by rfl) : PED X (.Call (.Attribute o "join" apos) [e] [] cpos) (dMS rJoin to t) :=
  de_mS PySem.F.plainAttrs_str PySem.F.slot_str_join PySem.F.type_str_join mt_join ho ha hbase hfew hline hs
theorem de_index (ho : PED X o to) (ha : PAD X [e] t) (hbase : attributeBase o "index" X.env (eval o X.env) = eval o X.env := by rfl)
    (hfew : ((backTo cpos (starEach [e] X.env)).all (fun x => !x.1) && (backToKw cpos (keywordEach [] X.env)).all (fun x => x.1.isSome) && decide ([e].length + ([] : List Keyword).length + (if ([] : List Keyword).isEmpty then 0 else 1) < 30)) = true := by rfl)
    (hline : (apos.endLine == cpos.line) = true := by rfl) (hs : starEach [e] X.env = (false, eval e X.env) :: starEach [] X.env := by rfl) : PED X (.Call (.Attribute o "index" apos) [e] [] cpos) (dMS rIndex to t) :=
  de_mS PySem.F.plainAttrs_str PySem.F.slot_str_index PySem.F.type_str_index mt_index ho ha hbase hfew hline hs
end
end PD
set_option linter.all false
set_option maxRecDepth 100000
namespace PD
open PySem PySem.Spec PyProof.Rows L2 PX WC
section
variable {X : Cx} {rest : List Stmt} {t : DS} {e : Expr} {te : DE} {tt : DT} {pos : Pos}
theorem css_freeze (i : Nat) (h : PSCs X rest t) : PSCs X rest (dFreeze i t) := by
  intro pins s σ H W ρ E I r hq
  obtain ⟨ds, e, hq⟩ := ownQ_ex hq
  exact (h pins s σ H (W.drop i) _ E I (r.freeze e) hq).thn fun _ _ z => z.up (Fwd.drop W H i)
theorem ct_soft (i : Nat) (h : PTC X e tt) : PTC X e (dSoftT i tt) := by
  intro pins s σ H W ρ Q I r hw
  obtain ⟨ds, eo, hw⟩ := ownQ_ex hw
  obtain ⟨a, oa, r', up⟩ := r.soft eo
  exact h pins s σ H _ _ _ I r' hw
end
section
variable {X : Cx} {k : Nat} {f : Addr} {fd : FuncData} {ps : List Str} {sp : DSp} {x : Str} {p pos : Pos} {e : Expr} {es : List Expr} {t : DA}
def PFC (X : Cx) (e : Expr) (t : DA) : Prop :=
  ∀ (pins : List (Addr × Obj)) (s : Shared) (σ : St) (H : Hp) (W : Own) (ρ : Ro) (Q : List D → Prop), Inv X pins σ H s → Rel X W H σ ρ → t ρ Q →
    wpC (model X.prog X.w) X.A (eval e X.env) (FDP X pins σ W H Q) X.xe s
theorem cf_call (h : HasK X.nox.prog X.nox.w X.nox.K X.nox.mg X.nox.base x k ps sp) (hr : Room k X.A) (ha : PAD X (e :: es) t) (hg : Gl X x := by rfl) (hdb : (x == ("__debug__" : Str)) = false := by decide)
    (he : starEach (e :: es) X.env = (false, eval e X.env) :: starEach es X.env := by rfl) (hpl : (backTo pos (starEach es X.env)).any (·.1) = false := by rfl) : PFC X (.Call (.Name x p) (e :: es) [] pos) (dCallF sp t) := by
  obtain ⟨f, fd, F, hm, hk, hb⟩ := h
  intro pins s σ H W ρ Q I rr h
  refine c_callN (ld_glob I hg hm ?_ hdb)
  refine c_withK (h₀ := X.base) I.ok.mod.kin hk (wpC.of (thn (ha pos pins s σ H W ρ _ I rr h) fun us s1 ⟨vs, H1, ds, I1, r, e1, hds, q⟩ => ⟨I1.kIn, ?_⟩)) he hpl
  have rr1 := rr.same e1
  have hsp : spOf X.K sp vs H1 (fun v H' => Same H1 H' ∧ ∃ ys, Den X.K (fun t a => W.bad false a ∨ (t = true ∧ ∃ o, H1 a = some o)) H' (.lst true ys) v ∧ nolDs ys = true ∧ Q ys) (fun _ _ _ => False) :=
    ⟨W.bad false, untags ds, _, fun _ => False, rr1.tab, rr1.tracked false, Dens.untag (fun _ _ => Own.bad_up) ds vs hds, q, fun d v H' e h1 h2 => by
      obtain ⟨ys, rfl, nl, qy⟩ := h2
      exact ⟨e, ys, h1, nl, qy⟩, fun _ _ _ _ z => z.elim⟩
  have hl : us.length = ps.length := by rw [← r.length]; exact F.len _ _ _ _ hsp
  refine wpC.call ((F.run X.A X.stack s1 H1 ⟨us, []⟩ us vs _ _ hr I1.env0 (by have := hb s1 us I1.kIn (by rw [List.append_nil]; exact hl); rwa [List.append_nil] at this) r hsp).mono fun res s' hq => ?_)
  cases res with
  | error er =>
    obtain ⟨_, _, _, _, _, _, _, _, _, _, _, _, _, z⟩ := hq
    exact z.elim
  | ok fl =>
    cases fl with
    | ret u =>
      obtain ⟨v, H2, I2, r2, e2, ys, hd, nl, qy⟩ := I1.after hq
      obtain ⟨a, ws, ev, np, sq, hw⟩ := hd.lstG_
      subst ev
      cases r2
      have hn : H1 a = none := by
        cases z : H1 a with
        | none => rfl
        | some o => exact absurd (.inr ⟨rfl, o, z⟩) np
      exact ⟨a, ws, H2, ys, rfl, I2, e1.trans e2, e1.free hn, (sq.2 rfl).2, (sq.2 rfl).1, Dens.nol ys ws nl hw, qy⟩
    | next => exact False.elim hq
    | brk => exact False.elim hq
    | cont => exact False.elim hq
theorem cs_ownF {x : Str} {pos' : Pos} (i : Nat) (hN : X.N.Nodup) (he : PFC X e t) (hi : X.N[i]? = some x := by rfl) (hx : Loc X.env.scope x := by first | exact Or.inl rfl | exact Or.inr rfl) (hs : swapsWith e (some (.Name x pos')) pos.line X.env = pure false := by rfl)
    (hf : X.fn x = true ∨ X.env.scope.names.lookup x = some .local := by first | exact .inl rfl | exact .inr rfl | assumption) : PSC X (.Assign [.Name x pos'] e pos) (dOwnF i t) := by
  intro pins s σ H W ρ E I r h
  refine c_set ((he pins s σ H W ρ _ I r h).thn fun u s1 ⟨a, vs, H1, ds, e1, I1, sm, n, k, ha, hd, q1⟩ => ?_) hs
  subst e1
  obtain ⟨r', f'⟩ := r.putOwn2 (Inv.ilt I1 hi) sm n k ha hd
  exact store_ok (v := .ref a) I1 hN hi hx rfl (fun s2 I2 => ⟨_, _, H1, I2, f', _, r', q1⟩) hf
end
section
variable {X : Cx} {sc : Scope} {ns : List Str} {js : List Nat} {elt iter : Expr} {ifs : List Expr} {px pos : Pos} {te : DE} {tc : DT} {wi : DA} {x : Str}
def dOwnC (i : Nat) (t : DE) : DS := fun E ρ => t ρ fun d => ∃ ds, d = .lst true ds ∧ E.nx (ρ.set i (some (.own ds)))
theorem ds_setOwnC {y : Str} {py spos : Pos} (i : Nat) (hN : X.N.Nodup) (hc : X.calm = true) (S : CSc X.env.scope sc [x] ns) (hj : Caps X.N ns js) (hi : PID X (.Name x px) iter wi) (ht : ∀ (C : Addr) (s₂ : Shared) (H₂ : Hp) (fp : List Addr) (XE : Value → Shared → Prop), TsD (cxComp X sc ns [x] C s₂ H₂ fp XE) ifs tc)
    (he : ∀ (C : Addr) (s₂ : Shared) (H₂ : Hp) (fp : List Addr) (XE : Value → Shared → Prop), PED (cxComp X sc ns [x] C s₂ H₂ fp XE) elt te) (hy : X.N[i]? = some y := by rfl) (hly : X.env.scope.names.lookup y = some .local := by rfl) (hclos : closureFor sc X.env = pure (clOf X.env ns) := by rfl) (hs : ∀ x, foldedSetIterable iter X.env x = pure x := by intro _; rfl)
    (hsw : swapsWith (.ListComp elt [⟨.Name x px, iter, ifs, 0⟩] sc pos) (some (.Name y py)) spos.line X.env = pure true := by rfl) :
    PSD X (.Assign [.Name y py] (.ListComp elt [⟨.Name x px, iter, ifs, 0⟩] sc pos) spos) (dOwnC i (dComp wi js tc te)) := by
  intro pins s σ H W ρ E I r h
  rw [exec_Assign_Name_used _ _ _ _ hsw]
  refine wpAny_bind (wpAny_standAt (wpAny_bind ?_))
  show wpAny _ X.A (do let _ ← comprehension (.ListComp elt [⟨.Name x px, iter, ifs, 0⟩] sc pos) sc X.env _ (newList []) false (eval iter X.env) (some (assign (.Name y py) X.env))) _ _ s
  refine wpAny_bind (wpAny_mono (wpAny_comprehension_free (use := some (assign (.Name y py) X.env)) (Q := fun _ s' => SPD X pins W H E .next s') rfl hs hclos S.kind S.names
    (thn (hi pins s σ H W ρ _ I r h) fun v s1 h1 => thn h1 fun itv s2 h2 => ?_)) (fun _ s' hq => wpAny_pure (wpAny_pure hq)) fun _ _ e => e)
  obtain ⟨it, fp, tn, J, H2, ds, e, I2, e2, T, st2, f2, yd, hz, Pv, p0, step, fin⟩ := h2
  subst e
  refine comp_block (RR := fun acc C => compPost (model X.prog X.w) X.A X.xe (some (assign (.Name y py) X.env)) (fun _ s' => SPD X pins W H E .next s') acc C) hc S hj (Ed := fun _ => False) (fun C s₂ H₂ fp XE _ => he C s₂ H₂ fp XE) (fun C s₂ H₂ fp XE _ => ht C s₂ H₂ fp XE) (fun _ _ => PassX.no) I2 (r.same e2) (fun C s₂ H₂ fp XE => gd_nameC S) T st2 f2 yd hz Pv p0 (step1 step) ?_
  intro D C s' H' m' out I' sm hns hCn hC1 hC2 hC3 hC4 ⟨hn, hk, vs, hD, hds⟩ pv
  obtain ⟨ds', ed, fin'⟩ := fin out pv
  injection ed with _ ed
  subst ed
  have rr := r.same e2
  obtain ⟨r', f'⟩ := rr.putOwn2 (Inv.ilt I' hy) sm hn hk hD hds
  show wpAny _ X.A (assign (.Name y py) X.env (.ref D)) _ _ _
  refine wpAny_assign_Name (store_ok2 (v := .ref D) I' hN hy (.inl hly) rfl (fun s3 I3 ⟨a, hsb, ha⟩ => ?_) (.inr hly))
  have hne : C ≠ a := by
    rcases ha with z | z
    · rw [z]; exact hC1
    · exact fun q => hC3 y a z q.symm
  refine ⟨m', hns.sameBut hsb hne, fun h' hsb' => ?_⟩
  exact ⟨_, _, H', I3.turned (t' := s3.toks) (fun b o hb e => (hsb'.2 b hb).trans e) hCn hC1 (.inr hC2) hC3 hC4, (Fwd.same e2).trans f', _, r', fin'⟩
end
section
variable {X : Cx} {pos : Pos}
def dTryE (K : PySem.W.Frag) (C : Addr) (i : Nat) (sp : DSp) (t : DA) (su : DS) : DS := fun E ρ => t ρ fun ds => sp (untags ds) (fun _ => E.nx ρ) (exOk K C i su E ρ)
theorem cs_tryE {k : Nat} {C : Addr} {ps : List Str} {sp : DSp} {g x n : Str} {p cp ep np hp : Pos} {e : Expr} {es : List Expr} {t : DA} {b₀ : Stmt} {suite : List Stmt} {su : DS} (i : Nat) (h : HasK X.prog X.w X.K X.mg X.base g k ps sp) (hr : Room k X.A)
    (hN : X.N.Nodup) (hmx : X.mg x = some (.ref C)) (ha : PAD X.nox (e :: es) t) (hsu : ∀ v, PSDs (Cx.markX X v) (b₀ :: suite) su) (hgg : Gl X g := by rfl) (hgx : Gl X x := by rfl) (hi : X.N[i]? = some n := by rfl) (hkn : X.env.scope.names.lookup n = some .local := by rfl)
    (hex : X.ex = [] := by rfl) (hst : X.stack = X.env :: X.outer := by rfl) (hef : X.env.frame = some X.env.locals := by rfl) (hdb : (g == ("__debug__" : Str)) = false := by decide) (hdx : (x == ("__debug__" : Str)) = false := by decide) (he : starEach (e :: es) X.env = (false, eval e X.env) :: starEach es X.env := by rfl) (hpl : (backTo cp (starEach es X.env)).any (·.1) = false := by rfl)
    (hia : interactive X.env = false := by rfl) (hsw : swapsWith (.Call (.Name g p) (e :: es) [] cp) none ep.line X.env = pure false := by rfl) :
    PSC X (.Try [.Expr (.Call (.Name g p) (e :: es) [] cp) ep] [.ExceptHandler (some (.Name x np)) (some n) (b₀ :: suite) hp] [] [] pos) (dTryE X.K C i sp t su) := by
  obtain ⟨f, fd, F, hm, hk, hb⟩ := h
  intro pins s σ H W ρ E I rr h
  refine c_try (c_execs (c_expr (c_callN (ld_glob I hgg hm ?_ hdb)) hia hsw))
  refine c_withK (h₀ := X.base) I.ok.mod.kin hk (wpC.of (wpAny_mono (ha cp pins s σ H W ρ _ (I.wish _) (rr.wish _) h) (fun us s1 ⟨vs, H1, ds, I1, r, e1, hds, q⟩ => ⟨I1.unwish.kIn, ?_⟩) fun _ _ z => False.elim z)) he hpl
  have I1 := I1.unwish
  have rr1 := rr.same e1
  refine (run_cX F hr hb I1 rr1 r hds q fun er s' hx => caught i hN hmx hsu hgx hi hkn hex hst hef hdx I1 rr1 e1 hx).thn fun u s2 ⟨v, H2, d, I2, r2, e2, hd2, q2⟩ => ?_
  exact wpC.of (wpAny_execs_nil (wpAny_execs_nil ⟨W, _, H2, I2, Fwd.same (e1.trans e2), _, rr1.same e2, q2⟩))
end
section
open PySem.W
theorem c_compare1 {M : Model} {A : Around} {E : Value → Shared → Prop} {s : Shared} {env : Env} {l r : Expr} {op : CmpOp} {pos : Pos} {Q : Value → Shared → Prop}
    (h : wpC M A (eval l env) (fun a s₁ => wpAny M A (eval r env) (fun b s₂ => wpAny M A (compareOp op a b) Q E s₂) E s₁) E s) (hm : behindInMarks op r = false) : wpC M A (eval (.Compare l [op] [r] pos) env) Q E s := fun Γ p hΓ c => by
  simp only [eval_Compare1, markedBehindIn_of_false hm, Sem.wp_bind', Sem.wp_holding, Sem.wp_cmd_standAt, Sem.wp_operate]
  exact Sem.wp_mono M Γ _ (fun a p₁ s₁ h₁ => Sem.wp_mono M Γ _ (fun b _ s₂ h₂ => h₂ Γ _ hΓ) (fun _ _ _ z => z) _ _ (h₁ Γ p₁ hΓ)) (fun _ _ _ z => z) _ _ (h Γ p hΓ c)
theorem ce_cmp {X : Cx} {a b : Expr} {ta tb : DE} {pos : Pos} {op : CmpOp} {r : RD2} (ho : OpD X (compareOp op) r) (ha : PEC X a ta) (hb : PED X b tb) (hm : behindInMarks op b = false := by first | exact nobehind _ (by decide) (by decide) | rfl) : PEC X (.Compare a [op] [b] pos) (dOp r ta tb) := by
  intro pins s σ H W ρ Q I rr h
  refine c_compare1 ((ha pins s σ H W ρ _ I rr h).thn fun vv s1 ⟨v, H1, x, I1, rv, e1, hx, q1⟩ => thn (hb pins s1 σ H1 W ρ _ I1 (rr.same e1) q1) fun uu s2 ⟨u, H2, y, I2, ru, e2, hy, q2⟩ => ?_) hm
  exact thn (ho pins s2 σ H2 W x y v u vv uu Q I2 ((rr.same e1).same e2).tracked rv ru (hx.same e2) hy q2) fun _ _ z => z.up (e1.trans e2)
end
end PD
namespace LW
open PySem PySem.Spec PyProof.Rows L2 PD
seal PD.PSDs PD.PSD PD.PED PD.PTD PD.PWD PD.PAD PD.PID PD.PGD PD.PGDs PD.TsD PD.PEF PD.PKD PD.PPD PD.PDO PD.PFL PD.PPK PD.PEK PD.PSCs PD.PSC PD.PEC PD.PTC PD.PWC PD.PAC PD.PJD
local macro_rules | `(tactic| walk_at "sc") => `(tactic| exact ⟨rfl, rfl, rfl, by decide +kernel, rfl, by decide +kernel, by decide +kernel⟩)
def top (i : Nat) : Stmt := PySem.Challenge.pw_halvecut_k81_texts_of_dots.main.body.getD i (.Pass ⟨0, 0, 0, 0⟩)
abbrev s_check_text : Stmt := top 10
abbrev s_whole_of : Stmt := top 11
abbrev s_read_whole : Stmt := top 12
abbrev s_read_colour : Stmt := top 13
abbrev s_read_from_two : Stmt := top 14
abbrev s_read_dot : Stmt := top 15
abbrev s_show_spot : Stmt := top 16
abbrev s_show_dot : Stmt := top 17
abbrev s_read_dots : Stmt := top 18
abbrev s_show_dots : Stmt := top 19
abbrev s_law_whole : Stmt := top 21
abbrev s_law_cell_at : Stmt := top 22
abbrev s_law_stream : Stmt := top 23
abbrev s_law_drawn : Stmt := top 24
abbrev s_law_word : Stmt := top 25
abbrev s_law_dots : Stmt := top 26
abbrev s_law_refused : Stmt := top 27
abbrev s_law : Stmt := top 28
theorem sc_check_text : FnScope ["thing"] ["thing"] (defScope s_check_text) := by walk_at "sc"
theorem sc_whole_of : FnScope ["word"] ["word"] (defScope s_whole_of) := by walk_at "sc"
theorem sc_read_whole : FnScope ["word", "digits", "number"] ["word", "digits"] (defScope s_read_whole) := by walk_at "sc"
theorem sc_read_colour : FnScope ["word"] ["word"] (defScope s_read_colour) := by walk_at "sc"
theorem sc_read_from_two : FnScope ["word", "digits", "number"] ["word", "digits"] (defScope s_read_from_two) := by walk_at "sc"
theorem sc_read_dot : FnScope ["word", "across", "upward"] ["word"] (defScope s_read_dot) := by walk_at "sc"
theorem sc_show_spot : FnScope ["x", "y"] ["x", "y"] (defScope s_show_spot) := by walk_at "sc"
theorem sc_show_dot : FnScope ["dot", "text", "weight"] ["dot"] (defScope s_show_dot) := by walk_at "sc"
theorem sc_read_dots : FnScope ["text", "dots"] ["text"] (defScope s_read_dots) := by walk_at "sc"
theorem sc_show_dots : FnScope ["dots"] ["dots"] (defScope s_show_dots) := by walk_at "sc"
theorem sc_law_whole : FnScope ["_law_found"] ["_law_found"] (defScope s_law_whole) := by walk_at "sc"
theorem sc_law_cell_at : FnScope ["_law_script", "_law_k"] ["_law_script", "_law_k"] (defScope s_law_cell_at) := by walk_at "sc"
theorem sc_law_stream : FnScope ["_law_cell", "_law_many", "_law_found", "_law_number", "_law_k"] ["_law_cell", "_law_many"] (defScope s_law_stream) := by walk_at "sc"
theorem sc_law_drawn : FnScope ["_law_kind", "_law_cell", "_law_xs", "_law_x", "_law_y", "_law_weight"] ["_law_kind", "_law_cell"] (defScope s_law_drawn) := by walk_at "sc"
theorem sc_law_word : FnScope ["_law_dot", "_law_word_here"] ["_law_dot"] (defScope s_law_word) := by walk_at "sc"
theorem sc_law_dots : FnScope ["_law_found", "_law_dots_here", "_law_here", "_law_there", "_law_number"] ["_law_found", "_law_dots_here"] (defScope s_law_dots) := by walk_at "sc"
theorem sc_law_refused : FnScope ["_law_text", "_law_many", "_law_caught", "error"] ["_law_text", "_law_many"] (defScope s_law_refused) := by walk_at "sc"
theorem sc_law : FnScope ["_law_script", "_law_kind", "_law_dots_here", "_law_handed", "_law_text", "_law_due", "_law_found", "_law_more", "_law_words", "_law_at"] ["_law_script"] (defScope s_law) := by walk_at "sc"
structure Cls where
  PlaneError : Addr
  NoDots : Addr
  TooMany : Addr
  NoText : Addr
structure COk (K : PySem.W.Frag) (mg : Str → Option Value) (κ : Cls) : Prop where
  mg_PlaneError : mg "PlaneError" = some (.ref κ.PlaneError)
  mg_NoDots : mg "NoDots" = some (.ref κ.NoDots)
  mg_TooMany : mg "TooMany" = some (.ref κ.TooMany)
  mg_NoText : mg "NoText" = some (.ref κ.NoText)
  gi_MOST_DOTS : ∃ t, mg "MOST_DOTS" = some (.int 30 t)
  gi_DIGITS_OF_COORDINATE : ∃ t, mg "DIGITS_OF_COORDINATE" = some (.int 12 t)
  gi_DIGITS_OF_WEIGHT : ∃ t, mg "DIGITS_OF_WEIGHT" = some (.int 9 t)
  gs_LETTERS : ∃ t, mg "LETTERS" = some (.str "abc" t)
  exc_NoText : PySem.W.excIn K κ.NoText veMro "ValueError.__new__" = true
  xk_NoText : PX.ExcK K κ.NoText
  kit_NoText_PlaneError : PySem.W.kitOne K (.ref κ.NoText) (.ref κ.PlaneError) = some true
  kit_NoText_NoDots : PySem.W.kitOne K (.ref κ.NoText) (.ref κ.NoDots) = some false
  kit_NoText_TooMany : PySem.W.kitOne K (.ref κ.NoText) (.ref κ.TooMany) = some false
  kit_NoText_NoText : PySem.W.kitOne K (.ref κ.NoText) (.ref κ.NoText) = some true
  kit_NoText_ValueError : PySem.W.kitOne K (.ref κ.NoText) (.type "ValueError") = some true
  exm_NoText_PlaneError : PySem.W.exmOne K (.ref κ.NoText) (.ref κ.PlaneError) = some true
  exm_NoText_NoText : PySem.W.exmOne K (.ref κ.NoText) (.ref κ.NoText) = some true
  exc_NoDots : PySem.W.excIn K κ.NoDots veMro "ValueError.__new__" = true
  xk_NoDots : PX.ExcK K κ.NoDots
  kit_NoDots_PlaneError : PySem.W.kitOne K (.ref κ.NoDots) (.ref κ.PlaneError) = some true
  kit_NoDots_NoDots : PySem.W.kitOne K (.ref κ.NoDots) (.ref κ.NoDots) = some true
  kit_NoDots_TooMany : PySem.W.kitOne K (.ref κ.NoDots) (.ref κ.TooMany) = some false
  kit_NoDots_NoText : PySem.W.kitOne K (.ref κ.NoDots) (.ref κ.NoText) = some false
  kit_NoDots_ValueError : PySem.W.kitOne K (.ref κ.NoDots) (.type "ValueError") = some true
  exm_NoDots_PlaneError : PySem.W.exmOne K (.ref κ.NoDots) (.ref κ.PlaneError) = some true
  exm_NoDots_NoDots : PySem.W.exmOne K (.ref κ.NoDots) (.ref κ.NoDots) = some true
theorem str_inj {x y : Str} (h : D.str x = D.str y) : x = y := by injection h
abbrev sgn (x : Str) : List Nat := x.cps.toList
def mkS (l : List Nat) : Str := ⟨l.toArray⟩
theorem sgn_mk (l : List Nat) : sgn (mkS l) = l := by simp [sgn, mkS]
theorem mk_sgn (x : Str) : mkS (sgn x) = x := by simp [sgn, mkS]
theorem sgn_inj {x y : Str} (h : sgn x = sgn y) : x = y := by rw [← mk_sgn x, h, mk_sgn]
theorem sgn_app (x y : Str) : sgn (x ++ y) = sgn x ++ sgn y := by show (x.cps ++ y.cps).toList = _; simp
theorem sgn_len (x : Str) : (sgn x).length = x.length := Array.length_toList
theorem mk_len (l : List Nat) : (mkS l).length = l.length := by rw [← sgn_len, sgn_mk]
def cutC (c : Nat) : List Nat → Option (List Nat × List Nat)
  | [] => none
  | x :: xs => if x = c then some ([], xs) else match cutC c xs with
    | none => none
    | some p => some (x :: p.1, p.2)
theorem cut_skip {c : Nat} (b : List Nat) : ∀ {a : List Nat}, c ∉ a → cutC c (a ++ b) = match cutC c b with
    | none => none
    | some p => some (a ++ p.1, p.2)
  | [], _ => by show cutC c b = _; cases cutC c b <;> rfl
  | x :: a, h => by
    have h1 : ¬ x = c := fun e => h (by rw [e]; exact List.mem_cons_self)
    show (if x = c then _ else match cutC c (a ++ b) with | none => none | some p => some (x :: p.1, p.2)) = _
    rw [if_neg h1, cut_skip b fun z => h (List.mem_cons_of_mem _ z)]
    cases cutC c b <;> rfl
theorem cut_at {c : Nat} {a b : List Nat} (h : c ∉ a) : cutC c (a ++ c :: b) = some (a, b) := by
  rw [cut_skip _ h]
  show (match (if c = c then some ([], b) else _ : Option (List Nat × List Nat)) with | none => none | some p => some (a ++ p.1, p.2)) = _
  rw [if_pos rfl]
  simp
theorem cut_not {c : Nat} {l : List Nat} (h : c ∉ l) : cutC c l = none := by
  have := cut_skip [] h
  rw [List.append_nil] at this
  rw [this]
  rfl
theorem cut_some {c : Nat} : ∀ {l a b : List Nat}, cutC c l = some (a, b) → l = a ++ c :: b ∧ c ∉ a
  | [], _, _, h => by cases h
  | x :: l, a, b, h => by
    unfold cutC at h
    split at h
    · rename_i e
      cases h
      rw [e]
      exact ⟨rfl, fun z => by cases z⟩
    · rename_i e
      cases q : cutC c l with
      | none => rw [q] at h; cases h
      | some p =>
        rw [q] at h
        cases h
        obtain ⟨h1, h2⟩ := cut_some (a := p.1) (b := p.2) q
        refine ⟨by rw [h1]; rfl, fun z => ?_⟩
        rcases List.mem_cons.mp z with z | z
        · exact e z.symm
        · exact h2 z
theorem cut_no {c : Nat} {l : List Nat} (h : cutC c l = none) : c ∉ l := fun z => by
  obtain ⟨a, b, e, h1⟩ := List.append_of_mem z |>.elim fun a ⟨b, e⟩ => (⟨a, b, e, trivial⟩ : ∃ a b, l = a ++ c :: b ∧ True)
  clear h1 z
  subst e
  induction a with
  | nil =>
    unfold cutC at h
    simp at h
  | cons x a ih =>
    rw [List.cons_append] at h
    unfold cutC at h
    split at h
    · cases h
    · split at h
      · rename_i q; exact ih q
      · cases h
theorem at_c (x : Str) (c i : Nat) : StrLaws.At x ⟨#[c]⟩ x.length i ↔ (sgn x)[i]? = some c := by
  have e : (sgn x).length = x.length := sgn_len x
  unfold StrLaws.At
  rw [StrLaws.subAt_eq]
  show i + 1 ≤ x.length ∧ (((sgn x).drop i).take 1 == [c]) = true ↔ _
  rw [beq_iff_eq]
  constructor
  · intro ⟨h1, h2⟩
    rw [List.drop_eq_getElem_cons (by omega)] at h2
    rw [List.getElem?_eq_getElem (by omega)]
    simpa using h2
  · intro h
    obtain ⟨h1, h2⟩ := List.getElem?_eq_some_iff.mp h
    refine ⟨by omega, ?_⟩
    rw [List.drop_eq_getElem_cons h1, h2]
    simp
theorem occ_c (x : Str) (c : Nat) : (cutC c (sgn x) = none ∧ Builtin.Str.occurrences x ⟨#[c]⟩ 0 x.length 1 = []) ∨ ∃ a b r, cutC c (sgn x) = some (a, b) ∧ Builtin.Str.occurrences x ⟨#[c]⟩ 0 x.length 1 = a.length :: r := by
  rcases StrLaws.occ_head x ⟨#[c]⟩ 1 (Nat.le_refl 1) with ⟨h0, hn⟩ | ⟨i, r, h0, hi, hn⟩
  · refine .inl ⟨cut_not fun z => ?_, h0⟩
    obtain ⟨i, hi⟩ := List.mem_iff_getElem?.mp z
    exact hn i ((at_c x c i).mpr hi)
  · rw [at_c] at hi
    obtain ⟨h1, h2⟩ := List.getElem?_eq_some_iff.mp hi
    have e : sgn x = (sgn x).take i ++ c :: (sgn x).drop (i + 1) := by
      rw [← h2, ← List.drop_eq_getElem_cons h1, List.take_append_drop]
    have h3 : c ∉ (sgn x).take i := fun z => by
      obtain ⟨k, hk⟩ := List.mem_iff_getElem?.mp z
      have hk1 : k < i := by
        have := (List.getElem?_eq_some_iff.mp hk).1
        rw [List.length_take] at this
        omega
      rw [List.getElem?_take_of_lt hk1] at hk
      exact hn k hk1 ((at_c x c k).mpr hk)
    refine .inr ⟨(sgn x).take i, (sgn x).drop (i + 1), r, ?_, ?_⟩
    · have := cut_at (b := (sgn x).drop (i + 1)) h3
      rwa [← e] at this
    · rw [h0, List.length_take, Nat.min_eq_left (by omega)]
theorem in_c (x : Str) (c : Nat) : PD.inT x ⟨#[c]⟩ = (cutC c (sgn x)).isSome := by
  unfold PD.inT
  rcases occ_c x c with ⟨h, e⟩ | ⟨a, b, r, h, e⟩ <;> rw [h, e] <;> rfl
theorem sub_take (x : Str) (i : Nat) : Builtin.Str.strSub x 0 i = mkS ((sgn x).take i) := sgn_inj (by rw [sgn_mk]; show (Builtin.Str.strSub x 0 i).cps.toList = _; rw [StrLaws.strSub_toList]; simp)
theorem sub_drop (x : Str) (i : Nat) : Builtin.Str.strSub x i x.length = mkS ((sgn x).drop i) := sgn_inj (by
  rw [sgn_mk]
  show (Builtin.Str.strSub x i x.length).cps.toList = _
  rw [StrLaws.strSub_toList, List.take_of_length_le]
  rw [List.length_drop, ← sgn_len]; exact Nat.le_refl _)
theorem part_c (x : Str) (c : Nat) : Txt.partition x ⟨#[c]⟩ = match cutC c (sgn x) with
    | some p => (mkS p.1, ⟨#[c]⟩, mkS p.2)
    | none => (x, Str.empty, Str.empty) := by
  unfold Txt.partition
  rcases occ_c x c with ⟨h, e⟩ | ⟨a, b, r, h, e⟩ <;> rw [h, e]
  have q := (cut_some h).1
  show (Builtin.Str.strSub x 0 a.length, (⟨#[c]⟩ : Str), Builtin.Str.strSub x (a.length + 1) x.length) = (mkS a, ⟨#[c]⟩, mkS b)
  rw [sub_take, sub_drop, q]
  simp
def isD (c : Nat) : Bool := decide (48 ≤ c) && decide (c ≤ 57)
def dgs (l : List Nat) : List Nat := if l.head? = some 45 then l.tail else l
def isI (k : Nat) (l : List Nat) : Bool := (dgs l).all isD && (l == [48] || (decide (0 < (dgs l).length) && decide ((dgs l).length ≤ k) && !((dgs l).head? == some 48)))
def dg (m : Nat) : List Nat := (Nat.toDigits 10 m).map Char.toNat
def tx (n : Int) : List Nat := sgn (Str.ofString (toString n))
theorem tx_nat (m : Nat) : tx (m : Int) = dg m := PySem.W.KIN.signs_num m
theorem tx_neg (m : Nat) : tx (-((m + 1 : Nat) : Int)) = 45 :: dg (m + 1) := by
  unfold tx sgn dg
  rw [Str.ofString_eq_toList]
  show ((toString (Int.negSucc m)).toList.map Char.toNat).toArray.toList = _
  rw [List.toList_toArray]
  show ((String.append "-" (Nat.repr (m + 1))).toList.map Char.toNat) = _
  have : (String.append "-" (Nat.repr (m + 1))).toList = '-' :: (Nat.repr (m + 1)).toList := by
    show ("-" ++ Nat.repr (m + 1)).toList = _
    rw [String.toList_append]; rfl
  rw [this, Nat.toList_repr]
  rfl
theorem dg_all (m : Nat) : PySem.NumText.AllDigits (dg m) := by
  intro c hc
  obtain ⟨ch, hch, e⟩ := List.mem_map.mp hc
  have r := digit_range (Nat.isDigit_of_mem_toDigits (by decide) (by decide) hch)
  rw [← e]
  exact r
theorem dg_head (m : Nat) (h : 0 < m) : ∃ c r, dg m = c :: r ∧ 49 ≤ c := by
  induction m using Nat.strongRecOn with
  | _ m ih =>
    unfold dg
    by_cases q : m < 10
    · rw [Nat.toDigits_of_lt_base q]
      have : ∀ d : Nat, d < 10 → 0 < d → 49 ≤ (Nat.digitChar d).toNat := by decide
      exact ⟨_, [], rfl, this m q h⟩
    · have hm : m % 10 < 10 := Nat.mod_lt m (by decide)
      have t : Nat.toDigits 10 (m / 10) ++ Nat.toDigits 10 (m % 10) = Nat.toDigits 10 (10 * (m / 10) + m % 10) := Nat.toDigits_append_toDigits (by decide) (by omega) hm
      rw [Nat.div_add_mod] at t
      obtain ⟨c, r, e, hc⟩ := ih (m / 10) (by omega) (by omega)
      unfold dg at e
      rw [← t, List.map_append, e]
      exact ⟨c, _, rfl, hc⟩
theorem dg_zero : dg 0 = [48] := by decide
theorem dg_ne (m : Nat) : dg m ≠ [] := by
  rcases Nat.eq_zero_or_pos m with e | e
  · rw [e, dg_zero]; simp
  · obtain ⟨c, r, q, _⟩ := dg_head m e
    rw [q]; simp
theorem dg_len (m : Nat) : (dg m).length = (Nat.toDigits 10 m).length := List.length_map ..
theorem dg_le {k m : Nat} (hk : 1 ≤ k) : (dg m).length ≤ k ↔ m < 10 ^ k := by
  rw [dg_len]
  constructor
  · intro h
    apply Nat.lt_of_not_le
    intro z
    have := digits10_ge z
    omega
  · intro h
    exact digits10_le hk h
theorem isD_all {l : List Nat} : l.all isD = true ↔ PySem.NumText.AllDigits l := by
  unfold PySem.NumText.AllDigits isD
  simp
theorem int_split (n : Int) : (∃ m : Nat, n = m ∧ n.natAbs = m) ∨ ∃ m : Nat, n = -((m + 1 : Nat) : Int) ∧ n.natAbs = m + 1 := by
  cases n with
  | ofNat m => exact .inl ⟨m, rfl, rfl⟩
  | negSucc m => exact .inr ⟨m, rfl, rfl⟩
theorem dgs_tx (n : Int) : dgs (tx n) = dg n.natAbs := by
  rcases int_split n with ⟨m, e, h⟩ | ⟨m, e, h⟩ <;> rw [h, e]
  · rw [tx_nat]
    unfold dgs
    rw [if_neg]
    intro z
    cases q : dg m with
    | nil => exact dg_ne m q
    | cons c r =>
      rw [q] at z
      have := (q ▸ dg_all m : PySem.NumText.AllDigits (c :: r)).head
      simp at z
      omega
  · rw [tx_neg]; rfl
theorem tx_0 : tx 0 = [48] := by rw [show (0 : Int) = ((0 : Nat) : Int) from rfl, tx_nat, dg_zero]
theorem isI_tx {k : Nat} (hk : 1 ≤ k) {n : Int} : isI k (tx n) = decide (n.natAbs < 10 ^ k) := by
  unfold isI
  rw [dgs_tx, isD_all.mpr (dg_all _), Bool.true_and]
  rcases Nat.eq_zero_or_pos n.natAbs with e | e
  · have : n = 0 := Int.natAbs_eq_zero.mp e
    subst this
    rw [tx_0, decide_eq_true (show (0 : Int).natAbs < 10 ^ k from Nat.pow_pos (by decide))]
    rfl
  · obtain ⟨c, r, q, hc⟩ := dg_head _ e
    have h1 : (tx n == [48]) = false := by
      rw [beq_eq_false_iff_ne]
      intro z
      have h2 := dgs_tx n
      rw [z, q] at h2
      have h3 : ([48] : List Nat) = c :: r := h2
      simp at h3
      omega
    rw [h1, Bool.false_or]
    have h2 : decide (0 < (dg n.natAbs).length) = true := by rw [q]; rfl
    have h3 : ((dg n.natAbs).head? == some 48) = false := by rw [q]; simp; omega
    rw [h2, h3, Bool.true_and, Bool.not_false, Bool.and_true]
    exact decide_eq_decide.mpr (dg_le hk)
theorem char_back {c : Nat} (h : c < 128) : (Char.ofNat c).toNat = c := by
  have : ∀ c : Nat, c < 128 → (Char.ofNat c).toNat = c := by decide
  exact this c h
theorem dg_val {c : Nat} {r : List Nat} (h : PySem.NumText.AllDigits (c :: r)) (h1 : r = [] ∨ 49 ≤ c) : dg (PySem.NumText.digitsVal (c :: r)) = c :: r := by
  unfold dg
  rw [PySem.NumText.toDigits_digitsVal r.length (c :: r) rfl h (h1.elim (fun e => .inl (by rw [e]; rfl)) fun e => .inr ⟨c, r, rfl, e⟩), List.map_map]
  conv => rhs; rw [← List.map_id (c :: r)]
  apply List.map_congr_left
  intro d hd
  have := h d hd
  exact char_back (by omega)
theorem isI_val {k : Nat} (hk : 1 ≤ k) (h9 : k ≤ 1000) {l : List Nat} (h : isI k l = true) : ∃ n, PySem.intText? (mkS l) = some n ∧ tx n = l ∧ n.natAbs < 10 ^ k := by
  have fin : ∀ n : Int, tx n = l → n.natAbs < 10 ^ k := fun n e => by
    rw [← e, isI_tx hk] at h
    exact of_decide_eq_true h
  have hl : l.length ≤ k + 1 := by
    unfold isI dgs at h
    simp only [Bool.and_eq_true, Bool.or_eq_true, beq_iff_eq, decide_eq_true_eq] at h
    rcases h.2 with e | e
    · rw [e]; show 1 ≤ k + 1; omega
    · have := e.1.2
      split at this
      · rw [List.length_tail] at this; omega
      · omega
  have hm : (mkS l).length ≤ 4300 := by rw [mk_len]; omega
  unfold isI at h
  rw [Bool.and_eq_true, isD_all] at h
  obtain ⟨h1, h2⟩ := h
  have h3 : ∃ c r, dgs l = c :: r ∧ (r = [] ∨ 49 ≤ c) := by
    rw [Bool.or_eq_true] at h2
    rcases h2 with e | e
    · rw [eq_of_beq e]; exact ⟨48, [], rfl, .inl rfl⟩
    · cases q : dgs l with
      | nil => rw [q] at e; simp at e
      | cons c r =>
        rw [q] at e h1
        have := h1.head
        refine ⟨c, r, rfl, .inr ?_⟩
        simp at e
        omega
  obtain ⟨c, r, q, hc⟩ := h3
  rw [q] at h1
  unfold dgs at q
  split at q
  · cases l with
    | nil => cases q
    | cons d l =>
      rename_i e
      have e : d = 45 := by simpa using e
      have q : l = c :: r := q
      subst e q
      have hv : 0 < PySem.NumText.digitsVal (c :: r) ∨ (c = 48 ∧ r = []) := by
        have := h1.head
        rcases hc with e | e
        · by_cases z : c = 48
          · exact .inr ⟨z, e⟩
          · exact .inl (PySem.NumText.digitsVal_pos (by omega))
        · exact .inl (PySem.NumText.digitsVal_pos e)
      rcases hv with hv | ⟨z, e⟩
      · have e1 := PySem.intText_neg (x := mkS (45 :: c :: r)) (cs := c :: r) (sgn_mk _) h1 (by simp) hm
        obtain ⟨m, hm⟩ := Nat.exists_eq_add_of_lt hv
        rw [Nat.zero_add] at hm
        have e2 : tx (-((PySem.NumText.digitsVal (c :: r) : Nat) : Int)) = 45 :: c :: r := by
          rw [hm, tx_neg, ← hm, dg_val h1 hc]
        exact ⟨_, e1, e2, fin _ e2⟩
      · rw [z, e] at h2
        exact absurd h2 (by simp [dgs])
  · subst q
    have e1 := PySem.intText_digits (x := mkS (c :: r)) (by rw [show (mkS (c :: r)).cps.toList = c :: r from sgn_mk _]; exact h1) (by rw [show (mkS (c :: r)).cps.toList = c :: r from sgn_mk _]; simp) hm
    rw [show (mkS (c :: r)).cps.toList = c :: r from sgn_mk _] at e1
    have e2 : tx ((PySem.NumText.digitsVal (c :: r) : Nat) : Int) = c :: r := by rw [tx_nat, dg_val h1 hc]
    exact ⟨_, e1, e2, fin _ e2⟩
def wN (k : Nat) (l : List Nat) : Option Int := if isI k l = true then PySem.intText? (mkS l) else none
theorem wN_tx {k : Nat} (hk : 1 ≤ k) (h9 : k ≤ 1000) {n : Int} (h : n.natAbs < 10 ^ k) : wN k (tx n) = some n := by
  have hi : isI k (tx n) = true := by rw [isI_tx hk]; exact decide_eq_true h
  unfold wN
  rw [if_pos hi]
  obtain ⟨m, e, t, _⟩ := isI_val hk h9 hi
  rw [e]
  have hd := congrArg dgs t
  rw [dgs_tx, dgs_tx] at hd
  have ha : m.natAbs = n.natAbs := by rw [← PySem.W.KIN.val_back m.natAbs, ← PySem.W.KIN.val_back n.natAbs]; exact congrArg PySem.NumText.digitsVal hd
  rcases int_split m with ⟨a, q, h1⟩ | ⟨a, q, h1⟩ <;> rcases int_split n with ⟨b, z, h2⟩ | ⟨b, z, h2⟩
  · rw [q, z]; exact congrArg some (by omega)
  · rw [q, z, tx_nat, tx_neg] at t
    have := dg_all a
    rw [t] at this
    exact absurd this.head (by decide)
  · rw [q, z, tx_nat, tx_neg] at t
    have := dg_all b
    rw [← t] at this
    exact absurd this.head (by decide)
  · rw [q, z]; exact congrArg some (by omega)
theorem wN_some {k : Nat} (hk : 1 ≤ k) (h9 : k ≤ 1000) {l : List Nat} {n : Int} (h : wN k l = some n) : isI k l = true ∧ tx n = l ∧ n.natAbs < 10 ^ k := by
  unfold wN at h
  split at h
  · rename_i q
    obtain ⟨m, e, t, b⟩ := isI_val hk h9 q
    rw [e] at h
    cases h
    exact ⟨q, t, b⟩
  · cases h
theorem wN_not {k : Nat} {l : List Nat} (h : isI k l = false) : wN k l = none := by unfold wN; rw [h]; rfl
theorem slice_lo (x : Str) (u : Option Int) : Txt.slice x none u = Txt.slice x (some 0) u := by unfold Txt.slice; rw [StrLaws.sliceIdx_none_lo]
theorem slice_hi (x : Str) (l : Option Int) : Txt.slice x l none = Txt.slice x l (some (x.length : Int)) := by unfold Txt.slice; rw [StrLaws.sliceIdx_none_hi]
theorem slice_ab (x : Str) {a b : Nat} (hab : a ≤ b) (hb : b ≤ x.length) : Txt.slice x (some (a : Int)) (some (b : Int)) = mkS (((sgn x).drop a).take (b - a)) := StrLaws.sliceText_nat x hab hb
theorem slice_gt (x : Str) {a b : Nat} (h : b ≤ a) : Txt.slice x (some (a : Int)) (some (b : Int)) = mkS [] := by
  have e : Builtin.Str.strSliceIndices (some (a : Int)) (some (b : Int)) 1 x.length = [] := by
    have h1 : ¬ ((a : Int) < 0) := by omega
    have h2 : ¬ ((b : Int) < 0) := by omega
    simp only [Builtin.Str.strSliceIndices, sliceRange, h1, h2, if_false, show ((1 : Int) > 0) = True from by simp, if_true]
    have h3 : ¬ (max (0 : Int) (min (a : Int) (x.length : Int)) < max (0 : Int) (min (b : Int) (x.length : Int))) := by omega
    simp [h3]
  unfold Txt.slice
  rw [e]
  split
  · rename_i z
    have z : x.length = 0 := by
      simp at z
      exact z.symm
    apply sgn_inj
    rw [sgn_mk]
    exact List.eq_nil_of_length_eq_zero (by rw [sgn_len]; exact z)
  · rfl
theorem slice_1 {x : Str} {a r : List Nat} (h : sgn x = a ++ r) : Txt.slice x none (some (a.length : Int)) = mkS a := by
  have l := congrArg List.length h
  rw [sgn_len, List.length_append] at l
  rw [slice_lo]
  refine (slice_ab x (a := 0) (Nat.zero_le _) (by omega)).trans ?_
  rw [h]
  simp
theorem slice_2 {x : Str} {a b : List Nat} {c : Nat} (h : sgn x = a ++ c :: b) : Txt.slice x (some ((a.length : Int) + 1)) none = mkS b := by
  have l := congrArg List.length h
  rw [sgn_len, List.length_append, List.length_cons] at l
  rw [slice_hi]
  refine (slice_ab x (a := a.length + 1) (by omega) (Nat.le_refl _)).trans ?_
  rw [h, List.take_of_length_le]
  · simp
  · simp; omega
structure TX (x : Str) : Prop where
  l : x.length ≤ 300
  a : ∀ c ∈ sgn x, c < 128
theorem TX.sub {x : Str} {l : List Nat} (h : TX x) (h1 : ∀ c ∈ l, c ∈ sgn x) (h2 : l.length ≤ (sgn x).length) : TX (mkS l) :=
  ⟨by rw [mk_len]; rw [sgn_len] at h2; exact Nat.le_trans h2 h.l, by rw [sgn_mk]; exact fun c z => h.a c (h1 c z)⟩
theorem TX.all {x : Str} (h : TX x) : x.cps.all (· < 128) = true := by
  rw [Array.all_eq_true']
  intro c hc
  exact decide_eq_true (h.a c (Array.mem_toList_iff.mpr hc))
theorem tx_mem {n : Int} {c : Nat} (h : c ∈ tx n) : c = 45 ∨ (48 ≤ c ∧ c ≤ 57) := by
  rcases int_split n with ⟨m, e, _⟩ | ⟨m, e, _⟩ <;> rw [e] at h
  · rw [tx_nat] at h; exact .inr (dg_all m c h)
  · rw [tx_neg] at h
    rcases List.mem_cons.mp h with z | z
    · exact .inl z
    · exact .inr (dg_all _ c z)
theorem tx_58 (n : Int) : 58 ∉ tx n := fun h => by have := tx_mem h; omega
theorem tx_len {n : Int} {k : Nat} (hk : 1 ≤ k) (h : n.natAbs < 10 ^ k) : (tx n).length ≤ k + 1 := by
  rcases int_split n with ⟨m, e, q⟩ | ⟨m, e, q⟩
  · rw [e, tx_nat, dg_len]
    rw [q] at h
    exact Nat.le_succ_of_le (digits10_le hk h)
  · rw [e, tx_neg, List.length_cons, dg_len]
    rw [q] at h
    exact Nat.succ_le_succ (digits10_le hk h)
theorem tx_119 (n : Int) : 119 ∉ tx n := fun h => by have := tx_mem h; omega
def spL (c : Nat) (l : List Nat) : List Nat × List Nat := match cutC c l with
  | none => (l, [])
  | some p => p
def col (l : List Nat) : Option Int := match l.head? with
  | some 97 => some 0
  | some 98 => some 1
  | some 99 => some 2
  | _ => none
def w2 (k : Nat) (l : List Nat) : Option Int := match wN k l with
  | none => none
  | some n => if n < 2 then none else some n
def upL (q : List Nat) : List Nat × Option (List Nat) := match cutC 119 q with
  | none => (q, none)
  | some p => (p.1, some p.2)
def wtL : Option (List Nat) → Option Int
  | none => some 1
  | some v => w2 9 v
abbrev Dot := Int × Int × Int × Int
def rdL (l : List Nat) : Option Dot := match wN 12 (spL 58 l.tail).1 with
  | none => none
  | some x => match wN 12 (upL (spL 58 l.tail).2).1 with
    | none => none
    | some y => match col l with
      | none => none
      | some c => match wtL (upL (spL 58 l.tail).2).2 with
        | none => none
        | some w => some (x, y, c, w)
theorem rd_0 {l p q : List Nat} {x c : Int} (h : cutC 58 l.tail = some (p, q)) (hx : wN 12 p = some x) (hc : col l = some c) (hw : cutC 119 q = none) : rdL l = match wN 12 q with
    | none => none
    | some y => some (x, y, c, 1) := by
  unfold rdL spL
  rw [h, hc]
  show (match wN 12 p with | none => none | some x => match wN 12 (upL q).1 with | none => none | some y => match wtL (upL q).2 with | none => none | some w => some (x, y, c, w)) = _
  rw [hx]
  unfold upL
  rw [hw]
  rfl
theorem rd_w {l p q u v : List Nat} {x c : Int} (h : cutC 58 l.tail = some (p, q)) (hx : wN 12 p = some x) (hc : col l = some c) (hw : cutC 119 q = some (u, v)) : rdL l = match wN 12 u with
    | none => none
    | some y => match w2 9 v with
      | none => none
      | some w => some (x, y, c, w) := by
  unfold rdL spL
  rw [h, hc]
  show (match wN 12 p with | none => none | some x => match wN 12 (upL q).1 with | none => none | some y => match wtL (upL q).2 with | none => none | some w => some (x, y, c, w)) = _
  rw [hx]
  unfold upL
  rw [hw]
  rfl
theorem join_2 (s a b : Str) (r : List Str) : Str.join s (a :: b :: r) = a ++ s ++ Str.join s (b :: r) := rfl
theorem sgn_join2 (c : Nat) (a b : Str) (r : List Str) : sgn (Str.join ⟨#[c]⟩ (a :: b :: r)) = sgn a ++ c :: sgn (Str.join ⟨#[c]⟩ (b :: r)) := by
  rw [join_2, sgn_app, sgn_app, List.append_assoc]
  rfl
theorem join_uniq {c : Nat} : ∀ {A B : List Str}, A ≠ [] → B ≠ [] → (∀ p ∈ A, c ∉ sgn p) → (∀ p ∈ B, c ∉ sgn p) → Str.join ⟨#[c]⟩ A = Str.join ⟨#[c]⟩ B → A = B
  | [], _, h, _, _, _, _ => absurd rfl h
  | _, [], _, h, _, _, _ => absurd rfl h
  | [a], [b], _, _, _, _, e => by rw [show a = b from e]
  | [a], b :: b' :: r, _, _, ha, _, e => by
    have h1 := congrArg sgn e
    rw [sgn_join2] at h1
    have h2 := ha a List.mem_cons_self
    rw [show sgn (Str.join ⟨#[c]⟩ [a]) = sgn a from rfl] at h1
    rw [h1] at h2
    exact absurd (by simp) h2
  | a :: a' :: r, [b], _, _, _, hb, e => by
    have h1 := congrArg sgn e
    rw [sgn_join2] at h1
    have h2 := hb b List.mem_cons_self
    rw [show sgn (Str.join ⟨#[c]⟩ [b]) = sgn b from rfl] at h1
    rw [← h1] at h2
    exact absurd (by simp) h2
  | a :: a' :: r, b :: b' :: q, _, _, ha, hb, e => by
    have h1 := congrArg sgn e
    rw [sgn_join2, sgn_join2] at h1
    have k1 := cut_at (b := sgn (Str.join ⟨#[c]⟩ (a' :: r))) (ha a List.mem_cons_self)
    rw [h1, cut_at (hb b List.mem_cons_self)] at k1
    injection k1 with k1
    injection k1 with k1 k2
    have ih := join_uniq (A := a' :: r) (B := b' :: q) (by simp) (by simp) (fun p hp => ha p (List.mem_cons_of_mem _ hp)) (fun p hp => hb p (List.mem_cons_of_mem _ hp)) (sgn_inj k2.symm)
    rw [ih, sgn_inj k1]
theorem split_ne (x y : Str) : Txt.split x y ≠ [] := by
  unfold Txt.split
  split
  · simp
  · split
    · simp
    · rw [StrLaws.partsBetween_eq]
      obtain ⟨p, r, e⟩ := StrLaws.partsFrom_ne x y.length 0 (Builtin.Str.occurrences x y 0 x.length (x.length + 1))
      rw [e]; simp
theorem split_of {c : Nat} {ws : List Str} (h : ws ≠ []) (hf : ∀ p ∈ ws, c ∉ sgn p) : Txt.split (Str.join ⟨#[c]⟩ ws) ⟨#[c]⟩ = ws :=
  join_uniq (split_ne _ _) h (StrLaws.split_free _ c) hf (StrLaws.join_split _ _)
theorem join_mem {c d : Nat} {p : Str} : ∀ {ws : List Str}, p ∈ ws → d ∈ sgn p → d ∈ sgn (Str.join ⟨#[c]⟩ ws)
  | [a], hp, hd => by
    have : p = a := by simpa using hp
    rw [← this]; exact hd
  | a :: b :: r, hp, hd => by
    rw [sgn_join2]
    rcases List.mem_cons.mp hp with z | z
    · rw [← z]; exact List.mem_append_left _ hd
    · exact List.mem_append_right _ (List.mem_cons_of_mem _ (join_mem z hd))
theorem join_of {c d : Nat} : ∀ {ws : List Str}, d ∈ sgn (Str.join ⟨#[c]⟩ ws) → d = c ∨ ∃ p ∈ ws, d ∈ sgn p
  | [], h => by cases h
  | [a], h => .inr ⟨a, List.mem_cons_self, h⟩
  | a :: b :: r, h => by
    rw [sgn_join2] at h
    rcases List.mem_append.mp h with z | z
    · exact .inr ⟨a, List.mem_cons_self, z⟩
    · rcases List.mem_cons.mp z with z | z
      · exact .inl z
      · rcases join_of (ws := b :: r) z with q | ⟨p, hp, q⟩
        · exact .inl q
        · exact .inr ⟨p, List.mem_cons_of_mem _ hp, q⟩
theorem join_plen {c : Nat} {p : Str} : ∀ {ws : List Str}, p ∈ ws → (sgn p).length ≤ (sgn (Str.join ⟨#[c]⟩ ws)).length
  | [a], hp => by
    have : p = a := by simpa using hp
    rw [← this]; exact Nat.le_refl _
  | a :: b :: r, hp => by
    rw [sgn_join2, List.length_append, List.length_cons]
    rcases List.mem_cons.mp hp with z | z
    · rw [← z]; omega
    · have := join_plen (c := c) (ws := b :: r) z
      omega
theorem TX.word {x p : Str} {c : Nat} (T : TX x) (h : p ∈ Txt.split x ⟨#[c]⟩) : TX p := by
  have e := StrLaws.join_split x ⟨#[c]⟩
  have := T.sub (l := sgn p) (fun d hd => by rw [← e]; exact join_mem h hd) (by have := join_plen (c := c) h; rwa [e] at this)
  rwa [mk_sgn] at this
theorem parts_len (x : Str) (c : Nat) : (Builtin.Str.partsBetween x (Builtin.Str.occurrences x ⟨#[c]⟩ 0 x.length (x.length + 1)) (⟨#[c]⟩ : Str).length).length ≤ x.length + 2 := by
  have pf : ∀ (w : Nat) (cuts : List Nat) (a : Nat), (StrLaws.partsFrom x w a cuts).length = cuts.length + 1 := fun w cuts => by
    induction cuts with
    | nil => intro a; rfl
    | cons d r ih => intro a; show (StrLaws.partsFrom x w (d + w) r).length + 1 = _; rw [ih]; rfl
  rw [StrLaws.partsBetween_eq, pf]
  have := StrLaws.occ_length_le x ⟨#[c]⟩ 0 x.length (x.length + 1)
  omega
def OD (d : D) : Prop := (∃ t, d = .str t ∧ TX t ∧ (sgn t).count 32 ≤ 20) ∨ isT "str" d = false
theorem sz1 (a : D) : ([a] : List D).length ≤ sizeLine := by rw [sizeLine_eq]; show 1 ≤ 16777216; decide
def vl (ds : Array Nat) : Nat := ds.foldl (fun acc d => acc * 10 + d) 0
theorem step_vl {p q : Array Nat × Bool} {c : Nat} (h : PySem.NumText.step 10 p c = some q) : vl q.1 + 1 ≤ (vl p.1 + 1) * 10 := by
  unfold PySem.NumText.step at h
  split at h
  · split at h
    · cases h; show vl p.1 + 1 ≤ _; omega
    · cases h
  · split at h
    · rename_i d _
      split at h
      · rename_i hd
        cases h
        show vl (p.1.push d) + 1 ≤ _
        have : vl (p.1.push d) = vl p.1 * 10 + d := by unfold vl; rw [Array.foldl_push]
        omega
      · cases h
    · cases h
theorem fold_vl : ∀ (cs : List Nat) {p q : Array Nat × Bool}, cs.foldlM (PySem.NumText.step 10) p = some q → vl q.1 + 1 ≤ (vl p.1 + 1) * 10 ^ cs.length
  | [], p, q, h => by
    have e : p = q := Option.some.inj h
    subst e
    simp
  | c :: cs, p, q, h => by
    rw [List.foldlM_cons] at h
    cases hs : PySem.NumText.step 10 p c with
    | none => rw [hs] at h; exact absurd h (by simp)
    | some p' =>
      rw [hs] at h
      have ih := fold_vl cs (p := p') h
      have := Nat.mul_le_mul_right (10 ^ cs.length) (step_vl hs)
      rw [List.length_cons, Nat.pow_succ, Nat.mul_comm (10 ^ cs.length) 10, ← Nat.mul_assoc]
      exact Nat.le_trans ih this
theorem int_bd {x : Str} {n : Int} (h : PySem.intText? x = some n) : n.natAbs < 10 ^ x.length := by
  unfold PySem.intText? at h
  split at h
  · cases hd : PySem.NumText.digits? 10 (PySem.NumText.core (numSeenOf x)) with
    | none => rw [hd] at h; cases h
    | some ds =>
      rw [hd] at h
      simp only at h
      split at h
      · have hv : vl ds + 1 ≤ 10 ^ (PySem.NumText.core (numSeenOf x)).length := by
          unfold PySem.NumText.digits? at hd
          cases hf : (PySem.NumText.core (numSeenOf x)).foldlM (PySem.NumText.step 10) ((#[] : Array Nat), false) with
          | none => rw [hf] at hd; exact absurd hd (by simp)
          | some q =>
            rw [hf] at hd
            have h2 : (if q.2 = true then some q.1 else none) = some ds := hd
            have := fold_vl _ hf
            rw [show vl ((#[] : Array Nat), false).1 = 0 from rfl, Nat.zero_add, Nat.one_mul] at this
            split at h2
            · cases h2; exact this
            · cases h2
        have hl : 10 ^ (PySem.NumText.core (numSeenOf x)).length ≤ 10 ^ x.length := Nat.pow_le_pow_right (by decide) (Nat.le_trans (PySem.NumText.core_length _) (PySem.seen_length x))
        have hn : n.natAbs = vl ds := by
          injection h with h
          rw [← h]
          unfold PySem.NumText.worth
          split
          · rw [Int.natAbs_neg]; rfl
          · rfl
        omega
      · cases h
  · cases h
theorem lg {n : Int} (h : Bd 1000 n) : n.natAbs.log2 < 1920 := by
  unfold Bd at h
  rcases Nat.eq_zero_or_pos n.natAbs with e | e
  · rw [e]; decide
  · rw [Nat.log2_lt (by omega)]
    exact Nat.lt_of_lt_of_le h (Nat.pow_le_pow_right (by decide) (by decide))
theorem bd_tx {t : Str} {n : Int} (h : TX t) (e : PySem.intText? t = some n) : Bd 1000 n := by
  have h1 := int_bd e
  have h2 : 10 ^ t.length ≤ 10 ^ 300 := Nat.pow_le_pow_right (by decide) h.l
  have h3 : 10 ^ 300 ≤ 2 ^ 1000 := by decide
  unfold Bd
  omega
theorem len_tx (n : Int) : (Str.ofString (toString n)).length = (tx n).length := (sgn_len _).symm
theorem len_bd {n : Int} (h : Bd 1000 n) : (tx n).length ≤ 303 := by
  refine tx_len (k := 302) (by decide) ?_
  have h3 : 2 ^ 1000 ≤ 10 ^ 302 := by decide
  unfold Bd at h
  omega
theorem okD_s {x : Str} (h : ∀ c ∈ sgn x, c < 128) : okD (.str x) := ⟨by rw [plD] <;> (intros; contradiction), by
  rw [pyD, SeqAt.shaped, PyData.canLay0, PyData.depth]
  rw [show PyData.strOk x = true from by
    unfold PyData.strOk
    rw [Array.all_eq_true']
    intro c hc
    have := h c (Array.mem_toList_iff.mpr hc)
    exact decide_eq_true (by omega)]
  rfl⟩
theorem tx_asc (n : Int) : ∀ c ∈ tx n, c < 128 := fun c h => by have := tx_mem h; omega
theorem isT_s (x : Str) : isT "str" (.str x) = true := rfl
theorem ex_s (t : Str) (P : Str → Prop) : (∃ x, D.str t = D.str x ∧ P x) = P t := propext ⟨fun ⟨x, e, h⟩ => by injection e with e; rw [e]; exact h, fun h => ⟨t, rfl, h⟩⟩
theorem ex_s1 (t : Str) (P : Str → Prop) : (∃ x, [D.str t] = [D.str x] ∧ P x) = P t := propext ⟨fun ⟨x, e, h⟩ => by injection e with e; injection e with e; rw [e]; exact h, fun h => ⟨t, rfl, h⟩⟩
theorem untag_s (x : Str) : untag (.str x) = .str x := by rw [untag] <;> (intros; contradiction)
theorem wN_int {k : Nat} {l : List Nat} {n : Int} (h : wN k l = some n) : PySem.intText? (mkS l) = some n := by
  unfold wN at h
  split at h
  · exact h
  · cases h
theorem c_colon : (Str.ofString ":") = ⟨#[58]⟩ := by decide +kernel
theorem s_fit {n : Nat} (h : n ≤ 16777216) : n ≤ sizeLine := by rw [sizeLine_eq]; exact h
theorem app_len (x y : Str) : (x ++ y).length = x.length + y.length := by rw [← sgn_len, sgn_app, List.length_append, sgn_len, sgn_len]
theorem nil_app (x : Str) : Str.empty ++ x = x := sgn_inj (by rw [sgn_app]; rfl)
theorem one_len (c : Nat) : (⟨#[c]⟩ : Str).length = 1 := rfl
theorem isT_un (d : D) : isT "str" (untag d) = isT "str" d := by
  cases d <;> first | rfl | (rw [untag] <;> first | rfl | (intros; contradiction))
theorem TX.cut {s : Str} {c : Nat} {p : List Nat × List Nat} (T : TX s) (h : cutC c (sgn s) = some p) : TX (mkS p.1) ∧ TX (mkS p.2) := by
  have e := (cut_some (a := p.1) (b := p.2) h).1
  constructor
  · exact T.sub (fun d hd => by rw [e]; exact List.mem_append_left _ hd) (by rw [e, List.length_append]; omega)
  · exact T.sub (fun d hd => by rw [e]; exact List.mem_append_right _ (List.mem_cons_of_mem _ hd)) (by rw [e, List.length_append, List.length_cons]; omega)
theorem TX.nil : TX (mkS []) := ⟨by rw [mk_len]; decide, by rw [sgn_mk]; simp⟩
theorem sz3' (a b c : D) : ([a, b, c] : List D).length ≤ sizeLine := by rw [sizeLine_eq]; show 3 ≤ 16777216; decide
theorem asc_1 {c : Nat} (h : c < 128) : ∀ d ∈ sgn (⟨#[c]⟩ : Str), d < 128 := fun d hd => by
  have : d = c := by simpa [sgn] using hd
  omega
theorem sz2' (a b : D) : ([a, b] : List D).length ≤ sizeLine := by rw [sizeLine_eq]; show 2 ≤ 16777216; decide
theorem atI_ex {α : Type} {xs : List α} {i : Int} (h0 : 0 ≤ i) (h1 : i < xs.length) : ∃ d, atI xs i = some d ∧ d ∈ xs := by
  have hl : i.toNat < xs.length := by omega
  refine ⟨xs[i.toNat], ?_, List.getElem_mem hl⟩
  unfold atI ixN
  rw [if_pos (by omega), if_pos h1]
  show xs[i.toNat]? = _
  rw [List.getElem?_eq_getElem hl]
theorem c_w : (Str.ofString "w") = ⟨#[119]⟩ := by decide +kernel
theorem c_sp : (Str.ofString " ") = ⟨#[32]⟩ := by decide +kernel
theorem tail_all (t : Str) : Txt.slice t (some 1) none = mkS (sgn t).tail := by
  cases q : sgn t with
  | nil =>
    have e : t.length = 0 := by rw [← sgn_len, q]; rfl
    rw [slice_hi, e]
    exact slice_gt t (a := 1) (b := 0) (by decide)
  | cons c r =>
    have e : (some 1 : Option Int) = some ((([] : List Nat).length : Int) + 1) := rfl
    rw [e, slice_2 (b := r) (c := c) (by rw [q]; rfl)]
    rfl
theorem head_all (t : Str) : Txt.slice t none (some 1) = mkS ((sgn t).take 1) := by
  cases q : sgn t with
  | nil =>
    have e : t.length = 0 := by rw [← sgn_len, q]; rfl
    have h1 : Txt.slice t none (some 1) = t := by
      unfold Txt.slice
      rw [if_pos]
      rw [e]; decide
    rw [h1]
    exact sgn_inj (by rw [q, sgn_mk]; rfl)
  | cons c r =>
    rw [show (some 1 : Option Int) = some (([c] : List Nat).length : Int) from rfl, slice_1 (r := r) (by rw [q]; rfl)]
    rfl
theorem col_hd (t : Str) : (if (Txt.slice t none (some 1)).length = 1 then col (sgn (Txt.slice t none (some 1))) else none) = col (sgn t) := by
  rw [head_all, mk_len, sgn_mk]
  cases sgn t with
  | nil => rfl
  | cons c r => rfl
theorem part_sp (c : Nat) (s : Str) : PD.partD s ⟨#[c]⟩ = .tup [.str (mkS (spL c (sgn s)).1), .str (if (cutC c (sgn s)).isSome = true then ⟨#[c]⟩ else Str.empty), .str (mkS (spL c (sgn s)).2)] := by
  unfold PD.partD spL
  rw [part_c]
  cases cutC c (sgn s) with
  | none => show D.tup [.str s, .str Str.empty, .str Str.empty] = _; rw [mk_sgn]; rfl
  | some p => rfl
theorem TX.sp {s : Str} (c : Nat) (T : TX s) : TX (mkS (spL c (sgn s)).1) ∧ TX (mkS (spL c (sgn s)).2) := by
  unfold spL
  cases q : cutC c (sgn s) with
  | none => exact ⟨by show TX (mkS (sgn s)); rw [mk_sgn]; exact T, TX.nil⟩
  | some p => exact T.cut q
theorem TX.tail {t : Str} (T : TX t) : TX (mkS (sgn t).tail) := T.sub (fun c hc => List.mem_of_mem_tail hc) (by rw [List.length_tail]; omega)
theorem TX.head {t : Str} (T : TX t) : TX (mkS ((sgn t).take 1)) := T.sub (fun c hc => List.mem_of_mem_take hc) (by rw [List.length_take]; omega)
theorem sz4' (a b c d : D) : ([a, b, c, d] : List D).length ≤ sizeLine := by rw [sizeLine_eq]; show 4 ≤ 16777216; decide
theorem up_1 (q : List Nat) : (upL q).1 = (spL 119 q).1 := by
  unfold upL spL
  cases cutC 119 q <;> rfl
theorem empty_w : ((Str.empty : Str) == (⟨#[119]⟩ : Str)) = false := by decide
theorem s_abc : sgn (Str.ofString "abc") = [97, 98, 99] := by decide +kernel
theorem col_abc {c : Nat} {a b : List Nat} (h : cutC c [97, 98, 99] = some (a, b)) : col [c] = some (a.length : Int) := by
  by_cases e1 : c = 97
  · subst e1
    rw [show cutC 97 [97, 98, 99] = some ([], [98, 99]) from by decide] at h
    cases h; rfl
  · by_cases e2 : c = 98
    · subst e2
      rw [show cutC 98 [97, 98, 99] = some ([97], [99]) from by decide] at h
      cases h; rfl
    · by_cases e3 : c = 99
      · subst e3
        rw [show cutC 99 [97, 98, 99] = some ([97, 98], []) from by decide] at h
        cases h; rfl
      · rw [cut_not (by simp; omega)] at h
        cases h
theorem col_no {c : Nat} (h : cutC c [97, 98, 99] = none) : col [c] = none := by
  have := cut_no h
  simp at this
  unfold col
  split
  · rename_i z; simp at z; omega
  · rename_i z; simp at z; omega
  · rename_i z; simp at z; omega
  · rfl
theorem one_of {t : Str} (h : t.length = 1) : ∃ c, t = ⟨#[c]⟩ := by
  have h1 : (sgn t).length = 1 := by rw [sgn_len]; exact h
  cases q : sgn t with
  | nil => rw [q] at h1; cases h1
  | cons c r =>
    cases r with
    | nil => exact ⟨c, sgn_inj q⟩
    | cons d r => rw [q] at h1; simp at h1
theorem join_count {c : Nat} : ∀ {ws : List Str}, ws ≠ [] → (∀ p ∈ ws, c ∉ sgn p) → (sgn (Str.join ⟨#[c]⟩ ws)).count c + 1 = ws.length
  | [], h, _ => absurd rfl h
  | [a], _, h => by
    show (sgn a).count c + 1 = 1
    rw [List.count_eq_zero.mpr (h a List.mem_cons_self)]
  | a :: b :: r, _, h => by
    rw [sgn_join2, List.count_append, List.count_cons_self, List.count_eq_zero.mpr (h a List.mem_cons_self)]
    have := join_count (c := c) (ws := b :: r) (by simp) fun p hp => h p (List.mem_cons_of_mem _ hp)
    rw [List.length_cons]
    omega
theorem split_count (x : Str) (c : Nat) : (Txt.split x ⟨#[c]⟩).length = (sgn x).count c + 1 := by
  have := join_count (split_ne x ⟨#[c]⟩) (StrLaws.split_free x c)
  rw [StrLaws.join_split] at this
  exact this.symm
def ws (t : Str) : List Str := Txt.split t ⟨#[32]⟩
def okW (x : Str) : Bool := (rdL (sgn x)).isSome
def gW (x : Str) : Dot := (rdL (sgn x)).getD (0, 0, 0, 0)
structure TZ (t : Str) : Prop where
  l : t.length ≤ 5000
  a : ∀ c ∈ sgn t, c < 128
  w : ∀ x ∈ ws t, TX x
theorem TX.z {t : Str} (T : TX t) : TZ t := ⟨by have := T.l; omega, T.a, fun x h => T.word h⟩
theorem okW_t {x : Str} (h : okW x = true) : rdL (sgn x) = some (gW x) := by
  unfold okW at h; unfold gW
  cases q : rdL (sgn x) with
  | none => rw [q] at h; cases h
  | some d => rfl
theorem okW_f {x : Str} (h : okW x = false) : rdL (sgn x) = none := by
  unfold okW at h
  cases q : rdL (sgn x) with
  | none => rfl
  | some d => rw [q] at h; cases h
theorem ws_len {t : Str} (T : TZ t) : (ws t).length ≤ 5001 := by
  unfold ws
  rw [split_count]
  have := List.count_le_length (a := 32) (l := sgn t)
  have := T.l
  rw [sgn_len] at *
  omega
theorem all_no {t x : Str} (hx : x ∈ ws t) (o : okW x = false) : ¬ (ws t).all okW = true := fun z => by
  have := List.all_eq_true.mp z x hx
  rw [o] at this; cases this
theorem e_nil (t : Str) : (t == Str.ofString "") = decide (sgn t = []) := by
  rw [Bool.eq_iff_iff, beq_iff_eq, decide_eq_true_eq]
  exact ⟨fun e => by rw [e]; decide +kernel, fun e => sgn_inj (by rw [e]; decide +kernel)⟩
theorem tk {α : Type} {xs : List α} {j : Nat} {x : α} (h : xs[j]? = some x) : xs.take (j + 1) = xs.take j ++ [x] := by rw [List.take_succ, h]; rfl
theorem at0 {α : Type} (a : α) (r : List α) : atI (a :: r) 0 = some a := by
  unfold atI ixN
  rw [if_pos (by decide), if_pos (by rw [List.length_cons]; omega)]
  rfl
structure DOk (d : Dot) : Prop where
  x : d.1.natAbs < 1000000000000
  y : d.2.1.natAbs < 1000000000000
  c0 : 0 ≤ d.2.2.1
  c3 : d.2.2.1 < 3
  w1 : 1 ≤ d.2.2.2
  w9 : d.2.2.2 < 1000000000
def lt (c : Int) : Nat := 97 + c.toNat
def txD (d : Dot) : List Nat := lt d.2.2.1 :: (tx d.1 ++ 58 :: (tx d.2.1 ++ if d.2.2.2 = 1 then [] else 119 :: tx d.2.2.2))
theorem p12 : ((10 : Int) ^ (12 : Int).toNat) = 1000000000000 := by decide
theorem cp12 : CPow 10 12 := ⟨by decide, by decide, by decide⟩
theorem n12 : (10 : Nat) ^ 12 = 1000000000000 := by decide
theorem n9 : (10 : Nat) ^ 9 = 1000000000 := by decide
theorem bd_12 {n : Int} (h : n.natAbs < 1000000000000) : Bd 1000 n := by
  have e : (1000000000000 : Nat) ≤ 2 ^ 60 := by decide
  exact Bd.mono (m := 60) (Nat.lt_of_lt_of_le h e) (by decide)
theorem col_lt {c : Int} (h0 : 0 ≤ c) (h3 : c < 3) (r : List Nat) : col (lt c :: r) = some c := by
  rcases (show c = 0 ∨ c = 1 ∨ c = 2 by omega) with rfl | rfl | rfl <;> rfl
theorem rd_tx {d : Dot} (h : DOk d) : rdL (txD d) = some d := by
  obtain ⟨x, y, c, w⟩ := d
  obtain ⟨hx, hy, h0, h3, h1, h9⟩ := h
  dsimp only at hx hy h0 h3 h1 h9
  have hc : col (txD (x, y, c, w)) = some c := col_lt h0 h3 _
  have w1 : wN 12 (tx x) = some x := wN_tx (by decide) (by decide) (by rw [n12]; exact hx)
  have w2 : wN 12 (tx y) = some y := wN_tx (by decide) (by decide) (by rw [n12]; exact hy)
  by_cases e : w = 1
  · subst e
    have h8 : cutC 58 (txD (x, y, c, 1)).tail = some (tx x, tx y) := by
      show cutC 58 (tx x ++ 58 :: (tx y ++ [])) = _
      rw [List.append_nil]
      exact cut_at (tx_58 x)
    rw [rd_0 h8 w1 hc (cut_not (tx_119 y)), w2]
  · have h8 : cutC 58 (txD (x, y, c, w)).tail = some (tx x, tx y ++ 119 :: tx w) := by
      show cutC 58 (tx x ++ 58 :: (tx y ++ if w = 1 then [] else 119 :: tx w)) = _
      rw [if_neg e]
      exact cut_at (tx_58 x)
    have w3 : LW.w2 9 (tx w) = some w := by
      unfold LW.w2
      rw [wN_tx (by decide) (by decide) (by rw [n9]; omega)]
      dsimp only
      rw [if_neg (by omega)]
    rw [rd_w h8 w1 hc (cut_at (tx_119 y)), w2, w3]
theorem txD_len {d : Dot} (h : DOk d) : (txD d).length ≤ 40 := by
  obtain ⟨hx, hy, h0, h3, h1, h9⟩ := h
  have a := tx_len (n := d.1) (k := 12) (by decide) (by rw [n12]; exact hx)
  have b := tx_len (n := d.2.1) (k := 12) (by decide) (by rw [n12]; exact hy)
  have c := tx_len (n := d.2.2.2) (k := 9) (by decide) (by rw [n9]; omega)
  unfold txD
  rw [List.length_cons, List.length_append, List.length_cons, List.length_append]
  split
  · rw [List.length_nil]; omega
  · rw [List.length_cons]; omega
theorem txD_mem {d : Dot} {c : Nat} (h0 : 0 ≤ d.2.2.1) (h3 : d.2.2.1 < 3) (h : c ∈ txD d) : 32 < c ∧ c < 128 := by
  unfold txD lt at h
  rcases List.mem_cons.mp h with z | z
  · omega
  rcases List.mem_append.mp z with z | z
  · have := tx_mem z; omega
  rcases List.mem_cons.mp z with z | z
  · omega
  rcases List.mem_append.mp z with z | z
  · have := tx_mem z; omega
  split at z
  · cases z
  · rcases List.mem_cons.mp z with z | z
    · omega
    · have := tx_mem z; omega
theorem txD_pos (d : Dot) : 0 < (txD d).length := by unfold txD; rw [List.length_cons]; omega
theorem word_1 (d : Dot) (h : d.2.2.2 = 1) : (⟨#[lt d.2.2.1]⟩ : Str) ++ Str.ofString (toString d.1) ++ ⟨#[58]⟩ ++ Str.ofString (toString d.2.1) = mkS (txD d) := sgn_inj (by
  rw [sgn_app, sgn_app, sgn_app, sgn_mk]; unfold txD tx; rw [if_pos h]; simp [sgn])
theorem word_2 (d : Dot) (h : ¬ d.2.2.2 = 1) : (⟨#[lt d.2.2.1]⟩ : Str) ++ Str.ofString (toString d.1) ++ ⟨#[58]⟩ ++ Str.ofString (toString d.2.1) ++ ⟨#[119]⟩ ++ Str.ofString (toString d.2.2.2) = mkS (txD d) := sgn_inj (by
  rw [sgn_app, sgn_app, sgn_app, sgn_app, sgn_app, sgn_mk]; unfold txD tx; rw [if_neg h]; simp [sgn])
theorem at_abc {c : Int} (h0 : 0 ≤ c) (h3 : c < 3) : atI (Str.ofString "abc").cps.toList c = some (lt c) := by
  show atI (sgn (Str.ofString "abc")) c = some (lt c)
  rw [s_abc]
  rcases (show c = 0 ∨ c = 1 ∨ c = 2 by omega) with rfl | rfl | rfl <;> decide
theorem zipSelf {α : Type} (f : α → D) : ∀ xs : List α, List.zipWith (fun x y => D.tup [x, y]) (xs.map f) (xs.map f) = xs.map fun x => .tup [f x, f x]
  | [] => rfl
  | x :: r => by rw [List.map_cons, List.zipWith_cons_cons, zipSelf f r]; rfl
def jn (ds : List Dot) : Str := Str.join ⟨#[32]⟩ (ds.map fun d => mkS (txD d))
theorem no_sp {d : Dot} (h : DOk d) : 32 ∉ sgn (mkS (txD d)) := fun z => by
  rw [sgn_mk] at z
  have := txD_mem h.c0 h.c3 z
  omega
theorem ws_jn {ds : List Dot} (h : ∀ d ∈ ds, DOk d) (h0 : ds ≠ []) : ws (jn ds) = ds.map fun d => mkS (txD d) :=
  split_of (by simpa using h0) fun p hp => by
    obtain ⟨d, hd, rfl⟩ := List.mem_map.mp hp
    exact no_sp (h d hd)
theorem gW_tx {d : Dot} (h : DOk d) : gW (mkS (txD d)) = d := by unfold gW; rw [sgn_mk, rd_tx h]; rfl
theorem okW_tx {d : Dot} (h : DOk d) : okW (mkS (txD d)) = true := by unfold okW; rw [sgn_mk, rd_tx h]; rfl
theorem TX_tx {d : Dot} (h : DOk d) : TX (mkS (txD d)) := ⟨by rw [mk_len]; have := txD_len h; omega, fun c hc => by rw [sgn_mk] at hc; exact (txD_mem h.c0 h.c3 hc).2⟩
theorem jn_len : ∀ {ds : List Dot}, (∀ d ∈ ds, DOk d) → (jn ds).length ≤ 41 * ds.length
  | [], _ => by decide
  | [d], h => by
    have := txD_len (h d List.mem_cons_self)
    show (mkS (txD d)).length ≤ _
    rw [mk_len]
    simp; omega
  | d :: e :: r, h => by
    have := txD_len (h d List.mem_cons_self)
    have ih := jn_len (ds := e :: r) fun x hx => h x (List.mem_cons_of_mem _ hx)
    have q := sgn_join2 32 (mkS (txD d)) (mkS (txD e)) (r.map fun d => mkS (txD d))
    have q' := congrArg List.length q
    rw [sgn_len, List.length_append, List.length_cons, sgn_len, sgn_len, mk_len] at q'
    show (Str.join ⟨#[32]⟩ (mkS (txD d) :: mkS (txD e) :: r.map fun d => mkS (txD d))).length ≤ _
    rw [q']
    have ih' : (Str.join ⟨#[32]⟩ (mkS (txD e) :: r.map fun d => mkS (txD d))).length ≤ 41 * (e :: r).length := ih
    simp only [List.length_cons] at ih' ⊢
    omega
theorem jn_asc {ds : List Dot} (h : ∀ d ∈ ds, DOk d) : ∀ c ∈ sgn (jn ds), c < 128 := fun c hc => by
  rcases join_of hc with z | ⟨p, hp, z⟩
  · omega
  · obtain ⟨d, hd, rfl⟩ := List.mem_map.mp hp
    exact (TX_tx (h d hd)).a c z
theorem jn_TZ {ds : List Dot} (h : ∀ d ∈ ds, DOk d) (h0 : ds ≠ []) (hl : ds.length ≤ 100) : TZ (jn ds) := ⟨by have := jn_len h; omega, jn_asc h, fun x hx => by
  rw [ws_jn h h0] at hx
  obtain ⟨d, hd, rfl⟩ := List.mem_map.mp hx
  exact TX_tx (h d hd)⟩
theorem jn_pos {ds : List Dot} (h0 : ds ≠ []) : 0 < (jn ds).length := by
  match ds, h0 with
  | [d], _ => show 0 < (mkS (txD d)).length; rw [mk_len]; exact txD_pos d
  | d :: e :: r, _ =>
    have q := sgn_join2 32 (mkS (txD d)) (mkS (txD e)) (r.map fun d => mkS (txD d))
    have q' := congrArg List.length q
    rw [sgn_len, List.length_append, List.length_cons] at q'
    show 0 < (Str.join ⟨#[32]⟩ (mkS (txD d) :: mkS (txD e) :: r.map fun d => mkS (txD d))).length
    omega
theorem jn_ne {ds : List Dot} (h0 : ds ≠ []) : ¬ sgn (jn ds) = [] := fun z => by
  have := jn_pos h0
  rw [← sgn_len, z] at this
  cases this
theorem jn_all {ds : List Dot} (h : ∀ d ∈ ds, DOk d) (h0 : ds ≠ []) : (ws (jn ds)).all okW = true := by
  rw [ws_jn h h0, List.all_map, List.all_eq_true]
  exact fun d hd => okW_tx (h d hd)
theorem jn_map {ds : List Dot} (h : ∀ d ∈ ds, DOk d) (h0 : ds ≠ []) : (ws (jn ds)).map gW = ds := by
  rw [ws_jn h h0, List.map_map]
  conv => rhs; rw [← List.map_id ds]
  exact List.map_congr_left fun d hd => gW_tx (h d hd)
theorem pk2 (a b : Int) {i : Int} (h0 : 0 ≤ i) (h1 : i < 2) : ∃ z : Int, atI [D.int a, D.int b] i = some (.int z) ∧ (z = a ∨ z = b) := by
  obtain ⟨d, e, h⟩ := atI_ex (xs := [D.int a, D.int b]) h0 h1
  simp only [List.mem_cons, List.not_mem_nil, or_false] at h
  rcases h with z | z <;> subst z
  · exact ⟨a, e, .inl rfl⟩
  · exact ⟨b, e, .inr rfl⟩
theorem pk3 (a b c : Int) {i : Int} (h0 : 0 ≤ i) (h1 : i < 3) : ∃ z : Int, atI [D.int a, D.int b, D.int c] i = some (.int z) ∧ (z = a ∨ z = b ∨ z = c) := by
  obtain ⟨d, e, h⟩ := atI_ex (xs := [D.int a, D.int b, D.int c]) h0 h1
  simp only [List.mem_cons, List.not_mem_nil, or_false] at h
  rcases h with z | z | z <;> subst z
  · exact ⟨a, e, .inl rfl⟩
  · exact ⟨b, e, .inr (.inl rfl)⟩
  · exact ⟨c, e, .inr (.inr rfl)⟩
theorem pk4 {α : Type} (a b c d e : α) : atI [a, b, c, d, e] 4 = some e := by
  unfold atI ixN
  rw [if_pos (by decide), if_pos (by simp)]
  rfl
theorem join_s (x : Str) (ys : List Str) : Txt.join x ys = Str.join x ys := StrLaws.glued_eq_join x ys
theorem OD.un {d : D} (h : OD d) : OD (untag d) := by
  rcases h with ⟨t, rfl, T⟩ | e
  · rw [untag_s]; exact .inl ⟨t, rfl, T⟩
  · exact .inr (by rw [isT_un]; exact e)
theorem fm {a b : Int} (hb : 0 < b) : 0 ≤ a.fmod b ∧ a.fmod b < b := ⟨Int.fmod_nonneg_of_pos a hb, Int.fmod_lt_of_pos a hb⟩
def doD (d : Dot) : D := .tup [.int d.1, .int d.2.1, .int d.2.2.1, .int d.2.2.2]
theorem untags_do : ∀ ds : List Dot, untags (ds.map doD) = ds.map doD
  | [] => by rw [List.map_nil, untags]
  | d :: r => by
    rw [List.map_cons, untags, untags_do r]
    rfl
theorem doD_inj {a b : Dot} (h : doD a = doD b) : a = b := by
  unfold doD at h
  simp only [D.tup.injEq, List.cons.injEq, D.int.injEq, and_true] at h
  exact Prod.ext h.1 (Prod.ext h.2.1 (Prod.ext h.2.2.1 h.2.2.2))
structure WO (w : Str) : Prop where
  l : w.length ≤ 40
  n : 32 ∉ sgn w
  a : ∀ c ∈ sgn w, c < 128
def jw (W : List Str) : Str := Str.join ⟨#[32]⟩ W
theorem jw_len : ∀ {W : List Str}, (∀ w ∈ W, WO w) → (jw W).length ≤ 41 * W.length
  | [], _ => by decide
  | [d], h => by
    have := (h d List.mem_cons_self).l
    show d.length ≤ 41 * 1
    omega
  | d :: e :: r, h => by
    have := (h d List.mem_cons_self).l
    have ih := jw_len (W := e :: r) fun x hx => h x (List.mem_cons_of_mem _ hx)
    have q := congrArg List.length (sgn_join2 32 d e r)
    rw [sgn_len, List.length_append, List.length_cons, sgn_len, sgn_len] at q
    unfold jw at ih ⊢
    rw [q]
    simp only [List.length_cons] at ih ⊢
    omega
theorem jw_ws {W : List Str} (h : ∀ w ∈ W, WO w) (h0 : W ≠ []) : ws (jw W) = W := split_of h0 fun p hp => (h p hp).n
theorem jw_TZ {W : List Str} (h : ∀ w ∈ W, WO w) (h0 : W ≠ []) (hl : W.length ≤ 100) : TZ (jw W) := ⟨by have := jw_len h; omega, fun c hc => by
  rcases join_of hc with z | ⟨p, hp, z⟩
  · omega
  · exact (h p hp).a c z, fun x hx => by
  rw [jw_ws h h0] at hx
  exact ⟨by have := (h x hx).l; omega, (h x hx).a⟩⟩
theorem jw_ne {W : List Str} (h : 2 ≤ W.length) : sgn (jw W) ≠ [] := fun z => by
  match W, h with
  | d :: e :: r, _ =>
    have q := sgn_join2 32 d e r
    rw [show Str.join ⟨#[32]⟩ (d :: e :: r) = jw (d :: e :: r) from rfl, z] at q
    simp at q
theorem WO_tx {d : Dot} (h : DOk d) : WO (mkS (txD d)) := ⟨by rw [mk_len]; exact txD_len h, no_sp h, (TX_tx h).a⟩
theorem cut_hi {α : Type} (f : α → D) (xs : List α) (k : Nat) : PD.cutD (xs.map f) none (some (k : Int)) = (xs.take k).map f := by
  unfold PD.cutD
  rw [HT.sIx_nat, HT.sIx_none, List.drop_zero, Nat.sub_zero, ← List.map_take, List.length_map]
  congr 1
  rcases Nat.le_total k xs.length with z | z
  · rw [Nat.min_eq_left z]
  · rw [Nat.min_eq_right z, List.take_of_length_le z, List.take_length]
theorem cut_31 {α : Type} (f : α → D) (xs : List α) : ∃ ys : List α, ys.length ≤ 30 ∧ PD.cutD (xs.map f) (some 1) (some 31) = ys.map f := by
  unfold PD.cutD
  rw [← List.map_drop, ← List.map_take]
  refine ⟨_, ?_, rfl⟩
  rw [List.length_take, List.length_drop, show (31 : Int) = ((31 : Nat) : Int) from rfl, show (1 : Int) = ((1 : Nat) : Int) from rfl, HT.sIx_nat, HT.sIx_nat, List.length_map]
  omega
def badW : List Str := [Str.ofString "d0:0", Str.ofString "a0:00", Str.ofString "", Str.ofString "b1:1w1"]
theorem bad_no : badW.all (fun w => !okW w && decide (w.length ≤ 40) && !(sgn w).contains 32 && (sgn w).all (· < 128)) = true := by decide +kernel
theorem sgn1 (c : Nat) : sgn (⟨#[c]⟩ : Str) = [c] := rfl
theorem wd1 (d : Dot) (h : d.2.2.2 = 1) : (⟨#[lt d.2.2.1]⟩ : Str) ++ mkS (tx d.1 ++ 58 :: tx d.2.1) = mkS (txD d) := sgn_inj (by
  rw [sgn_app, sgn_mk, sgn_mk, sgn1]; unfold txD; rw [if_pos h]; simp)
theorem wd2 (d : Dot) (h : ¬ d.2.2.2 = 1) : Str.empty ++ ((⟨#[lt d.2.2.1]⟩ : Str) ++ mkS (tx d.1 ++ 58 :: tx d.2.1)) ++ ⟨#[119]⟩ ++ Str.ofString (toString d.2.2.2) = mkS (txD d) := sgn_inj (by
  rw [sgn_app, sgn_app, sgn_app, sgn_app, sgn_mk, sgn_mk, sgn1, sgn1]; unfold txD; rw [if_neg h]; show [] ++ _ ++ _ ++ tx d.2.2.2 = _; simp)
theorem jw_sum : ∀ {W : List Str}, (∀ w ∈ W, WO w) → (W.map (·.length)).sum ≤ 40 * W.length
  | [], _ => Nat.zero_le _
  | w :: r, h => by
    have a := (h w List.mem_cons_self).l
    have b := jw_sum (W := r) fun x hx => h x (List.mem_cons_of_mem _ hx)
    rw [List.map_cons, List.sum_cons, List.length_cons]
    omega
theorem jn_sum {ds : List Dot} (h : ∀ d ∈ ds, DOk d) : ((ds.map fun d => mkS (txD d)).map (·.length)).sum ≤ 40 * (ds.map fun d => mkS (txD d)).length := jw_sum fun w hw => by
  obtain ⟨d, hd, rfl⟩ := List.mem_map.mp hw
  exact WO_tx (h d hd)
def rdsL (t : Str) : Option (List Dot) := if sgn t = [] then some [] else if (ws t).all okW = true then some ((ws t).map gW) else none
theorem rds_jn {ds : List Dot} (h : ∀ d ∈ ds, DOk d) : rdsL (jn ds) = some ds := by
  unfold rdsL
  by_cases h0 : ds = []
  · rw [h0, if_pos (by rfl)]
  · rw [if_neg (jn_ne h0), if_pos (jn_all h h0), jn_map h h0]
theorem jn_TZ0 {ds : List Dot} (h : ∀ d ∈ ds, DOk d) (hl : ds.length ≤ 100) : TZ (jn ds) := by
  by_cases h0 : ds = []
  · rw [h0]
    exact TX.z ⟨by decide, fun c hc => by cases hc⟩
  · exact jn_TZ h h0 hl
theorem rds_bad {W : List Str} {w : Str} (h : ∀ w ∈ W, WO w) (h2 : 2 ≤ W.length) (hw : w ∈ W) (hb : okW w = false) : rdsL (jw W) = none := by
  have h0 : W ≠ [] := fun z => by rw [z] at h2; cases h2
  have e := jw_ws h h0
  unfold rdsL
  rw [if_neg (jw_ne h2), if_neg]
  exact all_no (by rw [e]; exact hw) hb
theorem rds_if {t : Str} {Q : D → Prop} {A B : Prop} (h : match rdsL t with | some r => (if 30 < r.length then A else Q (.lst true (r.map doD))) | none => B) :
    if sgn t = [] then Q (.lst true []) else if (ws t).all okW = true then (if 30 < (ws t).length then A else Q (.lst true ((ws t).map fun w => doD (gW w)))) else B := by
  unfold rdsL at h
  by_cases e : sgn t = []
  · rw [if_pos e] at h ⊢
    exact h
  · rw [if_neg e] at h ⊢
    by_cases o : (ws t).all okW = true
    · rw [if_pos o] at h ⊢
      dsimp only at h
      rw [List.length_map, List.map_map] at h
      exact h
    · rw [if_neg o] at h ⊢
      exact h
theorem comp_dem {α : Type} {wi : DA} {js : List Nat} {te : DE} {ρ : Ro} {Q : D → Prop} (Px : List D → Prop) (P : α → Prop) (g : α → D) (hw : ∀ R : List D → Prop, (∀ xs, Px xs → R xs) → wi ρ R) (hz : ∀ xs, Px xs → xs.length ≤ 16777216)
    (he : ∀ xs, Px xs → ∀ x ∈ xs, ∀ K : D → Prop, (∀ a, P a → K (g a)) → te (some (.val x) :: js.map (getV ρ)) K) (q : ∀ xs, Px xs → ∀ as : List α, as.length = xs.length → (∀ a ∈ as, P a) → Q (.lst true (as.map g))) : dComp wi js dAll te ρ Q := by
  refine hw _ fun xs hx => ⟨s_fit (hz xs hx), fun j out => ∃ as : List α, as.length = j ∧ (∀ a ∈ as, P a) ∧ out = as.map g, ⟨[], rfl, by simp, rfl⟩, fun j d out hd ho => ?_, fun out ho => ?_⟩
  · obtain ⟨as, hj, hp, rfl⟩ := ho
    refine he xs hx d (List.mem_of_getElem? hd) _ fun a ha => ⟨as ++ [a], by rw [List.length_append, hj]; rfl, fun b hb => ?_, by rw [List.map_append]; rfl⟩
    rcases List.mem_append.mp hb with z | z
    · exact hp b z
    · rw [show b = a by simpa using z]; exact ha
  · obtain ⟨as, hj, hp, rfl⟩ := ho
    exact q xs hx as hj hp
theorem untag_do (ds : List Dot) : untag (D.lst true (ds.map doD)) = D.lst false (ds.map doD) := by rw [untag, untags_do]
theorem nol_do : ∀ ds : List Dot, nolDs (ds.map doD) = true
  | [] => by rw [List.map_nil, nolDs]
  | d :: r => by
    rw [List.map_cons, nolDs, nol_do r]
    rfl
theorem okNs_do : ∀ ds : List Dot, OkNs 1 (ds.map doD)
  | [] => .nil 1
  | d :: r => .cons (OkN.tup (.cons (.int 0 _) (.cons (.int 0 _) (.cons (.int 0 _) (.cons (.int 0 _) (.nil 0)))))) (okNs_do r)
theorem ix_lt {n : Nat} {i : Int} (h0 : 0 ≤ i) (h1 : i < n) : ixN n i = some i.toNat := by unfold ixN; rw [if_pos h0, if_pos h1]
def Pn (a b : Nat) (xs : List D) : Prop := a ≤ xs.length ∧ xs.length ≤ b ∧ ∀ x ∈ xs, ∃ i : Int, x = .int i
theorem Pn_rng {v : Int} : Pn 31 40 (rngD 0 1 (rngN 0 (31 + v.fmod 10) 1)) := by
  have h := fm (a := v) (b := 10) (by decide)
  refine ⟨?_, ?_, fun x hx => ?_⟩
  · rw [rngD_len]; unfold rngN Builtin.Range.rangeSize; rw [if_pos (by decide)]; split <;> omega
  · rw [rngD_len]; unfold rngN Builtin.Range.rangeSize; rw [if_pos (by decide)]; split <;> omega
  · obtain ⟨i, _, e⟩ := List.mem_map.mp hx; exact ⟨_, e.symm⟩
theorem Pn_cut (ns : List Int) : Pn 0 30 (PD.cutD (ns.map D.int) (some 1) (some 31)) := by
  obtain ⟨ys, h, e⟩ := cut_31 D.int ns
  rw [e]
  refine ⟨Nat.zero_le _, by rw [List.length_map]; exact h, fun x hx => ?_⟩
  obtain ⟨i, _, e⟩ := List.mem_map.mp hx; exact ⟨_, e.symm⟩
theorem bad_at {i : Int} (h0 : 0 ≤ i) (h1 : i < 4) : ∃ w : Str, atI [D.str (Str.ofString "d0:0"), D.str (Str.ofString "a0:00"), D.str (Str.ofString ""), D.str (Str.ofString "b1:1w1")] i = some (D.str w) ∧ okW w = false ∧ WO w := by
  obtain ⟨d, e, hm⟩ := atI_ex (xs := badW.map D.str) h0 h1
  obtain ⟨w, hw, rfl⟩ := List.mem_map.mp hm
  have b := List.all_eq_true.mp bad_no w hw
  simp only [Bool.and_eq_true, Bool.not_eq_true', decide_eq_true_eq, List.all_eq_true] at b
  exact ⟨w, e, b.1.1.1, ⟨b.1.1.2, fun z => (by have := List.contains_iff_mem.mpr z; rw [b.1.2] at this; cases this), b.2⟩⟩
theorem spot_eq (x y : Int) : Str.ofString (toString x) ++ (⟨#[58]⟩ : Str) ++ Str.ofString (toString y) = mkS (tx x ++ 58 :: tx y) := sgn_inj (by rw [sgn_app, sgn_app, sgn_mk]; show tx x ++ [58] ++ tx y = _; simp)
theorem doD_inj_i {a b : Dot} : doD a = doD b ↔ a = b := ⟨doD_inj, fun e => by rw [e]⟩
theorem str_inj_i {a b : Str} : D.str a = D.str b ↔ a = b := ⟨str_inj, fun e => by rw [e]⟩
theorem map_int_i {a b : List Int} : a.map D.int = b.map D.int ↔ a = b := ⟨map_int_inj, fun e => by rw [e]⟩
local macro_rules | `(tactic| walk_at "p") => `(tactic| (apply propext; constructor; (intro h; repeat (first | (obtain ⟨e, h⟩ := h; revert e; simp only [T3, List.cons.injEq, D.int.injEq, D.tup.injEq, D.lst.injEq, and_true, true_and, and_imp, map_int_i, doD_inj_i, str_inj_i]; intros; subst_vars; assumption) | obtain ⟨_, h⟩ := h)); (intro q; repeat (first | exact ⟨rfl, q⟩ | apply Exists.intro))))
section
variable (κ : Cls) (Q : D → Prop) (Ed : Value → Prop)
abbrev rp_check_text (d : D) : Prop := (isT "str" d = true ∧ Q .non) ∨ (isT "str" d = false ∧ Ed (.ref κ.NoText))
def sp_check_text (κ : Cls) : DSp := fun ds Q Ed => ∃ (d : D), ds = [d] ∧ rp_check_text κ Q Ed d
theorem sp_check_text_eq (d : D) : sp_check_text κ [d] Q Ed = rp_check_text κ Q Ed d := by walk_at "p"
abbrev rp_whole_of (t : Str) : Prop := t.length ≤ 640 ∧ (∀ c ∈ t.cps.toList, c < 256) ∧ match PySem.intText? t with | some n => Q (.int n) | none => Ed (.ref κ.NoText)
def sp_whole_of (κ : Cls) : DSp := fun ds Q Ed => ∃ (t : Str), ds = [D.str t] ∧ rp_whole_of κ Q Ed t
theorem sp_whole_of_eq (t : Str) : sp_whole_of κ [D.str t] Q Ed = rp_whole_of κ Q Ed t := by walk_at "p"
abbrev rp_read_whole (t : Str) (k : Int) : Prop := TX t ∧ ∃ m : Nat, k = m ∧ 1 ≤ m ∧ m ≤ 1000 ∧ match wN m (sgn t) with | some n => Q (.int n) | none => Ed (.ref κ.NoText)
def sp_read_whole (κ : Cls) : DSp := fun ds Q Ed => ∃ (t : Str) (k : Int), ds = [D.str t, .int k] ∧ rp_read_whole κ Q Ed t k
theorem sp_read_whole_eq (t : Str) (k : Int) : sp_read_whole κ [D.str t, .int k] Q Ed = rp_read_whole κ Q Ed t k := by walk_at "p"
abbrev rp_read_colour (t : Str) : Prop := TX t ∧ match (if t.length = 1 then col (sgn t) else none) with | some c => Q (.int c) | none => Ed (.ref κ.NoText)
def sp_read_colour (κ : Cls) : DSp := fun ds Q Ed => ∃ (t : Str), ds = [D.str t] ∧ rp_read_colour κ Q Ed t
theorem sp_read_colour_eq (t : Str) : sp_read_colour κ [D.str t] Q Ed = rp_read_colour κ Q Ed t := by walk_at "p"
abbrev rp_read_from_two (t : Str) (k : Int) : Prop := TX t ∧ ∃ m : Nat, k = m ∧ 1 ≤ m ∧ m ≤ 1000 ∧ match w2 m (sgn t) with | some n => Q (.int n) | none => Ed (.ref κ.NoText)
def sp_read_from_two (κ : Cls) : DSp := fun ds Q Ed => ∃ (t : Str) (k : Int), ds = [D.str t, .int k] ∧ rp_read_from_two κ Q Ed t k
theorem sp_read_from_two_eq (t : Str) (k : Int) : sp_read_from_two κ [D.str t, .int k] Q Ed = rp_read_from_two κ Q Ed t k := by walk_at "p"
abbrev rp_read_dot (t : Str) : Prop := TX t ∧ match rdL (sgn t) with | some d => Q (doD d) | none => Ed (.ref κ.NoText)
def sp_read_dot (κ : Cls) : DSp := fun ds Q Ed => ∃ (t : Str), ds = [D.str t] ∧ rp_read_dot κ Q Ed t
theorem sp_read_dot_eq (t : Str) : sp_read_dot κ [D.str t] Q Ed = rp_read_dot κ Q Ed t := by walk_at "p"
abbrev rp_show_spot (x : Int) (y : Int) : Prop := Bd 1000 x ∧ Bd 1000 y ∧ Q (.str (mkS (tx x ++ 58 :: tx y)))
def sp_show_spot (κ : Cls) : DSp := fun ds Q Ed => ∃ (x : Int) (y : Int), ds = [.int x, .int y] ∧ rp_show_spot Q x y
theorem sp_show_spot_eq (x : Int) (y : Int) : sp_show_spot κ [.int x, .int y] Q Ed = rp_show_spot Q x y := by walk_at "p"
abbrev rp_show_dot (d : Dot) : Prop := DOk d ∧ Q (.str (mkS (txD d)))
def sp_show_dot (κ : Cls) : DSp := fun ds Q Ed => ∃ (d : Dot), ds = [doD d] ∧ rp_show_dot Q d
theorem sp_show_dot_eq (d : Dot) : sp_show_dot κ [doD d] Q Ed = rp_show_dot Q d := by walk_at "p"
abbrev rp_read_dots (d : D) : Prop := (∃ t, d = .str t ∧ TZ t ∧ match rdsL t with | some r => (if 30 < r.length then Ed (.ref κ.NoDots) else Q (.lst true (r.map doD))) | none => Ed (.ref κ.NoText)) ∨ (isT "str" d = false ∧ Ed (.ref κ.NoText))
def sp_read_dots (κ : Cls) : DSp := fun ds Q Ed => ∃ (d : D), ds = [d] ∧ rp_read_dots κ Q Ed d
theorem sp_read_dots_eq (d : D) : sp_read_dots κ [d] Q Ed = rp_read_dots κ Q Ed d := by walk_at "p"
abbrev rp_show_dots (d : D) : Prop := ∃ ds : List Dot, d = .lst false (ds.map doD) ∧ (∀ x ∈ ds, DOk x) ∧ ds.length ≤ 100 ∧ Q (.str (jn ds))
def sp_show_dots (κ : Cls) : DSp := fun ds Q Ed => ∃ (d : D), ds = [d] ∧ rp_show_dots Q d
theorem sp_show_dots_eq (d : D) : sp_show_dots κ [d] Q Ed = rp_show_dots Q d := by walk_at "p"
abbrev rp_law_whole (a : Int) : Prop := Q (.bl true)
def sp_law_whole (κ : Cls) : DSp := fun ds Q Ed => ∃ (a : Int), ds = [.int a] ∧ rp_law_whole Q a
theorem sp_law_whole_eq (a : Int) : sp_law_whole κ [.int a] Q Ed = rp_law_whole Q a := by walk_at "p"
abbrev rp_law_cell_at (ns : List Int) (k : Int) : Prop := 0 ≤ k ∧ ns.length ≤ 63 ∧ ∀ v : Int, Q (.int v)
def sp_law_cell_at (κ : Cls) : DSp := fun ds Q Ed => ∃ (ns : List Int) (k : Int), ds = [.lst false (ns.map D.int), .int k] ∧ rp_law_cell_at Q ns k
theorem sp_law_cell_at_eq (ns : List Int) (k : Int) : sp_law_cell_at κ [.lst false (ns.map D.int), .int k] Q Ed = rp_law_cell_at Q ns k := by walk_at "p"
abbrev rp_law_stream (c : Int) (m : Int) : Prop := 0 ≤ m ∧ m < 1000 ∧ ∀ xs : List Int, xs.length = m.toNat → (∀ x ∈ xs, 0 ≤ x ∧ x < 2147483647) → Q (.lst true (xs.map D.int))
def sp_law_stream (κ : Cls) : DSp := fun ds Q Ed => ∃ (c : Int) (m : Int), ds = [.int c, .int m] ∧ rp_law_stream Q c m
theorem sp_law_stream_eq (c : Int) (m : Int) : sp_law_stream κ [.int c, .int m] Q Ed = rp_law_stream Q c m := by walk_at "p"
abbrev rp_law_drawn (k : Int) (c : Int) : Prop := ∀ d : Dot, DOk d → Q (doD d)
def sp_law_drawn (κ : Cls) : DSp := fun ds Q Ed => ∃ (k : Int) (c : Int), ds = [.int k, .int c] ∧ rp_law_drawn Q k c
theorem sp_law_drawn_eq (k : Int) (c : Int) : sp_law_drawn κ [.int k, .int c] Q Ed = rp_law_drawn Q k c := by walk_at "p"
abbrev rp_law_word (d : Dot) : Prop := DOk d ∧ Q (.str (mkS (txD d)))
def sp_law_word (κ : Cls) : DSp := fun ds Q Ed => ∃ (d : Dot), ds = [doD d] ∧ rp_law_word Q d
theorem sp_law_word_eq (d : Dot) : sp_law_word κ [doD d] Q Ed = rp_law_word Q d := by walk_at "p"
abbrev rp_law_dots (d : D) (e : D) : Prop := ∃ ds : List Dot, d = .lst false (ds.map doD) ∧ e = .lst false (ds.map doD) ∧ Q (.bl true)
def sp_law_dots (κ : Cls) : DSp := fun ds Q Ed => ∃ (d : D) (e : D), ds = [d, e] ∧ rp_law_dots Q d e
theorem sp_law_dots_eq (d : D) (e : D) : sp_law_dots κ [d, e] Q Ed = rp_law_dots Q d e := by walk_at "p"
abbrev rp_law_refused (d : D) (e : D) : Prop := ∃ t m, d = .str t ∧ e = .bl m ∧ TZ t ∧ (match rdsL t with | some r => 30 < r.length ∧ m = true | none => m = false) ∧ Q (.bl true)
def sp_law_refused (κ : Cls) : DSp := fun ds Q Ed => ∃ (d : D) (e : D), ds = [d, e] ∧ rp_law_refused Q d e
theorem sp_law_refused_eq (d : D) (e : D) : sp_law_refused κ [d, e] Q Ed = rp_law_refused Q d e := by walk_at "p"
end
section
variable (P : Program) (w : World) (K : PySem.W.Frag) (mg : Str → Option Value) (base : Heap) (κ : Cls)
abbrev H_check_text : Prop := Has P w K mg base "check_text" 1 ["thing"] (sp_check_text κ)
abbrev H_whole_of : Prop := HasK P w K mg base "whole_of" 1 ["word"] (sp_whole_of κ)
abbrev H_read_whole : Prop := HasK P w K mg base "read_whole" 2 ["word", "digits"] (sp_read_whole κ)
abbrev H_read_colour : Prop := Has P w K mg base "read_colour" 1 ["word"] (sp_read_colour κ)
abbrev H_read_from_two : Prop := HasK P w K mg base "read_from_two" 3 ["word", "digits"] (sp_read_from_two κ)
abbrev H_read_dot : Prop := HasK P w K mg base "read_dot" 4 ["word"] (sp_read_dot κ)
abbrev H_show_spot : Prop := Has P w K mg base "show_spot" 1 ["x", "y"] (sp_show_spot κ)
abbrev H_show_dot : Prop := Has P w K mg base "show_dot" 2 ["dot"] (sp_show_dot κ)
abbrev H_read_dots : Prop := HasK P w K mg base "read_dots" 5 ["text"] (sp_read_dots κ)
abbrev H_show_dots : Prop := Has P w K mg base "show_dots" 3 ["dots"] (sp_show_dots κ)
abbrev H_law_whole : Prop := Has P w K mg base "_law_whole" 1 ["_law_found"] (sp_law_whole κ)
abbrev H_law_cell_at : Prop := Has P w K mg base "_law_cell_at" 1 ["_law_script", "_law_k"] (sp_law_cell_at κ)
abbrev H_law_stream : Prop := Has P w K mg base "_law_stream" 1 ["_law_cell", "_law_many"] (sp_law_stream κ)
abbrev H_law_drawn : Prop := Has P w K mg base "_law_drawn" 2 ["_law_kind", "_law_cell"] (sp_law_drawn κ)
abbrev H_law_word : Prop := Has P w K mg base "_law_word" 1 ["_law_dot"] (sp_law_word κ)
abbrev H_law_dots : Prop := Has P w K mg base "_law_dots" 2 ["_law_found", "_law_dots_here"] (sp_law_dots κ)
abbrev H_law_refused : Prop := HasK P w K mg base "_law_refused" 6 ["_law_text", "_law_many"] (sp_law_refused κ)
end
local macro_rules | `(tactic| walk_at "l") => `(tactic| (intro ds Q E h; repeat (first | (cases h.1; rfl) | refine Exists.elim h fun _ h => ?_)))
section
variable {P : Program} {w : World} {K : PySem.W.Frag} {mg : Str → Option Value} {base : Heap} {κ : Cls} {f : Addr} {fd : FuncData}
theorem st_c (x : Str) (N : List Str) (d : D) (ds : List D) : startD (x :: N) (d :: ds) = some (.val d) :: startD N ds := rfl
theorem st_n (x : Str) (N : List Str) : startD (x :: N) [] = none :: startD N [] := rfl
theorem st_e : startD [] [] = [] := rfl
local macro_rules | `(tactic| walk_at "s") => `(tactic| simp only [st_c, st_n, st_e])
local macro_rules | `(tactic| walk_at "x") => `(tactic| try simp only [dSeq, dNext, dSet, dRet, dDrop, dIfS, dOp, dB, dAnd, dOr, dNot, dAndV, dOrV, dNotV, dIf, dNeg, dC, dCons, dNil, dTup, dLst, dCall, dCB, dIs, dVar_0, dVar_S, set_0, set_S, rdI_int, rdI0_int, rdEq, rdNe, int_bl, okD_int', okD_bl', okD_non', okD_t3', eqD_int, eqD_bl, eqD_t3, it_lst, dIter, dOwn, dAppend, dFreeze, exown_0, exown_S, dAll, getV_0, getV_n, getV_S, List.map_cons, List.map_nil, gd3, gd2t, gd4t, untag_int, untag_bl, untag_non, untag_str, untag_exc, untag_tup, untag_lst, untags_nil, untags_cons, untags_ints, rx0, rx1, rx2, rx3, lx0, lx1, lx2, lx3, blQ_b, lstQ_l, lenQ_l, lenQ_t, ownQ_0, ownQ_S, ex_bl, ex_int, ex_some, at0, at1, at2, at3, List.cons_append, List.nil_append, len_lst, len_tup, par_eq, isT_tup, isT_tup_l, isT_lst, isT_lst_t, isT_int, isT_bool_i, isNon_non, isNon_tup, isNon_lst, isNon_int, true_and, dIsC, dTry, dCallX, cxOf_K, tyV_exc, isNon_exc, false_and, and_false, false_or, or_false, exists_false, dRng3, dRng2, dRng1, rng3_eq, rng2_eq, rng1_eq, gdName, dAsg, dPar, gd2, Bool.false_eq_true, Bool.true_eq_false, if_false, if_true, decide_eq_true_eq, Bool.not_eq_eq_eq_not, Bool.not_true, Bool.not_false, decide_eq_false_iff_not, ite_not, add_ii, add_tt, add_ll, in_lst, in_tup, okI_int, okI_non, dCallK, ex_one, dDix, dDAug, dOwnDk, dpCons, dpNil, dSoft, dSoftT, dSoftF, dNew, dSlL, dRev, dSeqs, dPart, dNoPart, dCallF, dOwnF, dOwnM, dPutAt, exob_0, exob_S, seq_lst, seq_tup, zip_ll, zip_tl, zip_lt, zip_tt, allT_bl, allT_int, allT_non, dZip, dChain, dIterT, it_tup, dSlT, dOwnLL, dfCons, dfNil, dSoftL, dSoftLT, dPutIn, dMinKey, exll_0, exll_S, hole_0, hole_S, softI, ixN_0, ixN_1, li_0, li_S, List.set_cons_zero, List.set_cons_succ, dExtend, dOwnDt, dPutT, dLenT, exdt_0, exdt_S, exl_t, dDinT, dDAugT, dVals, dOwnDtL, dkCons, dkNil, dZip3, dForAsk, sp_check_text_eq, sp_whole_of_eq, sp_read_whole_eq, sp_read_colour_eq, sp_read_from_two_eq, sp_read_dot_eq, sp_show_spot_eq, sp_show_dot_eq, sp_read_dots_eq, sp_show_dots_eq, sp_law_whole_eq, sp_law_cell_at_eq, sp_law_stream_eq, sp_law_drawn_eq, sp_law_word_eq, sp_law_dots_eq, sp_law_refused_eq, rp_check_text, rp_whole_of, rp_read_whole, rp_read_colour, rp_read_from_two, rp_read_dot, rp_show_spot, rp_show_dot, rp_read_dots, rp_show_dots, rp_law_whole, rp_law_cell_at, rp_law_stream, rp_law_drawn, rp_law_word, rp_law_dots, rp_law_refused, dSlS, dMS, dFmt, djNil, djCons, rdS, rdIxS, dIterS, dIntT, dTryS, eqD_str, isT_s, ex_s, ex_s1, untag_s, rSplit, rJoin, rIndex, dTryE, dOwnC]; try simp only [rdIx_tup, rdIx_lst])
theorem ok_check_text (F : FunD K "check_text" "check_text" s_check_text f fd) (C : COk K mg κ)   (z_isinstance : mg "isinstance" = none) (z_str : mg "str" = none) : FnOk P w K mg base (CX1 P w) 1 f fd ["thing"] (spOf K (sp_check_text κ)) := by
  refine FunD.okX F sc_check_text (by walk_at "l") fun _ _ _ _ _ _ Ed hr pm px hx => ⟨_, (dss_one (ds_if (dt_not (dt_val (de_isinst (by rfl) z_isinstance (by rfl) z_str boot_str (.inr (.inr (.inr (.inr rfl)))) (dv 0)))) (dss_one (ds_raise pm (by rfl) C.mg_NoText C.exc_NoText rfl (da_cons de_str da_nil))) dss_nil)), ?_⟩
  rintro ds Q ⟨d, rfl, h⟩
  walk_at "s"
  unfold rp_check_text at h
  walk_at "x"
  rcases h with ⟨e, h⟩ | ⟨e, h⟩ <;> rw [e]
  · exact h
  · exact ⟨sz1 _, h⟩
theorem ok_whole_of (F : FunD K "whole_of" "whole_of" s_whole_of f fd) (C : COk K mg κ)   (z_ValueError : mg "ValueError" = none) (z_int : mg "int" = none) : FnC P w K mg base 1 f fd ["word"] (sp_whole_of κ) := by
  refine FunD.okK F sc_whole_of (by walk_at "l") fun _ _ _ _ _ _ Ed hr pm px hx => ⟨_, (css_cons (cs_int hx rfl C.mg_NoText C.exc_NoText z_int z_ValueError (dv 0)) (PSDs.c dss_nil)), ?_⟩
  rintro ds Q ⟨t, rfl, h⟩
  walk_at "s"
  unfold rp_whole_of at h
  walk_at "x"
  exact h
theorem ok_read_whole (F : FunD K "read_whole" "read_whole" s_read_whole f fd) (C : COk K mg κ)  (h_whole_of : H_whole_of P w K mg base κ) (z_abs : mg "abs" = none) (z_len : mg "len" = none) (z_str : mg "str" = none) : FnC P w K mg base 2 f fd ["word", "digits"] (sp_read_whole κ) := by
  refine FunD.okK F sc_read_whole (by walk_at "l") fun _ _ _ _ _ _ Ed hr pm px hx => ⟨_, (css_cons (cs_set 2 sc_read_whole.nd (ce_callX px h_whole_of (hr.mono (by decide)) (PAD.c (da_cons (dv 0) da_nil)))) (PSDs.c (dss_cons (ds_if (dt_cmp (od_ne (by exact hr.units)) (de_callTy cd_str (by rfl) z_str boot_str (da_cons (dv 2) da_nil)) (dv 0)) (dss_one (ds_raise pm (by rfl) C.mg_NoText C.exc_NoText rfl (da_cons de_str da_nil))) dss_nil) (dss_cons (ds_if (dt_cmp od_gt (de_callB cd_lenS (by rfl) z_len boot_len (da_cons (de_callTy cd_str (by rfl) z_str boot_str (da_cons (de_callB cd_abs (by rfl) z_abs boot_abs (da_cons (dv 2) da_nil)) da_nil)) da_nil)) (dv 1)) (dss_one (ds_raise pm (by rfl) C.mg_NoText C.exc_NoText rfl (da_cons de_str da_nil))) dss_nil) (dss_one (ds_ret (dv 2))))))), ?_⟩
  rintro ds Q ⟨t, k, rfl, h⟩
  walk_at "s"
  unfold rp_read_whole at h
  obtain ⟨T, m, rfl, m1, m9, h⟩ := h
  walk_at "x"
  refine ⟨by have := T.l; omega, fun c hc => by have := T.a c hc; omega, ?_⟩
  cases q : PySem.intText? t with
  | none =>
    have e : wN m (sgn t) = none := by
      unfold wN
      split
      · rw [mk_sgn]; exact q
      · rfl
    rw [e] at h
    exact h
  | some n =>
    have bn := bd_tx T q
    have hb : Bd 1000 ((n.natAbs : Nat) : Int) := bn
    refine ⟨lg bn, okD_s (tx_asc n), okD_s T.a, ?_⟩
    by_cases e : Str.ofString (toString n) = t
    · rw [if_neg (by rw [e]; simp)]
      have e1 : tx n = sgn t := by unfold tx; rw [e]
      refine ⟨lg hb, s_fit (by rw [len_tx]; have := len_bd hb; omega), ?_⟩
      rw [len_tx, tx_nat]
      by_cases z : n.natAbs < 10 ^ m
      · rw [if_neg (by have := (dg_le m1).mpr z; omega)]
        rw [← e1, wN_tx m1 m9 z] at h
        exact h
      · rw [if_pos (by have := mt (dg_le m1).mp z; omega)]
        rw [← e1, wN_not (by rw [isI_tx m1]; exact decide_eq_false z)] at h
        exact ⟨sz1 _, h⟩
    · rw [if_pos (by simpa using e)]
      have e2 : wN m (sgn t) = none := by
        cases w : wN m (sgn t) with
        | none => rfl
        | some m' =>
          have i1 := wN_int w
          rw [mk_sgn, q] at i1
          injection i1 with i1
          subst i1
          exact absurd (sgn_inj (wN_some m1 m9 w).2.1) e
      rw [e2] at h
      exact ⟨sz1 _, h⟩
theorem ok_read_colour (F : FunD K "read_colour" "read_colour" s_read_colour f fd) (C : COk K mg κ)   (z_len : mg "len" = none) : FnOk P w K mg base (CX1 P w) 1 f fd ["word"] (spOf K (sp_read_colour κ)) := by
  refine FunD.okX F sc_read_colour (by walk_at "l") fun _ _ _ _ _ _ Ed hr pm px hx => ⟨_, (dss_cons (ds_if (PWD.pt (dw_or (dt_cmp od_neI (de_callB cd_lenS (by rfl) z_len boot_len (da_cons (dv 0) da_nil)) de_int) (dw_or1 (dt_cmp od_notInS (dv 0) (de_globS C.gs_LETTERS))))) (dss_one (ds_raise pm (by rfl) C.mg_NoText C.exc_NoText rfl (da_cons de_str da_nil))) dss_nil) (dss_one (ds_ret (de_index (de_globS C.gs_LETTERS) (da_cons (dv 0) da_nil))))), ?_⟩
  rintro ds Q ⟨t, rfl, h⟩
  walk_at "s"
  unfold rp_read_colour at h
  obtain ⟨T, h⟩ := h
  walk_at "x"
  refine ⟨s_fit (by have := T.l; omega), ?_⟩
  by_cases l : t.length = 1
  · rw [if_pos (by omega)]
    rw [if_pos l] at h
    obtain ⟨c, rfl⟩ := one_of l
    rw [in_c]
    rcases occ_c (Str.ofString "abc") c with ⟨h1, h2⟩ | ⟨a, b, r, h1, h2⟩
    · rw [h1]
      show if (false = false) then _ else _
      rw [if_pos rfl]
      rw [s_abc] at h1
      rw [show col (sgn ⟨#[c]⟩) = none from col_no h1] at h
      exact ⟨sz1 _, h⟩
    · rw [h1, if_neg (by simp)]
      rw [s_abc] at h1
      rw [show col (sgn ⟨#[c]⟩) = some (a.length : Int) from col_abc h1] at h
      exact ⟨_, r, h2, h⟩
  · rw [if_neg (by omega)]
    rw [if_neg l] at h
    exact ⟨sz1 _, h⟩
theorem ok_read_from_two (F : FunD K "read_from_two" "read_from_two" s_read_from_two f fd) (C : COk K mg κ)  (h_read_whole : H_read_whole P w K mg base κ)  : FnC P w K mg base 3 f fd ["word", "digits"] (sp_read_from_two κ) := by
  refine FunD.okK F sc_read_from_two (by walk_at "l") fun _ _ _ _ _ _ Ed hr pm px hx => ⟨_, (css_cons (cs_set 2 sc_read_from_two.nd (ce_callX px h_read_whole (hr.mono (by decide)) (PAD.c (da_cons (dv 0) (da_cons (dv 1) da_nil))))) (PSDs.c (dss_cons (ds_if (dt_cmp od_lt (dv 2) de_int) (dss_one (ds_raise pm (by rfl) C.mg_NoText C.exc_NoText rfl (da_cons de_str da_nil))) dss_nil) (dss_one (ds_ret (dv 2)))))), ?_⟩
  rintro ds Q ⟨t, k, rfl, h⟩
  walk_at "s"
  unfold rp_read_from_two at h
  obtain ⟨T, m, rfl, m1, m9, h⟩ := h
  walk_at "x"
  refine ⟨T, m, rfl, m1, m9, ?_⟩
  unfold w2 at h
  cases q : wN m (sgn t) with
  | none => rw [q] at h; exact h
  | some n =>
    rw [q] at h
    dsimp only at h ⊢
    by_cases z : n < 2
    · rw [if_pos z] at h ⊢; exact ⟨sz1 _, h⟩
    · rw [if_neg z] at h ⊢; exact h
theorem ok_read_dot (F : FunD K "read_dot" "read_dot" s_read_dot f fd) (C : COk K mg κ)  (h_read_colour : H_read_colour P w K mg base κ) (h_read_from_two : H_read_from_two P w K mg base κ) (h_read_whole : H_read_whole P w K mg base κ)  : FnC P w K mg base 4 f fd ["word"] (sp_read_dot κ) := by
  refine FunD.okK F sc_read_dot (by walk_at "l") fun _ _ _ _ _ _ Ed hr pm px hx => ⟨_, (css_cons (PSD.c (ds_set 1 sc_read_dot.nd (de_part (de_slS (dv 0) (do_some de_int) do_none) (da_cons de_str da_nil)))) (css_cons (PSD.c (ds_set 2 sc_read_dot.nd (de_part (de_ix (dv 1) de_int) (da_cons de_str da_nil)))) (css_cons (cs_ret (ce_tup (ca_cons (ce_callX px h_read_whole (hr.mono (by decide)) (PAD.c (da_cons (de_ix (dv 1) de_int) (da_cons (de_globI C.gi_DIGITS_OF_COORDINATE) da_nil)))) (ca_cons (ce_callX px h_read_whole (hr.mono (by decide)) (PAD.c (da_cons (de_ix (dv 2) de_int) (da_cons (de_globI C.gi_DIGITS_OF_COORDINATE) da_nil)))) (ca_cons (PED.c (de_callX px h_read_colour (hr.mono (by decide)) (da_cons (de_slS (dv 0) do_none (do_some de_int)) da_nil))) (ca_cons (ce_ifExp (PTD.c (dt_cmp (od_eq (by exact hr.units)) (de_ix (dv 2) de_int) de_str)) (ce_callX px h_read_from_two (hr.mono (by decide)) (PAD.c (da_cons (de_ix (dv 2) de_int) (da_cons (de_globI C.gi_DIGITS_OF_WEIGHT) da_nil)))) (PED.c de_int)) (PAD.c da_nil))))))) (PSDs.c dss_nil)))), ?_⟩
  rintro ds Q ⟨t, rfl, h⟩
  walk_at "s"
  unfold rp_read_dot at h
  obtain ⟨T, h⟩ := h
  walk_at "x"
  have Tt := T.tail
  rw [col_hd, tail_all, c_colon, c_w, part_sp, sgn_mk]
  obtain ⟨t1, t2⟩ := Tt.sp 58
  rw [sgn_mk] at t1 t2
  walk_at "x"
  refine ⟨s_fit (by have := T.l; omega), rfl, s_fit (by have := Tt.l; omega), rfl, s_fit (by have := t2.l; omega), t1, 12, rfl, by decide, by decide, ?_⟩
  unfold rdL at h
  rw [sgn_mk]
  cases w1 : wN 12 (spL 58 (sgn t).tail).1 with
  | none => rw [w1] at h; exact h
  | some x =>
    rw [w1] at h
    dsimp only at h ⊢
    rw [part_sp, sgn_mk]
    obtain ⟨u1, u2⟩ := t2.sp 119
    rw [sgn_mk] at u1 u2
    walk_at "x"
    refine ⟨u1, 12, rfl, by decide, by decide, ?_⟩
    rw [sgn_mk]
    rw [up_1] at h
    cases w2' : wN 12 (spL 119 (spL 58 (sgn t).tail).2).1 with
    | none => rw [w2'] at h; exact h
    | some y =>
      rw [w2'] at h
      dsimp only at h ⊢
      refine ⟨s_fit (by have := T.l; omega), by rw [head_all]; exact T.head, ?_⟩
      cases cc : col (sgn t) with
      | none => rw [cc] at h; exact h
      | some c =>
        rw [cc] at h
        dsimp only at h ⊢
        unfold upL at h
        cases q : cutC 119 (spL 58 (sgn t).tail).2 with
        | none =>
          rw [q] at h
          walk_at "x"
          refine ⟨okD_s (x := Str.empty) (fun c hc => by cases hc), okD_s (asc_1 (by decide)), ?_⟩
          show if ((Str.empty : Str) == (⟨#[119]⟩ : Str)) = true then _ else _
          rw [empty_w, if_neg (by simp)]
          exact ⟨sz4' _ _ _ _, h⟩
        | some p =>
          rw [q] at h
          walk_at "x"
          refine ⟨okD_s (asc_1 (by decide)), okD_s (asc_1 (by decide)), ?_⟩
          show if ((⟨#[119]⟩ : Str) == (⟨#[119]⟩ : Str)) = true then _ else _
          rw [if_pos (by simp)]
          refine ⟨u2, 9, rfl, by decide, by decide, ?_⟩
          have e2 : (spL 119 (spL 58 (sgn t).tail).2).2 = p.2 := by
            show (match cutC 119 (spL 58 (sgn t).tail).2 with | none => ((spL 58 (sgn t).tail).2, []) | some p => p : List Nat × List Nat).2 = p.2
            rw [q]
          rw [sgn_mk, e2]
          dsimp only [wtL] at h
          cases w9 : w2 9 p.2 with
          | none => rw [w9] at h; exact h
          | some n => rw [w9] at h; exact ⟨sz4' _ _ _ _, h⟩
theorem ok_show_spot (F : FunD K "show_spot" "show_spot" s_show_spot f fd) (C : COk K mg κ)    : FnOk P w K mg base (CX1 P w) 1 f fd ["x", "y"] (spOf K (sp_show_spot κ)) := by
  refine FunD.okN F sc_show_spot (by walk_at "l") fun _ _ _ _ _ _ hr => ⟨_, (dss_one (ds_ret (de_joined (dj_cons (de_fmt (dv 0)) (dj_cons de_str (dj_cons (de_fmt (dv 1)) dj_nil)))))), ?_⟩
  rintro ds Q Ed ⟨x, y, rfl, h⟩
  walk_at "s"
  unfold rp_show_spot at h
  obtain ⟨bx, b2, h⟩ := h
  walk_at "x"
  have l1 := len_bd bx
  have l2 := len_bd b2
  rw [← len_tx] at l1 l2
  rw [c_colon]
  refine ⟨lg bx, s_fit ?_, s_fit ?_, lg b2, s_fit ?_, s_fit ?_, ?_⟩
  all_goals rw [nil_app]
  · omega
  · rw [app_len, one_len]; omega
  · rw [app_len, app_len, one_len]; omega
  · rw [app_len, app_len, one_len]; omega
  · rw [spot_eq]; exact h
theorem ok_show_dot (F : FunD K "show_dot" "show_dot" s_show_dot f fd) (C : COk K mg κ)  (h_show_spot : H_show_spot P w K mg base κ)  : FnOk P w K mg base (CX1 P w) 2 f fd ["dot"] (spOf K (sp_show_dot κ)) := by
  refine FunD.okN F sc_show_dot (by walk_at "l") fun _ _ _ _ _ _ hr => ⟨_, (dss_cons (ds_set 1 sc_show_dot.nd (de_op od_plusS (de_ixS (de_globS C.gs_LETTERS) (de_ix (dv 0) de_int)) (de_callR h_show_spot hr (da_cons (de_ix (dv 0) de_int) (da_cons (de_ix (dv 0) de_int) da_nil))))) (dss_cons (ds_set 2 sc_show_dot.nd (de_ix (dv 0) de_int)) (dss_one (ds_ret (de_ifExp (dt_cmp od_eqI (dv 2) de_int) (dv 1) (de_joined (dj_cons (de_fmt (dv 1)) (dj_cons de_str (dj_cons (de_fmt (dv 2)) dj_nil))))))))), ?_⟩
  rintro ds Q Ed ⟨d, rfl, h⟩
  walk_at "s"
  unfold rp_show_dot at h
  obtain ⟨o, h⟩ := h
  have l1 := tx_len (n := d.1) (k := 12) (by decide) (by rw [n12]; exact o.x)
  have l2 := tx_len (n := d.2.1) (k := 12) (by decide) (by rw [n12]; exact o.y)
  have l3 := tx_len (n := d.2.2.2) (k := 9) (by decide) (by rw [n9]; have := o.w1; have := o.w9; omega)
  rw [← len_tx] at l3
  have l4 : (mkS (tx d.1 ++ 58 :: tx d.2.1)).length ≤ 27 := by rw [mk_len, List.length_append, List.length_cons]; omega
  unfold doD
  walk_at "x"
  refine ⟨s_fit (by decide +kernel), lt d.2.2.1, at_abc o.c0 o.c3, bd_12 o.x, bd_12 o.y, s_fit (by rw [one_len]; omega), ?_⟩
  by_cases e : d.2.2.2 = 1
  · rw [if_pos e, wd1 d e]; exact h
  · rw [if_neg e, c_w, wd2 d e]
    have q : ((⟨#[lt d.2.2.1]⟩ : Str) ++ mkS (tx d.1 ++ 58 :: tx d.2.1)).length ≤ 28 := by rw [app_len, one_len]; omega
    have := txD_len o
    refine ⟨s_fit (by omega), s_fit ?_, s_fit ?_, lg (bd_12 (by have := o.w1; have := o.w9; omega)), s_fit (by rw [mk_len]; omega), s_fit (by rw [mk_len]; omega), h⟩
    · rw [nil_app]; omega
    · rw [nil_app, app_len, one_len]; omega
theorem ok_read_dots (F : FunD K "read_dots" "read_dots" s_read_dots f fd) (C : COk K mg κ)  (h_check_text : H_check_text P w K mg base κ) (h_read_dot : H_read_dot P w K mg base κ) (z_len : mg "len" = none) : FnC P w K mg base 5 f fd ["text"] (sp_read_dots κ) := by
  refine FunD.okK F sc_read_dots (by walk_at "l") fun _ _ _ _ _ _ Ed hr pm px hx => ⟨_, (css_cons (PSD.c (ds_expr (de_callX px h_check_text (hr.mono (by decide)) (da_cons (dv 0) da_nil)))) (css_cons (PSD.c (ds_if (dt_cmp (od_eq (by exact hr.units)) (dv 0) de_str) (dss_one (ds_ret (de_lst da_nil))) dss_nil)) (css_cons (cs_setComp 1 sc_read_dots.nd hx (by rfl) (by exact csc_dec (osc := defScope s_read_dots) (xs := ["word"]) (ns := []) (by decide +kernel)) Caps.nil (id_list (de_split (dv 0) (da_cons de_str da_nil))) (fun _ _ _ _ _ px => ts_nil) (fun _ _ _ _ _ px => (ce_callX px h_read_dot (hr.mono (by decide)) (PAD.c (da_cons (dv 0) da_nil))))) (PSDs.c (dss_cons (ds_if (dt_cmp od_gt (de_callB cd_len (by rfl) z_len boot_len (da_cons (dv 1) da_nil)) (de_globI C.gi_MOST_DOTS)) (dss_one (ds_raise pm (by rfl) C.mg_NoDots C.exc_NoDots rfl (da_cons de_str da_nil))) dss_nil) (dss_one (ds_ret (dv 1)))))))), ?_⟩
  rintro ds Q ⟨d, rfl, h⟩
  walk_at "s"
  unfold rp_read_dots at h
  rcases h with ⟨t, rfl, T, h⟩ | ⟨e, h⟩
  rotate_left
  · walk_at "x"
    exact .inr ⟨by rw [isT_un]; exact e, h⟩
  replace h := rds_if h
  walk_at "x"
  rw [e_nil, c_sp]
  refine ⟨okD_s T.a, okD_s (by decide +kernel), ?_⟩
  by_cases e : sgn t = []
  · rw [if_pos (decide_eq_true e)]
    rw [if_pos e] at h
    exact ⟨Nat.zero_le _, h⟩
  rw [if_neg (by rw [decide_eq_false e]; simp)]
  rw [if_neg e] at h
  have := T.l
  refine PD.comp_mapX (ws t) D.str okW (fun w => doD (gW w)) (fun R q => ?_) (s_fit (by have := ws_len T; omega)) (fun x hx o K hK => ?_) (fun x hx o K => ?_) (fun o => ?_)
  · walk_at "x"
    exact ⟨rfl, s_fit (by omega), s_fit (by have := parts_len t 32; omega), q⟩
  · walk_at "x"
    refine ⟨T.w x hx, ?_⟩
    rw [okW_t o]
    exact hK
  · walk_at "x"
    refine ⟨T.w x hx, ?_⟩
    rw [okW_f o]
    rw [if_neg (all_no hx o)] at h
    exact h
  · rw [if_pos o] at h
    walk_at "x"
    rw [List.length_map]
    by_cases z : 30 < (ws t).length
    · rw [if_pos (by omega)]
      rw [if_pos z] at h
      exact ⟨sz1 _, h⟩
    · rw [if_neg (by omega)]
      rw [if_neg z] at h
      exact h
theorem ok_show_dots (F : FunD K "show_dots" "show_dots" s_show_dots f fd) (C : COk K mg κ)  (h_show_dot : H_show_dot P w K mg base κ)  : FnOk P w K mg base (CX1 P w) 3 f fd ["dots"] (spOf K (sp_show_dots κ)) := by
  refine FunD.okN F sc_show_dots (by walk_at "l") fun _ _ _ _ _ _ hr => ⟨_, (dss_one (ds_ret (de_join de_str (da_cons (de_comp (by rfl) (by exact csc_dec (osc := defScope s_show_dots) (xs := ["dot"]) (ns := []) (by decide +kernel)) Caps.nil (id_list (dv 0)) (fun _ _ _ _ _ => ts_nil) (fun _ _ _ _ _ => (de_callR h_show_dot hr (da_cons (dv 0) da_nil)))) da_nil)))), ?_⟩
  rintro ds Q Ed ⟨d, rfl, h⟩
  walk_at "s"
  unfold rp_show_dots at h
  obtain ⟨ds, rfl, ho, hl, h⟩ := h
  walk_at "x"
  refine PD.comp_mapX ds doD (fun _ => true) (fun d => D.str (mkS (txD d))) (fun R q => ?_) (s_fit (by omega)) (fun x hx _ K hK => ?_) (fun x hx z => by cases z) fun _ => ?_
  · walk_at "x"
    exact q
  · walk_at "x"
    exact ⟨_, rfl, ho x hx, hK⟩
  · refine ⟨_, ds.map fun d => mkS (txD d), by rw [List.map_map]; rfl, by rw [c_sp]; decide, ?_, ?_⟩
    · have := jn_sum ho
      rw [List.length_map] at this ⊢
      omega
    · rw [c_sp, join_s]
      exact h
theorem ok_law_whole (F : FunD K "_law_whole" "_law_whole" s_law_whole f fd) (C : COk K mg κ)   (z_bool : mg "bool" = none) (z_int : mg "int" = none) (z_isinstance : mg "isinstance" = none) : FnOk P w K mg base (CX1 P w) 1 f fd ["_law_found"] (spOf K (sp_law_whole κ)) := by
  refine FunD.okN F sc_law_whole (by walk_at "l") fun _ _ _ _ _ _ hr => ⟨_, (dss_one (ds_ret (de_and (de_isinst (by rfl) z_isinstance (by rfl) z_int boot_int (.inl rfl) (dv 0)) (de_one (de_not (de_isinst (by rfl) z_isinstance (by rfl) z_bool boot_bool (.inr (.inl rfl)) (dv 0))))))), ?_⟩
  rintro ds Q Ed ⟨a, rfl, h⟩
  walk_at "s"
  unfold rp_law_whole at h
  walk_at "x"
  exact h
theorem ok_law_cell_at (F : FunD K "_law_cell_at" "_law_cell_at" s_law_cell_at f fd) (C : COk K mg κ)   (z_len : mg "len" = none) : FnOk P w K mg base (CX1 P w) 1 f fd ["_law_script", "_law_k"] (spOf K (sp_law_cell_at κ)) := by
  refine FunD.okN F sc_law_cell_at (by walk_at "l") fun _ _ _ _ _ _ hr => ⟨_, (dss_cons (ds_if (dt_cmp od_lt (dv 1) (de_callB cd_len (by rfl) z_len boot_len (da_cons (dv 0) da_nil))) (dss_one (ds_ret (de_ix (dv 0) (dv 1)))) dss_nil) (dss_one (ds_ret de_int))), ?_⟩
  rintro ds Q Ed ⟨ns, k, rfl, h⟩
  walk_at "s"
  unfold rp_law_cell_at at h
  obtain ⟨hk, hn, h⟩ := h
  walk_at "x"
  by_cases hl : k < ((ns.map D.int).length : Int)
  · rw [if_pos (by simpa using hl)]
    rw [List.length_map] at hl
    exact ⟨_, atI_ints hk hl, h _⟩
  · rw [if_neg (by simpa using hl)]
    exact h 0
theorem ok_law_stream (F : FunD K "_law_stream" "_law_stream" s_law_stream f fd) (C : COk K mg κ)   (z_range : mg "range" = none) : FnOk P w K mg base (CX1 P w) 1 f fd ["_law_cell", "_law_many"] (spOf K (sp_law_stream κ)) := by
  refine FunD.okN F sc_law_stream (by walk_at "l") fun _ _ _ _ _ _ hr => ⟨_, (dss_cons (ds_own 2 sc_law_stream.nd da_nil) (dss_cons (ds_set 3 sc_law_stream.nd (de_op od_plus (de_op od_mod (dv 0) de_int) de_int)) (dss_cons (ds_for PassesOwn.never rfl (id_range1 (by rfl) z_range (da_cons (dv 1) da_nil)) (gd_name 4 sc_law_stream.nd) (dss_cons (ds_set 3 sc_law_stream.nd (de_op od_mod (de_op od_plus (de_op od_plus (de_op od_mul (dv 3) de_int) (de_op od_mul (dv 4) (dv 4))) de_int) de_int)) (dss_one (ds_append 2 (de_op od_fdiv (dv 3) de_int))))) (dss_freeze 2 (dss_one (ds_ret (dv 2))))))), ?_⟩
  rintro ds Q Ed ⟨c, m, rfl, h⟩
  walk_at "s"
  unfold rp_law_stream at h
  obtain ⟨h0, h1, h⟩ := h
  walk_at "x"
  refine ⟨Nat.zero_le _, by decide, ?_⟩
  unfold dFor
  walk_at "x"
  refine ⟨⟨by omega, by omega⟩, fun j ρ => ∃ (xs : List Int) (n : Int) (v : Option Sl), ρ = [some (.val (.int c)), some (.val (.int m)), some (.own (xs.map D.int)), some (.val (.int n)), v] ∧ xs.length = j ∧ (∀ x ∈ xs, 0 ≤ x ∧ x < 2147483647) ∧ 0 ≤ n ∧ n < 2147531918, ⟨[], _, none, rfl, rfl, by simp, ?_, ?_⟩, ?_, ?_⟩
  · have := fm (a := c) (b := 2147483647) (by decide); omega
  · have := fm (a := c) (b := 2147483647) (by decide); omega
  · rintro j x ρ' hx ⟨xs, n, v, rfl, hlen, hb, n0, n1⟩
    obtain ⟨hj, rfl⟩ := rngD_some hx
    have hm : j < 1000 := by
      have := rngN_lt (by decide) hj
      omega
    walk_at "x"
    refine ⟨.inr (.inl (by unfold Bd; decide)), .inl (by unfold Bd; omega), by decide, CD.lit, by rw [List.length_map, sizeLine_eq]; omega, ?_⟩
    have hf := fm (a := n * 48271 + (0 + (j : Int) * 1) * (0 + (j : Int) * 1) + 11) (b := 2147483647) (by decide)
    generalize (n * 48271 + (0 + (j : Int) * 1) * (0 + (j : Int) * 1) + 11).fmod 2147483647 = y at hf ⊢
    refine ⟨xs ++ [y.fdiv 7], y, some (.val (.int (0 + (j : Int) * 1))), by simp, by simp [hlen], ?_, by omega, by omega⟩
    intro z hz
    rcases List.mem_append.mp hz with q | q
    · exact hb z q
    · simp at q
      subst q
      have e := Int.fdiv_eq_ediv_of_nonneg y (show (0 : Int) ≤ 7 by decide)
      rw [e]
      omega
  · rintro ρ' ⟨xs, n, v, rfl, hlen, hb, n0, n1⟩
    walk_at "x"
    refine h xs ?_ hb
    rw [hlen, rngD_len]
    unfold rngN Builtin.Range.rangeSize
    rw [if_pos (by decide)]
    split <;> omega
theorem ok_law_drawn (F : FunD K "_law_drawn" "_law_drawn" s_law_drawn f fd) (C : COk K mg κ)  (h_law_stream : H_law_stream P w K mg base κ)  : FnOk P w K mg base (CX1 P w) 2 f fd ["_law_kind", "_law_cell"] (spOf K (sp_law_drawn κ)) := by
  refine FunD.okN F sc_law_drawn (by walk_at "l") fun _ _ _ _ _ _ hr => ⟨_, (dss_cons (ds_set 2 sc_law_drawn.nd (de_callR h_law_stream hr (da_cons (dv 1) (da_cons de_int da_nil)))) (dss_cons (ds_set 3 sc_law_drawn.nd (de_ix (de_lst (da_cons (de_op od_sub (de_op od_mod (de_ix (dv 2) de_int) de_int) de_int) (da_cons (de_op od_plus (de_op od_sub (de_op od_mod (de_op od_mul (de_ix (dv 2) de_int) (de_ix (dv 2) de_int)) (de_op od_sub (de_op od_mul de_int (de_op od_pow de_int de_int)) de_int)) (de_op od_pow de_int de_int)) de_int) da_nil))) (de_op od_mod (dv 0) de_int))) (dss_cons (ds_set 4 sc_law_drawn.nd (de_ix (de_lst (da_cons (de_op od_sub (de_op od_mod (de_ix (dv 2) de_int) de_int) de_int) (da_cons (de_op od_plus (de_op od_sub (de_op od_mod (de_op od_mul (de_ix (dv 2) de_int) (de_ix (dv 2) de_int)) (de_op od_sub (de_op od_mul de_int (de_op od_pow de_int de_int)) de_int)) (de_op od_pow de_int de_int)) de_int) da_nil))) (de_op od_mod (de_op od_fdiv (dv 0) de_int) de_int))) (dss_cons (ds_set 5 sc_law_drawn.nd (de_ix (de_lst (da_cons de_int (da_cons (de_op od_plus de_int (de_op od_mod (de_ix (dv 2) de_int) de_int)) (da_cons (de_op od_plus de_int (de_op od_mod (de_op od_mul (de_ix (dv 2) de_int) (de_ix (dv 2) de_int)) de_int)) da_nil)))) (de_op od_mod (de_ix (dv 2) de_int) de_int))) (dss_one (ds_ret (de_tup (da_cons (dv 3) (da_cons (dv 4) (da_cons (de_op od_mod (de_ix (dv 2) de_int) de_int) (da_cons (dv 5) da_nil))))))))))), ?_⟩
  rintro ds Q Ed ⟨k, c, rfl, h⟩
  walk_at "s"
  unfold rp_law_drawn at h
  walk_at "x"
  refine ⟨by decide, by decide, fun xs hx hb => ?_⟩
  match xs, (show xs.length = 5 from hx) with
  | [x0, x1, x2, x3, x4], _ =>
    have b0 := hb x0 (by simp)
    have b1 := hb x1 (by simp)
    have b2 := hb x2 (by simp)
    have b3 := hb x3 (by simp)
    have b4 := hb x4 (by simp)
    have B : ∀ {z : Int}, 0 ≤ z ∧ z < 2147483647 → Bd 64 z := fun z => by
      have e : (2147483647 : Nat) ≤ 2 ^ 64 := by decide
      unfold Bd; omega
    rw [p12]
    walk_at "x"
    have g0 := fm (a := x0) (b := 7) (by decide)
    have g1 := fm (a := x0 * x1) (b := 1999999999999) (by decide)
    have g2 := fm (a := x2) (b := 7) (by decide)
    have g3 := fm (a := x2 * x1) (b := 1999999999999) (by decide)
    have g4 := fm (a := x3) (b := 9) (by decide)
    have g5 := fm (a := x3 * x4) (b := 999999999) (by decide)
    have g6 := fm (a := x1) (b := 3) (by decide)
    have f0 := fm (a := k) (b := 2) (by decide)
    have f1 := fm (a := k.fdiv 2) (b := 2) (by decide)
    have f2 := fm (a := x4) (b := 3) (by decide)
    have e12 : (2 * 1000000000000 - 1 : Int) = 1999999999999 := by decide
    rw [e12]
    obtain ⟨X, eX, hX⟩ := pk2 (x0.fmod 7 - 3) ((x0 * x1).fmod 1999999999999 - 1000000000000 + 1) f0.1 f0.2
    obtain ⟨Y, eY, hY⟩ := pk2 (x2.fmod 7 - 3) ((x2 * x1).fmod 1999999999999 - 1000000000000 + 1) f1.1 f1.2
    obtain ⟨V, eV, hV⟩ := pk3 1 (2 + x3.fmod 9) (1 + (x3 * x4).fmod 999999999) f2.1 f2.2
    have c2 : CM 2 1000000000000 := .inl (by unfold Bd; decide)
    refine ⟨by decide, .inl (B b0), cp12, c2, by decide, cp12, sz2' _ _, by decide, _, eX, by decide, .inl (B b2), cp12, c2, by decide, cp12, sz2' _ _, ⟨by decide, by unfold Bd; decide⟩, by decide, _, eY, by decide, _, pk4 _ _ _ _ _, ?_⟩
    walk_at "x"
    refine ⟨.inl (B b3), by decide, sz3' _ _ _, _, pk4 _ _ _ _ _, ?_⟩
    walk_at "x"
    refine ⟨by decide, _, eV, by decide, sz4' _ _ _ _, h (X, Y, x1.fmod 3, V) ⟨?_, ?_, g6.1, g6.2, ?_, ?_⟩⟩
    · show X.natAbs < _; rcases hX with z | z <;> subst z <;> omega
    · show Y.natAbs < _; rcases hY with z | z <;> subst z <;> omega
    · show 1 ≤ V; rcases hV with z | z | z <;> subst z <;> omega
    · show V < _; rcases hV with z | z | z <;> subst z <;> omega
theorem ok_law_word (F : FunD K "_law_word" "_law_word" s_law_word f fd) (C : COk K mg κ)   (z_str : mg "str" = none) : FnOk P w K mg base (CX1 P w) 1 f fd ["_law_dot"] (spOf K (sp_law_word κ)) := by
  refine FunD.okN F sc_law_word (by walk_at "l") fun _ _ _ _ _ _ hr => ⟨_, (dss_cons (ds_set 1 sc_law_word.nd (de_op od_plusS (de_op od_plusS (de_op od_plusS (de_ixS de_str (de_ix (dv 0) de_int)) (de_callTy cd_str (by rfl) z_str boot_str (da_cons (de_ix (dv 0) de_int) da_nil))) de_str) (de_callTy cd_str (by rfl) z_str boot_str (da_cons (de_ix (dv 0) de_int) da_nil)))) (dss_cons (ds_if (dt_cmp od_eqI (de_ix (dv 0) de_int) de_int) (dss_one (ds_ret (dv 1))) dss_nil) (dss_one (ds_ret (de_op od_plusS (de_op od_plusS (dv 1) de_str) (de_callTy cd_str (by rfl) z_str boot_str (da_cons (de_ix (dv 0) de_int) da_nil))))))), ?_⟩
  rintro ds Q Ed ⟨d, rfl, h⟩
  walk_at "s"
  unfold rp_law_word at h
  obtain ⟨o, h⟩ := h
  have l1 := tx_len (n := d.1) (k := 12) (by decide) (by rw [n12]; exact o.x)
  have l2 := tx_len (n := d.2.1) (k := 12) (by decide) (by rw [n12]; exact o.y)
  have l3 := tx_len (n := d.2.2.2) (k := 9) (by decide) (by rw [n9]; have := o.w1; have := o.w9; omega)
  rw [← len_tx] at l1 l2 l3
  unfold doD
  walk_at "x"
  rw [c_colon, c_w]
  refine ⟨s_fit (by decide +kernel), lt d.2.2.1, at_abc o.c0 o.c3, lg (bd_12 o.x), s_fit ?_, s_fit ?_, lg (bd_12 o.y), s_fit ?_, ?_⟩
  · rw [one_len]; omega
  · rw [app_len, one_len, one_len]; omega
  · rw [app_len, app_len, one_len, one_len]; omega
  by_cases e : d.2.2.2 = 1
  · rw [if_pos e, word_1 d e]; exact h
  · rw [if_neg e]
    refine ⟨s_fit ?_, lg (bd_12 (by have := o.w1; have := o.w9; omega)), s_fit ?_, ?_⟩
    · rw [app_len, app_len, app_len, one_len, one_len, one_len]; omega
    · rw [app_len, app_len, app_len, app_len, one_len, one_len, one_len]; omega
    · rw [word_2 d e]; exact h
theorem ok_law_dots (F : FunD K "_law_dots" "_law_dots" s_law_dots f fd) (C : COk K mg κ)  (h_law_whole : H_law_whole P w K mg base κ) (z_isinstance : mg "isinstance" = none) (z_len : mg "len" = none) (z_list : mg "list" = none) (z_tuple : mg "tuple" = none) (z_zip : mg "zip" = none) : FnOk P w K mg base (CX1 P w) 2 f fd ["_law_found", "_law_dots_here"] (spOf K (sp_law_dots κ)) := by
  refine FunD.okN F sc_law_dots (by walk_at "l") fun _ _ _ _ _ _ hr => ⟨_, (dss_cons (ds_if (PWD.pt (dw_or (dt_not (dt_val (de_isinst (by rfl) z_isinstance (by rfl) z_list boot_list (.inr (.inr (.inr (.inl rfl)))) (dv 0)))) (dw_or1 (dt_cmp od_neI (de_callB cd_len (by rfl) z_len boot_len (da_cons (dv 0) da_nil)) (de_callB cd_len (by rfl) z_len boot_len (da_cons (dv 1) da_nil)))))) (dss_one (ds_ret de_bl)) dss_nil) (dss_cons (ds_for PassesOwn.never rfl (id_zip (by rfl) z_zip (da_cons (dv 0) (da_cons (dv 1) da_nil))) (gd_tup (n := 2) rfl (gds_cons (gd_name 2 sc_law_dots.nd) (gds_cons (gd_name 3 sc_law_dots.nd) gds_nil))) (dss_cons (ds_if (PWD.pt (dw_or (dt_not (dt_val (de_isinst (by rfl) z_isinstance (by rfl) z_tuple boot_tuple (.inr (.inr (.inl rfl))) (dv 2)))) (dw_or (dt_cmp od_neI (de_callB cd_len (by rfl) z_len boot_len (da_cons (dv 2) da_nil)) de_int) (dw_or1 (dt_cmp (od_ne (by exact hr.units)) (dv 2) (dv 3)))))) (dss_one (ds_ret de_bl)) dss_nil) (dss_one (ds_for PassesOwn.never rfl (id_tup (dv 2)) (gd_name 4 sc_law_dots.nd) (dss_one (ds_if (dt_not (dt_val (de_callR h_law_whole hr (da_cons (dv 4) da_nil)))) (dss_one (ds_ret de_bl)) dss_nil)))))) (dss_one (ds_ret de_bl)))), ?_⟩
  rintro ds Q Ed ⟨d, e, rfl, h⟩
  walk_at "s"
  unfold rp_law_dots at h
  obtain ⟨ds, rfl, rfl, h⟩ := h
  walk_at "x"
  refine PD.for_map ds (fun p => .tup [doD p, doD p]) (fun _ ρ => ∃ v2 v3 v4 : Option Sl, ρ = [some (.val (.lst false (ds.map doD))), some (.val (.lst false (ds.map doD))), v2, v3, v4]) (fun R q => ?_) ⟨none, none, none, rfl⟩ ?_ ?_
  · walk_at "x"
    rw [zipSelf]
    exact q
  · rintro done p ρ' hq _ ⟨v2, v3, v4, rfl⟩
    have q4 : okD (doD p) := (OkN.tup (.cons (.int 0 _) (.cons (.int 0 _) (.cons (.int 0 _) (.cons (.int 0 _) (.nil 0)))))).ok
    walk_at "x"
    rw [if_neg (show ¬ isT "tuple" (doD p) = false from by unfold doD; rw [isT_tup]; simp)]
    refine ⟨q4, q4, ?_⟩
    rw [eqD_refl, if_neg (by simp)]
    refine PD.for_map [p.1, p.2.1, p.2.2.1, p.2.2.2] D.int (fun _ ρ => ∃ v4 : Option Sl, ρ = [some (.val (.lst false (ds.map doD))), some (.val (.lst false (ds.map doD))), some (.val (doD p)), some (.val (doD p)), v4]) (fun R q => ?_) ⟨v4, rfl⟩ ?_ ?_
    · unfold doD
      walk_at "x"
      exact q
    · rintro done x ρ' hq _ ⟨v4, rfl⟩
      walk_at "x"
      exact ⟨_, rfl⟩
    · rintro ρ' ⟨v4, rfl⟩
      exact ⟨_, _, _, rfl⟩
  · rintro ρ' ⟨v2, v3, v4, rfl⟩
    walk_at "x"
    exact h
theorem ok_law_refused (F : FunD K "_law_refused" "_law_refused" s_law_refused f fd) (C : COk K mg κ)  (h_read_dots : H_read_dots P w K mg base κ) (z_ValueError : mg "ValueError" = none) (z_isinstance : mg "isinstance" = none) : FnC P w K mg base 6 f fd ["_law_text", "_law_many"] (sp_law_refused κ) := by
  refine FunD.okKN F sc_law_refused (by walk_at "l") fun _ _ _ _ _ _ hr => ⟨_, (css_cons (PSD.c (ds_set 2 sc_law_refused.nd de_non)) (css_cons (cs_tryE 3 h_read_dots (hr.mono (by decide)) sc_law_refused.nd C.mg_PlaneError (da_cons (dv 0) da_nil) (fun _ => (dss_one (ds_set 2 sc_law_refused.nd (dv 3))))) (PSDs.c (dss_cons (ds_if (PWD.pt (dw_or (dt_cmp od_isN (dv 2) de_non) (dw_or (dt_val (de_isinstC (by rfl) z_isinstance (pe_glob (v := .ref κ.TooMany) (by rfl) C.mg_TooMany rfl) (fun u h => h) (dv 2))) (dw_or1 (dt_not (dt_val (de_isinstC (by rfl) z_isinstance (pe_bltn (v := .ty "ValueError") (by rfl) z_ValueError (by rfl) rfl) (fun u h => h) (dv 2)))))))) (dss_one (ds_ret de_bl)) dss_nil) (dss_one (ds_ret (de_and (de_cmp (od_eq (by exact hr.units)) (de_isinstC (by rfl) z_isinstance (pe_glob (v := .ref κ.NoDots) (by rfl) C.mg_NoDots rfl) (fun u h => h) (dv 2)) (dv 1)) (de_one (de_cmp (od_ne (by exact hr.units)) (de_isinstC (by rfl) z_isinstance (pe_glob (v := .ref κ.NoText) (by rfl) C.mg_NoText rfl) (fun u h => h) (dv 2)) (dv 1)))))))))), ?_⟩
  rintro ds Q Ed ⟨d, e, rfl, h⟩
  walk_at "s"
  unfold rp_law_refused at h
  obtain ⟨t, m, rfl, rfl, T, h3, h⟩ := h
  walk_at "x"
  refine ⟨T, ?_⟩
  cases o : rdsL t with
  | some r =>
    rw [o] at h3
    dsimp only at h3 ⊢
    obtain ⟨h3, rfl⟩ := h3
    rw [if_pos h3]
    refine ⟨κ.NoDots, rfl, C.xk_NoDots, C.exm_NoDots_PlaneError, ?_⟩
    walk_at "x"
    simp only [kex C.kit_NoDots_NoText, kex C.kit_NoDots_ValueError, kex C.kit_NoDots_NoDots, kex C.kit_NoDots_TooMany]
    exact h
  | none =>
    rw [o] at h3
    dsimp only at h3 ⊢
    subst h3
    refine ⟨κ.NoText, rfl, C.xk_NoText, C.exm_NoText_PlaneError, ?_⟩
    walk_at "x"
    simp only [kex C.kit_NoText_NoText, kex C.kit_NoText_ValueError, kex C.kit_NoText_NoDots, kex C.kit_NoText_TooMany]
    exact h
theorem ok_law (F : FunD K "law" "law" s_law f fd) (C : COk K mg κ)  (h_law_cell_at : H_law_cell_at P w K mg base κ) (h_law_dots : H_law_dots P w K mg base κ) (h_law_drawn : H_law_drawn P w K mg base κ) (h_law_refused : H_law_refused P w K mg base κ) (h_law_word : H_law_word P w K mg base κ) (h_read_dots : H_read_dots P w K mg base κ) (h_show_dots : H_show_dots P w K mg base κ) (z_isinstance : mg "isinstance" = none) (z_len : mg "len" = none) (z_list : mg "list" = none) (z_range : mg "range" = none) (z_str : mg "str" = none) : FnC P w K mg base 7 f fd ["_law_script"] spLaw := by
  refine FunD.okKN F sc_law (by walk_at "l") fun _ _ _ _ _ _ hr => ⟨_, (css_cons (PSD.c (ds_set 1 sc_law.nd (de_op od_mod (de_callR h_law_cell_at hr (da_cons (dv 0) (da_cons de_int da_nil))) de_int))) (css_cons (PSD.c (ds_setComp 2 sc_law.nd (by rfl) (by exact csc_dec (osc := defScope s_law) (xs := ["_law_cell"]) (ns := ["_law_kind"]) (by decide +kernel)) (Caps.cons 1 Caps.nil) (id_list (PEF.ped (df_slice (dv 0) (do_some de_int) (do_some de_int)))) (fun _ _ _ _ _ => ts_nil) (fun _ _ _ _ _ => (de_callR h_law_drawn hr (da_cons (dv 1) (da_cons (dv 0) da_nil)))))) (css_cons (PSD.c (ds_set 3 sc_law.nd ((df_list (by rfl) z_list (dv 2))).ped)) (css_cons (PSD.c (ds_set 4 sc_law.nd (de_callR h_show_dots hr (da_cons (dv 3) da_nil)))) (css_cons (PSD.c (ds_set 5 sc_law.nd (de_join de_str (da_cons (de_comp (by rfl) (by exact csc_dec (osc := defScope s_law) (xs := ["_law_dot"]) (ns := []) (by decide +kernel)) Caps.nil (id_list (dv 2)) (fun _ _ _ _ _ => ts_nil) (fun _ _ _ _ _ => (de_callR h_law_word hr (da_cons (dv 0) da_nil)))) da_nil)))) (css_cons (PSD.c (ds_if (PWD.pt (dw_or (dt_not (dt_val (de_isinst (by rfl) z_isinstance (by rfl) z_str boot_str (.inr (.inr (.inr (.inr rfl)))) (dv 4)))) (dw_or (dt_cmp (od_ne (by exact hr.units)) (dv 4) (dv 5)) (dw_or1 (dt_cmp (od_ne (by exact hr.units)) (dv 3) (dv 2)))))) (dss_one (ds_ret de_bl)) dss_nil)) (css_cons (cs_ownF 6 sc_law.nd (cf_call h_read_dots (hr.mono (by decide)) (da_cons (dv 5) da_nil))) (css_cons (PSD.c (ds_if (dt_soft 6 (dt_not (dt_val (de_callR h_law_dots hr (da_cons (dv 6) (da_cons (dv 2) da_nil)))))) (dss_one (ds_ret de_bl)) dss_nil)) (css_cons (PSD.c (ds_append 6 de_int)) (css_freeze 6 (css_cons (PSD.c (ds_setComp 7 sc_law.nd (by rfl) (by exact csc_dec (osc := defScope s_law) (xs := ["_law_k"]) (ns := ["_law_kind"]) (by decide +kernel)) (Caps.cons 1 Caps.nil) (id_range1 (by rfl) z_range (da_cons (de_op od_plus de_int (de_op od_mod (de_op od_fdiv (de_callR h_law_cell_at hr (da_cons (dv 0) (da_cons de_int da_nil))) de_int) de_int)) da_nil)) (fun _ _ _ _ _ => ts_nil) (fun _ _ _ _ _ => (de_callR h_law_drawn hr (da_cons (dv 1) (da_cons (dv 0) da_nil)))))) (css_cons (PSD.c (ds_setOwnC 8 sc_law.nd (by rfl) (by exact csc_dec (osc := defScope s_law) (xs := ["_law_dot"]) (ns := []) (by decide +kernel)) Caps.nil (id_list (PEF.ped (df_slice (de_op od_plus (dv 2) (dv 7)) do_none (do_some de_int)))) (fun _ _ _ _ _ => ts_nil) (fun _ _ _ _ _ => (de_callR h_law_word hr (da_cons (dv 0) da_nil))))) (css_cons (cs_if (ct_soft 8 (ct_not (ct_val (ce_callX passN h_law_refused (hr.mono (by decide)) (PAD.c (da_cons (de_join de_str (da_cons (dv 8) da_nil)) (da_cons de_bl da_nil))))))) (PSDs.c (dss_one (ds_ret de_bl))) (PSDs.c dss_nil)) (css_cons (PSD.c (ds_set 9 sc_law.nd (de_soft 8 (de_op od_mod (de_op od_mod (de_op od_mul (de_callR h_law_cell_at hr (da_cons (dv 0) (da_cons de_int da_nil))) de_int) de_int) (de_callB cd_len (by rfl) z_len boot_len (da_cons (dv 8) da_nil)))))) (css_cons (PSD.c (ds_putAt 8 (dv 9) (de_ix (de_lst (da_cons de_str (da_cons de_str (da_cons de_str (da_cons de_str da_nil))))) (de_op od_mod (de_callR h_law_cell_at hr (da_cons (dv 0) (da_cons de_int da_nil))) de_int)))) (css_freeze 8 (css_cons (cs_if (ct_not (ct_val (ce_callX passN h_law_refused (hr.mono (by decide)) (PAD.c (da_cons (de_join de_str (da_cons (dv 8) da_nil)) (da_cons de_bl da_nil)))))) (PSDs.c (dss_one (ds_ret de_bl))) (PSDs.c dss_nil)) (css_cons (cs_ret (ce_and (ce_callX passN (Has.k h_law_dots) (hr.mono (by decide)) (ca_cons (ce_callX passN h_read_dots (hr.mono (by decide)) (PAD.c (da_cons (dv 5) da_nil))) (PAD.c (da_cons (dv 2) da_nil)))) (ce_one (ce_cmp (od_eq (by exact hr.units)) (ce_callX passN h_read_dots (hr.mono (by decide)) (PAD.c (da_cons (de_callR h_show_dots hr (da_cons (PEF.ped (df_slice (dv 7) do_none (do_some de_int))) da_nil)) da_nil))) (PEF.ped (df_slice (dv 7) do_none (do_some de_int))))))) (PSDs.c dss_nil))))))))))))))))))), ?_⟩
  rintro ds Q Ed ⟨ns, rfl, hl, h⟩
  walk_at "s"
  walk_at "x"
  refine ⟨by decide, hl, fun v => ⟨by decide, ?_⟩⟩
  refine comp_dem (Pn 0 30) DOk doD (fun R q => ?_) (fun xs hx => by have := hx.2.1; omega) (fun xs hp x hx K hK => ?_) (fun xs hp ds hn ho => ?_)
  · walk_at "x"
    exact q _ (Pn_cut ns)
  · obtain ⟨i, rfl⟩ := hp.2.2 x hx
    walk_at "x"
    exact hK
  have hn : ds.length ≤ 30 := by rw [hn]; exact hp.2.1
  refine ⟨true, ds.map doD, rfl, ds, by rw [untags_do], ho, by omega, ?_⟩
  refine PD.comp_mapX ds doD (fun _ => true) (fun d => D.str (mkS (txD d))) (fun R q => ?_) (s_fit (by omega)) (fun x hx _ K hK => ?_) (fun x hx z => by cases z) fun _ => ?_
  · walk_at "x"
    exact q
  · walk_at "x"
    exact ⟨_, rfl, ho x hx, hK⟩
  have js := jn_sum ho
  rw [List.length_map] at js
  have T : TZ (jn ds) := jn_TZ0 ho (by omega)
  have ok4 : ∀ ds : List Dot, okD (.lst true (ds.map doD)) := fun ds => (OkN.lst (okNs_do ds)).ok
  refine ⟨_, ds.map fun d => mkS (txD d), by rw [List.map_map]; rfl, by rw [c_sp]; decide, by rw [List.length_map]; omega, ?_⟩
  rw [c_sp, join_s]
  show okD (D.str (jn ds)) ∧ okD (D.str (jn ds)) ∧ if (jn ds == jn ds) = false then _ else _
  refine ⟨okD_s T.a, okD_s T.a, ?_⟩
  rw [if_neg (by simp)]
  refine ⟨ok4 _, ok4 _, ?_⟩
  rw [eqD_refl, if_neg (by simp)]
  refine ⟨T, ?_⟩
  show match rdsL (jn ds) with | some r => _ | none => _
  rw [rds_jn ho]
  dsimp only
  rw [if_neg (by omega)]
  refine ⟨nol_do ds, ds, by rw [untags_do], untag_do ds, by rw [List.length_map, sizeLine_eq]; omega, ?_⟩
  refine comp_dem (Pn 31 40) DOk doD (fun R q => ?_) (fun xs hx => by have := hx.2.1; omega) (fun xs hp x hx K hK => ?_) (fun xs hp es en eo => ?_)
  · walk_at "x"
    exact ⟨by decide, hl, fun v => ⟨CD.lit, by decide, by have := fm (a := v.fdiv 4) (b := 10) (by decide); exact ⟨by omega, by omega⟩, q _ Pn_rng⟩⟩
  · obtain ⟨i, rfl⟩ := hp.2.2 x hx
    walk_at "x"
    exact hK
  have e31 : 31 ≤ es.length := by rw [en]; exact hp.1
  have e40 : es.length ≤ 40 := by rw [en]; exact hp.2.1
  obtain ⟨fs, ef⟩ : ∃ fs, fs = (ds ++ es).take 40 := ⟨_, rfl⟩
  have fo : ∀ d ∈ fs, DOk d := fun d hd => by
    rw [ef] at hd
    rcases List.mem_append.mp (List.mem_of_mem_take hd) with z | z
    · exact ho d z
    · exact eo d z
  have f31 : 31 ≤ fs.length := by rw [ef, List.length_take, List.length_append]; omega
  have f40 : fs.length ≤ 40 := by rw [ef, List.length_take]; omega
  refine PD.comp_mapX fs doD (fun _ => true) (fun d => D.str (mkS (txD d))) (fun R q => ?_) (s_fit (by omega)) (fun x hx _ K hK => ?_) (fun x hx z => by cases z) fun _ => ?_
  · walk_at "x"
    refine ⟨s_fit (by rw [List.length_map, List.length_map]; omega), ?_⟩
    rw [← List.map_append]
    have := cut_hi doD (ds ++ es) 40
    rw [← ef] at this
    exact this ▸ q
  · walk_at "x"
    exact ⟨_, rfl, fo x hx, hK⟩
  have fj := jn_sum fo
  rw [List.length_map] at fj
  obtain ⟨W, eW⟩ : ∃ W, W = fs.map fun d => mkS (txD d) := ⟨_, rfl⟩
  have Wl : W.length = fs.length := by rw [eW, List.length_map]
  have Wo : ∀ w ∈ W, WO w := fun w hw => by
    rw [eW] at hw
    obtain ⟨d, hd, rfl⟩ := List.mem_map.mp hw
    exact WO_tx (fo d hd)
  have eD : (fs.map fun d => D.str (mkS (txD d))) = W.map D.str := by rw [eW, List.map_map]; rfl
  have Ws := jw_sum Wo
  rw [eD]
  refine ⟨_, rfl, false, W, rfl, by decide, by omega, jn fs, true, by rw [join_s, eW]; rfl, rfl, jn_TZ0 fo (by omega), by rw [rds_jn fo]; exact ⟨by omega, rfl⟩, by decide, hl, fun v2 => ⟨.inr (.inl (by unfold Bd; decide)), by decide, by rw [List.length_map]; omega, sz4' _ _ _ _, by decide, hl, fun v3 => ⟨by decide, ?_⟩⟩⟩
  have h4 := fm (a := v3) (b := 4) (by decide)
  obtain ⟨w, ew, bw, ww⟩ := bad_at h4.1 h4.2
  have g := fm (a := (v2 * 48271).fmod 2147483647) (b := (W.length : Int)) (by omega)
  obtain ⟨j, ej⟩ : ∃ j, j = (((v2 * 48271).fmod 2147483647).fmod (W.length : Int)).toNat := ⟨_, rfl⟩
  have jl : j < W.length := by omega
  refine ⟨_, ew, _, j, rfl, by rw [List.length_map, ix_lt g.1 g.2, ej], ?_⟩
  have Vo : ∀ x ∈ W.set j w, WO x := fun x hx => by
    rcases List.mem_or_eq_of_mem_set hx with z | z
    · exact Wo x z
    · rw [z]; exact ww
  have Vs := jw_sum Vo
  have Vl : (W.set j w).length = W.length := List.length_set
  have rv : rdsL (jw (W.set j w)) = none := rds_bad Vo (by omega) (List.mem_iff_getElem.mpr ⟨j, by omega, by simp⟩) bw
  refine ⟨true, W.set j w, by rw [List.map_set], by decide, by omega, jw (W.set j w), false, by rw [join_s]; rfl, rfl, jw_TZ Vo (fun z => by rw [z] at Vl; simp at Vl; omega) (by omega), by rw [rv], T, ?_⟩
  show match rdsL (jn ds) with | some r => _ | none => _
  rw [rds_jn ho]
  dsimp only
  rw [if_neg (by omega)]
  have co := cut_hi doD es 30
  have go : ∀ d ∈ es.take 30, DOk d := fun d hd => eo d (List.mem_of_mem_take hd)
  have gl : (es.take 30).length ≤ 30 := by rw [List.length_take]; omega
  refine ⟨ds, by rw [untags_do], untag_do ds, _, _, rfl, es.take 30, by rw [← untags_do (es.take 30), ← co]; rfl, go, by omega, jn_TZ0 go (by omega), ?_⟩
  rw [rds_jn go]
  dsimp only
  rw [if_neg (by omega)]
  refine ⟨_, _, rfl, ok4 _, ?_, ?_⟩
  · exact co ▸ ok4 _
  · rw [show PD.cutD (es.map doD) none (some 30) = (es.take 30).map doD from co, eqD_refl]
    exact h
end
theorem all_mk {l : PySem.W.OpenLaw} {w : World} {K : PySem.W.Frag} {h : Heap} {mg : Str → Option Value} {fa f17 c_PlaneError c_NoDots c_TooMany c_NoText : Addr} (X : K.In h) (G : h.Ns mainGlobals mg) (hfa : mg "law" = some (.ref fa))
    {tk_MOST_DOTS tk_DIGITS_OF_COORDINATE tk_DIGITS_OF_WEIGHT tk_LETTERS : Tok}
    {od17 an17 : Option Addr} {sl17 : Array (Option Value)} {oc17 kV17 dc17 pm17 cd17 ct17 : Value}
    (e0 : FL K "check_text" s_check_text)
    (e1 : FL K "whole_of" s_whole_of)
    (e2 : FL K "read_whole" s_read_whole)
    (e3 : FL K "read_colour" s_read_colour)
    (e4 : FL K "read_from_two" s_read_from_two)
    (e5 : FL K "read_dot" s_read_dot)
    (e6 : FL K "show_spot" s_show_spot)
    (e7 : FL K "show_dot" s_show_dot)
    (e8 : FL K "read_dots" s_read_dots)
    (e9 : FL K "show_dots" s_show_dots)
    (e10 : FL K "_law_whole" s_law_whole)
    (e11 : FL K "_law_cell_at" s_law_cell_at)
    (e12 : FL K "_law_stream" s_law_stream)
    (e13 : FL K "_law_drawn" s_law_drawn)
    (e14 : FL K "_law_word" s_law_word)
    (e15 : FL K "_law_dots" s_law_dots)
    (e16 : FL K "_law_refused" s_law_refused)
    (a17 : PySem.W.nsIn K mainGlobals "law" = some (some (.ref f17))) (l17 : K.lookup f17 = some ⟨oc17, od17, .func (PySem.W.fnOf "law" "law" (defArgs s_law) (defBody s_law) (defScope s_law) .none kV17 dc17 pm17 an17 cd17 ct17), sl17⟩) (c17 : PySem.W.codeIn K cd17 "law" = true) (k17 : PySem.W.keepIn K (.ref f17) = true)
    (mg_PlaneError : PySem.W.nsIn K mainGlobals "PlaneError" = some (some (.ref c_PlaneError)))
    (mg_NoDots : PySem.W.nsIn K mainGlobals "NoDots" = some (some (.ref c_NoDots)))
    (mg_TooMany : PySem.W.nsIn K mainGlobals "TooMany" = some (some (.ref c_TooMany)))
    (mg_NoText : PySem.W.nsIn K mainGlobals "NoText" = some (some (.ref c_NoText)))
    (gi_MOST_DOTS : PySem.W.nsIn K mainGlobals "MOST_DOTS" = some (some (.int (30) tk_MOST_DOTS)))
    (gi_DIGITS_OF_COORDINATE : PySem.W.nsIn K mainGlobals "DIGITS_OF_COORDINATE" = some (some (.int (12) tk_DIGITS_OF_COORDINATE)))
    (gi_DIGITS_OF_WEIGHT : PySem.W.nsIn K mainGlobals "DIGITS_OF_WEIGHT" = some (some (.int (9) tk_DIGITS_OF_WEIGHT)))
    (gs_LETTERS : PySem.W.nsIn K mainGlobals "LETTERS" = some (some (.str "abc" tk_LETTERS)))
    (exc_NoText : PySem.W.excIn K c_NoText veMro "ValueError.__new__" = true)
    (xk_NoText : PX.excK K c_NoText = true)
    (kit_NoText_PlaneError : PySem.W.kitOne K (.ref c_NoText) (.ref c_PlaneError) = some true)
    (kit_NoText_NoDots : PySem.W.kitOne K (.ref c_NoText) (.ref c_NoDots) = some false)
    (kit_NoText_TooMany : PySem.W.kitOne K (.ref c_NoText) (.ref c_TooMany) = some false)
    (kit_NoText_NoText : PySem.W.kitOne K (.ref c_NoText) (.ref c_NoText) = some true)
    (kit_NoText_ValueError : PySem.W.kitOne K (.ref c_NoText) (.type "ValueError") = some true)
    (exm_NoText_PlaneError : PySem.W.exmOne K (.ref c_NoText) (.ref c_PlaneError) = some true)
    (exm_NoText_NoText : PySem.W.exmOne K (.ref c_NoText) (.ref c_NoText) = some true)
    (exc_NoDots : PySem.W.excIn K c_NoDots veMro "ValueError.__new__" = true)
    (xk_NoDots : PX.excK K c_NoDots = true)
    (kit_NoDots_PlaneError : PySem.W.kitOne K (.ref c_NoDots) (.ref c_PlaneError) = some true)
    (kit_NoDots_NoDots : PySem.W.kitOne K (.ref c_NoDots) (.ref c_NoDots) = some true)
    (kit_NoDots_TooMany : PySem.W.kitOne K (.ref c_NoDots) (.ref c_TooMany) = some false)
    (kit_NoDots_NoText : PySem.W.kitOne K (.ref c_NoDots) (.ref c_NoText) = some false)
    (kit_NoDots_ValueError : PySem.W.kitOne K (.ref c_NoDots) (.type "ValueError") = some true)
    (exm_NoDots_PlaneError : PySem.W.exmOne K (.ref c_NoDots) (.ref c_PlaneError) = some true)
    (exm_NoDots_NoDots : PySem.W.exmOne K (.ref c_NoDots) (.ref c_NoDots) = some true)
    (z_ValueError : PySem.W.nsIn K mainGlobals "ValueError" = some none) (z_abs : PySem.W.nsIn K mainGlobals "abs" = some none) (z_bool : PySem.W.nsIn K mainGlobals "bool" = some none) (z_int : PySem.W.nsIn K mainGlobals "int" = some none) (z_isinstance : PySem.W.nsIn K mainGlobals "isinstance" = some none) (z_len : PySem.W.nsIn K mainGlobals "len" = some none) (z_list : PySem.W.nsIn K mainGlobals "list" = some none) (z_range : PySem.W.nsIn K mainGlobals "range" = some none) (z_str : PySem.W.nsIn K mainGlobals "str" = some none) (z_tuple : PySem.W.nsIn K mainGlobals "tuple" = some none) (z_zip : PySem.W.nsIn K mainGlobals "zip" = some none) :
    ∃ fd : FuncData, (∀ (s : Shared) (v : Value), BindsTo s fd ⟨[v], []⟩ [("_law_script", v)]) ∧ ∀ base : Heap, K.In base → base.Ns mainGlobals mg → FnC l.prog w K mg base 7 fa fd ["_law_script"] spLaw := by
  have e := hfa.symm.trans (PySem.W.mg_of X G a17)
  cases e
  have z_ValueError := PySem.W.mg_none_of X G z_ValueError
  have z_abs := PySem.W.mg_none_of X G z_abs
  have z_bool := PySem.W.mg_none_of X G z_bool
  have z_int := PySem.W.mg_none_of X G z_int
  have z_isinstance := PySem.W.mg_none_of X G z_isinstance
  have z_len := PySem.W.mg_none_of X G z_len
  have z_list := PySem.W.mg_none_of X G z_list
  have z_range := PySem.W.mg_none_of X G z_range
  have z_str := PySem.W.mg_none_of X G z_str
  have z_tuple := PySem.W.mg_none_of X G z_tuple
  have z_zip := PySem.W.mg_none_of X G z_zip
  have C : COk K mg ⟨c_PlaneError, c_NoDots, c_TooMany, c_NoText⟩ := ⟨PySem.W.mg_of X G mg_PlaneError, PySem.W.mg_of X G mg_NoDots, PySem.W.mg_of X G mg_TooMany, PySem.W.mg_of X G mg_NoText, ⟨_, PySem.W.mg_of X G gi_MOST_DOTS⟩, ⟨_, PySem.W.mg_of X G gi_DIGITS_OF_COORDINATE⟩, ⟨_, PySem.W.mg_of X G gi_DIGITS_OF_WEIGHT⟩, ⟨_, PySem.W.mg_of X G gs_LETTERS⟩, exc_NoText, PX.ExcK.of xk_NoText, kit_NoText_PlaneError, kit_NoText_NoDots, kit_NoText_TooMany, kit_NoText_NoText, kit_NoText_ValueError, exm_NoText_PlaneError, exm_NoText_NoText, exc_NoDots, PX.ExcK.of xk_NoDots, kit_NoDots_PlaneError, kit_NoDots_NoDots, kit_NoDots_TooMany, kit_NoDots_NoText, kit_NoDots_ValueError, exm_NoDots_PlaneError, exm_NoDots_NoDots⟩
  refine ⟨PySem.W.fnOf "law" "law" (defArgs s_law) (defBody s_law) (defScope s_law) .none kV17 dc17 pm17 an17 cd17 ct17, fun s v => .of_eq rfl, fun base _ _ => ?_⟩
  have h_check_text := e0.has l.prog w base X G fun F => ok_check_text F C z_isinstance z_str
  have h_whole_of := e1.hasK l.prog w base X G fun F => ok_whole_of F C z_ValueError z_int
  have h_read_whole := e2.hasK l.prog w base X G fun F => ok_read_whole F C h_whole_of z_abs z_len z_str
  have h_read_colour := e3.has l.prog w base X G fun F => ok_read_colour F C z_len
  have h_read_from_two := e4.hasK l.prog w base X G fun F => ok_read_from_two F C h_read_whole
  have h_read_dot := e5.hasK l.prog w base X G fun F => ok_read_dot F C h_read_colour h_read_from_two h_read_whole
  have h_show_spot := e6.has l.prog w base X G fun F => ok_show_spot F C
  have h_show_dot := e7.has l.prog w base X G fun F => ok_show_dot F C h_show_spot
  have h_read_dots := e8.hasK l.prog w base X G fun F => ok_read_dots F C h_check_text h_read_dot z_len
  have h_show_dots := e9.has l.prog w base X G fun F => ok_show_dots F C h_show_dot
  have h_law_whole := e10.has l.prog w base X G fun F => ok_law_whole F C z_bool z_int z_isinstance
  have h_law_cell_at := e11.has l.prog w base X G fun F => ok_law_cell_at F C z_len
  have h_law_stream := e12.has l.prog w base X G fun F => ok_law_stream F C z_range
  have h_law_drawn := e13.has l.prog w base X G fun F => ok_law_drawn F C h_law_stream
  have h_law_word := e14.has l.prog w base X G fun F => ok_law_word F C z_str
  have h_law_dots := e15.has l.prog w base X G fun F => ok_law_dots F C h_law_whole z_isinstance z_len z_list z_tuple z_zip
  have h_law_refused := e16.hasK l.prog w base X G fun F => ok_law_refused F C h_read_dots z_ValueError z_isinstance
  exact ok_law (funD_mk (st := s_law) l17 c17 k17) C h_law_cell_at h_law_dots h_law_drawn h_law_refused h_law_word h_read_dots h_show_dots z_isinstance z_len z_list z_range z_str
end LW
namespace WC
open _root_.PySem _root_.PySem.W PyProof.Rows
set_option maxRecDepth 100000 in
set_option maxHeartbeats 0 in
theorem top : _root_.PySem.Challenge.rw_halvecut_k81_texts_of_dots.Holds := by
  w_on; o_law; k_head; (case hw => w_witness2)
  k_fill
  refine PD.walkC (l := _root_.PySem.Challenge.rw_halvecut_k81_texts_of_dots) (k := 7) (x := "_law_script") rfl rfl ⟨rfl, by decide, by decide⟩ (fun w h Y => PySem.W.kIn_of Y) (fun w => by kernel_rfl) ?F
  case F =>
    intro w mg fa h KX G hmg
    refine' LW.all_mk KX G hmg ?e0 ?e1 ?e2 ?e3 ?e4 ?e5 ?e6 ?e7 ?e8 ?e9 ?e10 ?e11 ?e12 ?e13 ?e14 ?e15 ?e16 ?a17 ?l17 ?c17 ?k17 ?mg_PlaneError ?mg_NoDots ?mg_TooMany ?mg_NoText ?gi_MOST_DOTS ?gi_DIGITS_OF_COORDINATE ?gi_DIGITS_OF_WEIGHT ?gs_LETTERS ?exc_NoText ?xk_NoText ?kit_NoText_PlaneError ?kit_NoText_NoDots ?kit_NoText_TooMany ?kit_NoText_NoText ?kit_NoText_ValueError ?exm_NoText_PlaneError ?exm_NoText_NoText ?exc_NoDots ?xk_NoDots ?kit_NoDots_PlaneError ?kit_NoDots_NoDots ?kit_NoDots_TooMany ?kit_NoDots_NoText ?kit_NoDots_ValueError ?exm_NoDots_PlaneError ?exm_NoDots_NoDots ?z_ValueError ?z_abs ?z_bool ?z_int ?z_isinstance ?z_len ?z_list ?z_range ?z_str ?z_tuple ?z_zip
    all_goals try (refine' PD.FL.mk ?a ?l ?c ?k; (case a => k_is); (case l => k_is); (case c => k_is); (case k => k_is))
    (case a17 => k_is)
    (case l17 => k_is)
    (case c17 => k_is)
    (case k17 => k_is)
    (case mg_PlaneError => k_is)
    (case mg_NoDots => k_is)
    (case mg_TooMany => k_is)
    (case mg_NoText => k_is)
    (case gi_MOST_DOTS => k_is)
    (case gi_DIGITS_OF_COORDINATE => k_is)
    (case gi_DIGITS_OF_WEIGHT => k_is)
    (case gs_LETTERS => k_is)
    (case exc_NoText => kernel_rfl)
    (case xk_NoText => kernel_rfl)
    (case kit_NoText_PlaneError => kernel_rfl)
    (case kit_NoText_NoDots => kernel_rfl)
    (case kit_NoText_TooMany => kernel_rfl)
    (case kit_NoText_NoText => kernel_rfl)
    (case kit_NoText_ValueError => kernel_rfl)
    (case exm_NoText_PlaneError => kernel_rfl)
    (case exm_NoText_NoText => kernel_rfl)
    (case exc_NoDots => kernel_rfl)
    (case xk_NoDots => kernel_rfl)
    (case kit_NoDots_PlaneError => kernel_rfl)
    (case kit_NoDots_NoDots => kernel_rfl)
    (case kit_NoDots_TooMany => kernel_rfl)
    (case kit_NoDots_NoText => kernel_rfl)
    (case kit_NoDots_ValueError => kernel_rfl)
    (case exm_NoDots_PlaneError => kernel_rfl)
    (case exm_NoDots_NoDots => kernel_rfl)
    (case z_ValueError => k_is)
    (case z_abs => k_is)
    (case z_bool => k_is)
    (case z_int => k_is)
    (case z_isinstance => k_is)
    (case z_len => k_is)
    (case z_list => k_is)
    (case z_range => k_is)
    (case z_str => k_is)
    (case z_tuple => k_is)
    (case z_zip => k_is)
end WC
theorem PySem.Challenge.cw_halvecut_k81_texts_of_dots_holds : PySem.Challenge.rw_halvecut_k81_texts_of_dots.Holds := by
  exact WC.top
