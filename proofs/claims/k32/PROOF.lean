import PyProof.Rows.All
import Wide.All
import OpenK.AllK
import Wide.FinOn
import Lean
import PyProof.EqAt
import PyProof.EqKinds
import PyProof.TupleCall
import PySem.Challenge.RW_halvecut_k32_the_shortest_mixture
set_option Elab.async false
set_option linter.all false
set_option maxRecDepth 100000
namespace L2
open PySem PySem.Spec PyProof.Rows
abbrev Key := Sum Int Str
def ve : Key -> Value -> Bool
 | .inl k, v => Value.isInt k v
 | .inr x, v => Value.isStrOf x v
def yM (w : World) : Key -> Int
 | .inl k => hashInt k
 | .inr x => hashStr w x
theorem bq : ∀ {k : Key} {v : Value}, ve k v = true -> (∃ i t, k = Sum.inl i /\ v = Value.int i t) ∨ (∃ x t, k = Sum.inr x /\ v = Value.str x t)
 | .inl i, v, h => by
  obtain ⟨t, e⟩ := Value.isInt_shape (k := i) (v := v) h
  exact .inl ⟨i, t, rfl, e⟩
 | .inr x, v, h => by
  obtain ⟨t, e⟩ := Value.isStrOf_shape (x := x) (v := v) h
  exact .inr ⟨x, t, rfl, e⟩
theorem w8 (a b : Int) : decide ((Sum.inl a : Key) = Sum.inl b) = (a == b) := by
 by_cases e : a = b
 ·subst e; simp
 ·have h : ¬ (Sum.inl a : Key) = Sum.inl b := fun q => e (Sum.inl.inj q)
  rw [decide_eq_false h]
  exact (beq_eq_false_iff_ne.mpr e).symm
theorem xf (a b : Str) : decide ((Sum.inr a : Key) = Sum.inr b) = decide (a = b) := by
 by_cases e : a = b
 ·subst e; simp
 ·have h : ¬ (Sum.inr a : Key) = Sum.inr b := fun q => e (Sum.inr.inj q)
  rw [decide_eq_false h, decide_eq_false e]
theorem xa (a : Int) (b : Str) : decide ((Sum.inl a : Key) = Sum.inr b) = false := decide_eq_false (fun q => nomatch q)
theorem xc (a : Str) (b : Int) : decide ((Sum.inr a : Key) = Sum.inl b) = false := decide_eq_false (fun q => nomatch q)
def o9 (prog : Program) (w : World) : PySem.KeyKind prog w Key where
 is := ve
 hash := yM w
 inj := fun v a b ha hb => by
  rcases bq ha with ⟨i, t, rfl, rfl⟩ | ⟨x, t, rfl, rfl⟩
  ·rcases bq hb with ⟨j, u, rfl, e⟩ | ⟨y, u, rfl, e⟩
   ·injection e with e1 _; rw [e1]
   ·exact nomatch e
  ·rcases bq hb with ⟨j, u, rfl, e⟩ | ⟨y, u, rfl, e⟩
   ·exact nomatch e
   ·injection e with e1 _; rw [e1]
 byValue := fun k v h => by
  rcases bq h with ⟨i, t, rfl, rfl⟩ | ⟨x, t, rfl, rfl⟩ <;> rfl
 pyHash := fun hv h => by
  rcases bq hv with ⟨i, t, rfl, rfl⟩ | ⟨x, t, rfl, rfl⟩
  ·exact wpAny_pyHash_int h
  ·exact wpAny_pyHash_str h
 eqBool := fun hu hv h => by
  rcases bq hu with ⟨i, t, rfl, rfl⟩ | ⟨x, t, rfl, rfl⟩
  ·rcases bq hv with ⟨j, u, rfl, rfl⟩ | ⟨y, u, rfl, rfl⟩
   ·rw [w8] at h; exact wpAny_eqBool_int h
   ·rw [xa] at h; exact SeqAt.EqAt.int_str i t y u _ _ _ _ h
  ·rcases bq hv with ⟨j, u, rfl, rfl⟩ | ⟨y, u, rfl, rfl⟩
   ·rw [xc] at h; exact SeqAt.EqAt.str_int x t j u _ _ _ _ h
   ·rw [xf] at h; exact wpAny_eqBool_str h
 «strs» := fun k x t v h => by
  rcases bq h with ⟨i, u, rfl, e⟩ | ⟨y, u, rfl, e⟩
  ·exact nomatch e
  ·injection e with e1 _
   subst e1
   cases v <;> rfl
end L2
namespace L2
open PySem PySem.Spec PyProof.Rows
inductive V where
 | non | bl (b : Bool) | int (i : Int) | str (x : Str) | byt (b : Array UInt8) | flt (b : UInt64) | ref (a : Addr) | ty (n : String)
 deriving DecidableEq
def RelV : V -> Value -> Prop
 | .non, u => u = Value.none
 | .bl b, u => u = Value.bool b
 | .int i, u => ∃ t, u = Value.int i t
 | .str x, u => ∃ t, u = Value.str x t
 | .byt b, u => ∃ t, u = Value.bytes b t
 | .flt b, u => ∃ t, u = Value.float b t
 | .ref a, u => u = Value.ref a
 | .ty n, u => u = Value.type n
abbrev Vals : List V -> List Value -> Prop := Paired RelV
theorem Vals.length {xs : List V} {us : List Value} (r : Vals xs us) : xs.length = us.length := Paired.length r
theorem Vals.get : ∀ {xs : List V} {us : List Value} {i : Nat} {x : V}, Vals xs us -> xs[i]? = some x -> ∃ u, us[i]? = some u /\ RelV x u
 | _, _, _, _, .nil, e => by simp at e
 | _, _, 0, _, .cons r _, e => by simp at e; subst e; exact ⟨_, rfl, r⟩
 | _, _, i + 1, x, .cons _ t, e => by
  obtain ⟨u, h1, h2⟩ := Vals.get (i := i) (x := x) t (by simpa using e)
  exact ⟨u, by simpa using h1, h2⟩
theorem Vals.set {x : V} {u : Value} (r : RelV x u) : ∀ {xs : List V} {us : List Value} (i : Nat), Vals xs us -> Vals (xs.set i x) (us.set i u)
 | _, _, _, .nil => .nil
 | _, _, 0, .cons _ t => .cons r t
 | _, _, i + 1, .cons q t => .cons q (Vals.set r i t)
theorem Vals.append : ∀ {xs ys : List V} {us ws : List Value}, Vals xs us -> Vals ys ws -> Vals (xs ++ ys) (us ++ ws)
 | _, _, _, _, .nil, s => s
 | _, _, _, _, .cons r t, s => .cons r (Vals.append t s)
theorem Vals.take : ∀ {xs : List V} {us : List Value} (n : Nat), Vals xs us -> Vals (xs.take n) (us.take n)
 | _, _, 0, _ => .nil
 | _, _, _ + 1, .nil => .nil
 | _, _, n + 1, .cons r t => .cons r (Vals.take n t)
theorem Vals.drop : ∀ {xs : List V} {us : List Value} (n : Nat), Vals xs us -> Vals (xs.drop n) (us.drop n)
 | _, _, 0, r => r
 | _, _, _ + 1, .nil => .nil
 | _, _, n + 1, .cons _ t => Vals.drop n t
theorem Vals.none_of : ∀ {xs : List V} {us : List Value} {i : Nat}, Vals xs us -> xs[i]? = none -> us[i]? = none := fun {xs us i} r e => by
 have h1 := r.length
 have h2 : xs.length <= i := List.getElem?_eq_none_iff.mp e
 exact List.getElem?_eq_none_iff.mpr (by omega)
def gz : Option V -> Option Value -> Prop
 | some v, some u => RelV v u
 | none, none => True
 | _, _ => False
def KV {κ : Type} : List (κ × V) -> List (κ × Value) -> Prop := Paired fun (p : κ × V) (q : κ × Value) => p.1 = q.1 /\ RelV p.2 q.2
def kV : Key -> V
 | .inl i => .int i
 | .inr x => .str x
inductive HO where
 | lst (xs : List V)
 | tup (xs : List V)
 | dK (kvs : List (Key × V)) | dT (kvs : List (List Key × V))
 | set (S : Int -> Bool) (n : Nat)
 | ins (C dx : Addr) (fs : List (Str × V))
 | own (x : Addr)
 | xd (fs : List (Str × V))
 | met (f x : Addr)
 | rng (lo hi : Int)
 | frz (o : Obj) (u : HO)
 | tbl (ps : Array Value)
 | ext (φ : Heap -> Prop)
abbrev Hp := Addr -> Option HO
def upd (H : Hp) (a : Addr) (o : HO) : Hp := fun b => if b = a then some o else H b
theorem aA {H : Hp} {a : Addr} {o : HO} : upd H a o a = some o := by unfold upd; rw [if_pos rfl]
theorem ar {H : Hp} {a b : Addr} {o : HO} (h : b ≠ a) : upd H a o b = H b := by unfold upd; rw [if_neg h]
theorem fy {H : Hp} {a b : Addr} {o u : HO} (h : H a = some o) (h' : H b = some u) (d : o ≠ u) : a ≠ b := by
 intro e; subst e; rw [h] at h'; exact d (Option.some.inj h')
theorem aH {H : Hp} {a b : Addr} {o : HO} (h : H a = some o) (h' : H b = none) : a ≠ b := by
 intro e; subst e; rw [h] at h'; cases h'
section
variable (P : Program) (w : World)
def bH (H : Hp) (h : Heap) (a : Addr) : HO -> Prop
 | .lst xs => xs.length <= sizeLine /\ ∃ (its : List Value) (n : Nat), Vals xs its /\ h.get? a = some { cls := .type "list", data := .seq its.toArray n }
 | .tup xs => xs.length <= sizeLine /\ ∃ its : List Value, Vals xs its /\ IsTup h a its.toArray
 | .dK kvs => kvs.length <= sizeLine /\ (a == sysModules) = false /\ ∃ vs, KV kvs vs /\ h.DictOf (o9 P w) a vs
 | .dT kvs => kvs.length <= sizeLine /\ (a == sysModules) = false /\ ∃ xs : List (List Key × Addr × Value),
   Paired (fun (p : List Key × V) (q : List Key × Addr × Value) => p.1 = q.1 /\ H q.2.1 = some (.tup (p.1.map kV)) /\ RelV p.2 q.2.2) kvs xs ∧
   ∃ o es ep, h.get? a = some o /\ o.ExactDict /\ o.data = .dict es ep /\ es.toList = xs.map (entryOfKey (tupleKind (o9 P w))) /\ (xs.map (·.1)).Nodup
 | .set S n => h.SetOf (intKind P w) a S n
 | .ins C dx fs => H dx = some (.own a) /\ fs.length <= 1000 /\ dx ≠ a /\ h.get? a = some (PySem.W.instObj C dx) ∧
   ∃ mA, h.Ns1 dx mA /\ (∀ f, gz (fs.lookup f) (mA f)) /\ PySem.Within mA (fs.map (·.1))
 | .own _ => ∃ o, h.get? a = some o
 | .xd fs => ∃ mA, h.Ns1 a mA /\ ∀ f, gz (fs.lookup f) (mA f)
 | .rng lo hi => ∃ t u v, h.get? a = some { cls := .type "range", data := .fields #[.int lo t, .int hi u, .int 1 v] }
 | .frz o u => h.get? a = some o /\ bH H h a u
 | .tbl ps => h.get? a = some { cls := .none, data := .fields ps }
 | .met f x => h.get? a = some (PySem.W.methodObj (.ref f) (.ref x))
 | .ext φ => φ h /\ (∃ o, h.get? a = some o) /\ ∀ h1 h2 : Heap, φ h1 -> (∀ o, h1.get? a = some o -> h2.get? a = some o) -> φ h2
def HOk (H : Hp) (h : Heap) : Prop := ∀ a o, H a = some o -> bH P w H h a o
end
section
variable {P : Program} {w : World} {H H' : Hp} {h h' : Heap} {a : Addr} {o : HO}
theorem bH.lt (x : bH P w H h a o) : a < h.objs.size := by
 cases o with
 | lst xs => obtain ⟨_, _, _, _, e⟩ := x; exact Heap.lt_size e
 | tup xs => obtain ⟨_, _, _, p⟩ := x; exact p.lt
 | dK kvs => obtain ⟨_, _, _, _, o, _, _, e, _⟩ := x; exact Heap.lt_size e
 | dT kvs => obtain ⟨_, _, _, _, o, _, _, e, _⟩ := x; exact Heap.lt_size e
 | set S n => obtain ⟨o, _, _, _, e, _⟩ := x; exact Heap.lt_size e
 | ins C dx fs => obtain ⟨_, _, _, e, _⟩ := x; exact Heap.lt_size e
 | own y => obtain ⟨_, e⟩ := x; exact Heap.lt_size e
 | xd fs => obtain ⟨_, ⟨_, _, _, e, _⟩, _⟩ := x; exact Heap.lt_size e
 | rng lo hi => obtain ⟨_, _, _, e⟩ := x; exact Heap.lt_size e
 | frz ob u => obtain ⟨e, _⟩ := x; exact Heap.lt_size e
 | tbl ps => exact Heap.lt_size (show h.get? a = some _ from x)
 | met f y => exact Heap.lt_size (show h.get? a = some _ from x)
 | ext φ => obtain ⟨_, ⟨_, e⟩, _⟩ := x; exact Heap.lt_size e
theorem Paired.mapP {α β : Type} {F G : α -> β -> Prop} : ∀ {l₁ : List α} {l₂ : List β}, Paired F l₁ l₂ -> (∀ a b, F a b -> G a b) -> Paired G l₁ l₂
 | _, _, .nil, _ => .nil
 | _, _, .cons r t, f => .cons (f _ _ r) (Paired.mapP t f)
theorem bH.stay (x : bH P w H h a o) (k : ∀ b u, (b = a ∨ H b = some (.own a)) -> h.get? b = some u -> h'.get? b = some u)
  (ho : ∀ b, H b = some (.own a) -> H' b = some (.own a)) (ht : ∀ b xs, H b = some (.tup xs) -> H' b = some (.tup xs)) : bH P w H' h' a o := by
 induction o with
 | lst xs => obtain ⟨z, its, n, r, e⟩ := x; exact ⟨z, its, n, r, k _ _ (.inl rfl) e⟩
 | tup xs => obtain ⟨z, its, r, ob, e, c⟩ := x; exact ⟨z, its, r, ob, k _ _ (.inl rfl) e, c⟩
 | dK kvs => obtain ⟨z, y, vs, r, ob, es, ep, e, c⟩ := x; exact ⟨z, y, vs, r, ob, es, ep, k _ _ (.inl rfl) e, c⟩
 | dT kvs =>
  obtain ⟨z, y, xs, r, ob, es, ep, e, c⟩ := x
  exact ⟨z, y, xs, Paired.mapP r fun p q z => ⟨z.1, ht _ _ z.2.1, z.2.2⟩, ob, es, ep, k _ _ (.inl rfl) e, c⟩
 | set S n => obtain ⟨ob, es, ep, t, e, c⟩ := x; exact ⟨ob, es, ep, t, k _ _ (.inl rfl) e, c⟩
 | ins C dx fs =>
  obtain ⟨d, z, ne, e, mA, ⟨od, es, ep, e2, c⟩, r⟩ := x
  exact ⟨ho _ d, z, ne, k _ _ (.inl rfl) e, mA, ⟨od, es, ep, k _ _ (.inr d) e2, c⟩, r⟩
 | own y => obtain ⟨ob, e⟩ := x; exact ⟨ob, k _ _ (.inl rfl) e⟩
 | xd fs => obtain ⟨mA, ⟨od, es, ep, e, c⟩, r⟩ := x; exact ⟨mA, ⟨od, es, ep, k _ _ (.inl rfl) e, c⟩, r⟩
 | rng lo hi => obtain ⟨t, u, v, e⟩ := x; exact ⟨t, u, v, k _ _ (.inl rfl) e⟩
 | frz ob u ih => obtain ⟨e, q⟩ := x; exact ⟨k _ _ (.inl rfl) e, ih q⟩
 | tbl ps =>
  have e : h.get? a = some { cls := .none, data := .fields ps } := x
  show h'.get? a = some { cls := .none, data := .fields ps }
  exact k a _ (.inl rfl) e
 | met f y =>
  have e : h.get? a = some (PySem.W.methodObj (.ref f) (.ref y)) := x
  show h'.get? a = some (PySem.W.methodObj (.ref f) (.ref y))
  exact k a _ (.inl rfl) e
 | ext φ => obtain ⟨p, ⟨o, e⟩, st⟩ := x; exact ⟨st _ _ p fun o q => k _ _ (.inl rfl) q, ⟨o, k _ _ (.inl rfl) e⟩, st⟩
theorem HOk.lt (x : HOk P w H h) (e : H a = some o) : a < h.objs.size := (x a o e).lt
theorem HOk.fresh (x : HOk P w H h) (e : h.objs.size <= a) : H a = none := by
 cases q : H a with
 | none => rfl
 | some u => exact absurd (Nat.lt_of_lt_of_le (x.lt q) e) (Nat.lt_irrefl _)
theorem HOk.kept (x : HOk P w H h) (k : ∀ b u, h.get? b = some u -> h'.get? b = some u) : HOk P w H h' := fun a o e =>
 (x a o e).stay (fun b u _ q => k b u q) (fun _ q => q) fun _ _ q => q
theorem HOk.laid (x : HOk P w H h) (k : ∀ b u, h.get? b = some u -> h'.get? b = some u) (hp : h.objs.size <= a) (new : bH P w (upd H a o) h' a o) : HOk P w (upd H a o) h' := fun b u e => by
 have hn := x.fresh hp
 by_cases hb : b = a
 ·subst hb; rw [aA] at e; cases e; exact new
 ·rw [ar hb] at e
  exact (x b u e).stay (fun c v _ q => k c v q) (fun c q => by rw [ar (aH q hn)]; exact q) fun c xs q => by rw [ar (aH q hn)]; exact q
end
def Rd (H : Hp) (a : Addr) (u : HO) : Prop := H a = some u ∨ ∃ o, H a = some (.frz o u)
theorem Rd.of {H : Hp} {a : Addr} {u : HO} (h : H a = some u) : Rd H a u := .inl h
theorem Rd.ok {P : Program} {w : World} {H : Hp} {h : Heap} {a : Addr} {u : HO} (r : Rd H a u) (x : HOk P w H h) : bH P w H h a u := by
 rcases r with r | ⟨o, r⟩
 ·exact x a u r
 ·obtain ⟨_, q⟩ := x a _ r
  exact q
def Mut : Option HO -> Prop
 | some (.lst _) => True
 | some (.dK _) => True
 | some (.dT _) => True
 | some (.set _ _) => True
 | some (.ins _ _ _) => True
 | some (.ext _) => True
 | _ => False
section
variable {P : Program} {w : World} {H : Hp} {h h' : Heap} {x e : Addr} {o' : HO}
theorem HOk.write (ok : HOk P w H h) (mu : Mut (H x)) (he : e = x ∨ H e = some (.own x)) (k : ∀ b u, b ≠ e -> h.get? b = some u -> h'.get? b = some u) (heo : ∃ u, h'.get? e = some u)
  (new : bH P w (upd H x o') h' x o') : HOk P w (upd H x o') h' := fun b u q => by
 have nown : ∀ c y, H c = some (.own y) -> c ≠ x := fun c y r z => by subst z; rw [r] at mu; exact mu
 have ntup : ∀ c xs, H c = some (.tup xs) -> c ≠ x := fun c xs r z => by subst z; rw [r] at mu; exact mu
 by_cases hb : b = x
 ·subst hb; rw [aA] at q; cases q; exact new
 ·rw [ar hb] at q
  by_cases hbe : b = e
  ·have q' : H b = some (.own x) := by
    rcases he with z | z
    ·exact absurd (hbe.trans z) hb
    ·rw [hbe]; exact z
   rw [q] at q'; cases q'
   obtain ⟨v, hv⟩ := heo
   exact ⟨v, by rw [hbe]; exact hv⟩
  ·refine (ok b u q).stay (fun c v hc r => k c v ?_ r) (fun c r => by rw [ar (nown c b r)]; exact r) fun c xs r => by rw [ar (ntup c xs r)]; exact r
   rcases hc with rfl | hc
   ·exact hbe
   ·rintro rfl
    rcases he with z | z
    ·exact nown c b hc z
    ·rw [hc] at z; cases z; exact hb rfl
end
structure Un (fs ex : List Addr) (H H' : Hp) (h h' : Heap) : Prop where
 keep : ∀ b o, h.get? b = some o -> H b = none -> b ∉ fs -> b ∉ ex -> h'.get? b = some o
 slot : ∀ b o, h.get? b = some o -> H b = none -> b ∈ fs -> b ∉ ex -> ∃ sl, h'.get? b = some { o with slots := sl }
 free : ∀ b o, h.get? b = some o -> H b = none -> b ∉ ex -> H' b = none
 there : ∀ b o, h.get? b = some o -> b ∉ ex -> ∃ o', h'.get? b = some o'
 tups : ∀ b xs, H b = some (.tup xs) -> H' b = some (.tup xs)
 frzs : ∀ b o u, H b = some (.frz o u) -> H' b = some (.frz o u)
 tbls : ∀ b ps, H b = some (.tbl ps) -> ∃ more, H' b = some (.tbl (ps ++ more))
section
variable {fs fs' ex ex' : List Addr} {H H1 H2 : Hp} {h h1 h2 h' : Heap} {a x e : Addr} {o : HO}
theorem Un.any (u : Un fs ex H H1 h h1) {b : Addr} {ob : Obj} (q : h.get? b = some ob) (n : H b = none) (hx : b ∉ ex) : ∃ sl, h1.get? b = some { ob with slots := sl } := by
 by_cases hb : b ∈ fs
 ·exact u.slot b ob q n hb hx
 ·exact ⟨ob.slots, u.keep b ob q n hb hx⟩
theorem Un.trans (a : Un fs ex H H1 h h1) (b : Un fs ex H1 H2 h1 h2) : Un fs ex H H2 h h2 where
 keep := fun c ob q n hc hx => b.keep c ob (a.keep c ob q n hc hx) (a.free c ob q n hx) hc hx
 slot := fun c ob q n hc hx => by
  obtain ⟨sl, e1⟩ := a.slot c ob q n hc hx
  obtain ⟨sl', e2⟩ := b.slot c _ e1 (a.free c ob q n hx) hc hx
  exact ⟨sl', e2⟩
 free := fun c ob q n hx => by
  obtain ⟨o', e1⟩ := a.there c ob q hx
  exact b.free c o' e1 (a.free c ob q n hx) hx
 there := fun c ob q hx => by
  obtain ⟨o', e1⟩ := a.there c ob q hx
  exact b.there c o' e1 hx
 tups := fun c xs q => b.tups c xs (a.tups c xs q)
 frzs := fun c ob xs q => b.frzs c ob xs (a.frzs c ob xs q)
 tbls := fun c ps q => by
  obtain ⟨m1, e1⟩ := a.tbls c ps q
  obtain ⟨m2, e2⟩ := b.tbls c _ e1
  exact ⟨m1 ++ m2, by rw [e2, Array.append_assoc]⟩
theorem Un.kept (k : ∀ b u, h.get? b = some u -> h'.get? b = some u) : Un fs ex H H h h' :=
 ⟨fun b ob q _ _ _ => k b ob q, fun b ob q _ _ _ => ⟨ob.slots, k b ob q⟩, fun _ _ _ n _ => n, fun b ob q _ => ⟨ob, k b ob q⟩, fun _ _ q => q, fun _ _ _ q => q, fun _ ps q => ⟨#[], by rw [q]; simp⟩⟩
theorem Un.refl : Un fs ex H H h h := Un.kept fun _ _ q => q
theorem Un.laid (k : ∀ b u, h.get? b = some u -> h'.get? b = some u) (hp : h.objs.size <= a) (hn : H a = none) : Un fs ex H (upd H a o) h h' where
 keep := fun b u q _ _ _ => k b u q
 slot := fun b u q _ _ _ => ⟨u.slots, k b u q⟩
 free := fun b u q n _ => by rw [ar (Nat.ne_of_lt (Nat.lt_of_lt_of_le (Heap.lt_size q) hp))]; exact n
 there := fun b u q _ => ⟨u, k b u q⟩
 tups := fun b xs q => by rw [ar (aH q hn)]; exact q
 frzs := fun b u xs q => by rw [ar (aH q hn)]; exact q
 tbls := fun b ps q => ⟨#[], by rw [ar (aH q hn), q]; simp⟩
theorem Un.write (mu : Mut (H x)) (he : e = x ∨ H e = some (.own x)) (k : ∀ b u, b ≠ e -> h.get? b = some u -> h'.get? b = some u) (heo : ∃ u, h'.get? e = some u) : Un fs ex H (upd H x o) h h' := by
 have hx : ∀ b, H b = none -> b ≠ x := fun b n z => by subst z; rw [n] at mu; exact mu
 have hb : ∀ b, H b = none -> b ≠ e := fun b n z => by
  subst z
  rcases he with r | r
  ·exact hx b n r
  ·rw [n] at r; cases r
 have hm : ∀ b u, H b = some u -> ¬ Mut (some u) -> b ≠ x := fun b u q nm z => by subst z; rw [q] at mu; exact nm mu
 refine ⟨fun b u q n _ _ => k b u (hb b n) q, fun b u q n _ _ => ⟨u.slots, k b u (hb b n) q⟩, fun b u q n _ => by rw [ar (hx b n)]; exact n, fun b u q _ => ?_,
  fun b xs q => by rw [ar (hm b _ q fun z => z)]; exact q, fun b u xs q => by rw [ar (hm b _ q fun z => z)]; exact q, fun b ps q => ⟨#[], by rw [ar (hm b _ q fun z => z), q]; simp⟩⟩
 by_cases hbe : b = e
 ·subst hbe; exact heo
 ·exact ⟨u, k b u hbe q⟩
theorem Un.mono (u : Un fs ex H H1 h h1) (hs : ∀ b ∈ fs, b ∈ fs') (hx : ∀ b ∈ ex, b ∈ ex') : Un fs' ex' H H1 h h1 :=
 ⟨fun b ob q n hb he => u.keep b ob q n (fun z => hb (hs b z)) fun z => he (hx b z), fun _ _ q n _ he => u.any q n fun z => he (hx _ z), fun b ob q n he => u.free b ob q n fun z => he (hx b z), fun b ob q he => u.there b ob q fun z => he (hx b z), u.tups, u.frzs, u.tbls⟩
end
def trk (h : Heap) (H : Hp) : List Addr := (List.range h.objs.size).filter fun a => (H a).isSome
def ip (h : Heap) (H : Hp) : Heap := PySem.W.hideAll h (trk h H)
theorem sd (h : Heap) (H : Hp) : (ip h H).objs.size = h.objs.size := PySem.W.hideAll_size _ _
theorem uh {h : Heap} {H : Hp} {b : Addr} {o : Obj} (e : h.get? b = some o) (n : H b = none) : (ip h H).get? b = some o :=
 PySem.W.hideAll_get _ e fun hm => by
  have q : (H b).isSome = true := (List.mem_filter.mp hm).2
  rw [n] at q; simp at q
theorem vW {h : Heap} {H : Hp} {b : Addr} {o : Obj} (e : (ip h H).get? b = some o) : h.get? b = some o /\ H b = none := by
 have e' : h.get? b = some o := PySem.W.of_hideAll (trk h H) e
 refine ⟨e', ?_⟩
 cases q : H b with
 | none => rfl
 | some x =>
  have hm : b ∈ trk h H := List.mem_filter.mpr ⟨List.mem_range.mpr (Heap.lt_size e'), by simp [q]⟩
  have z : (ip h H).get? b = none := PySem.W.hideAll_none (trk h H) hm
  rw [z] at e; cases e
def vw (g h : Heap) (L : Addr) : List (Addr × Obj) := (List.range h.objs.size).filterMap fun a => if a = L ∨ (g.get? a).isSome = true then none else (h.get? a).map fun o => (a, o)
def rest (g h : Heap) (L d : Addr) : List (Addr × Obj) := (vw g h L).filter fun p => decide (p.1 ≠ d)
end L2
namespace L2
open PySem PySem.Spec PyProof.Rows
structure Mod (K : PySem.W.Frag) (mg : Str -> Option Value) (base : Heap) : Prop where
 kin : K.In base
 glob : base.Ns mainGlobals mg
 blt : ∃ mb, base.Ns builtinsNs mb /\ ∀ x : Str, x ≠ "__name__" -> mb x = bootBuiltins x
 nolimit : base.NoLimit
structure Cx where
 prog : Program
 w : World
 K : PySem.W.Frag
 mg : Str -> Option Value
 base : Heap
 A : Around
 N : List Str
 s₀ : Shared
 H₀ : Hp
 env : Env
 outer : List Env
 stack : List Env
 ex : List Addr
 fn : Str -> Bool
 calm : Bool
 pn : List (Addr × Obj)
 xe : Value -> Shared -> Prop
def frs (l : List Env) : List Addr := l.filterMap (·.frame)
abbrev Cx.fs (X : Cx) : List Addr := frs X.outer
def Vis (sc : Scope) (x : Str) : Prop := sc.names.lookup x = some .local ∨ sc.names.lookup x = some .cell ∨ sc.names.lookup x = some .free
def Loc (sc : Scope) (x : Str) : Prop := sc.names.lookup x = some .local ∨ sc.names.lookup x = some .cell
def Look (env : Env) (h : Heap) (m : Str -> Option Value) (x : Str) (u : Value) : Prop :=
 (env.kindOf x = some .local /\ m x = some u) ∨ ((env.kindOf x = some .cell ∨ env.kindOf x = some .free) /\ ∃ c, env.cells.lookup x = some c /\ h.IsCell c (some u))
structure Cx.Ok (X : Cx) : Prop where
 mod : Mod X.K X.mg X.base
 kind : X.env.scope.kind = .function
 glob : X.env.globals = mainGlobals
 blt : X.env.builtins = builtinsNs
 above : X.s₀.heap.objs.size <= X.env.locals
 inj : ∀ x y c, X.env.cells.lookup x = some c -> X.env.cells.lookup y = some c -> x = y
 has : ∀ x, (X.env.kindOf x = some .cell ∨ X.env.kindOf x = some .free) -> ∃ c, X.env.cells.lookup x = some c
 cab : ∀ x c, X.fn x = true -> X.env.cells.lookup x = some c -> X.s₀.heap.objs.size <= c
 hd : X.calm = true -> X.A.handled = none
 frames : X.A.frames = some X.stack
 stk : X.stack = X.outer ∨ (X.stack = X.env :: X.outer /\ X.env.frame = some X.env.locals)
 exf : ∀ b ∈ X.ex, b ≠ X.env.locals /\ ∀ x c, X.env.cells.lookup x = some c -> c ≠ b
 bs : ∀ b o, X.base.get? b = some o -> X.s₀.heap.get? b = some o /\ X.H₀ b = none
 bsz : X.base.objs.size <= X.s₀.heap.objs.size
 noex : ∀ b o, X.base.get? b = some o -> b ∉ X.ex
 exfs : ∀ b ∈ X.ex, b ∉ X.fs
 funs : X.s₀.heap.FunFrames X.base X.outer
 frf : ∀ b ∈ X.fs, X.H₀ b = none
structure Inv (X : Cx) (pins : List (Addr × Obj)) (σ : List (Option V)) (H : Hp) (s : Shared) : Prop where
 ok : X.Ok
 os : s.os = X.s₀.os
 bare : AllBare s.gens
 base : Un X.fs X.ex X.H₀ H X.s₀.heap s.heap
 loc : ∃ m, s.heap.Ns X.env.locals m /\ ∀ (i : Nat) (x : Str) (v : V), X.N[i]? = some x -> σ[i]? = some (some v) -> Vis X.env.scope x -> ∃ u, RelV v u /\ Look X.env s.heap m x u
 cell : ∀ x c, X.env.cells.lookup x = some c -> ∃ v, s.heap.IsCell c v
 free : H X.env.locals = none
 freeC : ∀ x c, X.env.cells.lookup x = some c -> H c = none
 pin : ∀ p ∈ X.pn ++ pins, s.heap.get? p.1 = some p.2 /\ H p.1 = none /\ p.1 ≠ X.env.locals /\ p.1 ∉ X.fs /\ ∀ v, p.2.data ≠ .cell v
 hok : HOk X.prog X.w H s.heap
 len : σ.length = X.N.length
section
variable {X : Cx} {pins : List (Addr × Obj)} {σ : List (Option V)} {H H' : Hp} {s : Shared} {h' : Heap}
theorem Cx.Ok.nofr (ok : X.Ok) {b : Addr} {o : Obj} (e : X.base.get? b = some o) : b ∉ X.fs := fun hb => by
 have := (ok.funs.mem hb).1
 rw [e] at this; cases this
theorem Inv.bs (I : Inv X pins σ H s) : ∀ b o, X.base.get? b = some o -> s.heap.get? b = some o /\ H b = none := fun b o e =>
 ⟨I.base.keep b o (I.ok.bs b o e).1 (I.ok.bs b o e).2 (I.ok.nofr e) (I.ok.noex b o e), I.base.free b o (I.ok.bs b o e).1 (I.ok.bs b o e).2 (I.ok.noex b o e)⟩
theorem Inv.bk (I : Inv X pins σ H s) : ∀ b o, X.base.get? b = some o -> s.heap.get? b = some o := fun b o e => (I.bs b o e).1
theorem Inv.mod (I : Inv X pins σ H s) : Mod X.K X.mg X.base := I.ok.mod
theorem Inv.kIn (I : Inv X pins σ H s) : X.K.In s.heap := I.ok.mod.kin.keeps I.bk
theorem Inv.nolimit (I : Inv X pins σ H s) : s.heap.NoLimit := I.ok.mod.nolimit.keeps I.bk
theorem Inv.fr (I : Inv X pins σ H s) : ∃ m, Fr X.base X.env.locals s.heap m :=
 let ⟨m, hn, _⟩ := I.loc
 ⟨m, hn, I.bk, Nat.le_trans I.ok.bsz I.ok.above⟩
theorem Inv.lt (I : Inv X pins σ H s) : X.env.locals < s.heap.objs.size := let ⟨_, hn, _⟩ := I.loc; hn.lt
theorem Inv.sz (I : Inv X pins σ H s) : X.s₀.heap.objs.size <= s.heap.objs.size := Nat.le_trans I.ok.above (Nat.le_of_lt I.lt)
theorem Inv.nofs (I : Inv X pins σ H s) {a : Addr} (h : s.heap.objs.size <= a) : a ∉ X.fs := fun hb => by
 obtain ⟨_, o, ho, _⟩ := I.ok.funs.mem hb
 exact absurd (Nat.lt_of_lt_of_le (Heap.lt_size ho) (Nat.le_trans I.sz h)) (Nat.lt_irrefl _)
theorem Inv.cne (I : Inv X pins σ H s) : ∀ x c, X.env.cells.lookup x = some c -> c ≠ X.env.locals := fun x c e z => by
 obtain ⟨v, o, ho, hd⟩ := I.cell x c e
 obtain ⟨m, ⟨o', es, ep, ho', hd', _⟩, _⟩ := I.loc
 rw [z, ho'] at ho; cases ho; rw [hd'] at hd; cases hd
theorem Inv.funs (I : Inv X pins σ H s) : s.heap.FunFrames X.base X.outer := by
 have all : ∀ (l : List Env), (∀ b ∈ frs l, b ∈ X.fs) -> X.s₀.heap.FunFrames X.base l -> s.heap.FunFrames X.base l := by
  intro l
  induction l with
  | nil => intro _ _; trivial
  | cons env r ih =>
   intro hs hl
   obtain ⟨hk, ⟨L, o, hf, hn, ho, hd⟩, hr⟩ := hl
   have hL : L ∈ X.fs := hs L (by unfold frs; rw [List.filterMap_cons, hf]; exact List.mem_cons_self)
   obtain ⟨sl, e⟩ := I.base.slot L o ho (I.ok.frf L hL) hL fun z => I.ok.exfs L z hL
   exact ⟨hk, ⟨L, _, hf, hn, e, hd⟩, ih (fun b hb => hs b (by unfold frs; rw [List.filterMap_cons, hf]; exact List.mem_cons_of_mem _ hb)) hr⟩
 exact all X.outer (fun _ hb => hb) I.ok.funs
theorem Inv.stack (I : Inv X pins σ H s) : s.heap.FunFrames X.base X.stack := by
 rcases I.ok.stk with e | ⟨e, hf⟩
 ·rw [e]; exact I.funs
 ·rw [e]
  obtain ⟨m, hn, _⟩ := I.loc
  refine .cons (by rw [I.ok.kind]; decide) hf hn ?_ I.funs
  exact Heap.get?_none_of_le (Nat.le_trans I.ok.bsz I.ok.above)
theorem Inv.stkSub (I : Inv X pins σ H s) : ∀ b ∈ frs X.stack, b ∈ X.env.locals :: X.fs := fun b hb => by
 rcases I.ok.stk with e | ⟨e, hf⟩
 ·rw [e] at hb; exact List.mem_cons_of_mem _ hb
 ·rw [e] at hb
  unfold frs at hb
  rw [List.filterMap_cons, hf] at hb
  exact hb
theorem Inv.stkFree (I : Inv X pins σ H s) : ∀ b ∈ frs X.stack, H b = none := fun b hb => by
 rcases List.mem_cons.mp (I.stkSub b hb) with e | hb
 ·rw [e]; exact I.free
 ·obtain ⟨_, o, ho, _⟩ := I.ok.funs.mem hb
  exact I.base.free b o ho (I.ok.frf b hb) fun z => I.ok.exfs b z hb
theorem Inv.step {g' : Array GenState} {t' : Nat} {d' : Drawn} {ch : List Addr} (I : Inv X pins σ H s)
  (hch : ∀ b ∈ ch, (b ∈ X.ex ∨ X.s₀.heap.objs.size <= b) /\ b ≠ X.env.locals /\ (∀ x c, X.env.cells.lookup x = some c -> c ≠ b) /\ ∀ p ∈ X.pn ++ pins, p.1 ≠ b)
  (keep : ∀ b o, b ≠ X.env.locals -> b ∉ X.fs -> b ∉ ch -> s.heap.get? b = some o -> H b = none -> h'.get? b = some o)
  (slot : ∀ b o, b ≠ X.env.locals -> b ∈ X.fs -> b ∉ ch -> s.heap.get? b = some o -> H b = none -> ∃ sl, h'.get? b = some { o with slots := sl }) (free : ∀ b o, b ∉ ch -> s.heap.get? b = some o -> H b = none -> H' b = none)
  (there : ∀ b o, b ∉ ch -> s.heap.get? b = some o -> ∃ o', h'.get? b = some o')
  (tups : ∀ b xs, H b = some (.tup xs) -> H' b = some (.tup xs)) (frzs : ∀ b o u, H b = some (.frz o u) -> H' b = some (.frz o u)) (tbls : ∀ b ps, H b = some (.tbl ps) -> ∃ more, H' b = some (.tbl (ps ++ more)))
  (ns : ∀ m, s.heap.Ns X.env.locals m -> h'.Ns X.env.locals m) (hok : HOk X.prog X.w H' h') (hg : AllBare g') :
  Inv X pins σ H' { s with heap := h', gens := g', drawn := d', toks := t' } := by
 have neL : ∀ b o, X.s₀.heap.get? b = some o -> b ≠ X.env.locals := fun b o e => Nat.ne_of_lt (Nat.lt_of_lt_of_le (Heap.lt_size e) I.ok.above)
 have neC : ∀ b o, X.s₀.heap.get? b = some o -> b ∉ X.ex -> b ∉ ch := fun b o e hx hb => by
  rcases (hch b hb).1 with z | z
  ·exact hx z
  ·exact absurd (Nat.lt_of_lt_of_le (Heap.lt_size e) z) (Nat.lt_irrefl _)
 have cellK : ∀ x c, X.env.cells.lookup x = some c -> ∀ v, s.heap.IsCell c v -> h'.IsCell c v := fun x c e v ⟨o, ho, hd⟩ => by
  have nch : c ∉ ch := fun z => (hch c z).2.2.1 x c e rfl
  by_cases hc : c ∈ X.fs
  ·obtain ⟨sl, q⟩ := slot c o (I.cne x c e) hc nch ho (I.freeC x c e)
   exact ⟨_, q, hd⟩
  ·exact ⟨o, keep c o (I.cne x c e) hc nch ho (I.freeC x c e), hd⟩
 refine ⟨I.ok, I.os, hg, ⟨fun b o e n hb hx => ?_, fun b o e n hb hx => ?_, fun b o e n hx => ?_, fun b o e hx => ?_, fun b xs e => tups b xs (I.base.tups b xs e), fun b o xs e => frzs b o xs (I.base.frzs b o xs e), fun b ps e => ?_⟩, ?_, fun x c e => ?_, ?_, fun x c e => ?_, fun p hp => ?_, hok, I.len⟩
 ·exact keep b o (neL b o e) hb (neC b o e hx) (I.base.keep b o e n hb hx) (I.base.free b o e n hx)
 ·obtain ⟨sl, e1⟩ := I.base.slot b o e n hb hx
  obtain ⟨sl', e2⟩ := slot b _ (neL b o e) hb (neC b o e hx) e1 (I.base.free b o e n hx)
  exact ⟨sl', e2⟩
 ·obtain ⟨o', e1⟩ := I.base.there b o e hx
  exact free b o' (neC b o e hx) e1 (I.base.free b o e n hx)
 ·obtain ⟨o', e1⟩ := I.base.there b o e hx
  exact there b o' (neC b o e hx) e1
 ·obtain ⟨m1, e1⟩ := I.base.tbls b ps e
  obtain ⟨m2, e2⟩ := tbls b _ e1
  exact ⟨m1 ++ m2, by rw [e2, Array.append_assoc]⟩
 ·obtain ⟨m, hn, hl⟩ := I.loc
  refine ⟨m, ns m hn, fun i x v e1 e2 e3 => ?_⟩
  obtain ⟨u, r, l⟩ := hl i x v e1 e2 e3
  refine ⟨u, r, ?_⟩
  rcases l with l | ⟨k, c, e, z⟩
  ·exact .inl l
  ·exact .inr ⟨k, c, e, cellK x c e _ z⟩
 ·obtain ⟨v, z⟩ := I.cell x c e
  exact ⟨v, cellK x c e v z⟩
 ·obtain ⟨m, ⟨o, _, _, ho, _⟩, _⟩ := I.loc
  exact free _ o (fun z => (hch _ z).2.1 rfl) ho I.free
 ·obtain ⟨v, o, ho, hd⟩ := I.cell x c e
  exact free c o (fun z => (hch c z).2.2.1 x c e rfl) ho (I.freeC x c e)
 ·obtain ⟨e, n, ne, nf, d⟩ := I.pin p hp
  have nch : p.1 ∉ ch := fun z => (hch p.1 z).2.2.2 p hp rfl
  exact ⟨keep p.1 p.2 ne nf nch e n, free p.1 p.2 nch e n, ne, nf, d⟩
theorem Inv.un {t' : Nat} (I : Inv X pins σ H s) (u : Un X.fs [] H H' s.heap h') (hok : HOk X.prog X.w H' h') : Inv X pins σ H' { s with heap := h', toks := t' } := by
 obtain ⟨m, ⟨o, es, ep, ho, r⟩, _⟩ := id I.loc
 obtain ⟨sl, hL⟩ := u.any ho I.free (by simp)
 exact I.step (g' := s.gens) (d' := s.drawn) (ch := []) (fun _ z => nomatch z) (fun b o _ hb _ e n => u.keep b o e n hb (by simp)) (fun b o _ hb _ e n => u.slot b o e n hb (by simp)) (fun b o _ e n => u.free b o e n (by simp)) (fun b o _ e => u.there b o e (by simp)) u.tups u.frzs u.tbls (fun m' hm => by
  obtain ⟨o', es', ep', ho', r'⟩ := hm
  rw [ho] at ho'; cases ho'
  exact ⟨_, es', ep', hL, r'⟩) hok I.bare
theorem Inv.call {g' : Array GenState} {t' : Nat} {d' : Drawn} {ch : List Addr} (I : Inv X pins σ H s) (u : Un (frs X.stack) ch H H' s.heap h') (hok : HOk X.prog X.w H' h') (hg : AllBare g')
  (hch : ∀ b ∈ ch, (b ∈ X.ex ∨ X.s₀.heap.objs.size <= b) /\ b ≠ X.env.locals /\ (∀ x c, X.env.cells.lookup x = some c -> c ≠ b) /\ ∀ p ∈ X.pn ++ pins, p.1 ≠ b) :
  Inv X pins σ H' { s with heap := h', gens := g', drawn := d', toks := t' } := by
 obtain ⟨m, ⟨o, es, ep, ho, r⟩, _⟩ := id I.loc
 obtain ⟨sl, hL⟩ := u.any ho I.free fun z => (hch _ z).2.1 rfl
 exact I.step (ch := ch) hch (fun b o hL hb hc e n => u.keep b o e n (fun z => (List.mem_cons.mp (I.stkSub b z)).elim hL hb) hc) (fun b o _ _ hc e n => u.any e n hc) (fun b o hc e n => u.free b o e n hc) (fun b o hc e => u.there b o e hc) u.tups u.frzs u.tbls (fun m' hm => by
  obtain ⟨o', es', ep', ho', r'⟩ := hm
  rw [ho] at ho'; cases ho'
  exact ⟨_, es', ep', hL, r'⟩) hok hg
theorem Inv.turned {t' : Nat} {it : Addr} (I : Inv X pins σ H s) (k : ∀ b o, b ≠ it -> s.heap.get? b = some o -> h'.get? b = some o) (hn : H it = none) (hL : it ≠ X.env.locals)
  (h1 : it ∈ X.ex ∨ X.s₀.heap.objs.size <= it) (h2 : ∀ x c, X.env.cells.lookup x = some c -> c ≠ it) (h3 : ∀ p ∈ X.pn ++ pins, p.1 ≠ it) : Inv X pins σ H { s with heap := h', toks := t' } := by
 have nit : ∀ b u, H b = some u -> b ≠ it := fun b u e z => by rw [z, hn] at e; cases e
 refine I.step (g' := s.gens) (d' := s.drawn) (ch := [it]) (fun b hb => ?_) (fun b o _ _ hc e _ => k b o (fun z => hc (by simp [z])) e) (fun b o _ _ hc e _ => ⟨o.slots, k b o (fun z => hc (by simp [z])) e⟩) (fun _ _ _ _ n => n)
  (fun b o hc e => ⟨o, k b o (fun z => hc (by simp [z])) e⟩) (fun _ _ e => e) (fun _ _ _ e => e) (fun b ps e => ⟨#[], by rw [e]; simp⟩) (fun m hm => ?_) (fun b u e => ?_) I.bare
 ·have e : b = it := by simpa using hb
  subst e
  exact ⟨h1, hL, h2, h3⟩
 ·obtain ⟨o, es, ep, ho, r⟩ := hm
  exact ⟨o, es, ep, k _ o (Ne.symm hL) ho, r⟩
 ·refine (I.hok b u e).stay (fun c v hc q => k c v ?_ q) (fun _ q => q) fun _ _ q => q
  rcases hc with z | z
  ·rw [z]; exact nit b u e
  ·exact nit c _ z
theorem Inv.tok (I : Inv X pins σ H s) (t : Nat) : Inv X pins σ H { s with toks := t } := I.un (h' := s.heap) (t' := t) Un.refl I.hok
theorem Inv.kept {t' : Nat} (I : Inv X pins σ H s) (k : ∀ b u, s.heap.get? b = some u -> h'.get? b = some u) : Inv X pins σ H { s with heap := h', toks := t' } := I.un (Un.kept k) (I.hok.kept k)
theorem Inv.laid {a : Addr} {o : HO} {t' : Nat} (I : Inv X pins σ H s) (k : ∀ b u, s.heap.get? b = some u -> h'.get? b = some u) (hp : s.heap.objs.size <= a) (new : bH X.prog X.w (upd H a o) h' a o) :
  Inv X pins σ (upd H a o) { s with heap := h', toks := t' } := I.un (Un.laid k hp (I.hok.fresh hp)) (I.hok.laid k hp new)
theorem Inv.write {x e : Addr} {o : HO} {t' : Nat} (I : Inv X pins σ H s) (mu : Mut (H x)) (he : e = x ∨ H e = some (.own x)) (k : ∀ b u, b ≠ e -> s.heap.get? b = some u -> h'.get? b = some u) (heo : ∃ u, h'.get? e = some u)
  (new : bH X.prog X.w (upd H x o) h' x o) : Inv X pins σ (upd H x o) { s with heap := h', toks := t' } := I.un (Un.write mu he k heo) (I.hok.write mu he k heo new)
theorem Inv.pins_of {pins' : List (Addr × Obj)} (I : Inv X pins σ H s) (h : ∀ p ∈ pins', s.heap.get? p.1 = some p.2 /\ H p.1 = none /\ p.1 ≠ X.env.locals /\ p.1 ∉ X.fs /\ ∀ v, p.2.data ≠ .cell v) : Inv X pins' σ H s :=
 ⟨I.ok, I.os, I.bare, I.base, I.loc, I.cell, I.free, I.freeC, fun p hp => (List.mem_append.mp hp).elim (fun z => I.pin p (List.mem_append_left _ z)) (h p), I.hok, I.len⟩
theorem jJ {N : List Str} (hN : N.Nodup) {i j : Nat} {x : Str} (a : N[i]? = some x) (b : N[j]? = some x) : i = j := by
 obtain ⟨h1, e1⟩ := List.getElem?_eq_some_iff.mp a
 obtain ⟨h2, e2⟩ := List.getElem?_eq_some_iff.mp b
 exact (List.getElem_inj hN).mp (e1.trans e2.symm)
theorem lZ {M : Model} {A : Around} {E : Value -> Shared -> Prop} {i : Nat} {x : Str} {v : V} {u : Value} {Q : Unit -> Shared -> Prop} (I : Inv X pins σ H s) (hN : X.N.Nodup) (hi : X.N[i]? = some x) (hx : Loc X.env.scope x) (r : RelV v u)
  (h : ∀ s', Inv X pins (σ.set i (some v)) H s' -> (∃ a, Heap.SameBut a s.heap s'.heap /\ (a = X.env.locals ∨ X.env.cells.lookup x = some a)) -> Q () s') (hf : X.fn x = true ∨ X.env.scope.names.lookup x = some .local := by first | exact .inl rfl | exact .inr rfl | assumption) : wpAny M A (storeName X.env x u) Q E s := by
 obtain ⟨m, hn, hl⟩ := id I.loc
 have hcls : (X.env.scope.kind == .class || (X.env.scope.kind == .module && X.env.locals != X.env.globals)) = false := by rw [I.ok.kind]; rfl
 have hiσ : i < σ.length := by rw [I.len]; exact (List.getElem?_eq_some_iff.mp hi).1
 have cne := I.cne
 have tracked : ∀ {a : Addr} {h' : Heap}, (∃ o, s.heap.get? a = some o /\ H a = none) -> Heap.SameBut a s.heap h' -> HOk X.prog X.w H h' := fun {a h'} ha hs b ob e => by
  obtain ⟨_, _, hfree⟩ := ha
  refine (I.hok b ob e).stay (fun c w' hc q => (hs.2 c ?_).trans q) (fun _ q => q) fun _ _ q => q
  rintro rfl
  rcases hc with rfl | hc
  ·rw [hfree] at e; cases e
  ·rw [hfree] at hc; cases hc
 rcases hx with hk | hk
 ·refine wpAny_storeName_local hk hn (fun h' hn' hs => ?_) hcls
  obtain ⟨oL, _, _, hoL, _⟩ := id hn
  refine h _ ⟨I.ok, I.os, I.bare, ⟨fun b o e n hb hx => ?_, fun b o e n hb hx => ?_, I.base.free, fun b o e hx => ?_, I.base.tups, I.base.frzs, I.base.tbls⟩, ⟨_, hn', fun j y v' e1 e2 e3 => ?_⟩, fun y c e => ?_, I.free, I.freeC, fun p hp => ?_, tracked ⟨oL, hoL, I.free⟩ hs, by simpa using I.len⟩ ⟨_, hs, .inl rfl⟩
  ·exact (hs.2 b (Nat.ne_of_lt (Nat.lt_of_lt_of_le (Heap.lt_size e) I.ok.above))).trans (I.base.keep b o e n hb hx)
  ·obtain ⟨sl, e1⟩ := I.base.slot b o e n hb hx
   exact ⟨sl, (hs.2 b (Nat.ne_of_lt (Nat.lt_of_lt_of_le (Heap.lt_size e) I.ok.above))).trans e1⟩
  ·obtain ⟨o', e1⟩ := I.base.there b o e hx
   exact ⟨o', (hs.2 b (Nat.ne_of_lt (Nat.lt_of_lt_of_le (Heap.lt_size e) I.ok.above))).trans e1⟩
  ·by_cases hj : j = i
   ·subst hj
    rw [hi] at e1; cases e1
    rw [List.getElem?_set_self hiσ] at e2
    cases e2
    exact ⟨u, r, .inl ⟨hk, by simp⟩⟩
   ·rw [List.getElem?_set_ne (Ne.symm hj)] at e2
    obtain ⟨u', r', q⟩ := hl j y v' e1 e2 e3
    refine ⟨u', r', ?_⟩
    rcases q with ⟨k, e⟩ | ⟨k, c, e, z⟩
    ·refine .inl ⟨k, ?_⟩
     have : y ≠ x := fun e => hj (jJ hN e1 (e ▸ hi))
     simp [this, e]
    ·exact .inr ⟨k, c, e, z.sameBut hs (cne y c e)⟩
  ·obtain ⟨w', z⟩ := I.cell y c e
   exact ⟨w', z.sameBut hs (cne y c e)⟩
  ·obtain ⟨e, n, ne, nf, d⟩ := I.pin p hp
   exact ⟨(hs.2 p.1 ne).trans e, n, ne, nf, d⟩
 ·have hfn : X.fn x = true := by
   rcases hf with z | z
   ·exact z
   ·rw [z] at hk; cases hk
  obtain ⟨c, hc⟩ := I.ok.has x (.inl hk)
  obtain ⟨w', z⟩ := I.cell x c hc
  refine wpAny_storeName_cell I.ok.kind hk hc z (fun h' hc' hs => ?_)
  obtain ⟨oc, hoc, hocd⟩ := id z
  refine h { s with heap := h' } ⟨I.ok, I.os, I.bare, ⟨fun b o e n hb hx => ?_, fun b o e n hb hx => ?_, I.base.free, fun b o e hx => ?_, I.base.tups, I.base.frzs, I.base.tbls⟩, ⟨m, hn.sameBut hs (Ne.symm (cne x c hc)), fun j y v' e1 e2 e3 => ?_⟩, fun y c' e => ?_, I.free, I.freeC, fun p hp => ?_, tracked ⟨oc, hoc, I.freeC x c hc⟩ hs, by simpa using I.len⟩ ⟨c, hs, .inr hc⟩
  ·exact (hs.2 b (Nat.ne_of_lt (Nat.lt_of_lt_of_le (Heap.lt_size e) (I.ok.cab x c hfn hc)))).trans (I.base.keep b o e n hb hx)
  ·obtain ⟨sl, e1⟩ := I.base.slot b o e n hb hx
   exact ⟨sl, (hs.2 b (Nat.ne_of_lt (Nat.lt_of_lt_of_le (Heap.lt_size e) (I.ok.cab x c hfn hc)))).trans e1⟩
  ·obtain ⟨o', e1⟩ := I.base.there b o e hx
   exact ⟨o', (hs.2 b (Nat.ne_of_lt (Nat.lt_of_lt_of_le (Heap.lt_size e) (I.ok.cab x c hfn hc)))).trans e1⟩
  ·by_cases hj : j = i
   ·subst hj
    rw [hi] at e1; cases e1
    rw [List.getElem?_set_self hiσ] at e2
    cases e2
    exact ⟨u, r, .inr ⟨.inl hk, c, hc, hc'⟩⟩
   ·rw [List.getElem?_set_ne (Ne.symm hj)] at e2
    obtain ⟨u', r', q⟩ := hl j y v' e1 e2 e3
    refine ⟨u', r', ?_⟩
    rcases q with q | ⟨k, c', e, z'⟩
    ·exact .inl q
    ·refine .inr ⟨k, c', e, z'.sameBut hs ?_⟩
     rintro rfl
     exact hj (jJ hN e1 (I.ok.inj _ _ _ e hc ▸ hi))
  ·by_cases hcc : c' = c
   ·subst hcc; exact ⟨_, hc'⟩
   ·obtain ⟨w2, z2⟩ := I.cell y c' e
    exact ⟨w2, z2.sameBut hs hcc⟩
  ·obtain ⟨e, n, ne, nf, d⟩ := I.pin p hp
   refine ⟨(hs.2 p.1 ?_).trans e, n, ne, nf, d⟩
   intro q
   rw [q, hoc] at e
   have q' : oc = p.2 := Option.some.inj e
   exact d w' (by rw [<- q']; exact hocd)
theorem da {M : Model} {A : Around} {E : Value -> Shared -> Prop} {i : Nat} {x : Str} {v : V} {u : Value} {Q : Unit -> Shared -> Prop} (I : Inv X pins σ H s) (hN : X.N.Nodup) (hi : X.N[i]? = some x) (hx : Loc X.env.scope x) (r : RelV v u)
  (h : ∀ s', Inv X pins (σ.set i (some v)) H s' -> Q () s') (hf : X.fn x = true ∨ X.env.scope.names.lookup x = some .local := by first | exact .inl rfl | exact .inr rfl | assumption) : wpAny M A (storeName X.env x u) Q E s :=
 lZ I hN hi hx r (fun s' I' _ => h s' I') hf
theorem Inv.call' {s' : Shared} {ch : List Addr} (I : Inv X pins σ H s) (ho : s'.os = s.os) (u : Un (frs X.stack) ch H H' s.heap s'.heap) (hok : HOk X.prog X.w H' s'.heap) (hg : AllBare s'.gens)
  (hch : ∀ b ∈ ch, (b ∈ X.ex ∨ X.s₀.heap.objs.size <= b) /\ b ≠ X.env.locals /\ (∀ x c, X.env.cells.lookup x = some c -> c ≠ b) /\ ∀ p ∈ X.pn ++ pins, p.1 ≠ b) : Inv X pins σ H' s' := by
 obtain ⟨h', g', d', t', o'⟩ := s'
 have e : o' = s.os := ho
 subst e
 exact I.call (g' := g') (t' := t') (d' := d') u hok hg hch
end
abbrev XK := Value -> Option Addr -> Hp -> Prop
abbrev St := List (Option V)
abbrev VK := V -> Hp -> Prop
abbrev TE := St -> Hp -> VK -> Prop
abbrev TT := St -> Hp -> (Bool -> Hp -> Prop) -> Prop
abbrev TA := St -> Hp -> (List V -> Hp -> Prop) -> Prop
structure Ends where
 nx : St -> Hp -> Prop
 rt : VK
 bk : St -> Hp -> Prop := fun _ _ => False
 ct : St -> Hp -> Prop := fun _ _ => False
abbrev TS := Ends -> St -> Hp -> Prop
def EP (X : Cx) (pins : List (Addr × Obj)) (σ : St) (Q : VK) (u : Value) (s' : Shared) : Prop := ∃ v H', Inv X pins σ H' s' /\ RelV v u /\ Q v H'
def TP (X : Cx) (pins : List (Addr × Obj)) (σ : St) (Q : Bool -> Hp -> Prop) (b : Bool) (s' : Shared) : Prop := ∃ H', Inv X pins σ H' s' /\ Q b H'
def AP (X : Cx) (pins : List (Addr × Obj)) (σ : St) (Q : List V -> Hp -> Prop) (us : List Value) (s' : Shared) : Prop := ∃ vs H', Inv X pins σ H' s' /\ Vals vs us /\ Q vs H'
def SP (X : Cx) (pins : List (Addr × Obj)) (D : Ends) (f : Flow) (s' : Shared) : Prop :=
 match f with
 | .next => ∃ σ' H', Inv X pins σ' H' s' /\ D.nx σ' H'
 | .brk => ∃ σ' H', Inv X pins σ' H' s' /\ D.bk σ' H'
 | .cont => ∃ σ' H', Inv X pins σ' H' s' /\ D.ct σ' H'
 | .ret u => ∃ v σ' H', Inv X pins σ' H' s' /\ RelV v u /\ D.rt v H'
def PE (X : Cx) (e : Expr) (t : TE) : Prop :=
 ∀ (pins : List (Addr × Obj)) (s : Shared) (σ : St) (H : Hp) (Q : VK), Inv X pins σ H s -> t σ H Q -> wpAny (model X.prog X.w) X.A (eval e X.env) (EP X pins σ Q) X.xe s
def PT (X : Cx) (e : Expr) (t : TT) : Prop :=
 ∀ (pins : List (Addr × Obj)) (s : Shared) (σ : St) (H : Hp) (Q : Bool -> Hp -> Prop), Inv X pins σ H s -> t σ H Q -> wpAny (model X.prog X.w) X.A (isTrue e X.env (eval e X.env)) (TP X pins σ Q) X.xe s
def PW (X : Cx) (e : Expr) (t : TT) : Prop :=
 ∀ (whole : Sem Value) (pins : List (Addr × Obj)) (s : Shared) (σ : St) (H : Hp) (Q : Bool -> Hp -> Prop), Inv X pins σ H s -> t σ H Q -> wpAny (model X.prog X.w) X.A (isTrue e X.env whole) (TP X pins σ Q) X.xe s
theorem PW.pt {X : Cx} {e : Expr} {t : TT} (h : PW X e t) : PT X e t := h _
def PA (X : Cx) (es : List Expr) (t : TA) : Prop :=
 ∀ (pos : Pos) (pins : List (Addr × Obj)) (s : Shared) (σ : St) (H : Hp) (Q : List V -> Hp -> Prop), Inv X pins σ H s -> t σ H Q -> wpAny (model X.prog X.w) X.A (spliced (backTo pos (starEach es X.env))) (AP X pins σ Q) X.xe s
def PS (X : Cx) (st : Stmt) (t : TS) : Prop :=
 ∀ (pins : List (Addr × Obj)) (s : Shared) (σ : St) (H : Hp) (D : Ends), Inv X pins σ H s -> t D σ H -> wpAny (model X.prog X.w) X.A (exec st X.env) (SP X pins D) X.xe s
def PSs (X : Cx) (st : List Stmt) (t : TS) : Prop :=
 ∀ (pins : List (Addr × Obj)) (s : Shared) (σ : St) (H : Hp) (D : Ends), Inv X pins σ H s -> t D σ H -> wpAny (model X.prog X.w) X.A (execs st X.env) (SP X pins D) X.xe s
theorem thn {α : Type} {t : Sem α} {Q Q' : α -> Shared -> Prop} {M : Model} {A : Around} {E : Value -> Shared -> Prop} {s : Shared} (h : wpAny M A t Q E s) (hQ : ∀ a s, Q a s -> Q' a s) : wpAny M A t Q' E s := wpAny_mono h hQ fun _ _ x => x
end L2
namespace L2
open PySem PySem.Spec PyProof.Rows
section
variable {X : Cx}
def qL (i : Nat) : TE := fun σ H Q => ∃ v, σ[i]? = some (some v) /\ Q v H
def tC (v : V) : TE := fun _ H Q => Q v H
theorem gW {i : Nat} {x : Str} {pos : Pos} (hN : X.N[i]? = some x) (hv : Vis X.env.scope x) (hd : (x == ("__debug__" : Str)) = false := by decide) (hcd : (x == ("__classdict__" : Str)) = false := by decide) : PE X (.Name x pos) (qL i) := by
 intro pins s σ H Q I h
 obtain ⟨v, e, h⟩ := h
 obtain ⟨m, hn, hl⟩ := I.loc
 obtain ⟨u, r, l⟩ := hl i x v hN e hv
 have fin : EP X pins σ Q u s := ⟨v, H, I, r, h⟩
 rcases l with ⟨hk, hm⟩ | ⟨hk, c, hc, hcell⟩
 ·exact wpAny_Name (wpAny_loadName_local I.ok.kind hk hn hm fin) hd
 ·rcases hk with hk | hk
  ·exact wpAny_Name (wpAny_loadName_cell I.ok.kind hk hc hcell fin) hd
  ·exact wpAny_Name (wpAny_loadName_free I.ok.kind hk hc hcell fin hcd) hd
theorem kx {i j pos} : PE X (.Constant (.int i) j pos) (tC (.int i)) := fun _ _ _ H _ I h => wpAny_Constant_int ⟨.int i, H, I.tok _, ⟨_, rfl⟩, h⟩
theorem yx {b j pos} : PE X (.Constant (.bool b) j pos) (tC (.bl b)) := fun _ _ _ H _ I h => Constant_bool ⟨.bl b, H, I, rfl, h⟩
theorem xy {j pos} : PE X (.Constant .none j pos) (tC .non) := fun _ _ _ H _ I h => Constant_none ⟨.non, H, I, rfl, h⟩
theorem sQ {x j pos} : PE X (.Constant (.str x) j pos) (tC (.str x)) := fun _ _ _ H _ I h => Calls.Constant_str ⟨.str x, H, I.tok _, ⟨_, rfl⟩, h⟩
def Gl (X : Cx) (x : Str) : Prop := X.env.kindOf x = some .globalImplicit
theorem gQ {E : Value -> Shared -> Prop} {pins : List (Addr × Obj)} {s : Shared} {σ : St} {H : Hp} {x : Str} {u : Value} {pos : Pos} {Q : Value -> Shared -> Prop} (I : Inv X pins σ H s) (hg : Gl X x) (hm : X.mg x = some u) (h : Q u s)
  (hd : (x == ("__debug__" : Str)) = false := by decide) : wpAny (model X.prog X.w) X.A (eval (.Name x pos) X.env) Q E s :=
 Calls.Name_function_global I.ok.kind hg (Calls.loadGlobal_global (by rw [I.ok.glob]; exact I.mod.glob.keeps I.bk) hm h) hd
theorem cN {E : Value -> Shared -> Prop} {pins : List (Addr × Obj)} {s : Shared} {σ : St} {H : Hp} {x : Str} {u : Value} {pos : Pos} {Q : Value -> Shared -> Prop} (I : Inv X pins σ H s) (hg : Gl X x) (hm : X.mg x = none) (hv : bootBuiltins x = some u) (h : Q u s)
  (hn : x ≠ "__name__" := by decide) (hd : (x == ("__debug__" : Str)) = false := by decide) : wpAny (model X.prog X.w) X.A (eval (.Name x pos) X.env) Q E s := by
 obtain ⟨mb, h1, h2⟩ := I.mod.blt
 exact Calls.Name_function_global I.ok.kind hg (Calls.loadGlobal_builtin (by rw [I.ok.glob]; exact I.mod.glob.keeps I.bk) hm (by rw [I.ok.blt]; exact h1.keeps I.bk) ((h2 x hn).trans hv) h) hd
theorem kX {x : Str} {v : V} {u : Value} {pos : Pos} (hg : Gl X x) (hm : X.mg x = some u) (r : RelV v u) (hd : (x == ("__debug__" : Str)) = false := by decide) : PE X (.Name x pos) (tC v) :=
 fun _ _ _ H _ I h => gQ I hg hm ⟨v, H, I, r, h⟩ hd
theorem pE {x : Str} {v : V} {u : Value} {pos : Pos} (hg : Gl X x) (hm : X.mg x = none) (hv : bootBuiltins x = some u) (r : RelV v u) (hn : x ≠ "__name__" := by decide) (hd : (x == ("__debug__" : Str)) = false := by decide) : PE X (.Name x pos) (tC v) :=
 fun _ _ _ H _ I h => cN I hg hm hv ⟨v, H, I, r, h⟩ hn hd
variable {a b : Expr} {ta tb : TE} {pos : Pos}
theorem nK (b : Expr) {op : CmpOp} (h : op ≠ .In) (h2 : op ≠ .NotIn) : behindInMarks op b = false := by
 have e1 : (op == CmpOp.In) = false := by cases op <;> first | rfl | exact absurd rfl h
 have e2 : (op == CmpOp.NotIn) = false := by cases op <;> first | rfl | exact absurd rfl h2
 cases b <;> simp [behindInMarks, e1, e2]
variable {tA tB' : TT} {rest : List Expr}
end
end L2
namespace L2
open PySem PySem.Spec PyProof.Rows
def SqL (K : PySem.W.Frag) (H : Hp) (a : Addr) (xs : List V) : Prop :=
 Rd H a (.lst xs) ∨
  ∃ (o : Obj) (its : Array Value) (n : Nat), K.lookup a = some o /\ o.cls = .type "list" /\ o.dict = none /\ o.data = .seq its n /\ its.size <= sizeLine /\ Vals xs its.toList
def SqT (K : PySem.W.Frag) (H : Hp) (a : Addr) (xs : List V) : Prop :=
 Rd H a (.tup xs) ∨
  ∃ (o : Obj) (its : Array Value) (n : Nat), K.lookup a = some o /\ o.cls = .type "tuple" /\ o.data = .seq its n /\ its.size <= sizeLine /\ Vals xs its.toList
def yG : Value -> Option V
 | .none => some .non
 | .bool b => some (.bl b)
 | .int i _ => some (.int i)
 | .str x _ => some (.str x)
 | .bytes b _ => some (.byt b)
 | .float b _ => some (.flt b)
 | .ref a => some (.ref a)
 | .type n => some (.ty n)
 | _ => none
theorem RelV.abs {x : V} {u : Value} (r : RelV x u) : yG u = some x := by
 cases x with
 | non => cases r; rfl
 | bl _ => cases r; rfl
 | int _ => obtain ⟨t, rfl⟩ := r; rfl
 | str _ => obtain ⟨t, rfl⟩ := r; rfl
 | byt _ => obtain ⟨t, rfl⟩ := r; rfl
 | flt _ => obtain ⟨t, rfl⟩ := r; rfl
 | ref _ => cases r; rfl
 | ty _ => cases r; rfl
theorem RelV.inj {x y : V} {u : Value} (r : RelV x u) (q : RelV y u) : x = y := Option.some.inj (r.abs.symm.trans q.abs)
theorem Vals.inj : ∀ {xs ys : List V} {us : List Value}, Vals xs us -> Vals ys us -> xs = ys
 | _, _, _, .nil, .nil => rfl
 | _, _, _, .cons r t, .cons r' t' => by rw [r.inj r', Vals.inj t t']
section
variable {X : Cx} {pins : List (Addr × Obj)} {σ : St} {H : Hp} {s : Shared} {a : Addr} {xs ys : List V}
theorem SqL.of {K : PySem.W.Frag} (h : H a = some (.lst xs)) : SqL K H a xs := .inl (.inl h)
theorem SqT.of {K : PySem.W.Frag} (h : H a = some (.tup xs)) : SqT K H a xs := .inl (.inl h)
theorem Inv.list (I : Inv X pins σ H s) (h : SqL X.K H a xs) : ∃ its : List Value, Vals xs its /\ PlainL s.heap a its.toArray /\ xs.length <= sizeLine := by
 rcases h with h | ⟨o, its, n, hk, hc, hd, hs, hz, r⟩
 ·obtain ⟨z, its, n, r, e⟩ := h.ok I.hok
  exact ⟨its, r, ⟨_, n, e, rfl, rfl, rfl⟩, z⟩
 ·refine ⟨its.toList, r, ⟨o, n, I.kIn a o hk, hc, hd, by simpa using hs⟩, ?_⟩
  have e := r.length
  simp only [Array.length_toList] at e
  omega
theorem Inv.tuple (I : Inv X pins σ H s) (h : SqT X.K H a xs) : ∃ its : List Value, Vals xs its /\ IsTup s.heap a its.toArray /\ xs.length <= sizeLine := by
 rcases h with h | ⟨o, its, n, hk, hc, hs, hz, r⟩
 ·obtain ⟨z, its, r, p⟩ := h.ok I.hok
  exact ⟨its, r, p, z⟩
 ·refine ⟨its.toList, r, ⟨o, I.kIn a o hk, hc, n, by simpa using hs⟩, ?_⟩
  have e := r.length
  simp only [Array.length_toList] at e
  omega
theorem Inv.list_inj (I : Inv X pins σ H s) (h : SqL X.K H a xs) (h' : SqL X.K H a ys) : xs = ys := by
 obtain ⟨its, r, ⟨o, n, e, _, _, d⟩, _⟩ := I.list h
 obtain ⟨its', r', ⟨o', n', e', _, _, d'⟩, _⟩ := I.list h'
 rw [e] at e'; cases e'
 rw [d] at d'
 injection d' with d1 _
 have : its = its' := by simpa using congrArg Array.toList d1
 subst this
 exact r.inj r'
theorem Inv.tuple_inj (I : Inv X pins σ H s) (h : SqT X.K H a xs) (h' : SqT X.K H a ys) : xs = ys := by
 obtain ⟨its, r, ⟨o, e, _, n, d⟩, _⟩ := I.tuple h
 obtain ⟨its', r', ⟨o', e', _, n', d'⟩, _⟩ := I.tuple h'
 rw [e] at e'; cases e'
 rw [d] at d'
 injection d' with d1 _
 have : its = its' := by simpa using congrArg Array.toList d1
 subst this
 exact r.inj r'
end
abbrev Cx.wish (X : Cx) (E : Value -> Shared -> Prop) : Cx := { X with xe := E }
abbrev Cx.nox (X : Cx) : Cx := X.wish fun _ _ => False
theorem Cx.Ok.wish {X : Cx} (ok : X.Ok) (E : Value -> Shared -> Prop) : (X.wish E).Ok :=
 ⟨ok.mod, ok.kind, ok.glob, ok.blt, ok.above, ok.inj, ok.has, ok.cab, ok.hd, ok.frames, ok.stk, ok.exf, ok.bs, ok.bsz, ok.noex, ok.exfs, ok.funs, ok.frf⟩
theorem Cx.Ok.unwish {X : Cx} {E : Value -> Shared -> Prop} (ok : (X.wish E).Ok) : X.Ok :=
 ⟨ok.mod, ok.kind, ok.glob, ok.blt, ok.above, ok.inj, ok.has, ok.cab, ok.hd, ok.frames, ok.stk, ok.exf, ok.bs, ok.bsz, ok.noex, ok.exfs, ok.funs, ok.frf⟩
section
variable {X : Cx} {pins : List (Addr × Obj)} {σ : St} {H : Hp} {s : Shared} {E : Value -> Shared -> Prop}
theorem Inv.wish (I : Inv X pins σ H s) (E : Value -> Shared -> Prop) : Inv (X.wish E) pins σ H s := ⟨I.ok.wish E, I.os, I.bare, I.base, I.loc, I.cell, I.free, I.freeC, I.pin, I.hok, I.len⟩
theorem Inv.unwish (I : Inv (X.wish E) pins σ H s) : Inv X pins σ H s := ⟨I.ok.unwish, I.os, I.bare, I.base, I.loc, I.cell, I.free, I.freeC, I.pin, I.hok, I.len⟩
theorem SP.unwish {D : Ends} {f : Flow} {s' : Shared} (h : SP (X.wish E) pins D f s') : SP X pins D f s' := by
 cases f with
 | next => obtain ⟨σ', H', I, q⟩ := h; exact ⟨σ', H', I.unwish, q⟩
 | brk => obtain ⟨σ', H', I, q⟩ := h; exact ⟨σ', H', I.unwish, q⟩
 | cont => obtain ⟨σ', H', I, q⟩ := h; exact ⟨σ', H', I.unwish, q⟩
 | ret u => obtain ⟨v, σ', H', I, r, q⟩ := h; exact ⟨v, σ', H', I.unwish, r, q⟩
theorem PE.nox {e : Expr} {t : TE} (h : PE X.nox e t) : PE X e t := fun pins s σ H Q I hw =>
 wpAny_mono (h pins s σ H Q (I.wish _) hw) (fun _ _ ⟨v, H', I', r, q⟩ => ⟨v, H', I'.unwish, r, q⟩) fun _ _ z => False.elim z
theorem PT.nox {e : Expr} {t : TT} (h : PT X.nox e t) : PT X e t := fun pins s σ H Q I hw =>
 wpAny_mono (h pins s σ H Q (I.wish _) hw) (fun _ _ ⟨H', I', q⟩ => ⟨H', I'.unwish, q⟩) fun _ _ z => False.elim z
theorem PSs.nox {st : List Stmt} {t : TS} (h : PSs X.nox st t) : PSs X st t := fun pins s σ H D I hw =>
 wpAny_mono (h pins s σ H D (I.wish _) hw) (fun _ _ q => q.unwish) fun _ _ z => False.elim z
end
section
variable {X : Cx} {st : Stmt} {rest : List Stmt} {t u : TS} {e : Expr} {te : TE} {pos : Pos}
theorem Inv.quiet {pins : List (Addr × Obj)} {σ : St} {H : Hp} {s : Shared} (I : Inv X pins σ H s) : interactive X.env = false := by simp [interactive, I.ok.kind]
def vq (te : TE) : TS := fun D σ H => te σ H fun _ H1 => D.nx σ H1
theorem kY (he : PE X e te) (hs : swapsWith e none pos.line X.env = pure false := by rfl) : PS X (.Expr e pos) (vq te) := by
 intro pins s σ H D I h
 exact wpAny_Expr_any (thn (he pins s σ H _ I h) fun v s1 ⟨x, H1, I1, r1, q1⟩ => ⟨σ, H1, I1, q1⟩) I.quiet hs
end
abbrev TG := V -> St -> Hp -> (St -> Hp -> Prop) -> Prop
section
variable {X : Cx} {pos : Pos}
def u9 (i : Nat) : TG := fun v σ H Q => Q (σ.set i (some v)) H
def xP (te : TE) (g : TG) : TS := fun D σ H => te σ H fun x H1 => g x σ H1 D.nx
theorem xE {i : Nat} {x : Str} {e : Expr} {te : TE} {pos' : Pos} (hN : X.N.Nodup) (hi : X.N[i]? = some x) (hx : Loc X.env.scope x) (he : PE X e te) (hs : swapsWith e (some (.Name x pos')) pos.line X.env = pure false := by rfl) (hf : X.fn x = true ∨ X.env.scope.names.lookup x = some .local := by first | exact .inl rfl | exact .inr rfl | assumption) :
  PS X (.Assign [.Name x pos'] e pos) (xP te (u9 i)) := by
 intro pins s σ H D I h
 refine wpAny_Assign_Name (thn (he pins s σ H _ I h) fun v s1 ⟨y, H1, I1, r1, q1⟩ => ?_) hs
 exact da I1 hN hi hx r1 (fun s2 I2 => ⟨_, H1, I2, q1⟩) hf
def yX (i j : Nat) (ta : TA) : TS := fun D σ H => ta σ H fun vs H1 => ∃ v w, vs = [v, w] /\ D.nx ((σ.set i (some v)).set j (some w)) H1
theorem xD {i j : Nat} {x y : Str} {a b : Expr} {ta : TA} {px py pt : Pos} {kt k2 pt2} (hc : X.calm = true) (hN : X.N.Nodup) (hi : X.N[i]? = some x) (hj : X.N[j]? = some y) (hij : i ≠ j)
  (hx : X.env.scope.names.lookup x = some .local) (hy : X.env.scope.names.lookup y = some .local) (ha : PA X [a, b] ta)
  (hw : swappedStores [.Tuple [.Name x px, .Name y py] kt pt] (.Tuple [a, b] k2 pt2) X.env = pure (some [x, y]))
  (hs : swapsWithSole [.Tuple [.Name x px, .Name y py] kt pt] (.Tuple [a, b] k2 pt2) pos.line X.env = pure false := by rfl) :
  PS X (.Assign [.Tuple [.Name x px, .Name y py] kt pt] (.Tuple [a, b] k2 pt2) pos) (yX i j ta) := by
 intro pins s σ H D I h
 rw [exec_Assign_arm]
 refine wpAny_bind (wpAny_standAt ?_)
 rw [hs]
 refine wpAny_bind (wpAny_pure ?_)
 rw [if_neg (by decide)]
 refine wpAny_bind (Tuple_ (thn (ha _ pins s σ H _ I h) fun us s1 ⟨vs, H1, I1, r1, q1⟩ => ?_))
 obtain ⟨v, w, e1, q1⟩ := q1
 subst e1
 obtain ⟨u1, u2, rfl, rv, rw'⟩ : ∃ u1 u2, us = [u1, u2] /\ RelV v u1 /\ RelV w u2 := by
  cases r1 with
  | cons p q =>
   cases q with
   | cons p' q' =>
    cases q'
    exact ⟨_, _, rfl, p, p'⟩
 refine wpAny_newObj_type ?_ (by show 2 <= sizeLine; decide)
 have I2 : Inv X pins σ H1 { s1 with heap := s1.heap.push { cls := .type "tuple", data := .seq [u1, u2].toArray } } := I1.kept (t' := s1.toks) fun b o e => Heap.get?_push_of_some _ e
 rw [hw]
 refine wpAny_bind (wpAny_pure ?_)
 show wpAny (model X.prog X.w) X.A (do rule "assign.swapped-stores"; let items ← unpackItems (.ref s1.heap.objs.size) 2 none; assignInOrder [fun v => bindName X.env y v, fun v => bindName X.env x v] items.reverse; pure Flow.next) _ _ _
 refine wpAny_bind (wpAny_rule (wpAny_bind (unpackItems_tuple (items := #[u1, u2]) (I.ok.hd hc) (IsTup.new s1.heap _) fun h' hx' => ?_)))
 have I3 := I2.kept (h' := h') (t' := s1.toks) fun b o e => hx' b o (Nat.ne_of_lt (Heap.lt_size e)) e
 show wpAny _ _ (assignInOrder [fun v => bindName X.env y v, fun v => bindName X.env x v] [u2, u1] >>= fun _ => pure Flow.next) _ _ _
 refine wpAny_bind (assignInOrder_cons (wpAny_bindName (da I3 hN hj (.inl hy) rw' (fun s2 I4 => ?_) (.inr hy))))
 refine assignInOrder_cons (wpAny_bindName (da I4 hN hi (.inl hx) rv (fun s3 I5 => assignInOrder_nil (wpAny_pure ?_)) (.inr hx)))
 rw [List.set_comm _ _ (Ne.symm hij)] at I5
 exact ⟨_, H1, I5, q1⟩
end
section
variable {X : Cx} {pos : Pos}
end
structure It where
 go : Nat -> Hp -> Prop
 yld : Nat -> Hp -> V -> Hp -> Prop
 stop : Nat -> Hp -> Prop
def cZ (X : Cx) (pins : List (Addr × Obj)) (H : Hp) (b : Addr) : Prop :=
 H b = none /\ b ≠ X.env.locals /\ b ∉ X.fs /\ (b ∈ X.ex ∨ X.s₀.heap.objs.size <= b) /\ (∀ x c, X.env.cells.lookup x = some c -> c ≠ b) /\ ∀ p ∈ X.pn ++ pins, p.1 ≠ b
theorem Inv.fpOk {X : Cx} {pins : List (Addr × Obj)} {σ : St} {H H' : Hp} {s : Shared} {b : Addr} (I : Inv X pins σ H s) (hb : s.heap.objs.size <= b) (hn : H' b = none) : cZ X pins H' b := by
 refine ⟨hn, Nat.ne_of_gt (Nat.lt_of_lt_of_le I.lt hb), I.nofs hb, .inr (Nat.le_trans I.sz hb), fun x c e z => ?_, fun p hp z => ?_⟩
 ·obtain ⟨v, q⟩ := I.cell x c e
  exact absurd (Nat.lt_of_lt_of_le q.lt (by rw [z]; exact hb)) (Nat.lt_irrefl _)
 ·exact absurd (Nat.lt_of_lt_of_le (Heap.lt_size (I.pin p hp).1) (by rw [z]; exact hb)) (Nat.lt_irrefl _)
structure Turn (P : Program) (w : World) (K : PySem.W.Frag) (tg : Expr) (J : It) (fp : List Addr) (it : Addr) (tn : Nat -> Heap -> Prop) : Prop where
 mem : it ∈ fp
 obj : ∀ i h, tn i h -> ∀ b ∈ fp, ∃ o, h.get? b = some o /\ ∀ v, o.data ≠ .cell v
 keep : ∀ i h h', tn i h -> (∀ b ∈ fp, ∀ o, h.get? b = some o -> h'.get? b = some o) -> tn i h'
 item : ∀ (X : Cx), X.prog = P -> X.w = w -> X.K = K -> X.calm = true -> ∀ (i : Nat) (pins : List (Addr × Obj)) (s : Shared) (σ : St) (H : Hp) (E : Value -> Shared -> Prop), Inv X pins σ H s -> (∀ b ∈ fp, cZ X pins H b) -> tn i s.heap -> J.go i H →
  wpAny (model P w) X.A (pyNext (.ref it)) (fun r s1 => ∃ u, r = some u ∧
   wpAny (model P w) X.A (letOwnedTupleGo tg (.ref it) u) (fun _ s2 => ∃ x H', Inv X pins σ H' s2 /\ RelV x u /\ J.yld i H x H' /\ tn (i + 1) s2.heap /\ ∀ b ∈ fp, H' b = none) E s1) E s
 done : ∀ (X : Cx), X.prog = P -> X.w = w -> X.K = K -> X.calm = true -> ∀ (i : Nat) (pins : List (Addr × Obj)) (s : Shared) (σ : St) (H : Hp) (E : Value -> Shared -> Prop), Inv X pins σ H s -> (∀ b ∈ fp, cZ X pins H b) -> tn i s.heap -> J.stop i H →
  wpAny (model P w) X.A (pyNext (.ref it)) (fun r s1 => r = none /\ Inv X pins σ H s1) E s
 self : ∀ (A : Around) (i : Nat) (s : Shared) (Q : Value -> Shared -> Prop) (E : Value -> Shared -> Prop), tn i s.heap -> Q (.ref it) s -> wpAny (model P w) A (pyIter (.ref it)) Q E s
abbrev TI := St -> Hp -> (It -> Hp -> Prop) -> Prop
def PIE (X : Cx) (pins : List (Addr × Obj)) (σ : St) (tg : Expr) (R : It -> Hp -> Prop) (itv : Value) (s2 : Shared) : Prop :=
 ∃ (it : Addr) (fp : List Addr) (tn : Nat -> Heap -> Prop) (J : It) (H' : Hp), itv = .ref it /\ Inv X pins σ H' s2 /\ Turn X.prog X.w X.K tg J fp it tn /\ tn 0 s2.heap /\ (∀ b ∈ fp, cZ X pins H' b) /\ R J H'
def PI (X : Cx) (tg iter : Expr) (wi : TI) : Prop :=
 ∀ (pins : List (Addr × Obj)) (s : Shared) (σ : St) (H : Hp) (R : It -> Hp -> Prop), Inv X pins σ H s -> wi σ H R →
  wpAny (model X.prog X.w) X.A (eval iter X.env) (fun v s1 => wpAny (model X.prog X.w) X.A (pyIter v) (PIE X pins σ tg R) X.xe s1) X.xe s
theorem qv {M : Model} {A : Around} {E : Value -> Shared -> Prop} {s : Shared} {tg : Expr} {it : Addr} {u : Value} {o : Obj} {n : String} {vs : Array Value} {Q : Unit -> Shared -> Prop} (ho : s.heap.get? it = some o) (hc : o.cls = .type n) (hd : o.data = .fields vs)
    (hn : ["enumerate", "zip", "dict_itemiterator", "dict_reverseitemiterator", "odict_iterator", "itertools.zip_longest", "itertools.pairwise"].contains n = false) (hQ : Q () s) : wpAny M A (letOwnedTupleGo tg (.ref it) u) Q E s := by
  unfold letOwnedTupleGo
  cases tg <;> first
    | exact wpAny_pure hQ
    | (cases u <;> first
        | exact wpAny_pure hQ
        | (refine wpAny_bind (wpAny_load ho ?_)
           rw [hc, hd]
           show wpAny M A (if (["enumerate", "zip", "dict_itemiterator", "dict_reverseitemiterator", "odict_iterator", "itertools.zip_longest", "itertools.pairwise"].contains n && vs[0]? == some (rawInt _)) = true then _ else _) Q E s
           rw [if_neg (by intro h; rw [hn, Bool.false_and] at h; cases h)]
           exact wpAny_pure hQ))
def Itl (K : PySem.W.Frag) (a : Addr) : It :=
 ⟨fun i H => ∃ xs x, SqL K H a xs /\ xs[i]? = some x, fun i H x H' => H' = H /\ ∀ xs, SqL K H a xs -> xs[i]? = some x, fun i H => ∃ xs, SqL K H a xs /\ xs.length <= i⟩
def Itt (K : PySem.W.Frag) (a : Addr) : It :=
 ⟨fun i H => ∃ xs x, SqT K H a xs /\ xs[i]? = some x, fun i H x H' => H' = H /\ ∀ xs, SqT K H a xs -> xs[i]? = some x, fun i H => ∃ xs, SqT K H a xs /\ xs.length <= i⟩
theorem tq {P : Program} {w : World} {K : PySem.W.Frag} {tg : Expr} (a it : Addr) : Turn P w K tg (Itl K a) [it] it (fun i h => h.IsListIter it a i) where
 mem := by simp
 obj := fun i h st b hb => by
  have e : b = it := by simpa using hb
  subst e
  obtain ⟨o, e, c, d⟩ := st
  exact ⟨o, e, fun v z => by rw [d] at z; cases z⟩
 keep := fun i h h' st k => st.at fun o e => k it (by simp) o e
 item := by
  intro X hP hw hK hc i pins s σ H E I hf st hg
  subst hP hw hK
  obtain ⟨xs, x, hq, hx⟩ := hg
  obtain ⟨its, rv, p, hz⟩ := I.list hq
  obtain ⟨u, hu, ru⟩ := rv.get hx
  obtain ⟨f0, f1, f2, f3, f4, f5⟩ := hf it (by simp)
  refine wpAny_pyNext_list_item st p.isList (x := u) (by simpa using hu) fun h' st' sb => ?_
  have I1 : Inv X pins σ H { s with heap := h' } := I.turned (t' := s.toks) (fun b o hb e => (sb.2 b hb).trans e) f0 f1 f3 f4 f5
  obtain ⟨o, e, c, d⟩ := id st'
  exact ⟨u, rfl, qv (s := { s with heap := h' }) e c d (by decide) ⟨x, H, I1, ru, ⟨rfl, fun ys hy => by rw [I.list_inj hy hq]; exact hx⟩, st', fun b hb => (hf b hb).1⟩⟩
 done := by
  intro X hP hw hK hc i pins s σ H E I hf st hg
  subst hP hw hK
  obtain ⟨xs, hq, hx⟩ := hg
  obtain ⟨its, rv, p, hz⟩ := I.list hq
  obtain ⟨f0, f1, f2, f3, f4, f5⟩ := hf it (by simp)
  have hl := rv.length
  exact wpAny_pyNext_list_end (I.ok.hd hc) st p.isList (by simp; omega) fun h' eb => ⟨rfl, I.turned (t' := s.toks) (fun b o hb e => eb b o hb e) f0 f1 f3 f4 f5⟩
 self := fun _ _ _ _ _ st h => wpAny_pyIter_listiter st h
theorem qM {P : Program} {w : World} {K : PySem.W.Frag} {tg : Expr} (a it : Addr) : Turn P w K tg (Itt K a) [it] it (fun i h => h.IsTupleIter it a i) where
 mem := by simp
 obj := fun i h st b hb => by
  have e : b = it := by simpa using hb
  subst e
  obtain ⟨o, e, c, d⟩ := st
  exact ⟨o, e, fun v z => by rw [d] at z; cases z⟩
 keep := fun i h h' st k => st.at fun o e => k it (by simp) o e
 item := by
  intro X hP hw hK hc i pins s σ H E I hf st hg
  subst hP hw hK
  obtain ⟨xs, x, hq, hx⟩ := hg
  obtain ⟨its, rv, p, hz⟩ := I.tuple hq
  obtain ⟨u, hu, ru⟩ := rv.get hx
  obtain ⟨f0, f1, f2, f3, f4, f5⟩ := hf it (by simp)
  refine wpAny_pyNext_tuple_item st (show s.heap.IsTuple a its.toArray from p) (x := u) (by simpa using hu) fun h' st' sb => ?_
  have I1 : Inv X pins σ H { s with heap := h' } := I.turned (t' := s.toks) (fun b o hb e => (sb.2 b hb).trans e) f0 f1 f3 f4 f5
  obtain ⟨o, e, c, d⟩ := id st'
  exact ⟨u, rfl, qv (s := { s with heap := h' }) e c d (by decide) ⟨x, H, I1, ru, ⟨rfl, fun ys hy => by rw [I.tuple_inj hy hq]; exact hx⟩, st', fun b hb => (hf b hb).1⟩⟩
 done := by
  intro X hP hw hK hc i pins s σ H E I hf st hg
  subst hP hw hK
  obtain ⟨xs, hq, hx⟩ := hg
  obtain ⟨its, rv, p, hz⟩ := I.tuple hq
  obtain ⟨f0, f1, f2, f3, f4, f5⟩ := hf it (by simp)
  have hl := rv.length
  exact wpAny_pyNext_tuple_end (I.ok.hd hc) st (show s.heap.IsTuple a its.toArray from p) (by simp; omega) fun h' eb => ⟨rfl, I.turned (t' := s.toks) (fun b o hb e => eb b o hb e) f0 f1 f3 f4 f5⟩
 self := fun _ _ _ _ _ st h => wpAny_pyIter_tupleiter st h
end L2
namespace L2
open PySem PySem.Spec PyProof.Rows
section
variable {X : Cx} {tg : Expr}
def yc (K : PySem.W.Frag) (tl : TE) : TI := fun σ H R => tl σ H fun x H1 => ∃ a, x = .ref a /\ (∃ xs, SqL K H1 a xs) /\ R (Itl K a) H1
def yL (K : PySem.W.Frag) (tl : TE) : TI := fun σ H R => tl σ H fun x H1 => ∃ a, x = .ref a /\ (∃ xs, SqT K H1 a xs) /\ R (Itt K a) H1
theorem wb {l : Expr} {tl : TE} (hl : PE X l tl) : PI X tg l (yc X.K tl) := by
 intro pins s σ H R I h
 refine thn (hl pins s σ H _ I h) fun v s1 ⟨x, H1, I1, r1, q1⟩ => ?_
 obtain ⟨a, e, ⟨xs, hq⟩, q⟩ := q1
 subst e
 cases r1
 obtain ⟨its, rv, p, hz⟩ := I1.list hq
 refine wpAny_pyIter_list p.isList ?_
 refine ⟨s1.heap.objs.size, [s1.heap.objs.size], _, _, H1, rfl, I1.kept (t' := s1.toks) fun b o e => Heap.get?_push_of_some _ e, tq a _, ⟨_, Heap.get?_push_size _ rfl, rfl, rfl⟩, fun b hb => ?_, q⟩
 have e : b = s1.heap.objs.size := by simpa using hb
 subst e
 exact I1.fpOk (Nat.le_refl _) (I1.hok.fresh (Nat.le_refl _))
theorem xB {l : Expr} {tl : TE} (hl : PE X l tl) : PI X tg l (yL X.K tl) := by
 intro pins s σ H R I h
 refine thn (hl pins s σ H _ I h) fun v s1 ⟨x, H1, I1, r1, q1⟩ => ?_
 obtain ⟨a, e, ⟨xs, hq⟩, q⟩ := q1
 subst e
 cases r1
 obtain ⟨its, rv, p, hz⟩ := I1.tuple hq
 refine wpAny_pyIter_tuple (show s1.heap.IsTuple a its.toArray from p) ?_
 refine ⟨s1.heap.objs.size, [s1.heap.objs.size], _, _, H1, rfl, I1.kept (t' := s1.toks) fun b o e => Heap.get?_push_of_some _ e, qM a _, ⟨_, Heap.get?_push_size _ rfl, rfl, rfl⟩, fun b hb => ?_, q⟩
 have e : b = s1.heap.objs.size := by simpa using hb
 subst e
 exact I1.fpOk (Nat.le_refl _) (I1.hok.fresh (Nat.le_refl _))
def ky (fp : List Addr) (h : Heap) : List (Addr × Obj) := fp.filterMap fun b => (h.get? b).map fun o => (b, o)
theorem fx {fp : List Addr} {h : Heap} {b : Addr} {o : Obj} (hb : b ∈ fp) (e : h.get? b = some o) : (b, o) ∈ ky fp h := List.mem_filterMap.mpr ⟨b, hb, by rw [e]; rfl⟩
theorem sH {fp : List Addr} {h : Heap} {p : Addr × Obj} (hp : p ∈ ky fp h) : p.1 ∈ fp /\ h.get? p.1 = some p.2 := by
 obtain ⟨b, hb, e⟩ := List.mem_filterMap.mp hp
 cases q : h.get? b with
 | none => rw [q] at e; cases e
 | some o =>
  rw [q] at e
  have e' : (b, o) = p := Option.some.inj e
  subst e'
  exact ⟨hb, q⟩
theorem Inv.pinned {pins : List (Addr × Obj)} {σ : St} {H : Hp} {s : Shared} {fp : List Addr} (I : Inv X pins σ H s) (hf : ∀ b ∈ fp, cZ X pins H b) (ho : ∀ b ∈ fp, ∃ o, s.heap.get? b = some o /\ ∀ v, o.data ≠ .cell v) : Inv X (pins ++ ky fp s.heap) σ H s :=
 I.pins_of fun p hp => (List.mem_append.mp hp).elim (fun z => I.pin p (List.mem_append_right _ z)) fun z => by
  obtain ⟨hb, e⟩ := sH z
  obtain ⟨f0, f1, f2, _⟩ := hf p.1 hb
  obtain ⟨o, e', d⟩ := ho p.1 hb
  rw [e] at e'; cases e'
  exact ⟨e, f0, f1, f2, d⟩
theorem Inv.unpinned {pins pl : List (Addr × Obj)} {σ : St} {H : Hp} {s : Shared} (I : Inv X (pins ++ pl) σ H s) : Inv X pins σ H s := I.pins_of fun p hp => I.pin p (List.mem_append_right _ (List.mem_append_left _ hp))
end
end L2
namespace L2
open PySem PySem.Spec PyProof.Rows
abbrev R2 := V -> V -> Hp -> VK -> Prop
def OpR (X : Cx) (f : Value -> Value -> Sem Value) (r : R2) : Prop :=
 ∀ (pins : List (Addr × Obj)) (s : Shared) (σ : St) (H : Hp) (x y : V) (v u : Value) (Q : VK), Inv X pins σ H s -> RelV x v -> RelV y u -> r x y H Q →
  wpAny (model X.prog X.w) X.A (f v u) (EP X pins σ Q) X.xe s
def UnR (X : Cx) (f : Value -> Sem Value) (r : V -> Hp -> VK -> Prop) : Prop :=
 ∀ (pins : List (Addr × Obj)) (s : Shared) (σ : St) (H : Hp) (x : V) (v : Value) (Q : VK), Inv X pins σ H s -> RelV x v -> r x H Q →
  wpAny (model X.prog X.w) X.A (f v) (EP X pins σ Q) X.xe s
def dW (X : Cx) (f : Value) (r : List V -> Hp -> VK -> Prop) : Prop :=
 ∀ (pins : List (Addr × Obj)) (s : Shared) (σ : St) (H : Hp) (xs : List V) (us : List Value) (Q : VK), Inv X pins σ H s -> Vals xs us -> r xs H Q →
  wpAny (model X.prog X.w) X.A (call f us) (EP X pins σ Q) X.xe s
def tOp (r : R2) (ta tb : TE) : TE := fun σ H Q => ta σ H fun x H1 => tb σ H1 fun y H2 => r x y H2 Q
def rI (C : Int -> Int -> Prop) (g : Int -> Int -> V) : R2 := fun x y H Q => ∃ i j, x = .int i /\ y = .int j /\ C i j /\ Q (g i j) H
def rI0 (g : Int -> Int -> V) : R2 := fun x y H Q => ∃ i j, x = .int i /\ y = .int j /\ Q (g i j) H
def rU (g : Int -> V) : V -> Hp -> VK -> Prop := fun x H Q => ∃ i, x = .int i /\ Q (g i) H
section
variable {X : Cx} {a b c : Expr} {ta tb tc : TE} {pos : Pos}
theorem yK (ha : PE X a ta) (hb : PE X b tb) {pins : List (Addr × Obj)} {s : Shared} {σ : St} {H : Hp} {R : V -> V -> Hp -> Prop} (I : Inv X pins σ H s)
  (h : ta σ H fun x H1 => tb σ H1 fun y H2 => R x y H2) {Q : Value -> Shared -> Prop} {f : Value -> Value -> Sem Value}
  (hf : ∀ v u s2 x y H2, Inv X pins σ H2 s2 -> RelV x v -> RelV y u -> R x y H2 -> wpAny (model X.prog X.w) X.A (f v u) Q X.xe s2) :
  wpAny (model X.prog X.w) X.A (eval a X.env) (fun v s₁ => wpAny (model X.prog X.w) X.A (eval b X.env) (fun u s₂ => wpAny (model X.prog X.w) X.A (f v u) Q X.xe s₂) X.xe s₁) X.xe s := by
 refine thn (ha pins s σ H _ I h) fun v s1 ⟨x, H1, I1, r1, q1⟩ => ?_
 refine thn (hb pins s1 σ H1 _ I1 q1) fun u s2 ⟨y, H2, I2, r2, q2⟩ => ?_
 exact hf v u s2 x y H2 I2 r1 r2 q2
theorem opI {f : Value -> Value -> Sem Value} {C : Int -> Int -> Prop} {g : Int -> Int -> Int}
  (rule : ∀ (i j : Int) (t u : Tok) (s : Shared) (Q : Value -> Shared -> Prop) (E : Value -> Shared -> Prop), C i j -> Q (.int (g i j) s.toks) { s with toks := s.toks + 1 } -> wpAny (model X.prog X.w) X.A (f (.int i t) (.int j u)) Q E s) :
  OpR X f (rI C fun i j => .int (g i j)) := by
 intro pins s σ H x y v u Q I rx ry h
 obtain ⟨i, j, rfl, rfl, hc, q⟩ := h
 obtain ⟨t, rfl⟩ := rx
 obtain ⟨t', rfl⟩ := ry
 exact rule i j t t' s _ _ hc ⟨.int (g i j), H, I.tok _, ⟨_, rfl⟩, q⟩
theorem xr {f : Value -> Value -> Sem Value} {g : Int -> Int -> Int}
  (rule : ∀ (i j : Int) (t u : Tok) (s : Shared) (Q : Value -> Shared -> Prop) (E : Value -> Shared -> Prop), Q (.int (g i j) s.toks) { s with toks := s.toks + 1 } -> wpAny (model X.prog X.w) X.A (f (.int i t) (.int j u)) Q E s) :
  OpR X f (rI0 fun i j => .int (g i j)) := by
 intro pins s σ H x y v u Q I rx ry h
 obtain ⟨i, j, rfl, rfl, q⟩ := h
 obtain ⟨t, rfl⟩ := rx
 obtain ⟨t', rfl⟩ := ry
 exact rule i j t t' s _ _ ⟨.int (g i j), H, I.tok _, ⟨_, rfl⟩, q⟩
theorem qF {f : Value -> Value -> Sem Value} {g : Int -> Int -> Bool}
  (rule : ∀ (i j : Int) (t u : Tok) (s : Shared) (Q : Value -> Shared -> Prop) (E : Value -> Shared -> Prop), Q (.bool (g i j)) s -> wpAny (model X.prog X.w) X.A (f (.int i t) (.int j u)) Q E s) :
  OpR X f (rI0 fun i j => .bl (g i j)) := by
 intro pins s σ H x y v u Q I rx ry h
 obtain ⟨i, j, rfl, rfl, q⟩ := h
 obtain ⟨t, rfl⟩ := rx
 obtain ⟨t', rfl⟩ := ry
 exact rule i j t t' s _ _ ⟨.bl (g i j), H, I, rfl, q⟩
def pS (i j : Int) : Prop := 0 <= j /\ j <= 1000000 /\ i.natAbs < 2 ^ 64
def wy (i j : Int) : Prop := (-(2 ^ 64) < i /\ i < 2 ^ 64) ∨ (-(2 ^ 64) < j /\ j < 2 ^ 64)
theorem wy.ok {i j : Int} (h : wy i j) : IntMulOk i j := by
 rcases h with ⟨h1, h2⟩ | ⟨h1, h2⟩
 ·exact .of_left (intBits_le_64 h1 h2)
 ·exact .of_right (intBits_le_64 h1 h2)
theorem xt : OpR X (binaryOp .Add) (rI0 fun i j => .int (i + j)) := xr fun _ _ _ _ _ _ _ q => add_int q
theorem xw : OpR X (binaryOp .Sub) (rI0 fun i j => .int (i - j)) := xr fun _ _ _ _ _ _ _ q => sub_int q
theorem vY : OpR X (binaryOp .Mod) (rI (fun _ j => j ≠ 0) fun i j => .int (i.fmod j)) := opI fun _ _ _ _ _ _ _ hc q => mod_int' hc q
theorem xv : OpR X (binaryOp .Pow) (rI pS fun i j => .int (i ^ j.toNat)) := opI fun _ _ _ _ _ _ _ hc q => pow_int_small hc.1 hc.2.1 hc.2.2 q
theorem unI {f : Value -> Sem Value} {g : Int -> Int}
  (rule : ∀ (i : Int) (t : Tok) (s : Shared) (Q : Value -> Shared -> Prop) (E : Value -> Shared -> Prop), Q (.int (g i) s.toks) { s with toks := s.toks + 1 } -> wpAny (model X.prog X.w) X.A (f (.int i t)) Q E s) :
  UnR X f (rU fun i => .int (g i)) := by
 intro pins s σ H x v Q I rx h
 obtain ⟨i, rfl, q⟩ := h
 obtain ⟨t, rfl⟩ := rx
 exact rule i t s _ _ ⟨.int (g i), H, I.tok _, ⟨_, rfl⟩, q⟩
theorem xS : UnR X (unaryOp .USub) (rU fun i => .int (-i)) := unI fun _ _ _ _ _ q => neg_int q
end
def k8 : V -> V -> Bool
 | .non, .non => true | .non, .int _ => true | .int _, .non => true | .non, .bl _ => true | .bl _, .non => true | .non, .str _ => true | .str _, .non => true
 | .int _, .int _ => true | .bl _, .bl _ => true | .str _, .str _ => true | .byt _, .byt _ => true
 | .int _, .str _ => true | .str _, .int _ => true | .bl _, .str _ => true | .str _, .bl _ => true
 | _, _ => false
def rEq : R2 := fun x y H Q => k8 x y = true /\ Q (.bl (decide (x = y))) H
def rNe : R2 := fun x y H Q => k8 x y = true /\ Q (.bl (!decide (x = y))) H
theorem je {i j : Int} : decide (V.int i = V.int j) = (i == j) := by
 rw [Bool.eq_iff_iff]
 simp
theorem rE {i j : Bool} : decide (V.bl i = V.bl j) = (i == j) := by
 rw [Bool.eq_iff_iff]
 simp
theorem oV {i j : Str} : decide (V.str i = V.str j) = (i == j) := by
 rw [Bool.eq_iff_iff]
 simp
theorem oU {i j : Array UInt8} : decide (V.byt i = V.byt j) = (i.toList == j.toList) := by
 rw [Bool.eq_iff_iff]
 cases i
 cases j
 simp
section
variable {X : Cx} {a b c : Expr} {ta tb tc : TE} {pos : Pos}
theorem aK {pins : List (Addr × Obj)} {σ : St} {H : Hp} {s : Shared} {Q : VK} {k k' : Bool} (I : Inv X pins σ H s) (q : Q (.bl k) H) (e : k = k') : EP X pins σ Q (.bool k') s := by
 subst e
 exact ⟨.bl k, H, I, rfl, q⟩
theorem yp : OpR X (compareOp .Eq) rEq := by
 intro pins s σ H x y v u Q I rx ry h
 obtain ⟨hs, q⟩ := h
 cases x with
 | non =>
  cases rx
  cases y with
  | non => cases ry; exact PySem.EqNone.eq_none_none (aK I q (by simp))
  | bl j => cases ry; exact PySem.EqNone.eq_none_bool (aK I q (by simp))
  | int j => obtain ⟨t', rfl⟩ := ry; exact PySem.EqNone.eq_none_int (aK I q (by simp))
  | str j => obtain ⟨t', rfl⟩ := ry; exact PySem.EqNone.eq_none_str (aK I q (by simp))
  | _ => exact absurd (show false = true from hs) Bool.false_ne_true
 | bl i =>
  cases rx
  cases y with
  | non => cases ry; exact PySem.EqNone.eq_bool_none (aK I q (by simp))
  | bl j => cases ry; exact eq_bool (aK I q rE)
  | str j => obtain ⟨t', rfl⟩ := ry; exact PySem.EqMixed.eq_bool_str (aK I q (by simp))
  | _ => exact absurd (show false = true from hs) Bool.false_ne_true
 | int i =>
  obtain ⟨t, rfl⟩ := rx
  cases y with
  | non => cases ry; exact PySem.EqNone.eq_int_none (aK I q (by simp))
  | int j => obtain ⟨t', rfl⟩ := ry; exact eq_int (aK I q je)
  | str j => obtain ⟨t', rfl⟩ := ry; exact PySem.EqMixed.eq_int_str (aK I q (by simp))
  | _ => exact absurd (show false = true from hs) Bool.false_ne_true
 | str i =>
  obtain ⟨t, rfl⟩ := rx
  cases y with
  | non => cases ry; exact PySem.EqNone.eq_str_none (aK I q (by simp))
  | bl j => cases ry; exact PySem.EqMixed.eq_str_bool (aK I q (by simp))
  | int j => obtain ⟨t', rfl⟩ := ry; exact PySem.EqMixed.eq_str_int (aK I q (by simp))
  | str j => obtain ⟨t', rfl⟩ := ry; exact eq_str (aK I q oV)
  | _ => exact absurd (show false = true from hs) Bool.false_ne_true
 | byt i =>
  obtain ⟨t, rfl⟩ := rx
  cases y with
  | byt j => obtain ⟨t', rfl⟩ := ry; exact PySem.W.eq_bytes (aK I q oU)
  | _ => exact absurd (show false = true from hs) Bool.false_ne_true
 | _ => cases y <;> exact absurd (show false = true from hs) Bool.false_ne_true
theorem yv : OpR X (compareOp .NotEq) rNe := by
 intro pins s σ H x y v u Q I rx ry h
 obtain ⟨hs, q⟩ := h
 cases x with
 | non =>
  cases rx
  cases y with
  | non => cases ry; exact PySem.EqNone.ne_none_none (aK I q (by simp))
  | bl j => cases ry; exact PySem.EqNone.ne_none_bool (aK I q (by simp))
  | int j => obtain ⟨t', rfl⟩ := ry; exact PySem.EqNone.ne_none_int (aK I q (by simp))
  | str j => obtain ⟨t', rfl⟩ := ry; exact PySem.EqNone.ne_none_str (aK I q (by simp))
  | _ => exact absurd (show false = true from hs) Bool.false_ne_true
 | bl i =>
  cases rx
  cases y with
  | non => cases ry; exact PySem.EqNone.ne_bool_none (aK I q (by simp))
  | bl j => cases ry; exact ne_bool (aK I q (congrArg not rE))
  | str j => obtain ⟨t', rfl⟩ := ry; exact PySem.EqMixed.ne_bool_str (aK I q (by simp))
  | _ => exact absurd (show false = true from hs) Bool.false_ne_true
 | int i =>
  obtain ⟨t, rfl⟩ := rx
  cases y with
  | non => cases ry; exact PySem.EqNone.ne_int_none (aK I q (by simp))
  | int j => obtain ⟨t', rfl⟩ := ry; exact ne_int (aK I q (congrArg not je))
  | str j => obtain ⟨t', rfl⟩ := ry; exact PySem.EqMixed.ne_int_str (aK I q (by simp))
  | _ => exact absurd (show false = true from hs) Bool.false_ne_true
 | str i =>
  obtain ⟨t, rfl⟩ := rx
  cases y with
  | non => cases ry; exact PySem.EqNone.ne_str_none (aK I q (by simp))
  | bl j => cases ry; exact PySem.EqMixed.ne_str_bool (aK I q (by simp))
  | int j => obtain ⟨t', rfl⟩ := ry; exact PySem.EqMixed.ne_str_int (aK I q (by simp))
  | str j => obtain ⟨t', rfl⟩ := ry; exact ne_str (aK I q (congrArg not oV))
  | _ => exact absurd (show false = true from hs) Bool.false_ne_true
 | byt i =>
  obtain ⟨t, rfl⟩ := rx
  cases y with
  | byt j => obtain ⟨t', rfl⟩ := ry; exact PySem.W.ne_bytes (aK I q (congrArg not oU))
  | _ => exact absurd (show false = true from hs) Bool.false_ne_true
 | _ => cases y <;> exact absurd (show false = true from hs) Bool.false_ne_true
theorem yu : OpR X (compareOp .Lt) (rI0 fun i j => .bl (decide (i < j))) := qF fun _ _ _ _ _ _ _ q => lt_int q
theorem yt : OpR X (compareOp .LtE) (rI0 fun i j => .bl (decide (i <= j))) := qF fun _ _ _ _ _ _ _ q => le_int q
theorem yr : OpR X (compareOp .Gt) (rI0 fun i j => .bl (decide (j < i))) := qF fun _ _ _ _ _ _ _ q => gt_int q
theorem yq : OpR X (compareOp .GtE) (rI0 fun i j => .bl (decide (j <= i))) := qF fun _ _ _ _ _ _ _ q => ge_int q
theorem xu : OpR X (compareOp .Is) (fun x y H Q => y = .non /\ Q (.bl (decide (x = .non))) H) := by
 intro pins s σ H x y v u Q I rx ry h
 obtain ⟨rfl, q⟩ := h
 cases ry
 refine is_none_gen (aK I q ?_)
 cases x <;> first
  | (cases rx; rfl)
  | (obtain ⟨t, rfl⟩ := rx; rfl)
theorem v7 : OpR X (compareOp .IsNot) (fun x y H Q => y = .non /\ Q (.bl (!decide (x = .non))) H) := by
 intro pins s σ H x y v u Q I rx ry h
 obtain ⟨rfl, q⟩ := h
 cases ry
 refine isnot_none_gen (aK I q ?_)
 cases x <;> first
  | (cases rx; rfl)
  | (obtain ⟨t, rfl⟩ := rx; rfl)
theorem OpR.or {f : Value -> Value -> Sem Value} {r r' : R2} (h : OpR X f r) (h' : OpR X f r') : OpR X f (fun x y H Q => r x y H Q ∨ r' x y H Q) := by
 intro pins s σ H x y v u Q I rx ry q
 rcases q with q | q
 ·exact h pins s σ H x y v u Q I rx ry q
 ·exact h' pins s σ H x y v u Q I rx ry q
theorem nF : (sizeLine : Nat) < 2 ^ 63 := by rw [sizeLine_eq]; decide
theorem vals1 {x : V} {us : List Value} (r : Vals [x] us) : ∃ u, us = [u] /\ RelV x u := by
 cases r with
 | cons r1 r2 => cases r2; exact ⟨_, rfl, r1⟩
theorem vals2 {x y : V} {us : List Value} (r : Vals [x, y] us) : ∃ u w', us = [u, w'] /\ RelV x u /\ RelV y w' := by
 cases r with
 | cons r1 r2 =>
  cases r2 with
  | cons r3 r4 => cases r4; exact ⟨_, _, rfl, r1, r3⟩
theorem tM : dW X (.builtin "abs") (fun xs H Q => ∃ i, xs = [.int i] /\ Q (.int (if i < 0 then -i else i)) H) := by
 intro pins s σ H xs us Q I r h
 obtain ⟨i, rfl, q⟩ := h
 obtain ⟨u, rfl, t, rfl⟩ := vals1 r
 exact call_abs_int fun u tk => ⟨.int (if i < 0 then -i else i), H, I.tok _, ⟨_, rfl⟩, q⟩
theorem qV (hc : X.calm = true) : dW X (.builtin "max") (fun xs H Q => ∃ i j, xs = [.int i, .int j] /\ Q (.int (if j > i then j else i)) H) := by
 intro pins s σ H xs us Q I r h
 obtain ⟨i, j, rfl, q⟩ := h
 obtain ⟨u, w', rfl, ⟨t, rfl⟩, ⟨t', rfl⟩⟩ := vals2 r
 refine max_two_ints (I.ok.hd hc) fun h' tk k => ⟨_, H, I.kept k, ?_, q⟩
 by_cases hj : j > i
 ·rw [if_pos hj, if_pos hj]; exact ⟨_, rfl⟩
 ·rw [if_neg hj, if_neg hj]; exact ⟨_, rfl⟩
end
end L2
namespace L2
open PySem PySem.Spec PyProof.Rows
structure y7 (h : Heap) (x dx C : Addr) (mA : Str -> Option Value) : Prop where
 obj : h.get? x = some (PySem.W.instObj C dx)
 ns : h.Ns1 dx mA
 ne : dx ≠ x
section
variable {prog : Program} {w : World} {A : Around} {E : Value -> Shared -> Prop} {s : Shared} {K : PySem.W.Frag} {x dx C f : Addr} {mA : Str -> Option Value} {name : Str} {v : Value}
end
theorem gz.none_of {o : Option Value} (r : gz none o) : o = none := by
 cases o with
 | none => rfl
 | some u => exact (show False from r).elim
section
variable {P : Program} {w : World} {H H' : Hp} {h h' : Heap} {a C dx : Addr} {fs fs' : List (Str × V)}
end
structure Cls (K : PySem.W.Frag) (C : Addr) : Prop where
 pg : PySem.W.plainGet K C Str.empty = true
 hd : PySem.W.hasDictIn K C = true
 po : PySem.W.plainOver K C = true
 sa : PySem.W.findIn K (.ref C) "__setattr__" = some (some (.builtin "object.__setattr__"))
theorem Cls.get {K : PySem.W.Frag} {C : Addr} (c : Cls K C) (f : Str) : PySem.W.plainGet K C f = true := c.pg
structure Con (K : PySem.W.Frag) (C : Addr) (f : Str) (v : V) (u : Value) : Prop where
 at_ : PySem.W.findIn K (.ref C) f = some (some u)
 rel : RelV v u
 get : PySem.W.specialIn K u "__get__" = some none
 cp : PySem.W.copiedNames.contains f = false
structure Meth (K : PySem.W.Frag) (C : Addr) (m : Str) (f : Addr) : Prop where
 at_ : PySem.W.findIn K (.ref C) m = some (some (.ref f))
 fn : PySem.W.isFn K (.ref f) = true
 kp : PySem.W.keepIn K (.ref f) = true
section
variable {X : Cx} {pins : List (Addr × Obj)} {σ : St} {H : Hp} {s : Shared} {a C dx : Addr} {fs : List (Str × V)} {f : Str} {v : V} {A : Around} {E : Value -> Shared -> Prop}
theorem Inv.made (I : Inv X pins σ H s) : Inv X pins σ (upd (upd H s.heap.objs.size (.own (s.heap.objs.size + 1))) (s.heap.objs.size + 1) (.ins C s.heap.objs.size []))
  { s with heap := (s.heap.push PySem.W.emptyDict).push (PySem.W.instObj C s.heap.objs.size) } := by
 have e1 : (s.heap.push PySem.W.emptyDict).get? s.heap.objs.size = some PySem.W.emptyDict := Heap.get?_push_size s.heap rfl
 have e2 : ((s.heap.push PySem.W.emptyDict).push (PySem.W.instObj C s.heap.objs.size)).get? (s.heap.objs.size + 1) = some (PySem.W.instObj C s.heap.objs.size) := by
  have := Heap.get?_push_size (s.heap.push PySem.W.emptyDict) (o := PySem.W.instObj C s.heap.objs.size) rfl
  rwa [Heap.size_push] at this
 have e3 : (s.heap.push PySem.W.emptyDict).Ns s.heap.objs.size (fun _ => none) := ⟨PySem.W.emptyDict, #[], _, e1, rfl, (fun e he => absurd he (by simp)), fun _ => rfl⟩
 have I1 := I.laid (a := s.heap.objs.size) (o := .own (s.heap.objs.size + 1)) (h' := s.heap.push PySem.W.emptyDict) (t' := s.toks) (fun b u q => Heap.get?_push_of_some _ q) (Nat.le_refl _) ⟨_, e1⟩
 refine I1.laid (a := s.heap.objs.size + 1) (o := .ins C s.heap.objs.size []) (t' := s.toks) (fun b u q => Heap.get?_push_of_some _ q) (Nat.le_of_eq (Heap.size_push _ _)) ?_
 have ne : s.heap.objs.size ≠ s.heap.objs.size + 1 := Nat.ne_of_lt (Nat.lt_succ_self _)
 refine ⟨by rw [ar ne, aA], Nat.zero_le _, ne, e2, fun _ => none, (Heap.Ns1.of_empty e3).at fun o q => Heap.get?_push_of_some _ q, fun _ => True.intro, fun y hy => absurd rfl hy⟩
end
section
variable {X : Cx} {o e value : Expr} {f : Str} {pos pos' tpos : Pos} {ta tv : TE}
end
section
variable {X : Cx} {pins : List (Addr × Obj)} {σ : St} {H : Hp} {s : Shared} {A : Around} {E : Value -> Shared -> Prop} {Q : Value -> Shared -> Prop} {c : Value} {b : Bool}
inductive fH (K : PySem.W.Frag) (H : Hp) : V -> Value -> Prop where
 | non : fH K H .non (.type "NoneType")
 | bl (x : Bool) : fH K H (.bl x) (.type "bool")
 | int (i : Int) : fH K H (.int i) (.type "int")
 | str (x : Str) : fH K H (.str x) (.type "str")
 | flt (x : UInt64) : fH K H (.flt x) (.type "float")
 | lst {a : Addr} {xs : List V} (e : H a = some (.lst xs)) : fH K H (.ref a) (.type "list")
 | frz {a : Addr} {o : Obj} {xs : List V} (e : H a = some (.frz o (.lst xs))) : fH K H (.ref a) (.type "list")
 | tup {a : Addr} {xs : List V} (e : H a = some (.tup xs)) : fH K H (.ref a) (.type "tuple")
 | dK {a : Addr} {kvs : List (Key × V)} (e : H a = some (.dK kvs)) : fH K H (.ref a) (.type "dict")
 | dT {a : Addr} {kvs : List (List Key × V)} (e : H a = some (.dT kvs)) : fH K H (.ref a) (.type "dict")
 | ins {a C dx : Addr} {fs : List (Str × V)} (e : H a = some (.ins C dx fs)) (cl : Cls K C) (ha : PySem.W.findIn K (.ref C) "__class__" = some (some (.builtin "object.__class__")))
   (hn : PySem.W.specialIn K (.builtin "object.__class__") "__get__" = some (some (.builtin "getset_descriptor.__get__"))) (htk : PySem.W.takesIn K (.builtin "object.__class__") = some true)
   (hm : PySem.W.mroIn K C (.type "object") = some true) : fH K H (.ref a) (.ref C)
end
end L2
namespace L2
open PySem PySem.Spec PyProof.Rows
structure aZ (k : Nat) (A : Around) : Prop where
 hd : A.handled = none
 dp : A.depth + 3 * k + 5 < recursionLimit
 un : A.units + 16 * k + 200 < cLine
theorem aZ.mono {j k : Nat} {A : Around} (r : aZ k A) (h : j <= k) : aZ j A := ⟨r.hd, by have := r.dp; omega, by have := r.un; omega⟩
theorem aZ.deeper {k : Nat} {A : Around} (r : aZ (k + 1) A) (env : Env) : aZ k (A.deeper env) :=
 ⟨r.hd, by have := r.dp; show A.depth + 1 + 3 * k + 5 < _; omega, by have := r.un; show A.units + 3 + 16 * k + 200 < _; omega⟩
theorem aZ.in1 {k : Nat} {A : Around} (r : aZ (k + 1) A) : aZ k A.in1 :=
 ⟨r.hd, by have := r.dp; show A.depth + 3 * k + 5 < _; omega, by have := r.un; show A.units + 1 + 16 * k + 200 < _; omega⟩
theorem qy {A : Around} {C : Addr} {us : List Value} {kw : List (Str × Value)} : (A.under (.builtin "type.__call__" ⟨.ref C :: us, kw⟩)).depth = A.depth + 1 := by
 first | rfl | simp [Around.under, Code.weight, Code.isCreation, Code.isGuard, Code.isCaller, Code.frames, Code.isFrame, guardIds]
theorem qz {A : Around} {C : Addr} {us : List Value} {kw : List (Str × Value)} : (A.under (.builtin "type.__call__" ⟨.ref C :: us, kw⟩)).units = A.units + 1 := by
 first | rfl | simp [Around.under, Code.cUnits, Code.frames, Code.isFrame]
theorem aZ.make {k : Nat} {A : Around} (r : aZ (k + 1) A) (C : Addr) (us : List Value) (kw : List (Str × Value)) : aZ k (A.under (.builtin "type.__call__" ⟨.ref C :: us, kw⟩)) :=
 ⟨r.hd, by have := r.dp; rw [qy]; omega, by have := r.un; rw [qz]; omega⟩
theorem aZ.depth {k : Nat} {A : Around} (r : aZ k A) : A.depth < recursionLimit := by have := r.dp; omega
theorem aZ.units {k : Nat} {A : Around} (r : aZ k A) : A.units + 64 < cLine := by have := r.un; omega
def lg : TA := fun _ H Q => Q [] H
def d6 (ta : TE) (tr : TA) : TA := fun σ H Q => ta σ H fun x H1 => tr σ H1 fun xs H2 => Q (x :: xs) H2
section
variable {X : Cx} {e : Expr} {es : List Expr} {te : TE} {t : TA} {pos : Pos}
theorem eM : PA X [] lg := fun _ _ _ _ H Q I h => Calls.spliced_nil ⟨[], H, I, .nil, h⟩
theorem bK (ha : PE X e te) (hr : PA X es t) (hs : starEach (e :: es) X.env = (false, eval e X.env) :: starEach es X.env := by rfl) : PA X (e :: es) (d6 te t) := by
 intro pos pins s σ H Q I h
 rw [hs]
 show wpAny _ _ (spliced ((false, eval e X.env) :: backTo pos (starEach es X.env))) _ _ s
 refine Calls.spliced_cons (thn (ha pins s σ H _ I h) fun u s1 ⟨x, H1, I1, r1, q1⟩ => ?_)
 exact thn (hr pos pins s1 σ H1 _ I1 q1) fun us s2 ⟨xs, H2, I2, r2, q2⟩ => ⟨x :: xs, H2, I2, .cons r1 r2, q2⟩
def xQ (t : TA) : TE := fun σ H Q => t σ H fun xs H1 => xs.length <= sizeLine /\ ∀ p, H1 p = none -> Q (.ref p) (upd H1 p (.tup xs))
theorem xA {x1} (h : PA X es t) : PE X (.Tuple es x1 pos) (xQ t) := by
 intro pins s σ H Q I hq
 refine wpAny_Tuple_spliced (thn (h pos pins s σ H _ I hq) fun us s1 ⟨xs, H1, I1, r, z, q⟩ => ⟨by rw [<- r.length]; exact z, ?_⟩)
 have hf : H1 s1.heap.objs.size = none := I1.hok.fresh (Nat.le_refl _)
 refine ⟨.ref s1.heap.objs.size, upd H1 s1.heap.objs.size (.tup xs), I1.laid (t' := s1.toks) (fun b u e => Heap.get?_push_of_some _ e) (Nat.le_refl _) ?_, rfl, q _ hf⟩
 exact ⟨z, us, r, ⟨_, Heap.get?_push_size _ rfl, rfl, _, rfl⟩⟩
end
abbrev Sp := List V -> Hp -> VK -> XK -> Prop
abbrev CXT := List Env -> Hp -> Shared -> XK -> Value -> Shared -> Prop
structure gy (P : Program) (w : World) (K : PySem.W.Frag) (mg : Str -> Option Value) (base : Heap) (A : Around) (outer : List Env) (s : Shared) (H : Hp) : Prop where
 frames : A.frames = some outer
 mod : Mod K mg base
 bs : ∀ b o, base.get? b = some o -> s.heap.get? b = some o /\ H b = none
 bsz : base.objs.size <= s.heap.objs.size
 funs : s.heap.FunFrames base outer
 frf : ∀ b ∈ frs outer, H b = none
 hok : HOk P w H s.heap
 bare : AllBare s.gens
def CE (outer : List Env) (P : Program) (w : World) (H : Hp) (s : Shared) (Q : VK) (u : Value) (s' : Shared) : Prop :=
 ∃ v H', s'.os = s.os /\ AllBare s'.gens /\ Un (frs outer) [] H H' s.heap s'.heap /\ HOk P w H' s'.heap /\ RelV v u /\ Q v H'
def CR (CX : CXT) (outer : List Env) (P : Program) (w : World) (H : Hp) (s : Shared) (Q : VK) (E : XK) (r : Result) (s' : Shared) : Prop :=
 match r with
 | .ok (.ret u) => CE outer P w H s Q u s'
 | .ok _ => False
 | .error e => CX outer H s E e s'
structure aG (P : Program) (w : World) (K : PySem.W.Frag) (mg : Str -> Option Value) (base : Heap) (CX : CXT) (k : Nat) (f : Addr) (fd : FuncData) (ps : List Str) (sp : Sp) : Prop where
 len : ∀ vs H Q E, sp vs H Q E -> vs.length = ps.length
 run : ∀ (A : Around) (outer : List Env) (s : Shared) (H : Hp) (args : Args) (us : List Value) (vs : List V) (Q : VK) (E : XK), aZ k A -> gy P w K mg base A outer s H -> BindsTo s fd args (ps.zip us) -> Vals vs us -> sp vs H Q E →
  codeAny (model P w) A (.call (.ref f) args) (CR CX outer P w H s Q E) s
theorem aG.mono {P : Program} {w : World} {K : PySem.W.Frag} {mg : Str -> Option Value} {base : Heap} {CX : CXT} {j k : Nat} {f : Addr} {fd : FuncData} {ps : List Str} {sp : Sp} (F : aG P w K mg base CX j f fd ps sp) (h : j <= k) :
  aG P w K mg base CX k f fd ps sp := ⟨F.len, fun A outer s H args us vs Q E hr => F.run A outer s H args us vs Q E (hr.mono h)⟩
theorem aG.imp {P : Program} {w : World} {K : PySem.W.Frag} {mg : Str -> Option Value} {base : Heap} {CX : CXT} {k : Nat} {f : Addr} {fd : FuncData} {ps : List Str} {sp sp' : Sp} (F : aG P w K mg base CX k f fd ps sp)
  (h : ∀ vs H Q E, sp' vs H Q E -> sp vs H Q E) : aG P w K mg base CX k f fd ps sp' :=
 ⟨fun vs H Q E q => F.len vs H Q E (h _ _ _ _ q), fun A outer s H args us vs Q E hr he hb hv hs => F.run A outer s H args us vs Q E hr he hb hv (h _ _ _ _ hs)⟩
theorem gy.make {P : Program} {w : World} {K : PySem.W.Frag} {mg : Str -> Option Value} {base : Heap} {A : Around} {outer : List Env} {s : Shared} {H : Hp} (e : gy P w K mg base A outer s H) (C : Addr) (us : List Value) (kw : List (Str × Value)) :
  gy P w K mg base (A.under (.builtin "type.__call__" ⟨.ref C :: us, kw⟩)) outer s H := ⟨by first | exact e.frames | (simpa [Around.under, Code.envs, Code.isFrame, pushEnvs] using e.frames), e.mod, e.bs, e.bsz, e.funs, e.frf, e.hok, e.bare⟩
theorem gy.in1 {P : Program} {w : World} {K : PySem.W.Frag} {mg : Str -> Option Value} {base : Heap} {A : Around} {outer : List Env} {s : Shared} {H : Hp} (e : gy P w K mg base A outer s H) :
  gy P w K mg base A.in1 outer s H := ⟨e.frames, e.mod, e.bs, e.bsz, e.funs, e.frf, e.hok, e.bare⟩
section
variable {X : Cx} {pins : List (Addr × Obj)} {σ : St} {H : Hp} {s s' : Shared}
theorem Inv.env0 (I : Inv X pins σ H s) : gy X.prog X.w X.K X.mg X.base X.A X.stack s H :=
 ⟨I.ok.frames, I.ok.mod, I.bs, Nat.le_trans I.ok.bsz I.sz, I.stack, I.stkFree, I.hok, I.bare⟩
theorem Inv.after {Q : VK} {u : Value} (I : Inv X pins σ H s) (h : CE X.stack X.prog X.w H s Q u s') : EP X pins σ Q u s' := by
 obtain ⟨v, H', os, bare, un, hok, r, q⟩ := h
 obtain ⟨hh, g, d, t, os'⟩ := s'
 obtain rfl : os' = s.os := os
 exact ⟨v, H', I.call (h' := hh) (g' := g) (d' := d) (t' := t) (ch := []) un hok bare (fun b z => absurd z (by simp)), r, q⟩
end
def Binds (K : PySem.W.Frag) (fd : FuncData) (ps : List Str) (ds : List Value) : Prop :=
 ∀ (s : Shared) (us : List Value), K.In s.heap -> (us ++ ds).length = ps.length -> BindsTo s fd ⟨us, []⟩ (ps.zip (us ++ ds))
theorem Binds.all {K : PySem.W.Frag} {fd : FuncData} {ps : List Str} (h : ∀ us : List Value, us.length = ps.length -> bindArgs fd ⟨us, []⟩ = pure (ps.zip us)) : Binds K fd ps [] := fun s us _ hl => by
 rw [List.append_nil] at hl ⊢
 exact .of_eq (h us hl)
def Passes (CX : CXT) (X : Cx) (E : XK) : Prop := ∀ (pins : List (Addr × Obj)) (σ : St) (H : Hp) (s : Shared) (e : Value) (s' : Shared), Inv X pins σ H s -> CX X.stack H s E e s' -> X.xe e s'
section
variable {X : Cx} {CX : CXT} {k : Nat} {f C : Addr} {fd : FuncData} {ps : List Str} {sp : Sp} {dvs : List V} {ds : List Value} {E : XK} {x m : Str} {p pos apos : Pos} {e o : Expr} {es : List Expr} {ta : TE} {t : TA}
theorem xI {pins : List (Addr × Obj)} {σ : St} {H : Hp} {s : Shared} {Q : VK} {us : List Value} {vs : List V} (F : aG X.prog X.w X.K X.mg X.base CX k f fd ps sp) (hr : aZ k X.A) (hb : Binds X.K fd ps ds) (hd : Vals dvs ds) (hx : Passes CX X E)
  (I : Inv X pins σ H s) (r : Vals vs us) (h : sp (vs ++ dvs) H Q E) : wpAny (model X.prog X.w) X.A (call (.ref f) us) (EP X pins σ Q) X.xe s := by
 have r2 : Vals (vs ++ dvs) (us ++ ds) := r.append hd
 have hl : (us ++ ds).length = ps.length := by rw [<- r2.length]; exact F.len _ _ _ _ h
 refine wpAny_call (codeAny_mono (F.run X.A X.stack s H ⟨us, []⟩ (us ++ ds) (vs ++ dvs) Q E hr I.env0 (hb s us I.kIn hl) r2 h) fun r s' hq => ?_)
 cases r with
 | error e => exact hx pins σ H s e s' I hq
 | ok fl =>
  cases fl with
  | ret u => exact I.after hq
  | next => exact False.elim hq
  | brk => exact False.elim hq
  | cont => exact False.elim hq
structure Mk (K : PySem.W.Frag) (C f : Addr) : Prop where
 makes : PySem.W.makesIn K C = true
 init : PySem.W.findIn K (.ref C) "__init__" = some (some (.ref f))
 fn : PySem.W.isFn K (.ref f) = true
 kp : PySem.W.keepIn K (.ref C) = true
end
section
variable {X : Cx} {CX : CXT} {k : Nat} {f C : Addr} {fd : FuncData} {ps ks : List Str} {sp : Sp} {E : XK} {x m : Str} {p pos apos kpos : Pos} {e o : Expr} {es : List Expr} {kws : List Keyword} {te ta : TE} {t tk : TA} {nm : Option Str}
structure yZ (K : PySem.W.Frag) (fd : FuncData) (ps ks : List Str) (g : List Value -> List Value -> List Value) (gV : List V -> List V -> List V) : Prop where
 to : ∀ (s : Shared) (us ws : List Value), K.In s.heap -> (g us ws).length = ps.length -> BindsTo s fd ⟨us, ks.zip ws⟩ (ps.zip (g us ws))
 rel : ∀ {vs : List V} {us : List Value} {zs : List V} {ws : List Value}, Vals vs us -> Vals zs ws -> Vals (gV vs zs) (g us ws)
variable {g : List Value -> List Value -> List Value} {gV : List V -> List V -> List V}
end
structure aB (N P : List Str) (sc : Scope) : Prop where
 kind : sc.kind = .function
 co : sc.isCoroutine = false
 gen : sc.isGenerator = false
 nd : N.Nodup
 pre : N.take P.length = P
 par : ∀ x ∈ P, sc.names.lookup x = some .local ∨ sc.names.lookup x = some .cell
 nofree : ∀ y ∈ sc.names, y.2 ≠ .free
theorem lu {kindOf : Str -> Option NameKind} {x : Str} : ∀ {binds : List (Str × Value)} {m : Str -> Option Value}, (∀ v, (x, v) ∉ binds) -> bindL kindOf binds m x = m x
 | [], _, _ => rfl
 | (n, v) :: r, m, h => by
  unfold bindL
  rw [lu fun w hw => h w (List.mem_cons_of_mem _ hw)]
  split
  ·have : x ≠ n := by rintro rfl; exact h v List.mem_cons_self
   simp [this]
  ·rfl
theorem lq {kindOf : Str -> Option NameKind} {x : Str} : ∀ {binds : List (Str × Value)} {m : Str -> Option Value}, (∀ v, (x, v) ∉ binds) -> bindC kindOf binds m x = m x
 | [], _, _ => rfl
 | (n, v) :: r, m, h => by
  unfold bindC
  rw [lq fun w hw => h w (List.mem_cons_of_mem _ hw)]
  split
  ·rfl
  ·have : x ≠ n := by rintro rfl; exact h v List.mem_cons_self
   simp [this]
theorem lr {kindOf : Str -> Option NameKind} {x : Str} {v : Value} : ∀ {P : List Str} {vs : List Value} {i : Nat} {m : Str -> Option Value}, P.Nodup -> P[i]? = some x -> vs[i]? = some v -> kindOf x = some .local →
  bindL kindOf (P.zip vs) m x = some v
 | [], _, _, _, _, h, _, _ => by simp at h
 | _ :: _, [], _, _, _, _, h, _ => by simp at h
 | p :: P, w :: vs, 0, m, nd, h1, h2, hk => by
  simp at h1 h2; subst h1; subst h2
  show bindL kindOf ((p, w) :: P.zip vs) m p = _
  unfold bindL
  rw [lu fun v hv => (List.nodup_cons.mp nd).1 (List.of_mem_zip hv).1, if_pos hk]
  simp
 | p :: P, w :: vs, i + 1, m, nd, h1, h2, hk => by
  show bindL kindOf ((p, w) :: P.zip vs) m x = _
  unfold bindL
  exact lr (i := i) (List.nodup_cons.mp nd).2 (by simpa using h1) (by simpa using h2) hk
theorem lh {kindOf : Str -> Option NameKind} {x : Str} {v : Value} : ∀ {P : List Str} {vs : List Value} {i : Nat} {m : Str -> Option Value}, P.Nodup -> P[i]? = some x -> vs[i]? = some v -> kindOf x ≠ some .local →
  bindC kindOf (P.zip vs) m x = some v
 | [], _, _, _, _, h, _, _ => by simp at h
 | _ :: _, [], _, _, _, _, h, _ => by simp at h
 | p :: P, w :: vs, 0, m, nd, h1, h2, hk => by
  simp at h1 h2; subst h1; subst h2
  show bindC kindOf ((p, w) :: P.zip vs) m p = _
  unfold bindC
  rw [lq fun v hv => (List.nodup_cons.mp nd).1 (List.of_mem_zip hv).1, if_neg hk]
  simp
 | p :: P, w :: vs, i + 1, m, nd, h1, h2, hk => by
  show bindC kindOf ((p, w) :: P.zip vs) m x = _
  unfold bindC
  exact lh (i := i) (List.nodup_cons.mp nd).2 (by simpa using h1) (by simpa using h2) hk
def start (N : List Str) (vs : List V) : St := vs.map some ++ List.replicate (N.length - vs.length) none
def bS (CX : CXT) (P : Program) (w : World) (K : PySem.W.Frag) (mg : Str -> Option Value) (base : Heap) (N : List Str) (qual : Str) (scope : Scope) (f : Addr) (cd : Value) (A : Around) (outer : List Env) (s : Shared) (H : Hp) (E : XK) : Cx where
 prog := P
 w := w
 K := K
 mg := mg
 base := base
 A := A.deeper (envOfC qual scope s.heap.objs.size f cd)
 N := N
 s₀ := s
 H₀ := H
 env := envOfC qual scope s.heap.objs.size f cd
 outer := outer
 stack := envOfC qual scope s.heap.objs.size f cd :: outer
 ex := []
 calm := true
 fn := fun _ => true
 pn := []
 xe := fun e s' => wpAny (model P w) (A.deeper (envOfC qual scope s.heap.objs.size f cd)) (leaving (envOfC qual scope s.heap.objs.size f cd) e) (fun _ s'' => CX outer H s E e s'') (fun e' s'' => CX outer H s E e' s'') s'
theorem mL {sc : Scope} {n : Nat} {x : Str} (h : sc.names.lookup x = some .cell) : ∃ c, (cellsFrom n sc.names []).lookup x = some c := by
 have q := PySem.W.cellsFrom_some sc.names n [] (.inl h)
 exact Option.isSome_iff_exists.mp q
theorem sA {CX : CXT} {P : Program} {w : World} {K : PySem.W.Frag} {mg : Str -> Option Value} {base : Heap} {N ps : List Str} {qual : Str} {scope : Scope} {f : Addr} {cd : Value} {A : Around} {outer : List Env} {s s1 : Shared} {H : Hp} {E : XK} {us : List Value} {vs : List V}
  (S : aB N ps scope) (hd : A.handled = none) (e0 : gy P w K mg base A outer s H) (hl : vs.length = ps.length) (r : Vals vs us)
  (x : InCallC s s.heap.objs.size (bindL (envOfC qual scope s.heap.objs.size f cd).kindOf (ps.zip us) fun _ => none) (cellsFrom (s.heap.objs.size + 1) scope.names []) (bindC (envOfC qual scope s.heap.objs.size f cd).kindOf (ps.zip us) fun _ => none) s1) :
  Inv (bS CX P w K mg base N qual scope f cd A outer s H E) [] (start N vs) H s1 := by
 have hpl : ps.length <= N.length := by have := congrArg List.length S.pre; rw [List.length_take] at this; omega
 obtain ⟨h1, tk, rfl, hk⟩ := x.done
 have noA : ∀ b : Addr, b ∉ (bS CX P w K mg base N qual scope f cd A outer s H E).ex := fun b z => absurd (show b ∈ ([] : List Addr) from z) (by simp)
 refine ⟨⟨e0.mod, S.kind, rfl, rfl, Nat.le_refl _, fun y z c h1 h2 => ?_, fun y hy => ?_, fun y c _ h => ?_, fun _ => hd, Around.frames_deeper e0.frames, .inr ⟨rfl, rfl⟩, fun b z => absurd z (noA b), e0.bs, e0.bsz, fun b _ _ => noA b, fun b z => absurd z (noA b), e0.funs, e0.frf⟩,
  rfl, e0.bare, Un.kept hk, ⟨_, x.toInCall.ns, fun i y v h1 h2 h3 => ?_⟩, fun y c h => ⟨_, x.cell y c h⟩, e0.hok.fresh (Nat.le_refl _), fun y c h => ?_, fun p hp => absurd (show p ∈ ([] : List (Addr × Obj)) from hp) (by simp), e0.hok.kept hk, ?_⟩
 ·exact name_of_addr x.apart (PySem.mem_of_lookup h1) (PySem.mem_of_lookup h2)
 ·have hy : scope.names.lookup y = some .cell ∨ scope.names.lookup y = some .free := hy
  rcases hy with hy | hy
  ·exact mL hy
  ·exact absurd rfl (S.nofree _ (PySem.mem_of_lookup hy))
 ·exact Nat.le_of_lt (x.above y c (PySem.mem_of_lookup h))
 ·have hi : i < vs.length := by
   unfold start at h2
   by_cases hi : i < vs.length
   ·exact hi
   ·rw [List.getElem?_append_right (by simpa using hi)] at h2
    rw [List.getElem?_replicate] at h2
    split at h2 <;> cases h2
  have ha : vs[i]? = some v := by
   unfold start at h2
   rw [List.getElem?_append_left (by simpa using hi), List.getElem?_map] at h2
   cases e : vs[i]? with
   | none => rw [e] at h2; cases h2
   | some a => rw [e] at h2; cases h2; rfl
  obtain ⟨u, hu, rv⟩ := r.get ha
  have hp : ps[i]? = some y := by
   rw [<- S.pre, List.getElem?_take_of_lt (by omega)]; exact h1
  have ndP : ps.Nodup := by rw [<- S.pre]; exact S.nd.sublist (List.take_sublist _ _)
  refine ⟨u, rv, ?_⟩
  rcases S.par y (List.mem_of_getElem? hp) with k | k
  ·exact .inl ⟨k, lr ndP hp hu k⟩
  ·obtain ⟨c, e⟩ := mL (n := s.heap.objs.size + 1) k
   refine .inr ⟨.inl k, c, e, ?_⟩
   have q := x.cell y c e
   rw [lh ndP hp hu (by show scope.names.lookup y ≠ _; rw [k]; decide)] at q
   exact q
 ·exact e0.hok.fresh (Nat.le_of_lt (x.above y c (PySem.mem_of_lookup h)))
 ·unfold start
  show _ = N.length
  rw [List.length_append, List.length_map, List.length_replicate]
  omega
theorem qr {CX : CXT} {P : Program} {w : World} {K : PySem.W.Frag} {mg : Str -> Option Value} {base : Heap} {k : Nat} {f : Addr} {name qual : Str} {params : Arguments} {body : List Stmt} {scope : Scope} {dV kV doc pm cdv ct oc : Value} {an od : Option Addr}
  {osl : Array (Option Value)} {N ps : List Str} {sp : Sp} (lk : K.lookup f = some ⟨oc, od, .func (PySem.W.fnOf name qual params body scope dV kV doc pm an cdv ct), osl⟩) (hcd : PySem.W.codeIn K cdv qual = true) (S : aB N ps scope)
  (len : ∀ vs H Q E, sp vs H Q E -> vs.length = ps.length)
  (hbody : ∀ (A : Around) (outer : List Env) (s : Shared) (H : Hp) (vs : List V) (Q : VK) (E : XK), aZ k (A.deeper (envOfC qual scope s.heap.objs.size f cdv)) -> sp vs H Q E →
   ∃ t, PSs (bS CX P w K mg base N qual scope f cdv A outer s H E) body t /\ t { nx := fun _ H' => Q .non H', rt := Q } (start N vs) H) :
  aG P w K mg base CX (k + 1) f (PySem.W.fnOf name qual params body scope dV kV doc pm an cdv ct) ps sp := by
 refine ⟨len, fun A outer s H args us vs Q E hr e0 hb r hsp => ?_⟩
 have hl := len _ _ _ _ hsp
 have KX : K.In s.heap := e0.mod.kin.keeps fun b o e => (e0.bs b o e).1
 have lim : s.heap.NoLimit := e0.mod.nolimit.keeps fun b o e => (e0.bs b o e).1
 have hkind : ∀ y ∈ ps.zip us, scope.names.lookup y.1 = some .local ∨ (scope.names.lookup y.1 = some .cell /\ ((cellsFrom (s.heap.objs.size + 1) scope.names []).lookup y.1).isSome = true) := fun ⟨n, v⟩ hy => by
  rcases S.par n (List.of_mem_zip hy).1 with q | q
  ·exact .inl q
  ·exact .inr ⟨q, PySem.W.cellsFrom_some _ _ _ (.inl q)⟩
 refine codeAny_call_function hr.depth (KX _ _ lk) rfl S.co S.gen rfl (PySem.W.codeRec_of KX hcd) (hb _ _ _ _ ?_)
 refine wpAny_newFunctionEnv_cells S.kind hkind fun env he s1 x => ?_
 subst he
 refine ⟨lim.keeps x.toInCall.keep, codeAny_func ?_⟩
 obtain ⟨t, ht, hq⟩ := hbody A outer s H vs Q E (hr.deeper _) hsp
 have I : Inv (bS CX P w K mg base N qual scope f cdv A outer s H E) [] (start N vs) H s1 := sA S hr.hd e0 hl r x
 refine wpAny_mono (ht [] s1 (start N vs) H _ I hq) (fun fl s' hs => ?_) fun e s' hs => hs
 have fin : ∀ {σ' : St} {H' : Hp} {v : V} {u : Value}, Inv (bS CX P w K mg base N qual scope f cdv A outer s H E) [] σ' H' s' -> RelV v u -> Q v H' -> CE outer P w H s Q u s' :=
  fun {σ' H' v u} J rv q => ⟨v, H', J.os, J.bare, J.base, J.hok, rv, q⟩
 cases fl with
 | ret u =>
  obtain ⟨v, σ', H', J, rv, q⟩ := hs
  exact fin J rv q
 | next =>
  obtain ⟨σ', H', J, q⟩ := hs
  exact fin (v := V.non) (u := Value.none) J rfl q
 | brk =>
  obtain ⟨_, _, _, q⟩ := hs
  exact False.elim q
 | cont =>
  obtain ⟨_, _, _, q⟩ := hs
  exact False.elim q
end L2
namespace L2
open PySem PySem.Spec PyProof.Rows
section
variable {X : Cx} {x : Str} {p pos : Pos} {e : Expr} {es : List Expr} {t : TA} {id T : String} {r : List V -> Hp -> VK -> Prop}
def tCB (r : List V -> Hp -> VK -> Prop) (t : TA) : TE := fun σ H Q => t σ H fun vs H1 => r vs H1 Q
theorem lU (hc : dW X (.type T) r) (hg : Gl X x) (hm : X.mg x = none) (hv : bootBuiltins x = some (.type T)) (ha : PA X (e :: es) t) (hn : x ≠ "__name__" := by decide) (hdb : (x == ("__debug__" : Str)) = false := by decide)
  (he : starEach (e :: es) X.env = (false, eval e X.env) :: starEach es X.env := by rfl) (hpl : (backTo pos (starEach es X.env)).any (·.1) = false := by rfl) : PE X (.Call (.Name x p) (e :: es) [] pos) (tCB r t) := by
 intro pins s σ H Q I h
 refine wpAny_Call_Name_kw (cN I hg hm hv ?_ hn hdb)
 exact PyProof.Rows.callWith_type1 (thn (ha pos pins s σ H _ I h) fun us s1 ⟨vs, H1, I1, r1, q1⟩ => hc pins s1 σ H1 vs us Q I1 r1 q1) he hpl
end
end L2
namespace HT
open PySem PyProof.Rows
section
open PySem.SeqAt
open PySem.AutoSeq1 (wpAny_loadPart')
open PySem.MeetsSeq PySem.MeetsSeq2 PySem.MeetsSeq3
end
section
variable {prog : Program} {w : World} {A : Around} {E : Value -> Shared -> Prop} {s : Shared}
def sIx (n d : Nat) : Option Int -> Nat
 | none => d
 | some v => if v < 0 then (v + (n : Int)).toNat else min v.toNat n
theorem pN (n d k : Nat) : sIx n d (some (k : Int)) = min k n := by
 show (if (k : Int) < 0 then ((k : Int) + (n : Int)).toNat else min (k : Int).toNat n) = min k n
 rw [if_neg (by omega), Int.toNat_natCast]
theorem xJ (n d : Nat) (hd : d <= n) (o : Option Int) : sIx n d o <= n := by
 cases o with
 | none => exact hd
 | some v =>
  show (if v < 0 then (v + (n : Int)).toNat else min v.toNat n) <= n
  by_cases hv : v < 0
  ·rw [if_pos hv]; omega
  ·rw [if_neg hv]; exact Nat.min_le_right _ _
theorem oO (v : Int) (n d : Nat) : (if v < 0 then max (v + (n : Int)) 0 else min v (n : Int)) = ((sIx n d (some v) : Nat) : Int) := by
 show (if v < 0 then max (v + (n : Int)) 0 else min v (n : Int)) = (((if v < 0 then (v + (n : Int)).toNat else min v.toNat n) : Nat) : Int)
 by_cases hv : v < 0
 ·simp only [if_pos hv]; omega
 ·simp only [if_neg hv]; omega
theorem pY (lo hi : Option Int) (n : Nat) : Builtin.Slice.sliceAdjust lo hi 1 (n : Int) = (((sIx n 0 lo : Nat) : Int), ((sIx n n hi : Nat) : Int)) := by
 have h1 : ¬ ((1 : Int) < 0) := by omega
 unfold Builtin.Slice.sliceAdjust
 simp only [h1, if_false]
 refine Prod.ext ?_ ?_
 ·cases lo with
  | none => rfl
  | some v => exact oO v n 0
 ·cases hi with
  | none => rfl
  | some v => exact oO v n n
theorem qI (i j : Nat) : Builtin.Slice.slicePlaces (i : Int) (j : Int) 1 = j - i := by
 unfold Builtin.Slice.slicePlaces
 have h1 : (1 : Int) > 0 := by omega
 simp only [h1, if_true, Int.ediv_one]
 split <;> omega
theorem kD {v : Value} {o : Option Int} {Q : Option Int -> Shared -> Prop} (p : IsPart v o) (h : Q o s) : wpAny (model prog w) A (Builtin.Slice.slicePartIndex v) Q E s := by
 cases p with
 | none => exact slicePart_none h
 | int i t => exact slicePart_int h
theorem jN {sl : Addr} {vl vu : Value} {lo hi : Option Int} {n : Nat} {Q : Int × Int × Nat -> Shared -> Prop} (hs : s.heap.IsSliceOf sl vl vu .none) (pl : IsPart vl lo) (pu : IsPart vu hi)
  (h : Q (((sIx n 0 lo : Nat) : Int), 1, sIx n n hi - sIx n 0 lo) s) : wpAny (model prog w) A (Builtin.Slice.sliceApplied (.ref sl) (pure (n : Int))) Q E s := by
 obtain ⟨os, hos, hcs, hds⟩ := id hs
 unfold Builtin.Slice.sliceApplied Builtin.Slice.sliceFields
 refine wpAny_bind (wpAny_bind (wpAny_field hos hds (x := vl) rfl (wpAny_bind (wpAny_field hos hds (x := vu) rfl (wpAny_bind (wpAny_field hos hds (x := .none) rfl (wpAny_pure ?_)))))))
 refine wpAny_bind (slicePart_none ?_)
 show wpAny _ _ (if ((1 : Int) == 0) = true then _ else _) _ _ s
 rw [if_neg (by decide)]
 refine wpAny_bind (kD pl (wpAny_bind (kD pu (wpAny_bind (wpAny_pure ?_)))))
 show wpAny _ _ (match Builtin.Slice.sliceAdjust lo hi 1 (n : Int) with | (lo, hi) => pure (lo, (1 : Int), Builtin.Slice.slicePlaces lo hi 1)) _ _ s
 rw [pY lo hi n]
 show wpAny _ _ (pure (((sIx n 0 lo : Nat) : Int), (1 : Int), Builtin.Slice.slicePlaces ((sIx n 0 lo : Nat) : Int) ((sIx n n hi : Nat) : Int) 1)) _ _ s
 rw [qI]
 exact wpAny_pure h
theorem uA (xs : Array Value) (i k : Nat) : ((List.range k).filterMap fun (m : Nat) => xs[((i : Int) + (m : Int) * 1).toNat]?).toArray = ((xs.toList.drop i).take k).toArray := by
 have e : (fun (m : Nat) => xs[((i : Int) + (m : Int) * 1).toNat]?) = fun m => xs[i + m]? := by
  funext m
  have : ((i : Int) + (m : Int) * 1).toNat = i + m := by omega
  rw [this]
 rw [e]
 have := pick_run xs i k
 rw [List.filterMap_map] at this
 have e2 : ((fun x => xs[x]?) ∘ fun x => i + x) = fun m => xs[i + m]? := rfl
 rw [e2] at this
 rw [this]
theorem ju {t sl : Addr} {items : Array Value} {vl vu : Value} {lo hi : Option Int} {Q : Value -> Shared -> Prop} (ht : IsTup s.heap t items) (hs : s.heap.IsSliceOf sl vl vu .none) (pl : IsPart vl lo) (pu : IsPart vu hi)
  (hw : ¬ (sIx items.size 0 lo = 0 /\ sIx items.size items.size hi = items.size))
  (h : Q (.ref s.heap.objs.size) { s with heap := s.heap.push { cls := .type "tuple", data := .seq ((items.toList.drop (sIx items.size 0 lo)).take (sIx items.size items.size hi - sIx items.size 0 lo)).toArray } })
  (hsz : items.size <= sizeLine) : wpAny (model prog w) A (getItem (.ref t) (.ref sl)) Q E s := by
 have htake : sizeOk (.seq ((items.toList.drop (sIx items.size 0 lo)).take (sIx items.size items.size hi - sIx items.size 0 lo)).toArray) := by
  show ((items.toList.drop (sIx items.size 0 lo)).take (sIx items.size items.size hi - sIx items.size 0 lo)).toArray.size <= sizeLine
  rw [List.size_toArray, List.length_take, List.length_drop, Array.length_toList]
  omega
 have hj : sIx items.size items.size hi <= items.size := xJ _ _ (Nat.le_refl _) hi
 obtain ⟨os, hos, hcs, hds⟩ := id hs
 have hTs : s.TypeIs (.ref sl) "slice" := ⟨os, hos, hcs⟩
 unfold getItem
 try with_reducible refine wpAny_holding ?_
 first | refine wpAny_bind (wpAny_pure ?_) | skip
 refine wpAny_bind (wpAny_sequenceKey ht.typeIs (by decide) ?_)
 refine wpAny_bind (wpAny_callSpecial?_slot (name := Str.ofString "__getitem__") ht.typeIs PyProof.Rows.slot_tuple_getitem
  (wpAny_call_entry PyProof.Rows.slot_tuple_getitem ht.typeIs entry_tuple_getitem ?_ (args_tuple_getitem _ _)))
 show wpAny _ _ (Builtin.Tuple.tupleItemsOf (.ref t) >>= _) _ _ s
 refine wpAny_bind (tupleItemsOf_ ht ?_)
 refine wpAny_bind (wpAny_typeOf hTs ?_)
 rw [if_pos (by decide)]
 refine wpAny_bind (jN hs pl pu ?_)
 have hno : ¬ ((((sIx items.size 0 lo : Nat) : Int) == 0 && (1 : Int) == 1 && (sIx items.size items.size hi - sIx items.size 0 lo) == items.size) = true) := by
  intro q
  rw [Bool.and_eq_true, Bool.and_eq_true] at q
  have q1 : ((sIx items.size 0 lo : Nat) : Int) = 0 := eq_of_beq q.1.1
  have q2 : sIx items.size items.size hi - sIx items.size 0 lo = items.size := eq_of_beq q.2
  exact hw ⟨by omega, by omega⟩
 show wpAny _ _ (if (((sIx items.size 0 lo : Nat) : Int) == 0 && (1 : Int) == 1 && (sIx items.size items.size hi - sIx items.size 0 lo) == items.size) = true then _ else _) _ _ s
 rw [if_neg hno, uA]
 first
  | exact wpAny_bind (m := Builtin.Tuple.tupleExact _) (wpAny_newObj_type (wpAny_pure ⟨_, rfl, wpAny_pure h⟩) htake)
  | exact wpAny_bind (m := Builtin.Tuple.tupleExact _) (wpAny_newObj_type (wpAny_bind (wpAny_pure (wpAny_pure ⟨_, rfl, wpAny_pure h⟩))) htake)
  | exact wpAny_bind (wpAny_bind (m := Builtin.Tuple.tupleExact _) (wpAny_newObj_type (wpAny_pure (wpAny_pure ⟨_, rfl, wpAny_pure h⟩)) htake))
  | exact wpAny_bind (wpAny_bind (m := Builtin.Tuple.tupleExact _) (wpAny_newObj_type (wpAny_pure ⟨_, rfl, wpAny_pure h⟩) htake))
end
end HT
namespace L2
open PySem PySem.Spec PyProof.Rows
abbrev TO := St -> Hp -> (Option Int -> Hp -> Prop) -> Prop
theorem intsAre_of {ns : List Int} : ∀ {us : List Value}, Vals (ns.map V.int) us -> IntsAre us ns := by
 induction ns with
 | nil => intro us r; rw [List.map_nil] at r; cases r; exact .nil
 | cons n ns ih =>
  intro us r
  rw [List.map_cons] at r
  cases r with
  | cons r1 r2 =>
   obtain ⟨t, e⟩ := r1
   subst e
   exact .cons n t (ih r2)
section
variable {X : Cx} {e : Expr} {te : TE} {lo hi : Option Expr} {tl th : TO} {pos p2 : Pos}
def SlR (X : Cx) (r : V -> Option Int -> Option Int -> Hp -> VK -> Prop) : Prop :=
 ∀ (pins : List (Addr × Obj)) (s : Shared) (σ : St) (H : Hp) (x : V) (v vl vu : Value) (lo hi : Option Int) (sl : Addr) (Q : VK), Inv X pins σ H s -> RelV x v -> s.heap.IsSliceOf sl vl vu .none -> IsPart vl lo -> IsPart vu hi -> r x lo hi H Q →
  ∃ T id, typeLookup (.type T) "__getitem__" = pure (some (.builtin id)) /\ s.TypeIs v T /\ wpAny (model X.prog X.w) X.A (getItem v (.ref sl)) (EP X pins σ Q) X.xe s
theorem SlR.or {r r' : V -> Option Int -> Option Int -> Hp -> VK -> Prop} (h : SlR X r) (h' : SlR X r') : SlR X (fun x lo hi H Q => r x lo hi H Q ∨ r' x lo hi H Q) := by
 intro pins s σ H x v vl vu lo hi sl Q I rx hs pl pu q
 rcases q with q | q
 ·exact h pins s σ H x v vl vu lo hi sl Q I rx hs pl pu q
 ·exact h' pins s σ H x v vl vu lo hi sl Q I rx hs pl pu q
def iP (xs : List V) (lo hi : Option Int) : List V := (xs.drop (HT.sIx xs.length 0 lo)).take (HT.sIx xs.length xs.length hi - HT.sIx xs.length 0 lo)
theorem jy (xs : List V) (lo hi : Option Int) : (iP xs lo hi).length <= xs.length := by
 unfold iP
 rw [List.length_take, List.length_drop]
 omega
def yW (K : PySem.W.Frag) : V -> Option Int -> Option Int -> Hp -> VK -> Prop := fun x lo hi H Q => ∃ a xs, x = .ref a /\ SqT K H a xs ∧
 ¬ (HT.sIx xs.length 0 lo = 0 /\ HT.sIx xs.length xs.length hi = xs.length) /\ ∀ p, H p = none -> Q (.ref p) (upd H p (.tup (iP xs lo hi)))
theorem xM : SlR X (yW X.K) := by
 intro pins s σ H x v vl vu lo hi sl Q I rx hs pl pu h
 obtain ⟨a, xs, rfl, hx, hw, q⟩ := h
 cases rx
 obtain ⟨its, r, ht, hz⟩ := I.tuple hx
 have hlen : its.toArray.size = xs.length := by rw [List.size_toArray]; exact r.length.symm
 refine ⟨"tuple", _, PyProof.Rows.slot_tuple_getitem.lookup, ht.typeIs, ?_⟩
 refine HT.ju ht hs pl pu (by rw [hlen]; exact hw) ?_ (by rw [hlen]; exact hz)
 rw [hlen]
 refine ⟨.ref s.heap.objs.size, _, I.laid (t' := s.toks) (o := .tup (iP xs lo hi)) (fun b ob q => Heap.get?_push_of_some _ q) (Nat.le_refl _) ?_, rfl, q _ (I.hok.fresh (Nat.le_refl _))⟩
 exact ⟨Nat.le_trans (jy xs lo hi) hz, _, (r.drop (HT.sIx xs.length 0 lo)).take (HT.sIx xs.length xs.length hi - HT.sIx xs.length 0 lo), IsTup.new _ _⟩
end
end L2
namespace L2
open PySem PySem.Spec PyProof.Rows
def ixN (n : Nat) (i : Int) : Option Nat := if 0 <= i then (if i < n then some i.toNat else none) else if -(n : Int) <= i then some (i + n).toNat else none
def atI {α : Type} (xs : List α) (i : Int) : Option α := (ixN xs.length i).bind fun j => xs[j]?
theorem vR {n : Nat} {i : Int} {j : Nat} (h : ixN n i = some j) : seqIndex? i n = some j /\ j < n /\ -(n : Int) <= i /\ i < n := by
 unfold ixN at h
 by_cases h0 : 0 <= i
 ·rw [if_pos h0] at h
  by_cases h1 : i < n
  ·rw [if_pos h1] at h
   have e : i.toNat = j := Option.some.inj h
   exact ⟨by rw [seqIndex_of h0 h1, e], by omega, by omega, h1⟩
  ·rw [if_neg h1] at h; cases h
 ·rw [if_neg h0] at h
  by_cases h1 : -(n : Int) <= i
  ·rw [if_pos h1] at h
   have e : (i + n).toNat = j := Option.some.inj h
   exact ⟨by rw [seqIndex_neg (by omega) h1, e], by omega, h1, by omega⟩
  ·rw [if_neg h1] at h; cases h
theorem oN {α : Type} {xs : List α} {i : Int} {v : α} (h : atI xs i = some v) : ∃ j, seqIndex? i xs.length = some j /\ xs[j]? = some v /\ j < xs.length /\ -(xs.length : Int) <= i /\ i < xs.length := by
 unfold atI at h
 cases e : ixN xs.length i with
 | none => rw [e] at h; cases h
 | some j =>
  rw [e] at h
  obtain ⟨h1, h2, h3, h4⟩ := vR e
  exact ⟨j, h1, h, h2, h3, h4⟩
theorem bI {α : Type} {xs : List α} {j : Nat} {v : α} (h : xs[j]? = some v) : atI xs (j : Int) = some v := by
 have hj : j < xs.length := (List.getElem?_eq_some_iff.mp h).1
 have e : ixN xs.length (j : Int) = some j := by
  unfold ixN
  rw [if_pos (by omega), if_pos (by omega)]; simp
 unfold atI; rw [e]; exact h
def oK (b : Expr) : Prop := ∀ o i, subscripted b false o i = operate [o, i] (getItem o i)
def IxR (X : Cx) (r : R2) : Prop :=
 ∀ (value slice : Expr) (pins : List (Addr × Obj)) (s : Shared) (σ : St) (H : Hp) (x y : V) (v u : Value) (Q : VK), Inv X pins σ H s -> RelV x v -> RelV y u -> r x y H Q →
  subscripted slice false v u = operate [v, u] (getItem v u) -> wpAny (model X.prog X.w) X.A (subscriptTail value slice v u) (EP X pins σ Q) X.xe s
def MtR (X : Cx) (id : String) (r : V -> List V -> Hp -> VK -> Prop) : Prop :=
 ∀ (pins : List (Addr × Obj)) (s : Shared) (σ : St) (H : Hp) (x : V) (xs : List V) (v : Value) (us : List Value) (Q : VK), Inv X pins σ H s -> RelV x v -> Vals xs us -> r x xs H Q →
  wpAny (model X.prog X.w) X.A (call (.builtin id) (v :: us)) (EP X pins σ Q) X.xe s
section
variable {X : Cx} {a b : Expr} {ta tb : TE} {pos : Pos}
theorem IxR.or {r r' : R2} (h : IxR X r) (h' : IxR X r') : IxR X (fun x y H Q => r x y H Q ∨ r' x y H Q) := by
 intro value slice pins s σ H x y v u Q I rx ry q hs
 rcases q with q | q
 ·exact h value slice pins s σ H x y v u Q I rx ry q hs
 ·exact h' value slice pins s σ H x y v u Q I rx ry q hs
theorem MtR.or {id : String} {r r' : V -> List V -> Hp -> VK -> Prop} (h : MtR X id r) (h' : MtR X id r') : MtR X id (fun x xs H Q => r x xs H Q ∨ r' x xs H Q) := by
 intro pins s σ H x xs v us Q I rx rs q
 rcases q with q | q
 ·exact h pins s σ H x xs v us Q I rx rs q
 ·exact h' pins s σ H x xs v us Q I rx rs q
theorem vg {r : R2} (hr : IxR X r) (ha : PE X a ta) (hb : PE X b tb) (hs : oK b) : PE X (.Subscript a b pos) (tOp r ta tb) := by
 intro pins s σ H Q I h
 exact Subscript_ (yK ha hb I h fun v u s2 x y H2 I2 rx ry q => hr a b pins s2 σ H2 x y v u Q I2 rx ry q (hs _ _))
def yV (K : PySem.W.Frag) : R2 := fun x y H Q => ∃ p xs i v, x = .ref p /\ y = .int i /\ SqL K H p xs /\ atI xs i = some v /\ Q v H
def uB (K : PySem.W.Frag) : R2 := fun x y H Q => ∃ p xs i v, x = .ref p /\ y = .int i /\ SqT K H p xs /\ atI xs i = some v /\ Q v H
theorem vS : IxR X (yV X.K) := by
 intro value slice pins s σ H x y v u Q I rx ry h hs
 obtain ⟨p, xs, i, z, rfl, rfl, hq, he, q⟩ := h
 cases rx
 obtain ⟨t, rfl⟩ := ry
 obtain ⟨its, r, pl, hz⟩ := I.list hq
 obtain ⟨j, h1, h2, h3, h4, h5⟩ := oN he
 obtain ⟨w, ew, rw'⟩ := r.get h2
 have hl := r.length
 have hn := nF
 have fin : EP X pins σ Q w s := ⟨z, H, I, rw', q⟩
 by_cases h0 : 0 <= i
 ·have hj : i.toNat = j := by
   rw [seqIndex_of h0 h5] at h1
   exact Option.some.inj h1
  exact item_listR pl.isList h0 (by omega) (by rw [hj]; simpa using ew) fin hs
 ·have hj : (i + (its.toArray.size : Int)).toNat = j := by
   rw [seqIndex_neg (by omega) h4] at h1
   rw [List.size_toArray, <- hl]
   exact Option.some.inj h1
  exact subscriptTail_builtinR (x := w) pl.isList.typeIs slot_list_getitem.lookup
   (wpAny_getItem_list_neg (Q := fun r s' => r = w /\ EP X pins σ Q r s') pl.isList (by omega) (by rw [List.size_toArray] <;> omega) (by omega) (by rw [hj]; simpa using ew) ⟨rfl, fin⟩) hs
theorem nA : IxR X (uB X.K) := by
 intro value slice pins s σ H x y v u Q I rx ry h hs
 obtain ⟨p, xs, i, z, rfl, rfl, hq, he, q⟩ := h
 cases rx
 obtain ⟨t, rfl⟩ := ry
 obtain ⟨its, r, pl, hz⟩ := I.tuple hq
 obtain ⟨j, h1, h2, h3, h4, h5⟩ := oN he
 obtain ⟨w, ew, rw'⟩ := r.get h2
 have hl := r.length
 have hn := nF
 have fin : EP X pins σ Q w s := ⟨z, H, I, rw', q⟩
 exact subscriptTail_builtinR (x := w) pl.typeIs slot_tuple_getitem.lookup
  (getItem_tuple (j := j) (Q := fun r s' => r = w /\ EP X pins σ Q r s') pl (by omega) (by omega) (by rw [List.size_toArray, <- hl]; exact h1) (by simpa using ew) ⟨rfl, fin⟩) hs
theorem Inv.lst {pins : List (Addr × Obj)} {σ : St} {H : Hp} {s : Shared} {p : Addr} {xs : List V} (I : Inv X pins σ H s) (h : H p = some (.lst xs)) :
  ∃ (its : List Value) (n : Nat), Vals xs its /\ s.heap.get? p = some { cls := .type "list", data := .seq its.toArray n } /\ xs.length <= sizeLine := by
 obtain ⟨z, its, n, r, e⟩ := I.hok p _ h
 exact ⟨its, n, r, e, z⟩
theorem n9 (lo hi : Option Int) (n : Nat) : (sliceBounds lo hi none n).1 = ((HT.sIx n 0 lo : Nat) : Int) /\ (sliceBounds lo hi none n).2.1 = ((HT.sIx n n hi : Nat) : Int) /\ (sliceBounds lo hi none n).2.2 = 1 := by
 refine ⟨?_, ?_, rfl⟩
 ·cases lo with
  | none => simp [sliceBounds, HT.sIx]
  | some i =>
   simp only [sliceBounds, HT.sIx, Option.getD_none, show (1 : Int) > 0 by decide, if_true]
   by_cases h : i < 0
   ·simp only [h, if_true] <;> omega
   ·simp only [h, if_false] <;> omega
 ·cases hi with
  | none => simp [sliceBounds, HT.sIx]
  | some i =>
   simp only [sliceBounds, HT.sIx, Option.getD_none, show (1 : Int) > 0 by decide, if_true]
   by_cases h : i < 0
   ·simp only [h, if_true] <;> omega
   ·simp only [h, if_false] <;> omega
theorem mj (its : List Value) (lo hi : Option Int) : slicePick its.toArray lo hi none = ((its.drop (HT.sIx its.length 0 lo)).take (HT.sIx its.length its.length hi - HT.sIx its.length 0 lo)).toArray := by
 obtain ⟨h1, h2, h3⟩ := n9 lo hi its.toArray.size
 unfold slicePick
 rw [h1, h2, h3]
 simp only [sliceRange_one, pick_run, List.size_toArray] <;> rfl
theorem mJ : dW X (.builtin "len") (fun xs H Q => ∃ p ys, xs = [.ref p] /\ (SqL X.K H p ys ∨ SqT X.K H p ys) /\ Q (.int ys.length) H) := by
 intro pins s σ H xs us Q I r h
 obtain ⟨p, ys, rfl, hq, q⟩ := h
 obtain ⟨u, rfl, rx⟩ := vals1 r
 cases rx
 have hn := nF
 rcases hq with hq | hq
 ·obtain ⟨its, r', pl, hz⟩ := I.list hq
  have hlen := r'.length
  exact Calls.call_len_list pl.isList (by simp only [List.size_toArray] <;> omega) ⟨.int ys.length, H, I.tok _, ⟨s.toks + 1, by rw [List.size_toArray, hlen]⟩, q⟩
 ·obtain ⟨its, r', pl, hz⟩ := I.tuple hq
  have hlen := r'.length
  exact len_tuple pl (by simp only [List.size_toArray] <;> omega) ⟨.int ys.length, H, I.tok _, ⟨s.toks + 1, by rw [List.size_toArray, hlen]⟩, q⟩
theorem dW.or {f : Value} {r r' : List V -> Hp -> VK -> Prop} (h : dW X f r) (h' : dW X f r') : dW X f (fun xs H Q => r xs H Q ∨ r' xs H Q) := by
 intro pins s σ H xs us Q I rs q
 rcases q with q | q
 ·exact h pins s σ H xs us Q I rs q
 ·exact h' pins s σ H xs us Q I rs q
theorem iN : dW X (.type "list") (fun xs H Q => ∃ p ys, xs = [.ref p] /\ (SqL X.K H p ys ∨ SqT X.K H p ys) /\ ∀ l, H l = none -> Q (.ref l) (upd H l (.lst ys))) := by
 intro pins s σ H xs us Q I r h
 obtain ⟨p, ys, rfl, hq, q⟩ := h
 obtain ⟨u, rfl, rx⟩ := vals1 r
 cases rx
 have fin : ∀ (its : List Value), Vals ys its -> ys.length <= sizeLine -> ∀ (h' : Heap) (c' : Nat), (∀ b o', s.heap.get? b = some o' -> h'.get? b = some o') →
   h'.get? s.heap.objs.size = some { cls := .type "list", dict := none, data := .seq its.toArray c', slots := #[] } -> EP X pins σ Q (.ref s.heap.objs.size) { s with heap := h' } := fun its r' hz h' c' kp e =>
  ⟨.ref s.heap.objs.size, _, I.laid (t' := s.toks) kp (Nat.le_refl _) (show bH X.prog X.w _ h' _ (.lst ys) from ⟨hz, its, c', r', e⟩), rfl, q _ (I.hok.fresh (Nat.le_refl _))⟩
 rcases hq with hq | hq
 ·obtain ⟨its, r', pl, hz⟩ := I.list hq
  have hlen := r'.length
  obtain ⟨o, ho, hc, n, hd⟩ := pl.isList
  exact call_list_seq p (.inl rfl) ho hc hd (fun h' c' kp e => fin its r' hz h' c' kp e) (by simp only [List.size_toArray] <;> omega)
 ·obtain ⟨its, r', pl, hz⟩ := I.tuple hq
  have hlen := r'.length
  obtain ⟨o, ho, hc, n, hd⟩ := pl
  exact call_list_seq p (.inr rfl) ho hc hd (fun h' c' kp e => fin its r' hz h' c' kp e) (by simp only [List.size_toArray] <;> omega)
def tyV (K : PySem.W.Frag) (T : String) (x : V) (H : Hp) : Prop := match x with
 | .str _ => T = "str"
 | .int _ => T = "int"
 | .ref p => (T = "list" /\ ∃ xs, SqL K H p xs) ∨ (T = "tuple" /\ ∃ o, K.lookup p = some o /\ o.cls = .type "tuple" /\ o.dict = none) ∨
   (T = "dict" /\ ((∃ kvs, H p = some (.dK kvs)) ∨ ∃ kvs, H p = some (.dT kvs))) ∨ (T = "set" /\ ∃ S n, H p = some (.set S n))
 | _ => False
theorem xR {pins : List (Addr × Obj)} {σ : St} {H : Hp} {s : Shared} {T : String} {x : V} {v : Value} (I : Inv X pins σ H s) (r : RelV x v) (ty : tyV X.K T x H) :
  s.TypeIs v T /\ ∀ a, v = .ref a -> ∃ ob, s.heap.get? a = some ob /\ ob.dict = none := by
 cases x with
 | str z =>
  obtain ⟨t, rfl⟩ := r
  cases (show T = "str" from ty)
  exact ⟨typeIs_str s z t, fun _ e => nomatch e⟩
 | int i =>
  obtain ⟨t, rfl⟩ := r
  cases (show T = "int" from ty)
  exact ⟨typeIs_int s i t, fun _ e => nomatch e⟩
 | ref p =>
  cases r
  rcases ty with ⟨rfl, xs, hq⟩ | ⟨rfl, o, hk, hc, hd⟩ | ⟨rfl, hk⟩ | ⟨rfl, S, n, hk⟩
  ·obtain ⟨its, _, pl, _⟩ := I.list hq
   refine ⟨pl.isList.typeIs, fun a e => ?_⟩
   cases e
   obtain ⟨o, n, e, c, hd, _⟩ := pl
   exact ⟨o, e, hd⟩
  ·refine ⟨⟨o, I.kIn p o hk, hc⟩, fun a e => ?_⟩
   cases e
   exact ⟨o, I.kIn _ o hk, hd⟩
  ·have z : ∃ o, s.heap.get? p = some o /\ o.ExactDict := by
    rcases hk with ⟨kvs, hk⟩ | ⟨kvs, hk⟩
    ·obtain ⟨_, _, _, _, o, _, _, e, ex, _⟩ := I.hok p _ hk
     exact ⟨o, e, ex⟩
    ·obtain ⟨_, _, _, _, o, _, _, e, ex, _⟩ := I.hok p _ hk
     exact ⟨o, e, ex⟩
   obtain ⟨o, e, ex⟩ := z
   refine ⟨⟨o, e, ex.1⟩, fun a e2 => ?_⟩
   cases e2
   exact ⟨o, e, ex.2.1⟩
  ·obtain ⟨o, _, _, _, e, ex, _⟩ := I.hok p _ hk
   refine ⟨⟨o, e, ex.1⟩, fun a e2 => ?_⟩
   cases e2
   exact ⟨o, e, ex.2.1⟩
 | _ => exact False.elim ty
def tBM (K : PySem.W.Frag) (T : String) (r : V -> List V -> Hp -> VK -> Prop) (to : TE) (t : TA) : TE := fun σ H Q => to σ H fun x H1 => tyV K T x H1 /\ t σ H1 fun xs H2 => r x xs H2 Q
variable {o e : Expr} {es : List Expr} {to : TE} {t : TA} {name : Str} {apos cpos : Pos} {T id : String} {r : V -> List V -> Hp -> VK -> Prop}
theorem qG (pa : PlainAttrs T) (slot : Slot T name id) (hty : typeOf (.builtin id) = pure (.type "method_descriptor")) (hm : MtR X id r) (ho : PE X o to) (ha : PA X (e :: es) t)
  (hbase : attributeBase o name X.env (eval o X.env) = eval o X.env := by rfl)
  (hfew : ((backTo cpos (starEach (e :: es) X.env)).all (fun x => !x.1) && (backToKw cpos (keywordEach [] X.env)).all (fun x => x.1.isSome)
   && decide ((e :: es).length + ([] : List Keyword).length + (if ([] : List Keyword).isEmpty then 0 else 1) < 30)) = true := by rfl)
  (hline : (apos.endLine == cpos.line) = true := by rfl) (hs : starEach (e :: es) X.env = (false, eval e X.env) :: starEach es X.env := by rfl) (hplain : (backTo cpos (starEach es X.env)).any (·.1) = false := by rfl) :
  PE X (.Call (.Attribute o name apos) (e :: es) [] cpos) (tBM X.K T r to t) := by
 intro pins s σ H Q I h
 refine wpAny_Call_method_late hbase hfew hline rfl (thn (ho pins s σ H _ I h) fun v s1 ⟨x, H1, I1, r1, ty, q1⟩ => ?_)
 obtain ⟨h1, h2⟩ := xR I1 r1 ty
 refine ⟨T, id, pa, slot, hty, h1, h2, ?_⟩
 have hA := ha cpos pins s1 σ H1 _ I1 q1
 rw [hs] at hA ⊢
 refine Calls.callWith_builtin (by show (false || (backTo cpos (starEach es X.env)).any (·.1)) = false; rw [hplain] <;> rfl) (Calls.evalArgs_plain ?_)
 exact thn hA fun us s2 ⟨vs, H2, I2, r2, q2⟩ => hm pins s2 σ H2 x vs v us Q I2 r1 r2 q2
end
end L2
namespace L2
open PySem PySem.Spec PyProof.Rows
def MtM (X : Cx) (id : String) (r : V -> List V -> Hp -> VK -> Prop) : Prop :=
 ∀ (pins : List (Addr × Obj)) (s : Shared) (σ : St) (H : Hp) (x : V) (xs : List V) (v : Value) (us : List Value) (Q : VK), Inv X pins σ H s -> RelV x v -> Vals xs us -> r x xs H Q →
  wpAny (model X.prog X.w) X.A (call (.builtin id) (v :: us)) (EP X pins σ Q) X.xe s
theorem Vals.one : ∀ {x : V} {us : List Value}, Vals [x] us -> ∃ u, us = [u] /\ RelV x u
 | _, _, .cons r .nil => ⟨_, rfl, r⟩
theorem Vals.two : ∀ {x y : V} {us : List Value}, Vals [x, y] us -> ∃ u v, us = [u, v] /\ RelV x u /\ RelV y v
 | _, _, _, .cons r (.cons q .nil) => ⟨_, _, rfl, r, q⟩
theorem Vals.zero : ∀ {us : List Value}, Vals [] us -> us = []
 | _, .nil => rfl
theorem Vals.dropLast {xs : List V} {us : List Value} (h : Vals xs us) : Vals xs.dropLast us.dropLast := by
 induction h with
 | nil => exact .nil
 | cons r t ih =>
  cases t with
  | nil => exact .nil
  | cons q t' => exact .cons r ih
theorem Vals.eraseIdx : ∀ {xs : List V} {us : List Value} (i : Nat), Vals xs us -> Vals (xs.eraseIdx i) (us.eraseIdx i)
 | _, _, _, .nil => .nil
 | _, _, 0, .cons _ t => t
 | _, _, i + 1, .cons r t => .cons r (Vals.eraseIdx i t)
theorem Vals.reverse {xs : List V} {us : List Value} (h : Vals xs us) : Vals xs.reverse us.reverse := by
 induction h with
 | nil => exact .nil
 | cons r t ih => rw [List.reverse_cons, List.reverse_cons]; exact Vals.append ih (.cons r .nil)
section
variable {X : Cx} {pins : List (Addr × Obj)} {σ : St} {H : Hp} {s : Shared} {l b : Addr} {xs ys zs : List V}
theorem Inv.lset {its its' : List Value} {n : Nat} {f : Array Value -> Array Value} {t' : Nat} (I : Inv X pins σ H s) (hH : H l = some (.lst xs))
  (e : s.heap.get? l = some { cls := .type "list", data := .seq its.toArray n }) (hf : f its.toArray = its'.toArray) (hv : Vals ys its') (hz : ys.length <= sizeLine) :
  Inv X pins σ (upd H l (.lst ys)) { s with heap := s.heap.update l (Obj.mapSeq f), toks := t' } := by
 have q := PySem.IsL.update e f
 rw [hf] at q
 refine I.write (x := l) (e := l) (by rw [hH]; exact trivial) (.inl rfl) (fun b' u hb hu => (Heap.get?_update_other s.heap (Obj.mapSeq f) (Ne.symm hb)).trans hu) ⟨_, q⟩ ?_
 exact ⟨hz, its', _, hv, q⟩
theorem Inv.fresh (I : Inv X pins σ H s) : H s.heap.objs.size = none := I.hok.fresh (Nat.le_refl _)
theorem Inv.lstM (I : Inv X pins σ H s) (hH : H l = some (.lst xs)) : xs.length <= sizeLine /\ ∃ (its : List Value) (n : Nat), Vals xs its /\ xs.length = its.length /\ s.heap.get? l = some { cls := .type "list", data := .seq its.toArray n } := by
 obtain ⟨z, its, n, r, e⟩ := I.hok l _ hH
 exact ⟨z, its, n, r, r.length, e⟩
theorem ur {n : Nat} (h : n <= sizeLine) : Builtin.List.listTooLong n = false := by
 unfold Builtin.List.listTooLong
 exact decide_eq_false (by omega)
end
section
variable {X : Cx}
def pG : V -> List V -> Hp -> VK -> Prop := fun x vs H Q => ∃ l xs y, x = .ref l /\ vs = [y] /\ H l = some (.lst xs) /\ xs.length < sizeLine /\ Q .non (upd H l (.lst (xs ++ [y])))
theorem iW : MtM X "list.append" pG := by
 intro pins s σ H x vs v us Q I rx rv h
 obtain ⟨l, xs, y, rfl, rfl, hH, hz, q⟩ := h
 cases rx
 obtain ⟨u, rfl, ru⟩ := rv.one
 obtain ⟨z, its, n, r, hl, e⟩ := I.lstM hH
 refine call_meets F.slot_list_append ⟨_, e, rfl⟩ F.entry_list_append (F.args_list_append_2 _ _) (PySem.list_append l its.toArray n u (by rw [List.size_toArray]; omega)) ⟨e, ?_⟩
 refine ⟨.non, _, I.lset (its' := its ++ [u]) hH e (by simp) (r.append (.cons ru .nil)) ?_, rfl, q⟩
 rw [List.length_append, List.length_singleton]
 omega
def we : V -> List V -> Hp -> VK -> Prop := fun x vs H Q => ∃ l b xs zs, x = .ref l /\ vs = [.ref b] /\ H l = some (.lst xs) /\ H b = some (.lst zs) /\ xs.length + zs.length <= sizeLine /\ Q .non (upd H l (.lst (xs ++ zs)))
theorem sF : MtM X "list.extend" we := by
 intro pins s σ H x vs v us Q I rx rv h
 obtain ⟨l, b, xs, zs, rfl, rfl, hH, hB, hz, q⟩ := h
 cases rx
 obtain ⟨u, rfl, ru⟩ := rv.one
 cases ru
 obtain ⟨z, its, n, r, hl, e⟩ := I.lstM hH
 obtain ⟨z2, its2, n2, r2, hl2, e2⟩ := I.lstM hB
 have hsz : its.toArray.size + its2.toArray.size <= sizeLine := by rw [List.size_toArray, List.size_toArray]; omega
 have hlong : ¬ (!its.toArray.isEmpty && Builtin.List.listTooLong (its.toArray.size + its2.toArray.size)) = true := by
  rw [ur hsz, Bool.and_false]
  exact Bool.false_ne_true
 refine call_meets F.slot_list_extend ⟨_, e, rfl⟩ F.entry_list_extend (F.args_list_extend_2 _ _)
  (AutoSeq1.list_extend_list_list_0 l its.toArray n b its2.toArray n2 hlong (by rw [List.size_toArray]; omega) (by omega)) ⟨e, e2, ?_⟩
 refine ⟨.non, _, I.lset (its' := its ++ its2) hH e (by simp) (r.append r2) ?_, rfl, q⟩
 rw [List.length_append]
 omega
end
section
variable {prog : Program} {w : World} {A : Around} {E : Value -> Shared -> Prop} {s : Shared}
set_option maxRecDepth 100000 in
end
section
variable {X : Cx}
end
end L2
namespace Att
open PySem PySem.W PySem.Calls PyProof.Rows
theorem kj {P : Params} {h : Heap} : ∀ (ns : List Int) (vs : List Value), WellAll P h vs (ns.map WData.int) -> IntsAre vs ns := by
 intro ns
 induction ns with
 | nil =>
  intro vs w
  rw [List.map_nil] at w
  cases w
  exact .nil
 | cons n ns ih =>
  intro vs w
  rw [List.map_cons] at w
  cases w with
  | cons a b =>
   cases a
   exact .cons _ _ (ih _ b)
theorem sZ {l : OpenLaw} {n : Nat} (hn : l.most = some n) {P : Params} {h : Heap} {args : List WData} {vals : List Value}
  (hpre : l.row.toRowW.claim.pre args = true) (hwl : WellAll P h vals args) :
  ∃ a vs ns, vals = [Value.ref a] /\ args = [WData.list (ns.map WData.int)] /\ h.get? a = some { cls := .type "list", data := .seq vs.toArray } /\ IntsAre vs ns /\ ns.length <= n := by
 have hsh : WShape.hasAll [] args [.list .int] = true := (pre_splitW hpre).1
 have hc : l.pre.holds [] { args := args } = true := (pre_splitW hpre).2
 obtain ⟨d, r, rfl, h1, h2⟩ := hasAllW_cons hsh
 obtain rfl := hasAllW_nil h2
 obtain ⟨xs, rfl, h3⟩ := hasW_list h1
 obtain ⟨ns, rfl⟩ := items_int h3
 have hlen : ns.length <= n := by
  unfold OpenLaw.pre at hc
  have h4 : (WTm.not (.lt (.lit (.int (n : Int))) (.len (.arg 0)))).holds [] { args := [.list (ns.map .int)] } = true := by
   have h4 := (holds_andW hc).1
   rw [hn] at h4
   exact h4
  have h5 := condW_of h4 (w_not (w_lt w_lit (w_len_list (w_arg rfl))))
  rw [List.length_map] at h5
  refine Nat.le_of_not_lt fun q => ?_
  have q' : (n : Int) < ((ns.length : Nat) : Int) := by omega
  first
   | (rw [decide_eq_true q'] at h5; exact absurd h5 (by decide))
   | (simp at h5; omega)
 cases hwl with
 | cons w1 w2 =>
  cases w2
  cases w1 with
  | list ho hall => exact ⟨_, _, ns, rfl, rfl, ho, kj ns _ hall, hlen⟩
theorem sS (l : OpenLaw) (args : List WData) : l.row.toRowW.claim.post args (.bool true) args = true :=
 postW_of (r := l.row.toRowW) (X := (true == true))
  (show WShape.has [] (.bool true) .bool = true by first | rfl | decide | simp [WShape.has, WShape.arms, WShape.armsAll])
  (show (WTm.eq .res (.lit (.bool true))).value [] { args := args, res := some (.bool true), after := args } = some (.bool (true == true)) from w_eq_bool (w_res rfl) w_lit) rfl
theorem ov {l : OpenLaw} {n : Nat} {q : Program} {loose : List Str} {XP : (Str -> Option Value) -> Heap -> Prop} {YP : World -> Heap -> Prop} {d : DefRec}
  (hn : l.most = some n) (hdf : d.params.defaults = [])
  (call : ∀ (w : World) (s₀ s₁ : Shared) (mg mb : Str -> Option Value) (fa : Addr) (o : Obj) (pm cd doc : Value) (a : Addr) (vs : List Value) (ns : List Int),
   Ground q loose [] XP w s₀ mg mb s₁.heap -> YP w s₁.heap →
   s₁.heap.get? fa = some o -> o.data = .func (docDef d.name d.params d.body d.scope pm cd doc) -> s₁.heap.CodeRec cd d.name -> mg d.name = some (.ref fa) →
   s₁.heap.get? a = some { cls := .type "list", data := .seq vs.toArray } -> IntsAre vs ns -> ns.length <= n -> s₁.gens = #[] →
   codeAny (model l.prog w) callerA (.call (.ref fa) ⟨[.ref a], []⟩) (fun r s' => r = .ok (.ret (.bool true)) /\ OldK s₁.heap s'.heap /\ s'.os = s₁.os /\ AllBare s'.gens) s₁) :
  WalkO q loose XP YP l.row.toRowW d [] (fun f vs => PySem.call f vs) := by
 intro w s₀ s₁ mg mb G Y fa o pm cd doc dV kV ho hd hcd hD hmg hg args vals as hpre hlay hrd hwl hlo
 obtain rfl : dV = .none := Dflts.none hD hdf
 obtain rfl : kV = .none := Dflts.noKw hD
 obtain ⟨a, vs, ns, rfl, rfl, hobj, hints, hlen⟩ := sZ hn hpre hwl
 refine enter_call (codeAny_mono (call w s₀ s₁ mg mb fa o pm cd doc a vs ns G Y ho (fd_plain hd) hcd hmg hobj hints hlen hg) fun r s' hq => ?_)
 obtain ⟨rfl, h2, h3, h4⟩ := hq
 exact ⟨.inl ⟨.bool true, .bool true, [], rfl, fun _ => rfl, .bool true, sS l _, fun _ => ⟨List.Pairwise.nil, fun _ hm => (nomatch hm)⟩⟩, h2, h3, h4⟩
section
variable {prog : Program} {w : World} {A : Around} {E : Value -> Shared -> Prop} {s : Shared} {K : Frag}
def ledger (h : Heap) (L d : Addr) : List (Addr × Obj) := (List.range h.objs.size).filterMap fun a => if a = L ∨ a = d then none else (h.get? a).map fun o => (a, o)
end
end Att
namespace L2
open PySem PySem.Spec PyProof.Rows
theorem eQ : ∀ {vs : List Value} {ns : List Int}, IntsAre vs ns -> Vals (ns.map V.int) vs
 | _, _, .nil => .nil
 | _, _, .cons n t h => .cons ⟨t, rfl⟩ (eQ h)
def tI (H : Hp) : Prop := ∀ b, H b = none ∨ ∃ o xs, H b = some (.frz o (.lst xs))
theorem uk {P : Program} {w : World} {K : PySem.W.Frag} {mg mb : Str -> Option Value} {CX : CXT} {k : Nat} {fa a : Addr} {fd : FuncData} {x : Str} {sp : Sp} {s₁ : Shared} {vs : List Value} {ns : List Int}
  (KX : K.In s₁.heap) (hns : s₁.heap.Ns mainGlobals mg) (hb : s₁.heap.Ns builtinsNs mb) (hbb : ∀ x : Str, x ≠ "__name__" -> mb x = bootBuiltins x) (hlim : s₁.heap.NoLimit) (hg : s₁.gens = #[])
  (ha : s₁.heap.get? a = some { cls := .type "list", data := .seq vs.toArray }) (hi : IntsAre vs ns) (hl : ns.length <= sizeLine) (hr : aZ k callerA)
  (F : ∀ base : Heap, K.In base -> base.Ns mainGlobals mg -> aG P w K mg base CX k fa fd [x] sp) (hbind : ∀ (s : Shared) (u : Value), BindsTo s fd ⟨[u], []⟩ [(x, u)])
  (hsp : ∀ H : Hp, tI H -> SqL K H a (ns.map V.int) -> sp [.ref a] H (fun v _ => v = .bl true) fun _ _ _ => False)
  (hCX : ∀ H e s', CX [] H s₁ (fun _ _ _ => False) e s' -> False) :
  codeAny (model P w) callerA (.call (.ref fa) ⟨[.ref a], []⟩) (fun r s' => r = .ok (.ret (.bool true)) /\ OldK s₁.heap s'.heap /\ s'.os = s₁.os /\ AllBare s'.gens) s₁ := by
 have rv := eQ hi
 have lenV := hi.length
 have core : ∀ H : Hp, tI H -> SqL K H a (ns.map V.int) -> HOk P w H s₁.heap -> (∀ b, H b ≠ none -> b = a) -> (H a ≠ none -> K.lookup a = none) →
   codeAny (model P w) callerA (.call (.ref fa) ⟨[.ref a], []⟩) (fun r s' => r = .ok (.ret (.bool true)) /\ OldK s₁.heap s'.heap /\ s'.os = s₁.os /\ AllBare s'.gens) s₁ := by
  intro H hO hS hok hA hK
  have base_of : ∀ {b : Addr} {o : Obj}, s₁.heap.get? b = some o -> H b = none -> (ip s₁.heap H).get? b = some o := fun e n => uh e n
  have noA : ∀ {b : Addr} {o : Obj} {es : Array DictEntry} {ep : Nat}, s₁.heap.get? b = some o -> o.data = .dict es ep -> H b = none := fun {b o es ep} e d => by
   cases q : H b with
   | none => rfl
   | some u =>
    have e' : b = a := hA b (by rw [q]; simp)
    subst e'
    rw [ha] at e; cases e
    have d' : Data.seq vs.toArray _ = Data.dict es ep := d
    cases d'
  have nsK : ∀ {b : Addr} {m : Str -> Option Value}, s₁.heap.Ns b m -> (ip s₁.heap H).Ns b m := fun {b m} ⟨o, es, ep, e, d, r⟩ => ⟨o, es, ep, base_of e (noA e d), d, r⟩
  have hKb : K.In (ip s₁.heap H) := fun b o e => base_of (KX b o e) (by
   cases q : H b with
   | none => rfl
   | some u =>
    have e' : b = a := hA b (by rw [q]; simp)
    subst e'
    rw [hK (by rw [q]; simp)] at e; cases e)
  have hM : Mod K mg (ip s₁.heap H) := ⟨hKb, nsK hns, ⟨mb, nsK hb, hbb⟩, let ⟨mc, h1, h2⟩ := hlim; ⟨mc, nsK h1, h2⟩⟩
  have e0 : gy P w K mg (ip s₁.heap H) callerA [] s₁ H := ⟨rfl, hM, fun b o e => vW e, Nat.le_of_eq (sd _ _), trivial, fun b hb => absurd (show b ∈ ([] : List Addr) from hb) (by simp), hok, .of_eq hg⟩
  refine codeAny_mono ((F _ hKb (nsK hns)).run callerA [] s₁ H ⟨[.ref a], []⟩ [.ref a] [.ref a] _ _ hr e0 (hbind s₁ (.ref a)) (.cons rfl .nil) (hsp H hO hS)) fun r s' h => ?_
  cases r with
  | error e => exact (hCX H e s' h).elim
  | ok fl =>
   cases fl with
   | next => exact False.elim h
   | brk => exact False.elim h
   | cont => exact False.elim h
   | ret u =>
    obtain ⟨v, H', os, bare, un, hok', r', q⟩ := h
    have q' : v = .bl true := q
    subst q'
    obtain rfl : u = Value.bool true := r'
    refine ⟨rfl, OldK.of_keep fun b o e => ?_, os, bare⟩
    cases q : H b with
    | none => exact un.keep b o e q (by intro z; exact absurd (show b ∈ ([] : List Addr) from z) (by simp)) (by simp)
    | some u =>
     rcases hO b with z | ⟨ob, xs, z⟩
     ·rw [q] at z; cases z
     ·have z2 := un.frzs b ob _ z
      obtain ⟨e1, _⟩ := hok b _ z
      obtain ⟨e2, _⟩ := hok' b _ z2
      rw [e] at e1; cases e1
      exact e2
 cases hk : K.lookup a with
 | some o =>
  have e := KX a o hk
  rw [ha] at e
  cases e
  refine core (fun _ => none) (fun _ => .inl rfl) (.inr ⟨_, vs.toArray, _, hk, rfl, rfl, rfl, by rw [List.size_toArray, lenV]; exact hl, by simpa using rv⟩) (fun b u z => by have z' : (none : Option HO) = some u := z; cases z') (fun b z => absurd rfl z) fun z => absurd rfl z
 | none =>
  refine core (fun b => if b = a then some (.frz { cls := .type "list", data := .seq vs.toArray } (.lst (ns.map V.int))) else none) (fun b => ?_) (.inl (.inr ⟨{ cls := .type "list", data := .seq vs.toArray }, if_pos rfl⟩)) (fun b u z => ?_) (fun b z => ?_) fun _ => hk
  ·by_cases hb : b = a
   ·exact .inr ⟨_, _, if_pos hb⟩
   ·exact .inl (if_neg hb)
  ·by_cases hb : b = a
   ·have z' := (if_pos hb).symm.trans z
    cases z'
    subst hb
    exact ⟨ha, by rw [List.length_map]; exact hl, vs, _, rv, ha⟩
   ·have z' := (if_neg hb).symm.trans z
    cases z'
  ·by_cases hb : b = a
   ·exact hb
   ·exact absurd (if_neg hb) z
end L2
namespace L2
open PySem PySem.Spec PyProof.Rows
theorem wt {l : PySem.W.OpenLaw} {n k : Nat} {q : Program} {loose : List Str} {XP : (Str -> Option Value) -> Heap -> Prop} {YP : World -> Heap -> Prop} {d : DefRec} {K : Params -> PySem.W.Frag} {CX : World -> CXT} {sp : World -> Sp} {x : Str}
  (hn : l.most = some n) (hn2 : n <= sizeLine) (hdf : d.params.defaults = []) (hr : aZ k callerA)
  (hY : ∀ (w : World) (h : Heap), YP w h -> (K w.params).In h)
  (F : ∀ (w : World) (mg : Str -> Option Value) (fa : Addr) (h : Heap), (K w.params).In h -> h.Ns mainGlobals mg -> mg d.name = some (.ref fa) →
   ∃ fd : FuncData, (∀ (s : Shared) (u : Value), BindsTo s fd ⟨[u], []⟩ [(x, u)]) ∧
    ∀ base : Heap, (K w.params).In base -> base.Ns mainGlobals mg -> aG l.prog w (K w.params) mg base (CX w) k fa fd [x] (sp w))
  (hsp : ∀ (w : World) (H : Hp) (a : Addr) (ns : List Int), ns.length <= n -> tI H -> SqL (K w.params) H a (ns.map V.int) -> sp w [.ref a] H (fun v _ => v = .bl true) fun _ _ _ => False)
  (hCX : ∀ (w : World) (H : Hp) (s : Shared) (e : Value) (s' : Shared), CX w [] H s (fun _ _ _ => False) e s' -> False) :
  PySem.W.WalkO q loose XP YP l.row.toRowW d [] (fun f vs => PySem.call f vs) := by
 refine Att.ov hn hdf fun w s₀ s₁ mg mb fa o pm cd doc a vs ns G Y ho hd hcd hmg hobj hints hlen hg => ?_
 have KX := hY w _ Y
 obtain ⟨fd, hb, hF⟩ := F w mg fa _ KX G.T.g hmg
 exact uk KX G.T.g G.T.b G.T.builtins G.T.nolimit hg hobj hints (Nat.le_trans hlen hn2) hr hF hb (fun H hO hS => hsp w H a ns hlen hO hS) fun H e s' => hCX w H s₁ e s'
end L2
namespace L2
open PySem PySem.Spec PyProof.Rows
def bJ (s : Stmt) : Arguments := match s with
 | .FunctionDef _ a _ _ _ _ _ _ _ _ => a
 | _ => { posonlyargs := [], args := [], vararg := none, kwonlyargs := [], kw_defaults := [], kwarg := none, defaults := [] }
def bc (s : Stmt) : List Stmt := match s with
 | .FunctionDef _ _ b _ _ _ _ _ _ _ => b
 | _ => []
def ak (s : Stmt) : Scope := match s with
 | .FunctionDef _ _ _ _ _ _ sc _ _ _ => sc
 | _ => { kind := .function, names := [], isGenerator := false, isCoroutine := false }
abbrev CX0 : CXT := fun _ _ _ _ _ _ => False
abbrev E0 : XK := fun _ _ _ => False
structure Fun (K : PySem.W.Frag) (x qual : Str) (st : Stmt) (f : Addr) (fd : FuncData) : Prop where
 ex : ∃ (oc : Value) (od : Option Addr) (kV doc pm : Value) (an : Option Addr) (cdv ct : Value) (osl : Array (Option Value)),
  fd = PySem.W.fnOf x qual (bJ st) (bc st) (ak st) .none kV doc pm an cdv ct /\ K.lookup f = some ⟨oc, od, .func fd, osl⟩ /\ PySem.W.codeIn K cdv qual = true
 kp : PySem.W.keepIn K (.ref f) = true
section
variable {P : Program} {w : World} {K : PySem.W.Frag} {mg : Str -> Option Value} {base : Heap}
theorem Fun.ok {x qual : Str} {st : Stmt} {f : Addr} {fd : FuncData} {N ps : List Str} {k : Nat} {sp : Sp} (F : Fun K x qual st f fd) (S : aB N ps (ak st)) (len : ∀ vs H Q E, sp vs H Q E -> vs.length = ps.length)
  (hbody : ∀ (cdv : Value) (A : Around) (outer : List Env) (s : Shared) (H : Hp) (vs : List V) (Q : VK) (E : XK), aZ k (A.deeper (envOfC qual (ak st) s.heap.objs.size f cdv)) -> sp vs H Q E →
   ∃ t, PSs (bS CX0 P w K mg base N qual (ak st) f cdv A outer s H E).nox (bc st) t /\ t { nx := fun _ H' => Q .non H', rt := Q } (start N vs) H) : aG P w K mg base CX0 (k + 1) f fd ps sp := by
 obtain ⟨oc, od, kV, doc, pm, an, cdv, ct, osl, rfl, lk, hcd⟩ := F.ex
 refine qr lk hcd S len fun A outer s H vs Q E hr hsp => ?_
 obtain ⟨t, h, q⟩ := hbody cdv A outer s H vs Q E hr hsp
 exact ⟨t, h.nox, q⟩
theorem Fun.binds {x qual : Str} {st : Stmt} {f : Addr} {fd : FuncData} {ps : List Str} (F : Fun K x qual st f fd)
  (h : ∀ (kV doc pm : Value) (an : Option Addr) (cdv ct : Value) (us : List Value), us.length = ps.length -> bindArgs (PySem.W.fnOf x qual (bJ st) (bc st) (ak st) .none kV doc pm an cdv ct) ⟨us, []⟩ = pure (ps.zip us)) : Binds K fd ps [] := by
 obtain ⟨oc, od, kV, doc, pm, an, cdv, ct, osl, rfl, lk, hcd⟩ := F.ex
 exact .all (h kV doc pm an cdv ct)
end
section
variable {X : Cx}
theorem pv (i : Nat) {x : Str} {pos : Pos} (hN : X.N[i]? = some x := by rfl) (hv : Vis X.env.scope x := by first | exact Or.inl rfl | exact Or.inr (Or.inl rfl) | exact Or.inr (Or.inr rfl)) (hd : (x == ("__debug__" : Str)) = false := by decide)
  (hcd : (x == ("__classdict__" : Str)) = false := by decide) : PE X (.Name x pos) (qL i) := gW hN hv hd hcd
end
def ai (H H' : Hp) : Prop := ∀ b o, H b = some o -> H' b = some o
theorem ai.refl (H : Hp) : ai H H := fun _ _ h => h
theorem ai.trans {H H1 H2 : Hp} (a : ai H H1) (b : ai H1 H2) : ai H H2 := fun c o h => b c o (a c o h)
theorem ai.free {H H' : Hp} (e : ai H H') {l : Addr} (h : H' l = Option.none) : H l = Option.none := by
 cases q : H l with
 | none => rfl
 | some o =>
  rw [e l o q] at h
  cases h
theorem ai.seq {K : PySem.W.Frag} {H H' : Hp} {a : Addr} {xs : List V} (e : ai H H') (h : SqL K H a xs) : SqL K H' a xs := by
 rcases h with (h | ⟨o, h⟩) | h
 ·exact .inl (.inl (e _ _ h))
 ·exact .inl (.inr ⟨o, e _ _ h⟩)
 ·exact .inr h
end L2
set_option maxHeartbeats 4000000
namespace L2
open PySem PySem.Spec PyProof.Rows
section
variable {κ : Type} [DecidableEq κ]
def fg (kvs : List (κ × V)) (k : κ) : Option V := (kvs.find? fun kv => decide (kv.1 = k)).map (·.2)
def putK (kvs : List (κ × V)) (k : κ) (v : V) : List (κ × V) :=
 if (kvs.any fun kv => decide (kv.1 = k)) = true then kvs.map (fun kv => if kv.1 = k then (kv.1, v) else kv) else kvs ++ [(k, v)]
def uZ (kvs : List (κ × V)) (k : κ) : List (κ × V) := kvs.filter fun kv => decide (kv.1 ≠ k)
theorem jV {p : κ × V} {r : List (κ × V)} {k : κ} (e : p.1 = k) : fg (p :: r) k = some p.2 := by simp [fg, List.find?_cons, e]
theorem jU {p : κ × V} {r : List (κ × V)} {k : κ} (e : ¬ p.1 = k) : fg (p :: r) k = fg r k := by simp [fg, List.find?_cons, e]
theorem om (k : κ) : ∀ kvs : List (κ × V), (kvs.any fun kv => decide (kv.1 = k)) = (fg kvs k).isSome
 | [] => rfl
 | p :: r => by
  rw [List.any_cons]
  by_cases e : p.1 = k
  ·simp only [jV e, decide_eq_true e, Bool.true_or, Option.isSome_some]
  ·rw [jU e, decide_eq_false e, Bool.false_or]; exact om k r
theorem gz.isSome_eq {o : Option V} {u : Option Value} (r : gz o u) : o.isSome = u.isSome := by
 cases o with
 | none => cases u with
  | none => rfl
  | some _ => exact (show False from r).elim
 | some _ => cases u with
  | none => exact (show False from r).elim
  | some _ => rfl
theorem gz.getD {o : Option V} {u : Option Value} {d : V} {d' : Value} (r : gz o u) (rd : RelV d d') : RelV (o.getD d) (u.getD d') := by
 cases o with
 | none => cases u with
  | none => exact rd
  | some _ => exact (show False from r).elim
 | some _ => cases u with
  | none => exact (show False from r).elim
  | some _ => exact r
theorem KV.val {kvs : List (κ × V)} {vs : List (κ × Value)} (r : KV kvs vs) (k : κ) : gz (fg kvs k) (valueAt vs k) := by
 unfold KV at r
 induction r with
 | nil => exact True.intro
 | @cons p q ps qs h t ih =>
  obtain ⟨h1, h2⟩ := h
  by_cases e : p.1 = k
  ·have e' : q.1 = k := h1.symm.trans e
   have b : valueAt (q :: qs) k = some q.2 := by simp [valueAt, List.find?_cons, e']
   rw [jV e, b]; exact h2
  ·have e' : ¬ q.1 = k := fun z => e (h1.trans z)
   have b : valueAt (q :: qs) k = valueAt qs k := by simp [valueAt, List.find?_cons, e']
   rw [jU e, b]; exact ih
theorem KV.any {kvs : List (κ × V)} {vs : List (κ × Value)} (r : KV kvs vs) (k : κ) : (kvs.any fun kv => decide (kv.1 = k)) = vs.any fun kv => decide (kv.1 = k) := by
 unfold KV at r
 induction r with
 | nil => rfl
 | cons h t ih => rw [List.any_cons, List.any_cons, ih, h.1]
theorem KV.repl {kvs : List (κ × V)} {vs : List (κ × Value)} (r : KV kvs vs) (k : κ) {y : V} {u : Value} (ry : RelV y u) :
  KV (kvs.map fun kv => if kv.1 = k then (kv.1, y) else kv) (vs.map fun kv => if kv.1 = k then (kv.1, u) else kv) := by
 unfold KV at r ⊢
 induction r with
 | nil => exact .nil
 | @cons p q ps qs h t ih =>
  rw [List.map_cons, List.map_cons]
  refine .cons ?_ ih
  obtain ⟨h1, h2⟩ := h
  by_cases e : p.1 = k
  ·rw [if_pos e, if_pos (h1.symm.trans e)]; exact ⟨h1, ry⟩
  ·rw [if_neg e, if_neg (fun z => e (h1.trans z))]; exact ⟨h1, h2⟩
theorem KV.put {kvs : List (κ × V)} {vs : List (κ × Value)} (r : KV kvs vs) (k : κ) {y : V} {u : Value} (ry : RelV y u) : KV (putK kvs k y) (stored vs k u) := by
 unfold putK stored
 rw [r.any k]
 by_cases e : (vs.any fun kv => decide (kv.1 = k)) = true
 ·rw [if_pos e, if_pos e]; exact r.repl k ry
 ·rw [if_neg e, if_neg e]; exact Paired.snoc r ⟨rfl, ry⟩
theorem KV.drop {kvs : List (κ × V)} {vs : List (κ × Value)} (r : KV kvs vs) (k : κ) : KV (uZ kvs k) (without vs k) := by
 unfold KV at r ⊢
 unfold uZ without
 induction r with
 | nil => exact .nil
 | @cons p q ps qs h t ih =>
  obtain ⟨h1, h2⟩ := h
  rw [List.filter_cons, List.filter_cons]
  by_cases e : p.1 = k
  ·have a : ¬ decide (p.1 ≠ k) = true := by simp [e]
   have b : ¬ decide (q.1 ≠ k) = true := by simp [h1.symm.trans e]
   rw [if_neg a, if_neg b]; exact ih
  ·have e' : ¬ q.1 = k := fun z => e (h1.trans z)
   have a : decide (p.1 ≠ k) = true := by simp [e]
   have b : decide (q.1 ≠ k) = true := by simp [e']
   rw [if_pos a, if_pos b]; exact .cons ⟨h1, h2⟩ ih
theorem KV.keys {kvs : List (κ × V)} {vs : List (κ × Value)} (r : KV kvs vs) : kvs.map (·.1) = vs.map (·.1) := by
 unfold KV at r
 induction r with
 | nil => rfl
 | cons h t ih => rw [List.map_cons, List.map_cons, ih, h.1]
theorem KV.length {kvs : List (κ × V)} {vs : List (κ × Value)} (r : KV kvs vs) : kvs.length = vs.length := Paired.length r
end
abbrev KT (H : Hp) : List (List Key × V) -> List (List Key × Addr × Value) -> Prop := Paired fun p q => p.1 = q.1 /\ H q.2.1 = some (.tup (p.1.map kV)) /\ RelV p.2 q.2.2
theorem KT.val {H : Hp} {kvs : List (List Key × V)} {xs : List (List Key × Addr × Value)} (r : KT H kvs xs) (k : List Key) : gz (fg kvs k) ((atKey xs k).map (·.2)) := by
 induction r with
 | nil => exact True.intro
 | @cons p q ps qs h t ih =>
  obtain ⟨h1, _, h2⟩ := h
  by_cases e : p.1 = k
  ·have e' : q.1 = k := h1.symm.trans e
   have b : atKey (q :: qs) k = some q.2 := by simp [atKey, List.find?_cons, e']
   rw [jV e, b]; exact h2
  ·have e' : ¬ q.1 = k := fun z => e (h1.trans z)
   have b : atKey (q :: qs) k = atKey qs k := by simp [atKey, List.find?_cons, e']
   rw [jU e, b]; exact ih
theorem KT.repl {H : Hp} {kvs : List (List Key × V)} {xs : List (List Key × Addr × Value)} (r : KT H kvs xs) (k : List Key) {y : V} {u : Value} (ry : RelV y u) :
  KT H (kvs.map fun kv => if kv.1 = k then (kv.1, y) else kv) (xs.map (putAt k u)) := by
 induction r with
 | nil => exact .nil
 | @cons p q ps qs h t ih =>
  rw [List.map_cons, List.map_cons]
  refine .cons ?_ ih
  obtain ⟨h1, h2, h3⟩ := h
  unfold putAt
  by_cases e : p.1 = k
  ·rw [if_pos e, if_pos (h1.symm.trans e)]; exact ⟨h1, h2, ry⟩
  ·rw [if_neg e, if_neg (fun z => e (h1.trans z))]; exact ⟨h1, h2, h3⟩
theorem KT.put {H : Hp} {kvs : List (List Key × V)} {xs : List (List Key × Addr × Value)} (r : KT H kvs xs) (k : List Key) {b : Addr} {y : V} {u : Value} (hb : H b = some (.tup (k.map kV))) (ry : RelV y u) :
  KT H (putK kvs k y) (storedH xs k b u) := by
 have e : (kvs.any fun kv => decide (kv.1 = k)) = (atKey xs k).isSome := by
  rw [om, (r.val k).isSome_eq, Option.isSome_map]
 unfold putK storedH
 rw [e]
 by_cases q : (atKey xs k).isSome = true
 ·rw [if_pos q, if_pos q]; exact r.repl k ry
 ·rw [if_neg q, if_neg q]; exact Paired.snoc r ⟨rfl, hb, ry⟩
theorem KT.keeps {H H' : Hp} {kvs : List (List Key × V)} {xs : List (List Key × Addr × Value)} (r : KT H kvs xs) (ht : ∀ b ys, H b = some (.tup ys) -> H' b = some (.tup ys)) : KT H' kvs xs :=
 Paired.mapP r fun _ _ z => ⟨z.1, ht _ _ z.2.1, z.2.2⟩
section
variable {P : Program} {w : World} {H : Hp} {h : Heap} {a : Addr}
end
def pT (H : Hp) (a : Addr) (y : V) (r : Option V) : Prop :=
 (∃ kvs k, Rd H a (.dK kvs) /\ y = kV k /\ r = fg kvs k) ∨ ∃ kvs k b, Rd H a (.dT kvs) /\ y = .ref b /\ H b = some (.tup (k.map kV)) /\ r = fg kvs k
def pU (H : Hp) (a : Addr) (y v : V) (H' : Hp) : Prop :=
 (∃ kvs k, H a = some (.dK kvs) /\ y = kV k /\ kvs.length < sizeLine /\ H' = upd H a (.dK (putK kvs k v))) ∨
 ∃ kvs k b, H a = some (.dT kvs) /\ y = .ref b /\ H b = some (.tup (k.map kV)) /\ kvs.length < sizeLine /\ H' = upd H a (.dT (putK kvs k v))
theorem pT.k {H : Hp} {a : Addr} {kvs : List (Key × V)} {k : Key} (e : H a = some (.dK kvs)) : pT H a (kV k) (fg kvs k) := .inl ⟨kvs, k, .inl e, rfl, rfl⟩
theorem pT.t {H : Hp} {a b : Addr} {kvs : List (List Key × V)} {k : List Key} (e : H a = some (.dT kvs)) (eb : H b = some (.tup (k.map kV))) : pT H a (.ref b) (fg kvs k) := .inr ⟨kvs, k, b, .inl e, rfl, eb, rfl⟩
theorem pU.k {H : Hp} {a : Addr} {kvs : List (Key × V)} {k : Key} {v : V} (e : H a = some (.dK kvs)) (hl : kvs.length < sizeLine) : pU H a (kV k) v (upd H a (.dK (putK kvs k v))) := .inl ⟨kvs, k, e, rfl, hl, rfl⟩
theorem pU.t {H : Hp} {a b : Addr} {kvs : List (List Key × V)} {k : List Key} {v : V} (e : H a = some (.dT kvs)) (eb : H b = some (.tup (k.map kV))) (hl : kvs.length < sizeLine) :
  pU H a (.ref b) v (upd H a (.dT (putK kvs k v))) := .inr ⟨kvs, k, b, e, rfl, eb, hl, rfl⟩
section
variable {X : Cx} {pins : List (Addr × Obj)} {σ : St} {H : Hp} {s : Shared} {a : Addr} {y v : V} {u r : Value} {o : Option V} {A : Around} {E : Value -> Shared -> Prop}
theorem Inv.big (I : Inv X pins σ H s) : sysModules < s.heap.objs.size := by
 have h : mainGlobals < s.heap.objs.size := (I.mod.glob.keeps I.bk).lt
 exact Nat.lt_trans (by decide) h
end
section
variable {X : Cx} {pins : List (Addr × Obj)} {σ : St} {H : Hp} {s : Shared} {a : Addr} {kvs : List (Key × V)} {k : Key} {u : Value} {A : Around} {E : Value -> Shared -> Prop}
end
section
variable {X : Cx} {o i e value : Expr} {pos pos' tpos : Pos} {td ty tv : TE}
end
section
variable {X : Cx} {pos : Pos}
end
abbrev VV : List (V × V) -> List (Value × Value) -> Prop := Paired fun p q => RelV p.1 q.1 /\ RelV p.2 q.2
structure M1 (X : Cx) (o : Expr) (m : Str) (apos : Pos) (e : Expr) (cpos : Pos) : Prop where
 base : attributeBase o m X.env (eval o X.env) = eval o X.env
 few : ((backTo cpos (starEach [e] X.env)).all (fun x => !x.1) && (backToKw cpos (keywordEach [] X.env)).all (fun x => x.1.isSome)
  && decide (([e] : List Expr).length + ([] : List Keyword).length + (if ([] : List Keyword).isEmpty then 0 else 1) < 30)) = true
 line : (apos.endLine == cpos.line) = true
 trees : backTo cpos (starEach [e] X.env) = [(false, eval e X.env)]
structure M2 (X : Cx) (o : Expr) (m : Str) (apos : Pos) (e f : Expr) (cpos : Pos) : Prop where
 base : attributeBase o m X.env (eval o X.env) = eval o X.env
 few : ((backTo cpos (starEach [e, f] X.env)).all (fun x => !x.1) && (backToKw cpos (keywordEach [] X.env)).all (fun x => x.1.isSome)
  && decide (([e, f] : List Expr).length + ([] : List Keyword).length + (if ([] : List Keyword).isEmpty then 0 else 1) < 30)) = true
 line : (apos.endLine == cpos.line) = true
 trees : backTo cpos (starEach [e, f] X.env) = [(false, eval e X.env), (false, eval f X.env)]
section
variable {X : Cx} {pins : List (Addr × Obj)} {σ : St} {H : Hp} {s : Shared} {a : Addr} {y d : V} {u r : Value} {o : Option V} {A : Around} {E : Value -> Shared -> Prop}
end
section
variable {X : Cx} {o e f : Expr} {apos cpos : Pos} {td ty tx : TE}
end
section
variable {X : Cx} {pins : List (Addr × Obj)} {σ : St} {H : Hp} {s : Shared} {a : Addr} {kvs : List (Key × V)} {A : Around} {E : Value -> Shared -> Prop}
end
section
variable {X : Cx} {pins : List (Addr × Obj)} {σ : St} {H : Hp} {s : Shared} {a : Addr} {y : V} {u : Value} {A : Around} {E : Value -> Shared -> Prop}
end
end L2
namespace PM
theorem nh (a b : Int) : Int.gcd b (a.fmod b) = Int.gcd a b := by
 have h := Int.fmod_add_mul_fdiv a b
 have h' : a = a.fmod b + a.fdiv b * b := by rw [Int.mul_comm]; exact h.symm
 rw [Int.gcd_comm a b]
 conv => rhs; rw [h']
 rw [Int.gcd_add_mul_right_right]
theorem lF (a : Int) {b : Int} (hb : b ≠ 0) : (a.fmod b).natAbs < b.natAbs := by
 by_cases h : 0 < b
 ·have h1 := Int.fmod_lt_of_pos a h
  have h2 := Int.fmod_nonneg_of_pos a h
  omega
 ·have h1 : b < 0 := by omega
  have e : a.fmod b = -((-a).fmod (-b)) := by
   have := Int.neg_fmod_neg (a := a) (b := b)
   omega
  have h2 := Int.fmod_lt_of_pos (-a) (b := -b) (by omega)
  have h3 := Int.fmod_nonneg_of_pos (-a) (b := -b) (by omega)
  omega
def g3 (x y z : Int) : Nat := Int.gcd (Int.gcd x y : Int) z
theorem m8 (x y z : Int) : (g3 x y z : Int) ∣ x := Int.dvd_trans (Int.gcd_dvd_left _ _) (Int.gcd_dvd_left _ _)
theorem qt (x y z : Int) : (g3 x y z : Int) ∣ y := Int.dvd_trans (Int.gcd_dvd_left _ _) (Int.gcd_dvd_right _ _)
theorem qu (x y z : Int) : (g3 x y z : Int) ∣ z := Int.gcd_dvd_right _ _
theorem wV {x y z d : Int} (h1 : d ∣ x) (h2 : d ∣ y) (h3 : d ∣ z) : d ∣ (g3 x y z : Int) := Int.dvd_coe_gcd (Int.dvd_coe_gcd h1 h2) h3
theorem vO {x y z : Int} : g3 x y z = 0 ↔ x = 0 /\ y = 0 /\ z = 0 := by
 unfold g3
 rw [Int.gcd_eq_zero_iff]
 constructor
 ·rintro ⟨h, h3⟩
  have h' : Int.gcd x y = 0 := by omega
  obtain ⟨h1, h2⟩ := Int.gcd_eq_zero_iff.mp h'
  exact ⟨h1, h2, h3⟩
 ·rintro ⟨h1, h2, h3⟩
  subst h1 h2 h3
  simp
def dv3 (x y z l : Int) : Int := if l < 0 then -(g3 x y z : Int) else (g3 x y z : Int)
theorem eI {x y z l : Int} (h : ¬ (x = 0 /\ y = 0 /\ z = 0)) : dv3 x y z l ≠ 0 := by
 have : g3 x y z ≠ 0 := fun e => h (vO.mp e)
 unfold dv3
 split <;> omega
theorem vE (x y z l : Int) : (dv3 x y z l).natAbs = g3 x y z := by
 unfold dv3
 split <;> omega
theorem gN {x y z l t : Int} (h : (g3 x y z : Int) ∣ t) : dv3 x y z l ∣ t := by
 unfold dv3
 split
 ·exact Int.neg_dvd.mpr h
 ·exact h
theorem fC {x y z l t : Int} (h : (g3 x y z : Int) ∣ t) : t.fdiv (dv3 x y z l) * dv3 x y z l = t := by
 have h' := gN (l := l) h
 rw [Int.fdiv_eq_ediv_of_dvd h']
 exact Int.ediv_mul_cancel h'
theorem xG {x y z l : Int} (h : ¬ (x = 0 /\ y = 0 /\ z = 0)) : g3 (x.fdiv (dv3 x y z l)) (y.fdiv (dv3 x y z l)) (z.fdiv (dv3 x y z l)) = 1 := by
 have e1 := fC (l := l) (m8 x y z)
 have e2 := fC (l := l) (qt x y z)
 have e3 := fC (l := l) (qu x y z)
 have hn := eI (l := l) h
 have habs := vE x y z l
 generalize x.fdiv (dv3 x y z l) = a at e1 ⊢
 generalize y.fdiv (dv3 x y z l) = b at e2 ⊢
 generalize z.fdiv (dv3 x y z l) = c at e3 ⊢
 generalize dv3 x y z l = g at *
 have hd : (g3 a b c : Int) * g ∣ (g3 x y z : Int) := by
  refine wV ?_ ?_ ?_
  ·rw [<- e1]; exact Int.mul_dvd_mul (m8 a b c) (Int.dvd_refl _)
  ·rw [<- e2]; exact Int.mul_dvd_mul (qt a b c) (Int.dvd_refl _)
  ·rw [<- e3]; exact Int.mul_dvd_mul (qu a b c) (Int.dvd_refl _)
 have hd2 : g3 a b c * g.natAbs ∣ g.natAbs := by
  rw [habs]
  have := Int.natAbs_dvd_natAbs.mpr hd
  rw [Int.natAbs_mul] at this
  simpa [habs] using this
 have hp : 0 < g.natAbs := by omega
 have := Nat.le_of_dvd hp hd2
 have h0 : g3 a b c ≠ 0 := by
  intro e
  rw [e] at hd2
  simp at hd2
  omega
 rcases Nat.lt_or_ge (g3 a b c) 2 with h2 | h2
 ·omega
 ·have : 2 * g.natAbs <= g3 a b c * g.natAbs := Nat.mul_le_mul_right _ h2
  omega
theorem lH (a : Int) : Int.gcd a 0 = a.natAbs := by simp
end PM
namespace PX
open PySem PySem.W PySem.Spec PySem.Calls PyProof.Rows PySem.Builtin.ObjectAttr PySem.Builtin.Getset_descriptor
def ExcAt (e c : Addr) (h : Heap) : Prop := ∃ o vs, h.get? e = some o /\ o.cls = .ref c /\ o.data = .fields vs
theorem ExcAt.ty {M : Model} {e c : Addr} {h : Heap} (p : ExcAt e c h) : Looks M h (typeOf (.ref e)) (.ref c) := by
 obtain ⟨o, vs, h1, h2, _⟩ := p
 exact h2 ▸ (Looks.ld h1).andThen .now
def uf (K : Frag) (c : Addr) : Bool :=
 (clsIn K c).isSome && findIn K (.ref c) "__getattribute__" == some (some (.builtin "BaseException.__getattribute__"))
 && findIn K (.ref c) "__getattr__" == some none && findIn K (.ref c) "__class__" == some (some (.builtin "object.__class__"))
 && specialIn K (.builtin "object.__class__") "__get__" == some (some (.builtin "getset_descriptor.__get__"))
 && takesIn K (.builtin "object.__class__") == some true
 && mroIn K c (.type "object") == some true && mroIn K c (.type "BaseException") == some true
 && kitOne K (.ref c) (.type "int") == some false && kitOne K (.ref c) (.type "bool") == some false && kitOne K (.ref c) (.type "tuple") == some false
 && kitOne K (.ref c) (.type "list") == some false && kitOne K (.ref c) (.type "str") == some false
structure cY (K : Frag) (c : Addr) : Prop where
 cls : (clsIn K c).isSome = true
 ga : findIn K (.ref c) "__getattribute__" = some (some (.builtin "BaseException.__getattribute__"))
 hook : findIn K (.ref c) "__getattr__" = some none
 at_ : findIn K (.ref c) "__class__" = some (some (.builtin "object.__class__"))
 get : specialIn K (.builtin "object.__class__") "__get__" = some (some (.builtin "getset_descriptor.__get__"))
 takes : takesIn K (.builtin "object.__class__") = some true
 obj : mroIn K c (.type "object") = some true
 exc : mroIn K c (.type "BaseException") = some true
 not : ∀ T, (T = "int" ∨ T = "bool" ∨ T = "tuple" ∨ T = "list" ∨ T = "str") -> kitOne K (.ref c) (.type T) = some false
theorem cY.of {K : Frag} {c : Addr} (h : uf K c = true) : cY K c := by
 unfold uf at h
 simp only [Bool.and_eq_true, beq_iff_eq] at h
 obtain ⟨⟨⟨⟨⟨⟨⟨⟨⟨⟨⟨⟨h1, h2⟩, h3⟩, h4⟩, h5⟩, h6⟩, h7⟩, h8⟩, h9⟩, h10⟩, h11⟩, h12⟩, h13⟩ := h
 exact ⟨h1, h2, h3, h4, h5, h6, h7, h8, fun T hT => by rcases hT with e | e | e | e | e <;> subst e <;> assumption⟩
section
variable {prog : Program} {w : World} {A : Around} {E : Value -> Shared -> Prop} {s : Shared} {K : Frag} {e c : Addr}
theorem yC {R : Result -> Shared -> Prop} {tp : Value} (X : K.In s.heap) (p : ExcAt e c s.heap) (hm : mroIn K c (.type "object") = some true) (hq : R (.ok (.ret (.ref c))) s) :
  codeAny (model prog w) A (.call (.builtin "getset_descriptor.__get__") ⟨[.builtin "object.__class__", .ref e, tp], []⟩) R s := by
 obtain ⟨h, g, dr, t, os⟩ := s
 have La := p.ty (M := model prog w)
 have Lb := looks_mroIn (M := model prog w) X hm
 refine codeAny_call_builtin (KF.slot_gs.plain) KF.entry_gs (KF.slot_gs.check _ _ _ _ _ _ _ _ KF.type_class (KF.args_gs _ _ _) ?_)
 unfold Builtin.«getset_descriptor.__get__» descrGet
 rw [dga_obj]
 refine wpAny_bind (wpAny_pure ?_)
 unfold descrGetter descrCheckInstance descrNameAndClass isInstance
 simp only [KF.owner_class]
 repeat lk
 refine ⟨Code.quiet_builtin _ (by decide +kernel), codeAny_builtin KF.entry_class ?_⟩
 unfold Builtin.«object.__class__» shownTypeOf
 repeat lk
 exact hq
theorem xU {M : Model} {h : Heap} (k : cY K c) (X : K.In h) : Looks M h (find (.ref e) (.ref c) "__class__") (.bind (.builtin "getset_descriptor.__get__") (.builtin "object.__class__")) := by
 have La := looks_findIn (M := M) X k.at_
 have Lb : Looks M h (getOf (some (.builtin "object.__class__"))) (some (.builtin "getset_descriptor.__get__")) := looks_specialIn X k.get
 have Lc := looks_takesIn (M := M) X k.takes
 refine La.andThen (Lb.andThen ?_)
 exact (show Looks M h (dataDescriptor? (some (.builtin "object.__class__")) (some (.builtin "getset_descriptor.__get__"))) (some (.builtin "getset_descriptor.__get__", .builtin "object.__class__")) from Lc.andThen .now).andThen (Looks.tag .now)
theorem wx {tk : Tok} {Q : Fin -> Shared -> Prop} (k : cY K c) (X : K.In s.heap) (p : ExcAt e c s.heap) (hq : Q (.done (.ret (.ref c))) s) :
  wpAny (model prog w) A (Builtin.«object.__getattribute__» ⟨[.ref e, .str "__class__" tk], []⟩) Q E s := by
 obtain ⟨h, g, dr, t, os⟩ := s
 have La := p.ty (M := model prog w)
 have Lb := xU (M := model prog w) (e := e) k X
 refine wpAny_bind (wpAny_pure ?_)
 refine wpAny_bind (wpAny_pure ?_)
 refine wpAny_bind (La.at (wpAny_bind (Lb.at ?_)))
 show wpAny _ _ (bindTo _ _ _ _) _ _ _
 unfold bindTo
 repeat (first | with_reducible refine wpAny_bind ?_ | with_reducible refine wpAny_holding ?_)
 refine wpAny_call (yC X p k.obj ?_)
 exact wpAny_pure hq
theorem wu {M : Model} {nv : Value} {Q : Unit -> Shared -> Prop} (k : cY K c) (X : K.In s.heap) (p : ExcAt e c s.heap) (hq : Q () s) :
  wpAny M A (checkBuiltinCall "BaseException.__getattribute__" ⟨[.ref e, nv], []⟩) Q E s := by
 obtain ⟨h, g, dr, t, os⟩ := s
 have hk : builtinKind "BaseException.__getattribute__" = some .slot := by decide +kernel
 have hsp : splitId "BaseException.__getattribute__" = some ("BaseException", "__getattribute__") := by decide +kernel
 have ha := F.args_bexc_ga (.ref e) nv
 have La := p.ty (M := M)
 have Lb := looks_mroIn (M := M) X k.exc
 have Li : Looks M h (isInstance (.ref e) (.type "BaseException")) true := La.andThen Lb
 simp only [checkBuiltinCall, hk, hsp]
 refine wpAny_bind (Li.at ?_)
 repeat (first | wp_step)
 exact hq
theorem x_call {tk : Tok} {R : Result -> Shared -> Prop} (k : cY K c) (X : K.In s.heap) (p : ExcAt e c s.heap) (hq : R (.ok (.ret (.ref c))) s) :
  codeAny (model prog w) A (.call (.builtin "BaseException.__getattribute__") ⟨[.ref e, .str "__class__" tk], []⟩) R s :=
 codeAny_call_builtin F.excAttr_ValueError.ga.plain F.entry_bexc_ga (wu k X p (wx k X p hq))
theorem xT {Q : Option Value -> Shared -> Prop} (k : cY K c) (X : K.In s.heap) (p : ExcAt e c s.heap) (hq : Q (some (.ref c)) { s with toks := s.toks + 1 }) :
  wpAny (model prog w) A (getAttr? (.ref e) "__class__") Q E s := by
 obtain ⟨h, g, dr, t, os⟩ := s
 have La := p.ty (M := model prog w)
 have Lb := looks_findIn (M := model prog w) X k.ga
 have Lc := looks_findIn (M := model prog w) X k.hook
 have f3 := F.excAttr_ValueError.ga.bind (.ref e)
 unfold getAttr? getAttrBy? getAttrBy
 refine wpAny_bind (wpAny_mkText (wpAny_bind (wpAny_attempt (wpAny_holding (wpAny_bind (La.at (wpAny_bind (Lb.at ?_))))))))
 have hne : (Value.builtin "BaseException.__getattribute__" == Value.builtin "object.__getattribute__") = false := by decide +kernel
 simp only [onTheHeap, Bool.true_and, hne, Bool.false_eq_true, if_false]
 unfold getAttrByItsOwn hookBefore
 simp only [onTheHeap, if_true]
 refine wpAny_bind (Lc.at ?_)
 refine wpAny_bind (wpAny_attempt (wpAny_holding ?_))
 unfold callGetattribute boundAndCalled
 simp only [Bool.false_and, Bool.false_eq_true, if_false]
 refine wpAny_bind (wpAny_of_eq f3 ?_)
 refine wpAny_call (x_call k X p ?_)
 refine wpAny_pure (a := Value.ref c) ?_
 exact wpAny_pure hq
theorem uj (k : cY K c) : KitX K (.ref e) (.ref c) (ExcAt e c) where
 ty := fun _ _ _ p => p.ty
 it := fun _ _ X _ => by
  have h := k.cls
  unfold clsIn at h
  split at h
  ·rename_i c' d' cd' sl' ho
   intro A' Q' E' s' kk q
   unfold isType loadHead
   exact wpAny_bind (wpAny_loadPart (kk _ _ (X _ _ ho)) (wpAny_pure q))
  ·cases h
 ne := fun h tp dd its n sl X htp => by
  have h := k.cls
  refine Bool.eq_false_iff.mpr fun q => ?_
  have z : c = tp := Value.ref.inj (beq_iff_eq.mp q)
  subst z
  unfold clsIn at h
  split at h
  ·rename_i c' d' cd' sl' ho
   cases (X _ _ ho).symm.trans htp
  ·cases h
 ca := fun X p kk => xT k X p kk
end
end PX
namespace PD
open PySem PySem.Spec PyProof.Rows L2 PX
abbrev St := L2.St
def NT : HO -> Prop
 | .tbl _ => False
 | _ => True
def yN : Str := "lightest.<locals>.<lambda>"
def wz (c : Addr) : Heap -> Prop := fun h => h.CodeRec (.ref c) yN
def cS (H : Hp) : Prop := ∀ P ps, H P = some (.tbl ps) -> TriplesOk ps.toList /\ ∀ pos cv, codeAmong pos ps.toList = some cv -> ∃ c, cv = .ref c /\ H c = some (.ext (wz c))
def tabOf (K : PySem.W.Frag) : Option Addr :=
 match PySem.W.nsIn K mainGlobals "lightest" with
 | some (some (.ref f)) => (match K.lookup f with
  | some ⟨_, _, .func fd, _⟩ => (match fd.code with
   | .ref c => (match K.lookup c with
    | some ⟨_, _, .fields vs, _⟩ => (match (vs[11]? : Option Value) with
     | some (.ref P) => if (K.lookup P).isNone = true then some P else none
     | _ => none)
    | _ => none)
   | _ => none)
  | _ => none)
 | _ => none
structure ai (H H' : Hp) : Prop where
 kp : ∀ b o, H b = some o -> NT o -> H' b = some o
 tb : ∀ b ps, H b = some (.tbl ps) -> ∃ more, H' b = some (.tbl (ps ++ more))
 ok : cS H -> cS H'
theorem ai.app {H H' : Hp} (e : ai H H') (b : Addr) (o : HO) (h : H b = some o) (nt : NT o := by first | exact True.intro | assumption) : H' b = some o := e.kp b o h nt
instance {H H' : Hp} : CoeFun (ai H H') (fun _ => ∀ (b : Addr) (o : HO), H b = some o -> (nt : NT o := by first | exact True.intro | assumption) -> H' b = some o) := ⟨@ai.app H H'⟩
theorem ai.refl (H : Hp) : ai H H := ⟨fun _ _ h _ => h, fun _ ps h => ⟨#[], by rw [h]; simp⟩, id⟩
theorem ai.trans {H H1 H2 : Hp} (a : ai H H1) (b : ai H1 H2) : ai H H2 := ⟨fun c o h n => b.kp c o (a.kp c o h n) n, fun c ps h => by
 obtain ⟨m1, e1⟩ := a.tb c ps h
 obtain ⟨m2, e2⟩ := b.tb c _ e1
 exact ⟨m1 ++ m2, by rw [e2, Array.append_assoc]⟩, fun h => b.ok (a.ok h)⟩
theorem ai.ex {H H' : Hp} (e : ai H H') {b : Addr} {o : HO} (h : H b = some o) : ∃ o', H' b = some o' := by
 by_cases n : NT o
 ·exact ⟨o, e.kp b o h n⟩
 ·cases o with
  | tbl ps =>
   obtain ⟨m, q⟩ := e.tb b ps h
   exact ⟨_, q⟩
  | _ => exact absurd True.intro n
theorem ai.free {H H' : Hp} (e : ai H H') {l : Addr} (h : H' l = Option.none) : H l = Option.none := by
 cases q : H l with
 | none => rfl
 | some o =>
  obtain ⟨o', z⟩ := e.ex q
  rw [h] at z; cases z
theorem ai.seq {K : PySem.W.Frag} {H H' : Hp} {a : Addr} {xs : List V} (e : ai H H') (h : SqL K H a xs) : SqL K H' a xs := by
 rcases h with (h | ⟨o, h⟩) | h
 ·exact .inl (.inl (e _ _ h))
 ·exact .inl (.inr ⟨o, e _ _ h⟩)
 ·exact .inr h
theorem cS.upd {H : Hp} {p : Addr} {o : HO} (n : NT o) (hp : H p = none ∨ ∃ u, H p = some u /\ (∀ φ, u ≠ .ext φ) /\ NT u) (h : cS H) : cS (upd H p o) := by
 intro P ps e
 have hne : P ≠ p := fun z => by
  subst z
  rw [aA] at e
  cases e
  exact n
 rw [ar hne] at e
 obtain ⟨h1, h2⟩ := h P ps e
 refine ⟨h1, fun pos cv q => ?_⟩
 obtain ⟨c, e1, e2⟩ := h2 pos cv q
 refine ⟨c, e1, ?_⟩
 rw [ar fun z => ?_]
 ·exact e2
 ·subst z
  rcases hp with hp | ⟨u, hp, hu, _⟩
  ·rw [hp] at e2; cases e2
  ·rw [hp] at e2; cases e2; exact hu _ rfl
structure dj (K : PySem.W.Frag) (H : Hp) : Prop where
 ok : cS H
 at' : ∀ P, tabOf K = some P -> ∃ ps, H P = some (.tbl ps)
theorem dj.same {K : PySem.W.Frag} {H H' : Hp} (h : dj K H) (e : ai H H') : dj K H' := ⟨e.ok h.ok, fun P q => by
 obtain ⟨ps, z⟩ := h.at' P q
 obtain ⟨m, z⟩ := e.tb P ps z
 exact ⟨_, z⟩⟩
theorem dj.upd {K : PySem.W.Frag} {H : Hp} {p : Addr} {o : HO} (h : dj K H) (n : NT o) (hp : H p = none ∨ ∃ u, H p = some u /\ (∀ φ, u ≠ .ext φ) /\ NT u) : dj K (upd H p o) := ⟨cS.upd n hp h.ok, fun P q => by
 obtain ⟨ps, z⟩ := h.at' P q
 refine ⟨ps, ?_⟩
 rw [ar fun e => ?_]
 ·exact z
 ·subst e
  rcases hp with hp | ⟨u, hp, _, hu⟩
  ·rw [hp] at z; cases z
  ·rw [hp] at z; cases z; exact hu⟩
inductive D where
 | non | bl (b : Bool) | int (i : Int) | str (x : Str) | tup (ds : List D) | lst (t : Bool) (ds : List D) | exc (c : Addr)
def SqG (K : PySem.W.Frag) (H : Hp) (t : Bool) (a : Addr) (vs : List V) : Prop := SqL K H a vs /\ (t = true -> H a = some (.lst vs) /\ K.lookup a = none)
theorem SqG.same {K : PySem.W.Frag} {H H' : Hp} {t : Bool} {a : Addr} {vs : List V} (e : ai H H') (q : SqG K H t a vs) : SqG K H' t a vs := ⟨e.seq q.1, fun z => ⟨e _ _ (q.2 z).1, (q.2 z).2⟩⟩
theorem SqG.any {K : PySem.W.Frag} {H : Hp} {a : Addr} {vs : List V} (q : SqL K H a vs) : SqG K H false a vs := ⟨q, fun z => by cases z⟩
theorem SqG.new {K : PySem.W.Frag} {H : Hp} {t : Bool} {a : Addr} {vs : List V} (q : H a = some (.lst vs)) (k : K.lookup a = none) : SqG K H t a vs := ⟨SqL.of q, fun _ => ⟨q, k⟩⟩
mutual
def Den (K : PySem.W.Frag) (P : Bool -> Addr -> Prop) (H : Hp) : D -> V -> Prop
 | .non, v => v = .non
 | .bl b, v => v = .bl b
 | .int i, v => v = .int i
 | .str x, v => v = .str x
 | .tup ds, v => ∃ a vs, v = .ref a /\ SqT K H a vs /\ af K P H ds vs
 | .lst t ds, v => ∃ a vs, v = .ref a /\ ¬ P t a /\ SqG K H t a vs /\ af K P H ds vs
 | .exc c, v => ∃ e, v = .ref e /\ H e = some (.ext (ExcAt e c)) /\ cY K c
def af (K : PySem.W.Frag) (P : Bool -> Addr -> Prop) (H : Hp) : List D -> List V -> Prop
 | [], vs => vs = []
 | d :: ds, vs => ∃ v r, vs = v :: r /\ Den K P H d v /\ af K P H ds r
end
section
variable {K : PySem.W.Frag} {P P' : Bool -> Addr -> Prop} {H H' : Hp}
mutual
theorem Den.map (hT : ∀ a vs, SqT K H a vs -> SqT K H' a vs) (hL : ∀ t a vs, ¬ P t a -> SqG K H t a vs -> ¬ P' t a /\ SqG K H' t a vs) (hX : ∀ a φ, H a = some (.ext φ) -> H' a = some (.ext φ)) : ∀ (d : D) (v : V), Den K P H d v -> Den K P' H' d v
 | .non, _, h => by simpa only [Den] using h
 | .bl _, _, h => by simpa only [Den] using h
 | .int _, _, h => by simpa only [Den] using h
 | .str _, _, h => by simpa only [Den] using h
 | .tup ds, _, h => by
  simp only [Den] at h ⊢
  obtain ⟨a, vs, e, q, r⟩ := h
  exact ⟨a, vs, e, hT a vs q, af.map hT hL hX ds vs r⟩
 | .lst t ds, _, h => by
  simp only [Den] at h ⊢
  obtain ⟨a, vs, e, p, q, r⟩ := h
  exact ⟨a, vs, e, (hL t a vs p q).1, (hL t a vs p q).2, af.map hT hL hX ds vs r⟩
 | .exc c, _, h => by
  simp only [Den] at h ⊢
  obtain ⟨a, e, q, k⟩ := h
  exact ⟨a, e, hX a _ q, k⟩
theorem af.map (hT : ∀ a vs, SqT K H a vs -> SqT K H' a vs) (hL : ∀ t a vs, ¬ P t a -> SqG K H t a vs -> ¬ P' t a /\ SqG K H' t a vs) (hX : ∀ a φ, H a = some (.ext φ) -> H' a = some (.ext φ)) : ∀ (ds : List D) (vs : List V), af K P H ds vs -> af K P' H' ds vs
 | [], _, h => by simpa only [af] using h
 | d :: ds, _, h => by
  simp only [af] at h ⊢
  obtain ⟨v, r, e, h1, h2⟩ := h
  exact ⟨v, r, e, Den.map hT hL hX d v h1, af.map hT hL hX ds r h2⟩
end
end
theorem SqT.same {K : PySem.W.Frag} {H H' : Hp} {a : Addr} {xs : List V} (e : ai H H') (h : SqT K H a xs) : SqT K H' a xs := by
 rcases h with (h | ⟨o, h⟩) | h
 ·exact .inl (.inl (e _ _ h))
 ·exact .inl (.inr ⟨o, e _ _ h⟩)
 ·exact .inr h
section
variable {K : PySem.W.Frag} {P : Bool -> Addr -> Prop} {H H' : Hp}
theorem Den.same {d : D} {v : V} (e : ai H H') (h : Den K P H d v) : Den K P H' d v := Den.map (fun _ _ q => SqT.same e q) (fun _ _ _ p q => ⟨p, q.same e⟩) (fun a _ q => e a _ q) d v h
theorem af.same {ds : List D} {vs : List V} (e : ai H H') (h : af K P H ds vs) : af K P H' ds vs := af.map (fun _ _ q => SqT.same e q) (fun _ _ _ p q => ⟨p, q.same e⟩) (fun a _ q => e a _ q) ds vs h
theorem Den.fewer {P' : Bool -> Addr -> Prop} {d : D} {v : V} (e : ∀ t a, P' t a -> P t a) (h : Den K P H d v) : Den K P' H d v := Den.map (fun _ _ q => q) (fun _ _ _ p q => ⟨fun z => p (e _ _ z), q⟩) (fun _ _ q => q) d v h
theorem af.fewer {P' : Bool -> Addr -> Prop} {ds : List D} {vs : List V} (e : ∀ t a, P' t a -> P t a) (h : af K P H ds vs) : af K P' H ds vs := af.map (fun _ _ q => q) (fun _ _ _ p q => ⟨fun z => p (e _ _ z), q⟩) (fun _ _ q => q) ds vs h
theorem af.len : ∀ {ds : List D} {vs : List V}, af K P H ds vs -> vs.length = ds.length
 | [], _, h => by simp only [af] at h; subst h; rfl
 | d :: ds, _, h => by
  simp only [af] at h
  obtain ⟨v, r, rfl, _, h2⟩ := h
  simp [af.len h2]
theorem af.get : ∀ {ds : List D} {vs : List V} {i : Nat} {d : D}, af K P H ds vs -> ds[i]? = some d -> ∃ v, vs[i]? = some v /\ Den K P H d v
 | [], _, _, _, _, e => by simp at e
 | d :: ds, _, 0, _, h, e => by
  simp only [af] at h
  obtain ⟨v, r, rfl, h1, _⟩ := h
  simp at e; subst e
  exact ⟨v, rfl, h1⟩
 | d :: ds, _, i + 1, x, h, e => by
  simp only [af] at h
  obtain ⟨v, r, rfl, _, h2⟩ := h
  obtain ⟨u, e1, e2⟩ := af.get (i := i) (d := x) h2 (by simpa using e)
  exact ⟨u, by simpa using e1, e2⟩
theorem af.bf : ∀ {ds : List D} {vs : List V} {i : Nat} {v : V}, af K P H ds vs -> vs[i]? = some v -> ∃ d, ds[i]? = some d /\ Den K P H d v
 | [], _, _, _, h, e => by simp only [af] at h; subst h; simp at e
 | d :: ds, _, 0, _, h, e => by
  simp only [af] at h
  obtain ⟨v, r, rfl, h1, _⟩ := h
  simp at e; subst e
  exact ⟨d, rfl, h1⟩
 | d :: ds, _, i + 1, x, h, e => by
  simp only [af] at h
  obtain ⟨v, r, rfl, _, h2⟩ := h
  obtain ⟨u, e1, e2⟩ := af.bf (i := i) (v := x) h2 (by simpa using e)
  exact ⟨u, by simpa using e1, e2⟩
theorem af.append : ∀ {ds es : List D} {vs us : List V}, af K P H ds vs -> af K P H es us -> af K P H (ds ++ es) (vs ++ us)
 | [], _, _, _, h, h' => by simp only [af] at h; subst h; exact h'
 | d :: ds, _, _, _, h, h' => by
  simp only [af] at h
  obtain ⟨v, r, rfl, h1, h2⟩ := h
  simp only [List.cons_append, af]
  exact ⟨v, _, rfl, h1, af.append h2 h'⟩
theorem af.one {d : D} {v : V} (h : Den K P H d v) : af K P H [d] [v] := by
 simp only [af]
 exact ⟨v, [], rfl, h, rfl⟩
theorem af.nil : af K P H [] [] := by simp only [af]
theorem af.cons {d : D} {v : V} {ds : List D} {vs : List V} (h : Den K P H d v) (h' : af K P H ds vs) : af K P H (d :: ds) (v :: vs) := by
 simp only [af]
 exact ⟨v, vs, rfl, h, h'⟩
theorem Den.int_ {i : Int} {v : V} (h : Den K P H (.int i) v) : v = .int i := by simpa only [Den] using h
theorem Den.bl_ {b : Bool} {v : V} (h : Den K P H (.bl b) v) : v = .bl b := by simpa only [Den] using h
theorem Den.non_ {v : V} (h : Den K P H .non v) : v = .non := by simpa only [Den] using h
theorem Den.str_ {x : Str} {v : V} (h : Den K P H (.str x) v) : v = .str x := by simpa only [Den] using h
theorem Den.int (i : Int) : Den K P H (.int i) (.int i) := by simp only [Den]
theorem Den.bl (b : Bool) : Den K P H (.bl b) (.bl b) := by simp only [Den]
theorem Den.non : Den K P H .non .non := by simp only [Den]
theorem Den.str (x : Str) : Den K P H (.str x) (.str x) := by simp only [Den]
theorem Den.tup_ {ds : List D} {v : V} (h : Den K P H (.tup ds) v) : ∃ a vs, v = .ref a /\ SqT K H a vs /\ af K P H ds vs := by simpa only [Den] using h
theorem Den.lstG_ {t : Bool} {ds : List D} {v : V} (h : Den K P H (.lst t ds) v) : ∃ a vs, v = .ref a /\ ¬ P t a /\ SqG K H t a vs /\ af K P H ds vs := by simpa only [Den] using h
theorem Den.lst_ {t : Bool} {ds : List D} {v : V} (h : Den K P H (.lst t ds) v) : ∃ a vs, v = .ref a /\ ¬ P t a /\ SqL K H a vs /\ af K P H ds vs := by
 obtain ⟨a, vs, h1, h2, h3, h4⟩ := h.lstG_
 exact ⟨a, vs, h1, h2, h3.1, h4⟩
theorem Den.exc_ {c : Addr} {v : V} (h : Den K P H (.exc c) v) : ∃ e, v = .ref e /\ H e = some (.ext (ExcAt e c)) /\ cY K c := by simpa only [Den] using h
theorem Den.exc {c e : Addr} (h : H e = some (.ext (ExcAt e c))) (k : cY K c) : Den K P H (.exc c) (.ref e) := by simp only [Den]; exact ⟨e, rfl, h, k⟩
theorem Den.tup {ds : List D} {a : Addr} {vs : List V} (h : SqT K H a vs) (h' : af K P H ds vs) : Den K P H (.tup ds) (.ref a) := by simp only [Den]; exact ⟨a, vs, rfl, h, h'⟩
theorem Den.lst {t : Bool} {ds : List D} {a : Addr} {vs : List V} (p : ¬ P t a) (h : SqG K H t a vs) (h' : af K P H ds vs) : Den K P H (.lst t ds) (.ref a) := by simp only [Den]; exact ⟨a, vs, rfl, p, h, h'⟩
end
inductive LI where
 | own (ds : List D) | val (d : D)
inductive OS where
 | lst (ds : List D) | dk (kvs : List (Key × D)) | dt (kvs : List (List Key × D)) | ll (xs : List LI)
inductive Sl where
 | val (d : D)
 | ob (x : OS)
abbrev Sl.own (ds : List D) : Sl := .ob (.lst ds)
def aF (K : PySem.W.Frag) (P : Bool -> Addr -> Prop) (H : Hp) (B : Nat -> Option Addr) : Nat -> List LI -> List V -> Prop
 | _, [], vs => vs = []
 | k, .own ds :: r, vs => ∃ b us u, vs = .ref b :: u /\ B k = some b /\ H b = some (.lst us) /\ af K P H ds us /\ aF K P H B (k + 1) r u
 | k, .val d :: r, vs => ∃ v u, vs = v :: u /\ Den K P H d v /\ aF K P H B (k + 1) r u
theorem aF.map {K : PySem.W.Frag} {P P' : Bool -> Addr -> Prop} {H H' : Hp} {B B' : Nat -> Option Addr} (hd : ∀ ds vs, af K P H ds vs -> af K P' H' ds vs) (hB : ∀ k b, B k = some b -> B' k = some b /\ ∀ us, H b = some (.lst us) -> H' b = some (.lst us)) : ∀ {k : Nat} {xs : List LI} {vs : List V}, aF K P H B k xs vs -> aF K P' H' B' k xs vs
 | _, [], _, h => by simpa only [aF] using h
 | k, .own ds :: r, _, h => by
  simp only [aF] at h ⊢
  obtain ⟨b, us, u, e, h1, h2, h3, h4⟩ := h
  exact ⟨b, us, u, e, (hB k b h1).1, (hB k b h1).2 us h2, hd ds us h3, aF.map hd hB h4⟩
 | k, .val d :: r, _, h => by
  simp only [aF] at h ⊢
  obtain ⟨v, u, e, h1, h2⟩ := h
  have h3 := hd [d] [v] (af.one h1)
  simp only [af] at h3
  obtain ⟨v', r', e', h4, _⟩ := h3
  cases e'
  exact ⟨v, u, e, h4, aF.map hd hB h2⟩
inductive bW (K : PySem.W.Frag) (P : Bool -> Addr -> Prop) (H : Hp) (B : Nat -> Option Addr) : OS -> HO -> Prop where
 | lst {ds : List D} {vs : List V} (h : af K P H ds vs) : bW K P H B (.lst ds) (.lst vs)
 | ll {xs : List LI} {vs : List V} (h : aF K P H B 0 xs vs) : bW K P H B (.ll xs) (.lst vs)
 | dk {kvs : List (Key × D)} {kws : List (Key × V)} (e : kws.map (·.1) = kvs.map (·.1)) (h : af K P H (kvs.map (·.2)) (kws.map (·.2))) : bW K P H B (.dk kvs) (.dK kws)
 | dt {kvs : List (List Key × D)} {kws : List (List Key × V)} (e : kws.map (·.1) = kvs.map (·.1)) (h : af K P H (kvs.map (·.2)) (kws.map (·.2))) : bW K P H B (.dt kvs) (.dT kws)
def hV : HO -> Prop
 | .lst _ => True | .dK _ => True | .dT _ => True | _ => False
theorem hV.nt {o : HO} (h : hV o) : NT o := by cases o <;> first | exact True.intro | exact h.elim
theorem hV.ne {o : HO} (h : hV o) : ∀ φ, o ≠ .ext φ := fun _ e => by subst e; exact h
section
variable {K : PySem.W.Frag} {P P' : Bool -> Addr -> Prop} {H H' : Hp} {B B' : Nat -> Option Addr} {x : OS} {o : HO}
theorem bW.map (k : ∀ ds vs, af K P H ds vs -> af K P' H' ds vs) (hB : ∀ k b, B k = some b -> B' k = some b /\ ∀ us, H b = some (.lst us) -> H' b = some (.lst us)) (h : bW K P H B x o) : bW K P' H' B' x o := by
 cases h with
 | lst h => exact .lst (k _ _ h)
 | ll h => exact .ll (h.map k hB)
 | dk e h => exact .dk e (k _ _ h)
 | dt e h => exact .dt e (k _ _ h)
theorem bW.same (e : ai H H') (h : bW K P H B x o) : bW K P H' B x o := h.map (fun _ _ z => z.same e) fun _ _ q => ⟨q, fun _ z => e _ _ z⟩
theorem bW.fewer (e : ∀ t a, P' t a -> P t a) (hB : ∀ k b, B k = some b -> B' k = some b) (h : bW K P H B x o) : bW K P' H B' x o := h.map (fun _ _ z => z.fewer e) fun k b q => ⟨hB k b q, fun _ z => z⟩
theorem bW.mut (h : bW K P H B x o) : hV o := by cases h <;> exact True.intro
theorem bW.lst_ {ds : List D} (h : bW K P H B (.lst ds) o) : ∃ vs, o = .lst vs /\ af K P H ds vs := by
 cases h with
 | lst h => exact ⟨_, rfl, h⟩
end
abbrev Ro := List (Option Sl)
structure Own where
 B : Addr -> Prop
 O : Nat -> Option Addr
 S : Addr -> Prop
def Own.bad (W : Own) (t : Bool) (a : Addr) : Prop := W.B a ∨ (∃ i, W.O i = some a) ∨ (t = true /\ W.S a)
def Own.drop (W : Own) (i : Nat) : Own := ⟨W.B, fun j => if j = i then none else W.O j, W.S⟩
def Own.put (W : Own) (i : Nat) (a : Addr) : Own := ⟨W.B, fun j => if j = i then some a else W.O j, W.S⟩
theorem Own.drop_bad {W : Own} {i : Nat} {t : Bool} {a : Addr} (h : (W.drop i).bad t a) : W.bad t a := by
 rcases h with h | ⟨j, h⟩ | h
 ·exact .inl h
 ·have h' : (if j = i then none else W.O j) = some a := h
  by_cases e : j = i
  ·rw [if_pos e] at h'; cases h'
  ·rw [if_neg e] at h'; exact .inr (.inl ⟨j, h'⟩)
 ·exact .inr (.inr h)
theorem Own.bad_up {W : Own} {t : Bool} {a : Addr} (h : W.bad false a) : W.bad t a := by
 rcases h with h | h | ⟨h, _⟩
 ·exact .inl h
 ·exact .inr (.inl h)
 ·cases h
def vix (n i k : Nat) : Nat := n * (k + 1) + i
theorem oo {n i j k : Nat} (h : j < n) : vix n i k ≠ j := fun e => by
 unfold vix at e
 rw [Nat.mul_add] at e
 omega
abbrev Own.sub (W : Own) (n i : Nat) (k : Nat) : Option Addr := W.O (vix n i k)
theorem Own.drop_sub {W : Own} {n i j : Nat} (h : i < n) (k : Nat) (b : Addr) (e : W.sub n j k = some b) : (W.drop i).sub n j k = some b := by
 show (if vix n j k = i then none else W.O (vix n j k)) = _
 rw [if_neg (oo h)]
 exact e
structure Rel (X : Cx) (W : Own) (H : Hp) (σ : St) (ρ : Ro) : Prop where
 val : ∀ (i : Nat) (d : D), ρ[i]? = some (some (Sl.val d)) -> ∃ v, σ[i]? = some (some v) /\ Den X.K W.bad H d v
 own : ∀ (i : Nat) (x : OS), ρ[i]? = some (some (Sl.ob x)) -> ∃ a o, W.O i = some a /\ σ[i]? = some (some (.ref a)) /\ H a = some o /\ bW X.K W.bad H (W.sub σ.length i) x o
 inj : ∀ i j a, W.O i = some a -> W.O j = some a -> i = j
 kn : ∀ i a, W.O i = some a -> X.K.lookup a = none /\ (¬ W.B a /\ ¬ W.S a) /\ ∃ o, H a = some o /\ hV o
 ke : ∀ i a, W.O i = some a -> X.H₀ a = none
 bt : ∀ a, W.B a -> ∃ o, H a = some o
 st : ∀ a, W.S a -> ∃ o, H a = some o
 ent : ai X.H₀ H
 tab : dj X.K H
theorem Rel.same {X : Cx} {W : Own} {H H' : Hp} {σ : St} {ρ : Ro} (r : Rel X W H σ ρ) (e : ai H H') : Rel X W H' σ ρ where
 val := fun i d h => let ⟨v, h1, h2⟩ := r.val i d h; ⟨v, h1, h2.same e⟩
 own := fun i ds h => let ⟨a, vs, h1, h2, h3, h4⟩ := r.own i ds h; ⟨a, vs, h1, h2, e.kp _ _ h3 h4.mut.nt, h4.same e⟩
 inj := r.inj
 kn := fun i a h => let ⟨h1, h2, o, h3, h4⟩ := r.kn i a h; ⟨h1, h2, o, e.kp _ _ h3 h4.nt, h4⟩
 ke := r.ke
 bt := fun a h => let ⟨_, q⟩ := r.bt a h; e.ex q
 st := fun a h => let ⟨_, q⟩ := r.st a h; e.ex q
 ent := r.ent.trans e
 tab := r.tab.same e
theorem Rel.ownL {X : Cx} {W : Own} {H : Hp} {σ : St} {ρ : Ro} (r : Rel X W H σ ρ) (i : Nat) (ds : List D) (h : ρ[i]? = some (some (Sl.own ds))) : ∃ a vs, W.O i = some a /\ σ[i]? = some (some (.ref a)) /\ H a = some (.lst vs) /\ af X.K W.bad H ds vs := by
 obtain ⟨a, o, h1, h2, h3, h4⟩ := r.own i _ h
 obtain ⟨vs, e, h5⟩ := h4.lst_
 subst e
 exact ⟨a, vs, h1, h2, h3, h5⟩
theorem Rel.tracked {X : Cx} {W : Own} {H : Hp} {σ : St} {ρ : Ro} (r : Rel X W H σ ρ) (t : Bool) (a : Addr) (h : W.bad t a) : ∃ o, H a = some o := by
 rcases h with h | ⟨i, h⟩ | ⟨_, h⟩
 ·exact r.bt a h
 ·obtain ⟨_, _, o, q, _⟩ := r.kn i a h
  exact ⟨_, q⟩
 ·exact r.st a h
theorem Rel.fresh {X : Cx} {W : Own} {H : Hp} {σ : St} {ρ : Ro} (r : Rel X W H σ ρ) {t : Bool} {p : Addr} (h : H p = none) : ¬ W.bad t p := fun z => by
 obtain ⟨o, q⟩ := r.tracked t p z
 rw [h] at q; cases q
structure Fwd (W : Own) (H : Hp) (W' : Own) (H' : Hp) : Prop where
 B : W'.B = W.B
 S : W'.S = W.S
 kp : ∀ b o, (∀ i, W.O i ≠ some b) -> H b = some o -> NT o -> H' b = some o
 new : ∀ i a, W'.O i = some a -> (∃ j, W.O j = some a) ∨ H a = none
 tb : ∀ b ps, H b = some (.tbl ps) -> ∃ more, H' b = some (.tbl (ps ++ more))
 ok : cS H -> cS H'
theorem Fwd.keep {W W' : Own} {H H' : Hp} (f : Fwd W H W' H') (b : Addr) (o : HO) (h : ∀ i, W.O i ≠ some b) (q : H b = some o) (nt : NT o := by first | exact True.intro | assumption) : H' b = some o := f.kp b o h q nt
theorem Fwd.ex {W W' : Own} {H H' : Hp} (f : Fwd W H W' H') {b : Addr} {o : HO} (h : ∀ i, W.O i ≠ some b) (q : H b = some o) : ∃ o', H' b = some o' := by
 by_cases n : NT o
 ·exact ⟨o, f.kp b o h q n⟩
 ·cases o with
  | tbl ps =>
   obtain ⟨m, e⟩ := f.tb b ps q
   exact ⟨_, e⟩
  | _ => exact absurd True.intro n
theorem Fwd.refl (W : Own) (H : Hp) : Fwd W H W H := ⟨rfl, rfl, fun _ _ _ h _ => h, fun i _ h => .inl ⟨i, h⟩, fun _ ps h => ⟨#[], by rw [h]; simp⟩, id⟩
theorem Fwd.trans {W W1 W2 : Own} {H H1 H2 : Hp} (a : Fwd W H W1 H1) (b : Fwd W1 H1 W2 H2) : Fwd W H W2 H2 := by
 refine ⟨b.B.trans a.B, b.S.trans a.S, fun x o n h t => b.kp x o (fun i z => ?_) (a.kp x o n h t) t, fun i x h => ?_, fun c ps h => ?_, fun h => b.ok (a.ok h)⟩
 ·rcases a.new i x z with ⟨j, q⟩ | q
  ·exact n j q
  ·rw [h] at q; cases q
 ·rcases b.new i x h with ⟨j, q⟩ | q
  ·exact a.new j x q
  ·by_cases z : ∃ j, W.O j = some x
   ·exact .inl z
   ·refine .inr ?_
    cases e : H x with
    | none => rfl
    | some o =>
     obtain ⟨o', this⟩ := a.ex (fun i w => z ⟨i, w⟩) e
     rw [this] at q; cases q
 ·obtain ⟨m1, e1⟩ := a.tb c ps h
  obtain ⟨m2, e2⟩ := b.tb c _ e1
  exact ⟨m1 ++ m2, by rw [e2, Array.append_assoc]⟩
theorem Fwd.same {W : Own} {H H' : Hp} (e : ai H H') : Fwd W H W H' := ⟨rfl, rfl, fun _ _ _ h n => e.kp _ _ h n, fun i _ h => .inl ⟨i, h⟩, e.tb, e.ok⟩
theorem ai.ins {H₀ H : Hp} (e : ai H₀ H) {a : Addr} {o o' : HO} (h0 : H₀ a = none) (ha : H a = some o) (hm : hV o) (hn : NT o') : ai H₀ (upd H a o') :=
 ⟨fun b u h n => by rw [ar (aH h h0)]; exact e.kp b u h n, fun b ps h => by rw [ar (aH h h0)]; exact e.tb b ps h, fun h => cS.upd hn (.inr ⟨o, ha, hm.ne, hm.nt⟩) (e.ok h)⟩
theorem Fwd.upd {W : Own} {H : Hp} {i : Nat} {a : Addr} {o o' : HO} (oa : W.O i = some a) (ha : H a = some o) (hm : hV o) (hn : NT o') : Fwd W H W (upd H a o') :=
 ⟨rfl, rfl, fun b u n h _ => by rw [ar fun e => n i (by rw [e]; exact oa)]; exact h, fun j _ h => .inl ⟨j, h⟩, fun b ps h => ⟨#[], by rw [ar (fun e => by subst e; rw [ha] at h; cases h; exact hm), h]; simp⟩, cS.upd hn (.inr ⟨o, ha, hm.ne, hm.nt⟩)⟩
structure gk where
 nx : Ro -> Prop
 rt : D -> Prop
 bk : Ro -> Prop := fun _ => False
 ct : Ro -> Prop := fun _ => False
abbrev DE := Ro -> (D -> Prop) -> Prop
abbrev DT := Ro -> (Bool -> Prop) -> Prop
abbrev DA := Ro -> (List D -> Prop) -> Prop
abbrev DS := gk -> Ro -> Prop
def DP (X : Cx) (pins : List (Addr × Obj)) (σ : St) (W : Own) (H : Hp) (Q : D -> Prop) (u : Value) (s' : Shared) : Prop :=
 ∃ v H' d, Inv X pins σ H' s' /\ RelV v u /\ ai H H' /\ Den X.K W.bad H' d v /\ Q d
def DTP (X : Cx) (pins : List (Addr × Obj)) (σ : St) (H : Hp) (Q : Bool -> Prop) (b : Bool) (s' : Shared) : Prop :=
 ∃ H', Inv X pins σ H' s' /\ ai H H' /\ Q b
def DAP (X : Cx) (pins : List (Addr × Obj)) (σ : St) (W : Own) (H : Hp) (Q : List D -> Prop) (us : List Value) (s' : Shared) : Prop :=
 ∃ vs H' ds, Inv X pins σ H' s' /\ Vals vs us /\ ai H H' /\ af X.K W.bad H' ds vs /\ Q ds
def SPD (X : Cx) (pins : List (Addr × Obj)) (W : Own) (H : Hp) (E : gk) (f : Flow) (s' : Shared) : Prop :=
 ∃ W' σ' H', Inv X pins σ' H' s' /\ Fwd W H W' H' ∧
 match f with
 | .next => ∃ ρ', Rel X W' H' σ' ρ' /\ E.nx ρ'
 | .brk => ∃ ρ', Rel X W' H' σ' ρ' /\ E.bk ρ'
 | .cont => ∃ ρ', Rel X W' H' σ' ρ' /\ E.ct ρ'
 | .ret u => ∃ v d, RelV v u /\ Den X.K W'.bad H' d v /\ E.rt d
def PED (X : Cx) (e : Expr) (t : DE) : Prop :=
 ∀ (pins : List (Addr × Obj)) (s : Shared) (σ : St) (H : Hp) (W : Own) (ρ : Ro) (Q : D -> Prop), Inv X pins σ H s -> Rel X W H σ ρ -> t ρ Q →
  wpAny (model X.prog X.w) X.A (eval e X.env) (DP X pins σ W H Q) X.xe s
def PTD (X : Cx) (e : Expr) (t : DT) : Prop :=
 ∀ (pins : List (Addr × Obj)) (s : Shared) (σ : St) (H : Hp) (W : Own) (ρ : Ro) (Q : Bool -> Prop), Inv X pins σ H s -> Rel X W H σ ρ -> t ρ Q →
  wpAny (model X.prog X.w) X.A (isTrue e X.env (eval e X.env)) (DTP X pins σ H Q) X.xe s
def PWD (X : Cx) (e : Expr) (t : DT) : Prop :=
 ∀ (whole : Sem Value) (pins : List (Addr × Obj)) (s : Shared) (σ : St) (H : Hp) (W : Own) (ρ : Ro) (Q : Bool -> Prop), Inv X pins σ H s -> Rel X W H σ ρ -> t ρ Q →
  wpAny (model X.prog X.w) X.A (isTrue e X.env whole) (DTP X pins σ H Q) X.xe s
theorem PWD.pt {X : Cx} {e : Expr} {t : DT} (h : PWD X e t) : PTD X e t := h _
def PAD (X : Cx) (es : List Expr) (t : DA) : Prop :=
 ∀ (pos : Pos) (pins : List (Addr × Obj)) (s : Shared) (σ : St) (H : Hp) (W : Own) (ρ : Ro) (Q : List D -> Prop), Inv X pins σ H s -> Rel X W H σ ρ -> t ρ Q →
  wpAny (model X.prog X.w) X.A (spliced (backTo pos (starEach es X.env))) (DAP X pins σ W H Q) X.xe s
def PSD (X : Cx) (st : Stmt) (t : DS) : Prop :=
 ∀ (pins : List (Addr × Obj)) (s : Shared) (σ : St) (H : Hp) (W : Own) (ρ : Ro) (E : gk), Inv X pins σ H s -> Rel X W H σ ρ -> t E ρ →
  wpAny (model X.prog X.w) X.A (exec st X.env) (SPD X pins W H E) X.xe s
def bR (X : Cx) (st : List Stmt) (t : DS) : Prop :=
 ∀ (pins : List (Addr × Obj)) (s : Shared) (σ : St) (H : Hp) (W : Own) (ρ : Ro) (E : gk), Inv X pins σ H s -> Rel X W H σ ρ -> t E ρ →
  wpAny (model X.prog X.w) X.A (execs st X.env) (SPD X pins W H E) X.xe s
def qw (X : Cx) (t : DE) : TE := fun σ H Q => ∃ W ρ Qd, Rel X W H σ ρ /\ t ρ Qd /\ ∀ v H' d, ai H H' -> Den X.K W.bad H' d v -> Qd d -> Q v H'
def yi (X : Cx) (t : DS) : TS := fun D σ H => ∃ W ρ Ed, Rel X W H σ ρ /\ t Ed ρ ∧
 (∀ W' σ' H' ρ', Fwd W H W' H' -> Rel X W' H' σ' ρ' -> Ed.nx ρ' -> D.nx σ' H') ∧
 (∀ W' H' v d, Fwd W H W' H' -> Den X.K W'.bad H' d v -> Ed.rt d -> D.rt v H') ∧
 (∀ W' σ' H' ρ', Fwd W H W' H' -> Rel X W' H' σ' ρ' -> Ed.bk ρ' -> D.bk σ' H') ∧
 (∀ W' σ' H' ρ', Fwd W H W' H' -> Rel X W' H' σ' ρ' -> Ed.ct ρ' -> D.ct σ' H')
section
variable {X : Cx}
theorem PED.pe {e : Expr} {t : DE} (h : PED X e t) : PE X e (qw X t) := by
 intro pins s σ H Q I q
 obtain ⟨W, ρ, Qd, r, ht, k⟩ := q
 exact thn (h pins s σ H W ρ Qd I r ht) fun u s1 ⟨v, H', d, I1, rv, e1, hd, qd⟩ => ⟨v, H', I1, rv, k v H' d e1 hd qd⟩
theorem bR.ps {st : List Stmt} {t : DS} (h : bR X st t) : PSs X st (yi X t) := by
 intro pins s σ H D I q
 obtain ⟨W, ρ, Ed, r, ht, k1, k2, k3, k4⟩ := q
 refine thn (h pins s σ H W ρ Ed I r ht) fun f s1 ⟨W', σ', H', I1, fw, q⟩ => ?_
 cases f with
 | next => obtain ⟨ρ', r', q'⟩ := q; exact ⟨σ', H', I1, k1 W' σ' H' ρ' fw r' q'⟩
 | brk => obtain ⟨ρ', r', q'⟩ := q; exact ⟨σ', H', I1, k3 W' σ' H' ρ' fw r' q'⟩
 | cont => obtain ⟨ρ', r', q'⟩ := q; exact ⟨σ', H', I1, k4 W' σ' H' ρ' fw r' q'⟩
 | ret u => obtain ⟨v, d, rv, hd, q'⟩ := q; exact ⟨v, σ', H', I1, rv, k2 W' H' v d fw hd q'⟩
theorem PED.of {e : Expr} {te : TE} {t : DE} (h : PE X e te) (k : ∀ σ H W ρ Q, Rel X W H σ ρ -> t ρ Q -> te σ H fun v H' => ai H H' /\ ∃ d, Den X.K W.bad H' d v /\ Q d) : PED X e t := by
 intro pins s σ H W ρ Q I r ht
 exact thn (h pins s σ H _ I (k σ H W ρ Q r ht)) fun u s1 ⟨v, H', I1, rv, e1, d, hd, q⟩ => ⟨v, H', d, I1, rv, e1, hd, q⟩
end
section
variable {X : Cx} {a b c : Expr} {ta tb : DE} {pos : Pos}
def iQ (i : Nat) : DE := fun ρ Q => ∃ d, ρ[i]? = some (some (.val d)) /\ Q d
def dC (d : D) : DE := fun _ Q => Q d
theorem dv (i : Nat) {x : Str} {pos : Pos} (hN : X.N[i]? = some x := by rfl) (hv : Vis X.env.scope x := by first | exact Or.inl rfl | exact Or.inr (Or.inl rfl) | exact Or.inr (Or.inr rfl)) (hd : (x == ("__debug__" : Str)) = false := by decide)
  (hcd : (x == ("__classdict__" : Str)) = false := by decide) : PED X (.Name x pos) (iQ i) :=
 PED.of (gW hN hv hd hcd) fun σ H W ρ Q r ht => by
  obtain ⟨d, e, q⟩ := ht
  obtain ⟨v, e1, e2⟩ := r.val i d e
  exact ⟨v, e1, ai.refl H, d, e2, q⟩
theorem ae {i j pos} : PED X (.Constant (.int i) j pos) (dC (.int i)) := PED.of kx fun _ H _ _ _ _ q => ⟨ai.refl H, _, Den.int i, q⟩
theorem dm {i j pos} : PED X (.Constant (.bool i) j pos) (dC (.bl i)) := PED.of yx fun _ H _ _ _ _ q => ⟨ai.refl H, _, Den.bl i, q⟩
theorem gL {j pos} : PED X (.Constant .none j pos) (dC .non) := PED.of xy fun _ H _ _ _ _ q => ⟨ai.refl H, _, Den.non, q⟩
theorem mW {x j pos} : PED X (.Constant (.str x) j pos) (dC (.str x)) := PED.of sQ fun _ H _ _ _ _ q => ⟨ai.refl H, _, Den.str x, q⟩
abbrev RD2 := D -> D -> (D -> Prop) -> Prop
def OpD (X : Cx) (f : Value -> Value -> Sem Value) (r : RD2) : Prop :=
 ∀ (pins : List (Addr × Obj)) (s : Shared) (σ : St) (H : Hp) (W : Own) (x y : D) (v u : V) (vv uu : Value) (Q : D -> Prop), Inv X pins σ H s -> (∀ t a, W.bad t a -> ∃ o, H a = some o) -> RelV v vv -> RelV u uu -> Den X.K W.bad H x v -> Den X.K W.bad H y u -> r x y Q →
  wpAny (model X.prog X.w) X.A (f vv uu) (DP X pins σ W H Q) X.xe s
def dOp (r : RD2) (ta tb : DE) : DE := fun ρ Q => ta ρ fun x => tb ρ fun y => r x y Q
theorem qa (ha : PED X a ta) (hb : PED X b tb) {pins : List (Addr × Obj)} {s : Shared} {σ : St} {H : Hp} {W : Own} {ρ : Ro} {R : D -> D -> Prop} (I : Inv X pins σ H s) (r : Rel X W H σ ρ) (h : ta ρ fun x => tb ρ fun y => R x y)
  {α : Type} {Q : α -> Shared -> Prop} {f : Value -> Value -> Sem α}
  (hf : ∀ vv uu s2 v u x y H2, Inv X pins σ H2 s2 -> ai H H2 -> RelV v vv -> RelV u uu -> Den X.K W.bad H2 x v -> Den X.K W.bad H2 y u -> R x y -> wpAny (model X.prog X.w) X.A (f vv uu) Q X.xe s2) :
  wpAny (model X.prog X.w) X.A (eval a X.env) (fun v s₁ => wpAny (model X.prog X.w) X.A (eval b X.env) (fun u s₂ => wpAny (model X.prog X.w) X.A (f v u) Q X.xe s₂) X.xe s₁) X.xe s := by
 refine thn (ha pins s σ H W ρ _ I r h) fun vv s1 ⟨v, H1, x, I1, rv, e1, hx, q1⟩ => ?_
 refine thn (hb pins s1 σ H1 W ρ _ I1 (r.same e1) q1) fun uu s2 ⟨u, H2, y, I2, ru, e2, hy, q2⟩ => ?_
 exact hf vv uu s2 v u x y H2 I2 (e1.trans e2) rv ru (hx.same e2) hy q2
theorem DP.up {pins : List (Addr × Obj)} {σ : St} {W : Own} {H H1 : Hp} {Q : D -> Prop} {u : Value} {s' : Shared} (e : ai H H1) (h : DP X pins σ W H1 Q u s') : DP X pins σ W H Q u s' := by
 obtain ⟨v, H', d, I, r, e1, hd, q⟩ := h
 exact ⟨v, H', d, I, r, e.trans e1, hd, q⟩
theorem aj {op : Operator} {r : RD2} (ho : OpD X (binaryOp op) r) (ha : PED X a ta) (hb : PED X b tb) : PED X (.BinOp a op b pos) (dOp r ta tb) := by
 intro pins s σ H W ρ Q I rr h
 refine wpAny_BinOp (qa ha hb I rr h fun vv uu s2 v u x y H2 I2 e rv ru hx hy q => ?_)
 exact thn (ho pins s2 σ H2 W x y v u vv uu Q I2 (rr.same e).tracked rv ru hx hy q) fun _ _ z => z.up e
theorem x9 {op : UnaryOp} {r : V -> Hp -> VK -> Prop} {rd : D -> (D -> Prop) -> Prop} (ho : UnR X (unaryOp op) r) (ha : PED X a ta)
  (k : ∀ P H d v Q, Den X.K P H d v -> rd d Q -> r v H fun v' H' => ai H H' /\ ∃ d', Den X.K P H' d' v' /\ Q d') : PED X (.UnaryOp op a pos) (fun ρ Q => ta ρ fun x => rd x Q) := by
 intro pins s σ H W ρ Q I rr h
 refine UnaryOp_ (thn (ha pins s σ H W ρ _ I rr h) fun vv s1 ⟨v, H1, x, I1, rv, e1, hx, q1⟩ => ?_)
 exact thn (ho pins s1 σ H1 v vv _ I1 rv (k _ H1 x v Q hx q1)) fun u s2 ⟨w', H2, I2, r2, e2, d, hd, q2⟩ => ⟨w', H2, d, I2, r2, e1.trans e2, hd, q2⟩
def tQ (ta : DE) : DE := fun ρ Q => ta ρ fun x => ∃ i, x = .int i /\ Q (.int (-i))
theorem fK (ha : PED X a ta) : PED X (.UnaryOp .USub a pos) (tQ ta) :=
 x9 (rd := fun x Q => ∃ i, x = .int i /\ Q (.int (-i))) xS ha fun P H d v Q hd ⟨i, e, q⟩ => by
  subst e
  exact ⟨i, hd.int_, ai.refl H, _, Den.int _, q⟩
theorem OpD.of {f : Value -> Value -> Sem Value} {r : R2} {rd : RD2} (h : OpR X f r) (k : ∀ P H x y v u Q, Den X.K P H x v -> Den X.K P H y u -> rd x y Q -> r v u H fun v' H' => ai H H' /\ ∃ d', Den X.K P H' d' v' /\ Q d') : OpD X f rd := by
 intro pins s σ H W x y v u vv uu Q I _ rv ru hx hy q
 exact thn (h pins s σ H v u vv uu _ I rv ru (k _ H x y v u Q hx hy q)) fun _ s2 ⟨w', H2, I2, r2, e2, d, hd, q2⟩ => ⟨w', H2, d, I2, r2, e2, hd, q2⟩
def rdI (C : Int -> Int -> Prop) (g : Int -> Int -> D) : RD2 := fun x y Q => ∃ i j, x = .int i /\ y = .int j /\ C i j /\ Q (g i j)
def fN (g : Int -> Int -> D) : RD2 := fun x y Q => ∃ i j, x = .int i /\ y = .int j /\ Q (g i j)
theorem OpD.ofI {f : Value -> Value -> Sem Value} {C : Int -> Int -> Prop} {g : Int -> Int -> Int} (h : OpR X f (rI C fun i j => .int (g i j))) : OpD X f (rdI C fun i j => .int (g i j)) :=
 OpD.of h fun P H x y v u Q hx hy ⟨i, j, e1, e2, hc, q⟩ => by
  subst e1 e2
  exact ⟨i, j, hx.int_, hy.int_, hc, ai.refl H, _, Den.int _, q⟩
theorem OpD.ofI0 {f : Value -> Value -> Sem Value} {g : Int -> Int -> Int} (h : OpR X f (rI0 fun i j => .int (g i j))) : OpD X f (fN fun i j => .int (g i j)) :=
 OpD.of h fun P H x y v u Q hx hy ⟨i, j, e1, e2, q⟩ => by
  subst e1 e2
  exact ⟨i, j, hx.int_, hy.int_, ai.refl H, _, Den.int _, q⟩
theorem OpD.ofB0 {f : Value -> Value -> Sem Value} {g : Int -> Int -> Bool} (h : OpR X f (rI0 fun i j => .bl (g i j))) : OpD X f (fN fun i j => .bl (g i j)) :=
 OpD.of h fun P H x y v u Q hx hy ⟨i, j, e1, e2, q⟩ => by
  subst e1 e2
  exact ⟨i, j, hx.int_, hy.int_, ai.refl H, _, Den.bl _, q⟩
theorem xm : OpD X (binaryOp .Add) (fN fun i j => .int (i + j)) := OpD.ofI0 xt
theorem aL : OpD X (binaryOp .Sub) (fN fun i j => .int (i - j)) := OpD.ofI0 xw
theorem iv : OpD X (compareOp .Lt) (fN fun i j => .bl (decide (i < j))) := OpD.ofB0 yu
theorem yo : OpD X (compareOp .LtE) (fN fun i j => .bl (decide (i <= j))) := OpD.ofB0 yt
theorem iu : OpD X (compareOp .Gt) (fN fun i j => .bl (decide (j < i))) := OpD.ofB0 yr
theorem yn : OpD X (compareOp .GtE) (fN fun i j => .bl (decide (j <= i))) := OpD.ofB0 yq
def Bd (n : Nat) (x : Int) : Prop := x.natAbs < 2 ^ n
theorem Bd.mono {m n : Nat} {x : Int} (h : Bd m x) (l : m <= n) : Bd n x := Nat.lt_of_lt_of_le h (Nat.pow_le_pow_right (by decide) l)
theorem Bd.mul {m n : Nat} {x y : Int} (h : Bd m x) (h' : Bd n y) : Bd (m + n) (x * y) := by
 unfold Bd at *
 rw [Int.natAbs_mul, Nat.pow_add]
 exact Nat.mul_lt_mul'' h h'
theorem Bd.sub {m : Nat} {x y : Int} (h : Bd m x) (h' : Bd m y) : Bd (m + 1) (x - y) := by
 unfold Bd at *
 rw [Nat.pow_succ]
 have := Int.natAbs_sub_le x y
 omega
theorem Bd.bits {n : Nat} {x : Int} (h : Bd n x) : Builtin.Int.intBits x <= n := by
 unfold Bd at h
 unfold Builtin.Int.intBits
 split
 ·exact Nat.zero_le _
 ·rename_i hz
  have hp : x.natAbs ≠ 0 := by
   intro e
   apply hz
   have : x = 0 := Int.natAbs_eq_zero.mp e
   simp [this]
  have := (Nat.log2_lt hp).mpr h
  omega
def CM (i j : Int) : Prop := Bd 64 i ∨ Bd 64 j ∨ (Bd 100000 i /\ Bd 100000 j)
theorem CM.ok {i j : Int} (h : CM i j) : IntMulOk i j := by
 rcases h with h | h | ⟨h, h'⟩
 ·exact .of_left h.bits
 ·exact .of_right h.bits
 ·exact .of_bits (Nat.le_trans h.bits (by decide)) (Nat.le_trans h'.bits (by decide))
theorem vZ : OpR X (binaryOp .Mult) (rI CM fun i j => .int (i * j)) := opI fun _ _ _ _ _ _ _ hc q => mul_int q hc.ok
theorem aN : OpD X (binaryOp .Mult) (rdI CM fun i j => .int (i * j)) := OpD.ofI vZ
def CD (_ : Int) (j : Int) : Prop := j ≠ 0 /\ Bd 8000 j
theorem CD.noPy {i j : Int} (h : CD i j) : Builtin.divisionGoesByPylong i j = false := by
 refine PyProof.noPylong_of_log2 ?_
 have hz : j.natAbs ≠ 0 := fun e => h.1 (Int.natAbs_eq_zero.mp e)
 have := (Nat.log2_lt hz).mpr h.2
 omega
theorem uy : OpR X (binaryOp .FloorDiv) (rI CD fun i j => .int (i.fdiv j)) := opI fun _ _ _ _ _ _ _ hc q => floordiv_int hc.1 q (.inl hc.noPy)
theorem bC : OpD X (binaryOp .FloorDiv) (rdI CD fun i j => .int (i.fdiv j)) := OpD.ofI uy
theorem aR : OpD X (binaryOp .Mod) (rdI (fun _ j => j ≠ 0) fun i j => .int (i.fmod j)) := OpD.ofI vY
theorem gU : OpD X (binaryOp .Pow) (rdI pS fun i j => .int (i ^ j.toNat)) := OpD.ofI xv
def dB (t : DE) : DT := fun ρ Q => t ρ fun x => ∃ k, x = .bl k /\ Q k
theorem eE {op : CmpOp} {r : RD2} (ho : OpD X (compareOp op) r) (ha : PED X a ta) (hb : PED X b tb) (hm : behindInMarks op b = false := by first | exact nK _ (by decide) (by decide) | rfl) : PED X (.Compare a [op] [b] pos) (dOp r ta tb) := by
 intro pins s σ H W ρ Q I rr h
 refine wpAny_Compare1 (qa ha hb I rr h fun vv uu s2 v u x y H2 I2 e rv ru hx hy q => ?_) hm
 exact thn (ho pins s2 σ H2 W x y v u vv uu Q I2 (rr.same e).tracked rv ru hx hy q) fun _ _ z => z.up e
theorem az {op : CmpOp} {r : RD2} (ho : OpD X (compareOp op) r) (ha : PED X a ta) (hb : PED X b tb) (hm : behindInMarks op b = false := by first | exact nK _ (by decide) (by decide) | rfl) : PTD X (.Compare a [op] [b] pos) (dB (dOp r ta tb)) := by
 intro pins s σ H W ρ Q I rr h
 refine wpAny_isTrue_Compare1 (thn (ha pins s σ H W ρ _ I rr h) fun vv s1 ⟨v, H1, x, I1, rv, e1, hx, q1⟩ => thn (hb pins s1 σ H1 W ρ _ I1 (rr.same e1) q1) fun uu s2 ⟨u, H2, y, I2, ru, e2, hy, q2⟩ =>
  thn (ho pins s2 σ H2 W x y v u vv uu _ I2 ((rr.same e1).same e2).tracked rv ru (hx.same e2) hy q2) fun c s3 ⟨z, H3, d, I3, r3, e3, hd, k, ek, q3⟩ => ?_) hm
 subst ek
 have hz := hd.bl_
 subst hz
 cases r3
 exact wpAny_truthy_bool ⟨H3, I3, e1.trans (e2.trans e3), q3⟩
theorem dn {e : Expr} {t : DE} (h : PED X e t) (he : ∀ whole, isTrue e X.env whole = (do let v ← whole; standAt e.pos; holding [v] (truthy v)) := by intro _; rfl) : PTD X e (dB t) := by
 intro pins s σ H W ρ Q I rr hw
 refine isTrue_plain (thn (h pins s σ H W ρ _ I rr hw) fun vv s1 ⟨v, H1, x, I1, rv, e1, hx, k, ek, q⟩ => ?_) (he _)
 subst ek
 have hz := hx.bl_
 subst hz
 cases rv
 exact wpAny_truthy_bool ⟨H1, I1, e1, q⟩
variable {tA tB' : DT} {rest : List Expr}
def wJ (t u : DT) : DT := fun ρ Q => t ρ fun c => if c = true then u ρ Q else Q false
def dOr (t u : DT) : DT := fun ρ Q => t ρ fun c => if c = true then Q true else u ρ Q
def tS (t : DT) : DT := fun ρ Q => t ρ fun c => Q (!c)
theorem eJ (ha : PTD X a tA) : PWD X (.BoolOp .Or [a] pos) tA := by
 intro wh pins s σ H W ρ Q I rr h
 refine isTrue_or (thn (ha pins s σ H W ρ Q I rr h) fun c s1 e => ?_)
 cases c with
 | false => exact isTrue_or_nil e
 | true => exact e
theorem ck (ha : PTD X a tA) (hb : PWD X (.BoolOp .Or (b :: rest) pos) tB') : PWD X (.BoolOp .Or (a :: b :: rest) pos) (dOr tA tB') := by
 intro wh pins s σ H W ρ Q I rr h
 refine isTrue_or (thn (ha pins s σ H W ρ _ I rr h) fun c s1 ⟨H1, I1, e1, q1⟩ => ?_)
 cases c with
 | true => exact ⟨H1, I1, e1, q1⟩
 | false => exact thn (hb wh pins s1 σ H1 W ρ Q I1 (rr.same e1) q1) fun _ _ ⟨H2, I2, e2, q2⟩ => ⟨H2, I2, e1.trans e2, q2⟩
theorem eG (ha : PTD X a tA) : PTD X (.UnaryOp .Not a pos) (tS tA) := by
 intro pins s σ H W ρ Q I rr h
 exact isTrue_not (ha pins s σ H W ρ (fun c => Q (!c)) I rr h)
def qb (ta tb : DE) : DE := fun ρ Q => ta ρ fun x => ∃ c, x = .bl c /\ if c = true then tb ρ Q else Q (.bl false)
def tT (ta tb : DE) : DE := fun ρ Q => ta ρ fun x => ∃ c, x = .bl c /\ if c = true then Q (.bl true) else tb ρ Q
def qh (ta : DE) : DE := fun ρ Q => ta ρ fun x => ∃ c, x = .bl c /\ Q (.bl (!c))
theorem iR {op} {t : DE} (h : PED X a t) : PED X (.BoolOp op [a] pos) t := fun pins s σ H W ρ Q I rr hw => BoolOp_one (h pins s σ H W ρ Q I rr hw)
theorem j9 (ha : PED X a ta) (hb : PED X (.BoolOp .And (b :: rest) pos) tb) : PED X (.BoolOp .And (a :: b :: rest) pos) (qb ta tb) := by
 intro pins s σ H W ρ Q I rr h
 refine BoolOp_and (thn (ha pins s σ H W ρ _ I rr h) fun vv s1 ⟨v, H1, x, I1, rv, e1, hx, c, ec, q1⟩ => ?_)
 subst ec
 have hz := hx.bl_
 subst hz
 cases rv
 refine wpAny_truthy_bool ?_
 cases c with
 | true => exact thn (hb pins s1 σ H1 W ρ Q I1 (rr.same e1) q1) fun _ _ z => z.up e1
 | false => exact ⟨.bl false, H1, _, I1, rfl, e1, Den.bl _, q1⟩
theorem xZ (ha : PED X a ta) (hb : PED X (.BoolOp .Or (b :: rest) pos) tb) : PED X (.BoolOp .Or (a :: b :: rest) pos) (tT ta tb) := by
 intro pins s σ H W ρ Q I rr h
 refine BoolOp_or (thn (ha pins s σ H W ρ _ I rr h) fun vv s1 ⟨v, H1, x, I1, rv, e1, hx, c, ec, q1⟩ => ?_)
 subst ec
 have hz := hx.bl_
 subst hz
 cases rv
 refine wpAny_truthy_bool ?_
 cases c with
 | false => exact thn (hb pins s1 σ H1 W ρ Q I1 (rr.same e1) q1) fun _ _ z => z.up e1
 | true => exact ⟨.bl true, H1, _, I1, rfl, e1, Den.bl _, q1⟩
theorem mV (ha : PED X a ta) : PED X (.UnaryOp .Not a pos) (qh ta) := by
 intro pins s σ H W ρ Q I rr h
 refine UnaryOp_ (thn (ha pins s σ H W ρ _ I rr h) fun vv s1 ⟨v, H1, x, I1, rv, e1, hx, c, ec, q1⟩ => ?_)
 subst ec
 have hz := hx.bl_
 subst hz
 cases rv
 exact not_of (wpAny_truthy_bool ⟨.bl (!c), H1, _, I1, rfl, e1, Den.bl _, q1⟩)
def dIf (t : DT) (ta tb : DE) : DE := fun ρ Q => t ρ fun c => if c = true then ta ρ Q else tb ρ Q
theorem mU (hc : PTD X c tA) (ha : PED X a ta) (hb : PED X b tb) : PED X (.IfExp c a b pos) (dIf tA ta tb) := by
 intro pins s σ H W ρ Q I rr h
 refine wpAny_IfExp (thn (hc pins s σ H W ρ _ I rr h) fun d s1 ⟨H1, I1, e1, q1⟩ => ?_)
 cases d with
 | true => exact thn (ha pins s1 σ H1 W ρ Q I1 (rr.same e1) q1) fun _ _ z => z.up e1
 | false => exact thn (hb pins s1 σ H1 W ρ Q I1 (rr.same e1) q1) fun _ _ z => z.up e1
def jK : RD2 := fun x y Q => ∃ ds i d, (x = .tup ds ∨ ∃ t, x = .lst t ds) /\ y = .int i /\ atI ds i = some d /\ Q d
theorem mI {K : PySem.W.Frag} {P : Bool -> Addr -> Prop} {H : Hp} {ds : List D} {vs : List V} {i : Int} {d : D} (h : af K P H ds vs) (e : atI ds i = some d) : ∃ v, atI vs i = some v /\ Den K P H d v := by
 unfold atI at e ⊢
 rw [h.len]
 cases q : ixN ds.length i with
 | none => rw [q] at e; cases e
 | some j =>
  rw [q] at e
  exact h.get e
theorem au (ha : PED X a ta) (hb : PED X b tb) (hs : oK b := by intro _ _; rfl) : PED X (.Subscript a b pos) (dOp jK ta tb) := by
 intro pins s σ H W ρ Q I rr h
 refine Subscript_ (qa ha hb I rr h fun vv uu s2 v u x y H2 I2 e rv ru hx hy q => ?_)
 obtain ⟨ds, i, d, ex, ey, ei, q⟩ := q
 subst ey
 have hu := hy.int_
 subst hu
 have fin : ∀ (v' : V), Den X.K W.bad H2 d v' -> ai H2 H2 /\ ∃ d', Den X.K W.bad H2 d' v' /\ Q d' := fun v' hd => ⟨ai.refl _, d, hd, q⟩
 rcases ex with ex | ⟨tg, ex⟩
 ·subst ex
  obtain ⟨p, vs, ev, hq, hd⟩ := hx.tup_
  subst ev
  obtain ⟨v', e1, e2⟩ := mI hd ei
  exact thn (nA a b pins s2 σ H2 _ _ vv uu (fun v' H' => ai H2 H' /\ ∃ d', Den X.K W.bad H' d' v' /\ Q d') I2 rv ru ⟨p, vs, i, v', rfl, rfl, hq, e1, fin v' e2⟩ (hs _ _))
   fun _ s3 ⟨w', H3, I3, r3, e3, d', hd', q'⟩ => ⟨w', H3, d', I3, r3, e.trans e3, hd', q'⟩
 ·subst ex
  obtain ⟨p, vs, ev, _, hq, hd⟩ := hx.lst_
  subst ev
  obtain ⟨v', e1, e2⟩ := mI hd ei
  exact thn (vS a b pins s2 σ H2 _ _ vv uu (fun v' H' => ai H2 H' /\ ∃ d', Den X.K W.bad H' d' v' /\ Q d') I2 rv ru ⟨p, vs, i, v', rfl, rfl, hq, e1, fin v' e2⟩ (hs _ _))
   fun _ s3 ⟨w', H3, I3, r3, e3, d', hd', q'⟩ => ⟨w', H3, d', I3, r3, e.trans e3, hd', q'⟩
end
section
variable {X : Cx} {e : Expr} {es : List Expr} {te : DE} {t : DA} {pos : Pos}
def mR : DA := fun _ Q => Q []
def jd (ta : DE) (tr : DA) : DA := fun ρ Q => ta ρ fun x => tr ρ fun xs => Q (x :: xs)
theorem ah : PAD X [] mR := fun _ _ _ _ H W ρ Q I _ h => Calls.spliced_nil ⟨[], H, [], I, .nil, ai.refl H, af.nil, h⟩
theorem aa (ha : PED X e te) (hr : PAD X es t) (hs : starEach (e :: es) X.env = (false, eval e X.env) :: starEach es X.env := by rfl) : PAD X (e :: es) (jd te t) := by
 intro pos pins s σ H W ρ Q I rr h
 rw [hs]
 show wpAny _ _ (spliced ((false, eval e X.env) :: backTo pos (starEach es X.env))) _ _ s
 refine Calls.spliced_cons (thn (ha pins s σ H W ρ _ I rr h) fun u s1 ⟨v, H1, x, I1, r1, e1, hx, q1⟩ => ?_)
 exact thn (hr pos pins s1 σ H1 W ρ _ I1 (rr.same e1) q1) fun us s2 ⟨vs, H2, xs, I2, r2, e2, hxs, q2⟩ => ⟨v :: vs, H2, x :: xs, I2, .cons r1 r2, e1.trans e2, af.cons (hx.same e2) hxs, q2⟩
theorem ai.upd {H : Hp} {p : Addr} {o : HO} (h : H p = none) (n : NT o := by exact True.intro) : ai H (upd H p o) := ⟨fun b u e _ => by rw [ar (aH e h)]; exact e, fun b ps e => ⟨#[], by rw [ar (aH e h), e]; simp⟩, cS.upd n (.inl h)⟩
def t6 (t : DA) : DE := fun ρ Q => t ρ fun ds => ds.length <= sizeLine /\ Q (.tup ds)
def qf (t : DA) : DE := fun ρ Q => t ρ fun ds => ds.length <= sizeLine /\ Q (.lst true ds)
theorem bE {x1} (h : PAD X es t) : PED X (.Tuple es x1 pos) (t6 t) := by
 intro pins s σ H W ρ Q I rr hq
 refine wpAny_Tuple_spliced (thn (h pos pins s σ H W ρ _ I rr hq) fun us s1 ⟨vs, H1, ds, I1, r, e1, hd, z, q⟩ => ?_)
 rw [<- hd.len] at z
 refine ⟨by rw [<- r.length]; exact z, ?_⟩
 have hf : H1 s1.heap.objs.size = none := I1.hok.fresh (Nat.le_refl _)
 refine ⟨.ref s1.heap.objs.size, L2.upd H1 s1.heap.objs.size (.tup vs), _, I1.laid (t' := s1.toks) (fun b u e => Heap.get?_push_of_some _ e) (Nat.le_refl _) ⟨z, us, r, ⟨_, Heap.get?_push_size _ rfl, rfl, _, rfl⟩⟩, rfl, e1.trans (ai.upd hf), Den.tup (SqT.of aA) (hd.same (ai.upd hf)), q⟩
theorem Inv.kfresh {pins : List (Addr × Obj)} {σ : St} {H : Hp} {s : Shared} (I : Inv X pins σ H s) : X.K.lookup s.heap.objs.size = none := by
 cases e : X.K.lookup s.heap.objs.size with
 | none => rfl
 | some o => exact absurd (Heap.lt_size (I.kIn _ _ e)) (Nat.lt_irrefl _)
theorem aS (h : PAD X es t) : PED X (.List es pos) (qf t) := by
 intro pins s σ H W ρ Q I rr hq
 refine wpAny_List_spliced (thn (h pos pins s σ H W ρ _ I rr hq) fun us s1 ⟨vs, H1, ds, I1, r, e1, hd, z, q⟩ => ?_)
 rw [<- hd.len] at z
 refine ⟨by rw [<- r.length]; exact z, ?_⟩
 have hf : H1 s1.heap.objs.size = none := I1.hok.fresh (Nat.le_refl _)
 exact ⟨.ref s1.heap.objs.size, L2.upd H1 s1.heap.objs.size (.lst vs), _, I1.laid (t' := s1.toks) (fun b u e => Heap.get?_push_of_some _ e) (Nat.le_refl _) ⟨z, us, 0, r, Heap.get?_push_size _ rfl⟩, rfl, e1.trans (ai.upd hf),
  Den.lst ((rr.same e1).fresh hf) (.new aA (Inv.kfresh I1)) (hd.same (ai.upd hf)), q⟩
end
abbrev DSp := List D -> (D -> Prop) -> (Value -> Prop) -> Prop
def aO (K : PySem.W.Frag) (sp : DSp) : Sp := fun vs H Q E => ∃ (P : Addr -> Prop) (ds : List D) (Qd : D -> Prop) (Ed : Value -> Prop), dj K H /\ (∀ a, P a -> ∃ o, H a = some o) /\ af K (fun t a => t = true ∨ P a) H ds vs /\ sp ds Qd Ed ∧
 (∀ d v H', ai H H' -> Den K (fun t a => P a ∨ (t = true /\ ∃ o, H a = some o)) H' d v -> Qd d -> Q v H') /\ ∀ c a H', ai H H' -> Ed c -> E c a H'
mutual
def aI : D -> D
 | .tup ds => .tup (aP ds)
 | .lst _ ds => .lst false (aP ds)
 | .non => .non | .bl b => .bl b | .int i => .int i | .str x => .str x | .exc c => .exc c
def aP : List D -> List D
 | [] => []
 | d :: ds => aI d :: aP ds
end
section
variable {K : PySem.W.Frag} {P : Bool -> Addr -> Prop} {P' : Addr -> Prop} {H : Hp}
mutual
theorem Den.aI (h : ∀ t a, P' a -> P t a) : ∀ (d : D) (v : V), Den K P H d v -> Den K (fun t a => t = true ∨ P' a) H (PD.aI d) v
 | .non, _, q => by simpa only [Den, PD.aI] using q
 | .bl _, _, q => by simpa only [Den, PD.aI] using q
 | .int _, _, q => by simpa only [Den, PD.aI] using q
 | .str _, _, q => by simpa only [Den, PD.aI] using q
 | .exc _, _, q => by simpa only [Den, PD.aI] using q
 | .tup ds, _, q => by
  simp only [Den, PD.aI] at q ⊢
  obtain ⟨a, vs, e, q1, q2⟩ := q
  exact ⟨a, vs, e, q1, af.aI h ds vs q2⟩
 | .lst t ds, _, q => by
  simp only [Den, PD.aI] at q ⊢
  obtain ⟨a, vs, e, p, q1, q2⟩ := q
  exact ⟨a, vs, e, fun z => z.elim (fun z => by cases z) fun z => p (h t a z), .any q1.1, af.aI h ds vs q2⟩
theorem af.aI (h : ∀ t a, P' a -> P t a) : ∀ (ds : List D) (vs : List V), af K P H ds vs -> af K (fun t a => t = true ∨ P' a) H (PD.aP ds) vs
 | [], _, q => by simpa only [af, PD.aP] using q
 | d :: ds, _, q => by
  simp only [af, PD.aP] at q ⊢
  obtain ⟨v, r, e, h1, h2⟩ := q
  exact ⟨v, r, e, Den.aI h d v h1, af.aI h ds r h2⟩
end
end
theorem Den.back {K : PySem.W.Frag} {W : Own} {H H' : Hp} {d : D} {v : V} (tr : ∀ t a, W.bad t a -> ∃ o, H a = some o) (h : Den K (fun t a => W.bad false a ∨ (t = true /\ ∃ o, H a = some o)) H' d v) : Den K W.bad H' d v :=
 h.fewer fun t a z => by
  cases t with
  | false => exact .inl z
  | true => exact .inr ⟨rfl, tr true a z⟩
section
variable {X : Cx} {CX : CXT} {k : Nat} {f : Addr} {fd : FuncData} {ps : List Str} {sp : DSp} {x : Str} {p pos : Pos} {e : Expr} {es : List Expr} {t : DA}
def mr (sp : DSp) (dds : List D) (t : DA) : DE := fun ρ Q => t ρ fun ds => sp (aP ds ++ dds) Q fun _ => False
def jG : D -> V
 | .non => .non | .bl b => .bl b | .int i => .int i | .str x => .str x | _ => .non
def mz : D -> Prop
 | .tup _ => False | .lst _ _ => False | .exc _ => False | _ => True
theorem af.k8 {K : PySem.W.Frag} {P : Bool -> Addr -> Prop} {H : Hp} : ∀ {dds : List D}, (∀ d ∈ dds, mz d) -> af K P H dds (dds.map jG)
 | [], _ => af.nil
 | d :: r, h => by
  refine af.cons ?_ (af.k8 fun x hx => h x (List.mem_cons_of_mem _ hx))
  have := h d List.mem_cons_self
  cases d with
  | non => exact Den.non
  | bl b => exact Den.bl b
  | int i => exact Den.int i
  | str x => exact Den.str x
  | tup _ => exact this.elim
  | lst _ _ => exact this.elim
  | exc _ => exact this.elim
theorem yA {dds : List D} {dsv : List Value} (F : aG X.prog X.w X.K X.mg X.base CX k f fd ps (aO X.K sp)) (hr : aZ k X.A) (hb : Binds X.K fd ps dsv) (hd : Vals (dds.map jG) dsv) (hs : ∀ d ∈ dds, mz d) (hx : Passes CX X E0)
  {pins : List (Addr × Obj)} {σ : St} {H : Hp} {s : Shared} {W : Own} {ρ : Ro} {us : List Value} {vs : List V} {ds : List D} {Q : D -> Prop} (I : Inv X pins σ H s) (rr : Rel X W H σ ρ) (r : Vals vs us) (hds : af X.K W.bad H ds vs)
  (q : sp (aP ds ++ dds) Q fun _ => False) : wpAny (model X.prog X.w) X.A (call (.ref f) us) (DP X pins σ W H Q) X.xe s := by
 refine thn (xI (Q := fun v H' => ai H H' /\ ∃ d, Den X.K W.bad H' d v /\ Q d) F hr hb hd hx I r ⟨W.bad false, aP ds ++ dds, Q, fun _ => False, rr.tab, rr.tracked false, (af.aI (fun _ _ => Own.bad_up) ds vs hds).append (af.k8 hs), q, fun d v H' e h1 h2 => ⟨e, d, Den.back rr.tracked h1, h2⟩, fun _ _ _ _ z => z.elim⟩)
  fun u s2 ⟨v, H2, I2, r2, e2, d, h1, h2⟩ => ⟨v, H2, d, I2, r2, e2, h1, h2⟩
theorem ua {dds : List D} {dsv : List Value} (F : aG X.prog X.w X.K X.mg X.base CX k f fd ps (aO X.K sp)) (hr : aZ k X.A) (hg : Gl X x) (hm : X.mg x = some (.ref f)) (hk : PySem.W.keepIn X.K (.ref f) = true) (hb : Binds X.K fd ps dsv) (hd : Vals (dds.map jG) dsv) (hs : ∀ d ∈ dds, mz d) (hx : Passes CX X E0)
  (ha : PAD X (e :: es) t) (hdb : (x == ("__debug__" : Str)) = false := by decide) (he : starEach (e :: es) X.env = (false, eval e X.env) :: starEach es X.env := by rfl) (hpl : (backTo pos (starEach es X.env)).any (·.1) = false := by rfl) :
  PED X (.Call (.Name x p) (e :: es) [] pos) (mr sp dds t) := by
 intro pins s σ H W ρ Q I rr h
 refine wpAny_Call_Name_kw (gQ I hg hm ?_ hdb)
 refine PySem.W.callWith_K (h₀ := X.base) I.ok.mod.kin hk (thn (ha pos pins s σ H W ρ _ I rr h) fun us s1 ⟨vs, H1, ds, I1, r, e1, hds, q⟩ => ⟨I1.kIn, ?_⟩) he hpl
 exact thn (yA F hr hb hd hs hx I1 (rr.same e1) r hds q) fun _ _ z => z.up e1
def dCB (r : List D -> (D -> Prop) -> Prop) (t : DA) : DE := fun ρ Q => t ρ fun ds => r ds Q
def cR (X : Cx) (f : Value) (r : List D -> (D -> Prop) -> Prop) : Prop :=
 ∀ (pins : List (Addr × Obj)) (s : Shared) (σ : St) (H : Hp) (W : Own) (ds : List D) (vs : List V) (us : List Value) (Q : D -> Prop), Inv X pins σ H s -> (∀ t a, W.bad t a -> ∃ o, H a = some o) -> Vals vs us -> af X.K W.bad H ds vs -> r ds Q →
  wpAny (model X.prog X.w) X.A (call f us) (DP X pins σ W H Q) X.xe s
theorem cR.of {f : Value} {r : List V -> Hp -> VK -> Prop} {rd : List D -> (D -> Prop) -> Prop} (h : dW X f r) (k : ∀ P H ds vs Q, (∀ t a, P t a -> ∃ o, H a = some o) -> af X.K P H ds vs -> rd ds Q -> r vs H fun v' H' => ai H H' /\ ∃ d', Den X.K P H' d' v' /\ Q d') : cR X f rd := by
 intro pins s σ H W ds vs us Q I tr r hd q
 exact thn (h pins s σ H vs us _ I r (k _ H ds vs Q tr hd q)) fun _ s2 ⟨w', H2, I2, r2, e2, d, hd, q2⟩ => ⟨w', H2, d, I2, r2, e2, hd, q2⟩
variable {id T : String} {r : List D -> (D -> Prop) -> Prop}
theorem aD (hc : cR X (.builtin id) r) (hg : Gl X x) (hm : X.mg x = none) (hv : bootBuiltins x = some (.builtin id)) (ha : PAD X (e :: es) t) (hn : x ≠ "__name__" := by decide) (hdb : (x == ("__debug__" : Str)) = false := by decide)
  (hst : starEach (e :: es) X.env = (false, eval e X.env) :: starEach es X.env := by rfl) (hpl : (backTo pos (starEach es X.env)).any (·.1) = false := by rfl) :
  PED X (.Call (.Name x p) (e :: es) [] pos) (dCB r t) := by
 intro pins s σ H W ρ Q I rr h
 refine wpAny_Call_Name_kw (cN I hg hm hv ?_ hn hdb)
 exact PyProof.Rows.callWith_builtin1 (thn (ha pos pins s σ H W ρ _ I rr h) fun us s1 ⟨vs, H1, ds, I1, rv, e1, hd, q⟩ => thn (hc pins s1 σ H1 W ds vs us Q I1 (rr.same e1).tracked rv hd q) fun _ _ z => z.up e1) hst hpl
end
end PD
namespace PD
open PySem PySem.Spec PyProof.Rows L2 PX
mutual
def pyD : D -> PyData
 | .non => .none
 | .bl b => .bool b
 | .int i => .int i
 | .str x => .str x
 | .tup ds => .tuple (bU ds)
 | .lst _ ds => .list (bU ds)
 | .exc _ => .none
def bU : List D -> List PyData
 | [] => []
 | d :: ds => pyD d :: bU ds
end
mutual
def plD : D -> Bool
 | .tup ds => iz ds
 | .lst _ ds => iz ds
 | .exc _ => false
 | _ => true
def iz : List D -> Bool
 | [] => true
 | d :: ds => plD d && iz ds
end
def eqD (x y : D) : Bool := PyData.eqv (pyD x) (pyD y)
def okD (x : D) : Prop := plD x = true /\ SeqAt.shaped (pyD x) = true
section
variable {X : Cx} {pins : List (Addr × Obj)} {σ : St} {H : Hp} {s : Shared} {P : Bool -> Addr -> Prop}
mutual
theorem eF (I : Inv X pins σ H s) : ∀ (d : D) (v : V) (u : Value), Den X.K P H d v -> RelV v u -> plD d = true -> ∃ as, Reads s.heap u (pyD d) as
 | .non, _, _, h, r, _ => by have e := h.non_; subst e; cases r; rw [pyD]; exact ⟨_, .none⟩
 | .bl b, _, _, h, r, _ => by have e := h.bl_; subst e; cases r; rw [pyD]; exact ⟨_, .bool b⟩
 | .int i, _, _, h, r, _ => by have e := h.int_; subst e; obtain ⟨t, rfl⟩ := r; rw [pyD]; exact ⟨_, .int i t⟩
 | .str x, _, _, h, r, _ => by have e := h.str_; subst e; obtain ⟨t, rfl⟩ := r; rw [pyD]; exact ⟨_, .str x t⟩
 | .tup ds, _, _, h, r, pl => by
  rw [plD] at pl
  obtain ⟨a, vs, e, hq, hd⟩ := h.tup_
  subst e
  cases r
  obtain ⟨its, rv, ⟨o, h1, h2, n, h3⟩, _⟩ := I.tuple hq
  obtain ⟨as, q⟩ := ie I ds vs its hd rv pl
  rw [pyD]
  exact ⟨as, reads_tuple_at h1 h2 h3 (by simpa using q)⟩
 | .lst _ ds, _, _, h, r, pl => by
  rw [plD] at pl
  obtain ⟨a, vs, e, _, hq, hd⟩ := h.lst_
  subst e
  cases r
  obtain ⟨its, rv, ⟨o, n, h1, h2, _, h3⟩, _⟩ := I.list hq
  obtain ⟨as, q⟩ := ie I ds vs its hd rv pl
  rw [pyD]
  exact ⟨_, reads_list_at h1 h2 h3 (by simpa using q)⟩
 | .exc _, _, _, _, _, pl => by rw [plD] at pl; cases pl
theorem ie (I : Inv X pins σ H s) : ∀ (ds : List D) (vs : List V) (us : List Value), af X.K P H ds vs -> Vals vs us -> iz ds = true -> ∃ as, ReadsAll s.heap us (bU ds) as
 | [], _, _, h, r, _ => by simp only [af] at h; subst h; cases r; rw [bU]; exact ⟨_, .nil⟩
 | d :: ds, _, _, h, r, pl => by
  rw [iz, Bool.and_eq_true] at pl
  simp only [af] at h
  obtain ⟨v, r', rfl, h1, h2⟩ := h
  cases r with
  | cons ra rb =>
   obtain ⟨as, q⟩ := eF I d v _ h1 ra pl.1
   obtain ⟨bs, q'⟩ := ie I ds _ _ h2 rb pl.2
   rw [bU]
   exact ⟨_, .cons q q'⟩
end
def uC : RD2 := fun x y Q => okD x /\ okD y /\ Q (.bl (eqD x y))
def uD : RD2 := fun x y Q => okD x /\ okD y /\ Q (.bl (!eqD x y))
theorem gr (hu : X.A.units + 64 < cLine) : OpD X (compareOp .Eq) uC := by
 intro pins s σ H W x y v u vv uu Q I _ rv ru hx hy q
 obtain ⟨h1, h2, q⟩ := q
 obtain ⟨as, ra⟩ := eF I x v vv hx rv h1.1
 obtain ⟨bs, rb⟩ := eF I y u uu hy ru h2.1
 exact eq_dataH ra rb h1.2 h2.2 hu ⟨.bl _, H, _, I, rfl, ai.refl H, Den.bl _, q⟩
theorem qC (hu : X.A.units + 64 < cLine) : OpD X (compareOp .NotEq) uD := by
 intro pins s σ H W x y v u vv uu Q I _ rv ru hx hy q
 obtain ⟨h1, h2, q⟩ := q
 obtain ⟨as, ra⟩ := eF I x v vv hx rv h1.1
 obtain ⟨bs, rb⟩ := eF I y u uu hy ru h2.1
 exact ne_dataH ra rb h1.2 h2.2 hu ⟨.bl _, H, _, I, rfl, ai.refl H, Den.bl _, q⟩
theorem bo : OpD X (compareOp .Eq) (fN fun i j => .bl (decide (i = j))) := OpD.of yp fun P H x y v u Q hx hy ⟨i, j, e1, e2, q⟩ => by
 subst e1 e2
 have a := hx.int_
 have b := hy.int_
 subst a b
 refine ⟨rfl, ai.refl H, _, Den.bl _, ?_⟩
 rw [show decide (V.int i = V.int j) = decide (i = j) from by rw [je]; rfl]
 exact q
theorem gT : OpD X (compareOp .NotEq) (fN fun i j => .bl (!decide (i = j))) := OpD.of yv fun P H x y v u Q hx hy ⟨i, j, e1, e2, q⟩ => by
 subst e1 e2
 have a := hx.int_
 have b := hy.int_
 subst a b
 refine ⟨rfl, ai.refl H, _, Den.bl _, ?_⟩
 rw [show decide (V.int i = V.int j) = decide (i = j) from by rw [je]; rfl]
 exact q
def dq : D -> Bool
 | .non => true
 | _ => false
theorem lA {K : PySem.W.Frag} {d : D} {v : V} (h : Den K P H d v) : decide (v = .non) = dq d := by
 cases d with
 | non => have := h.non_; subst this; rfl
 | bl b => have := h.bl_; subst this; rfl
 | int b => have := h.int_; subst this; rfl
 | str b => have := h.str_; subst this; rfl
 | tup ds => obtain ⟨a, vs, e, _⟩ := h.tup_; subst e; rfl
 | lst _ ds => obtain ⟨a, vs, e, _⟩ := h.lst_; subst e; rfl
 | exc c => obtain ⟨a, e, _⟩ := h.exc_; subst e; rfl
theorem xn : OpD X (compareOp .Is) (fun x y Q => y = .non /\ Q (.bl (dq x))) := OpD.of xu fun P H x y v u Q hx hy ⟨e, q⟩ => by
 subst e
 refine ⟨hy.non_, ai.refl H, _, Den.bl _, ?_⟩
 rw [lA hx]
 exact q
theorem vV : OpD X (compareOp .IsNot) (fun x y Q => y = .non /\ Q (.bl (!dq x))) := OpD.of v7 fun P H x y v u Q hx hy ⟨e, q⟩ => by
 subst e
 refine ⟨hy.non_, ai.refl H, _, Den.bl _, ?_⟩
 rw [lA hx]
 exact q
end
section
variable {X : Cx}
theorem j6 : cR X (.builtin "abs") (fun ds Q => ∃ i : Int, ds = [.int i] /\ Q (.int (i.natAbs : Int))) := cR.of tM fun P H ds vs Q _ hd ⟨i, e, q⟩ => by
 subst e
 obtain ⟨v, r, rfl, h1, h2⟩ : ∃ v r, vs = v :: r /\ Den X.K P H (.int i) v /\ af X.K P H [] r := by simpa only [af] using hd
 have e1 := h1.int_
 have e2 : r = [] := by simpa only [af] using h2
 subst e1 e2
 refine ⟨i, rfl, ai.refl H, _, Den.int _, ?_⟩
 have : (if i < 0 then -i else i) = (i.natAbs : Int) := by split <;> omega
 rw [this]
 exact q
theorem mw {K : PySem.W.Frag} {P : Bool -> Addr -> Prop} {H : Hp} {x y : D} {vs : List V} (h : af K P H [x, y] vs) : ∃ v u, vs = [v, u] /\ Den K P H x v /\ Den K P H y u := by
 simp only [af] at h
 obtain ⟨v, r, e, h1, u, r', e', h2, e''⟩ := h
 subst e' e'' e
 exact ⟨v, u, rfl, h1, h2⟩
theorem jg {K : PySem.W.Frag} {P : Bool -> Addr -> Prop} {H : Hp} {x : D} {vs : List V} (h : af K P H [x] vs) : ∃ v, vs = [v] /\ Den K P H x v := by
 simp only [af] at h
 obtain ⟨v, r, e, h1, e'⟩ := h
 subst e' e
 exact ⟨v, rfl, h1⟩
theorem wG (hc : X.calm = true) : cR X (.builtin "max") (fun ds Q => ∃ i j : Int, ds = [.int i, .int j] /\ Q (.int (max i j))) := cR.of (qV hc) fun P H ds vs Q _ hd ⟨i, j, e, q⟩ => by
 subst e
 obtain ⟨v, u, rfl, h1, h2⟩ := mw hd
 have e1 := h1.int_
 have e2 := h2.int_
 subst e1 e2
 refine ⟨i, j, rfl, ai.refl H, _, Den.int _, ?_⟩
 have : (if j > i then j else i) = max i j := by split <;> omega
 rw [this]
 exact q
theorem bz : cR X (.builtin "len") (fun ds Q => ∃ xs, ((∃ t, ds = [.lst t xs]) ∨ ds = [.tup xs]) /\ Q (.int (xs.length : Int))) := cR.of mJ fun P H ds vs Q _ hd ⟨xs, e, q⟩ => by
 rcases e with ⟨tg, e⟩ | e
 ·subst e
  obtain ⟨v, rfl, h1⟩ := jg hd
  obtain ⟨a, ws, e, _, hq, hw⟩ := h1.lst_
  subst e
  refine ⟨a, ws, rfl, .inl hq, ai.refl H, _, Den.int _, ?_⟩
  rw [hw.len]
  exact q
 ·subst e
  obtain ⟨v, rfl, h1⟩ := jg hd
  obtain ⟨a, ws, e, hq, hw⟩ := h1.tup_
  subst e
  refine ⟨a, ws, rfl, .inr hq, ai.refl H, _, Den.int _, ?_⟩
  rw [hw.len]
  exact q
def tyD : D -> String
 | .non => "NoneType" | .bl _ => "bool" | .int _ => "int" | .str _ => "str" | .tup _ => "tuple" | .lst _ _ => "list" | .exc _ => "object"
def tyV : D -> Value
 | .exc c => .ref c
 | d => .type (tyD d)
variable {e : Expr} {te : DE} {p p' pos : Pos} {T : String} {x : Str}
theorem nu {pins : List (Addr × Obj)} {σ : St} {H : Hp} {s : Shared} {P : Bool -> Addr -> Prop} {A : Around} {E : Value -> Shared -> Prop} {Q : Value -> Shared -> Prop} {c : Value} {b : Bool} {d : D} {v : V} {u : Value} (I : Inv X pins σ H s) (h : Den X.K P H d v) (r : RelV v u)
  (e : PySem.W.kitOne X.K (tyV d) c = some b) (q : ∀ tk, Q (.bool b) { s with toks := tk }) : wpAny (model X.prog X.w) A (call (.builtin "isinstance") [u, c]) Q E s := by
 cases d with
 | non => have z := h.non_; subst z; cases r; exact PySem.W.kia_one PySem.W.kitx_none I.kIn True.intro e (fun z => nomatch z) q
 | bl y => have z := h.bl_; subst z; cases r; exact PySem.W.kia_one PySem.W.kitx_bool I.kIn True.intro e (fun z => nomatch z) q
 | int i => have z := h.int_; subst z; obtain ⟨t, rfl⟩ := r; exact PySem.W.kia_one PySem.W.kitx_int I.kIn True.intro e (fun z => nomatch z) q
 | str y => have z := h.str_; subst z; obtain ⟨t, rfl⟩ := r; exact PySem.W.kia_one PySem.W.kitx_str I.kIn True.intro e (fun z => nomatch z) q
 | tup ds =>
  obtain ⟨a, vs, z, hq, _⟩ := h.tup_
  subst z
  cases r
  obtain ⟨its, rv, ⟨o, h1, h2, n, h3⟩, _⟩ := I.tuple hq
  exact PySem.W.kia_one PySem.W.kitx_tuple I.kIn ⟨o, h1, h2⟩ e (fun z => nomatch z) q
 | lst _ ds =>
  obtain ⟨a, vs, z, _, hq, _⟩ := h.lst_
  subst z
  cases r
  obtain ⟨its, rv, ⟨o, n, h1, h2, _, h3⟩, _⟩ := I.list hq
  exact PySem.W.kia_one PySem.W.kitx_list I.kIn ⟨o, h1, h2⟩ e (fun z => nomatch z) q
 | exc c' =>
  obtain ⟨a, z, hq, k⟩ := h.exc_
  subst z
  cases r
  exact PySem.W.kia_one (uj k) I.kIn (I.hok a _ hq).1 e (fun z => nomatch z) q
theorem oB (K : PySem.W.Frag) (S T : String) : PySem.W.kitOne K (.type S) (.type T) = if S = T then some true else if PySem.W.kitMeta T = true then (fastBuiltinMro S).map (·.contains (.type T)) else none := by
 unfold PySem.W.kitOne PySem.W.kitCls PySem.W.subIn
 by_cases h : S = T
 ·subst h; simp
 ·have : (Value.type S == Value.type T) = false := by
   rw [beq_eq_false_iff_ne]
   intro e
   injection e with e
   exact h e
  rw [this, if_neg Bool.false_ne_true, if_neg h]
def isT (T : String) (d : D) : Bool := tyD d == T || (tyD d == "bool" && T == "int")
theorem kit_ans (K : PySem.W.Frag) (d : D) (hk : ∀ c, d = .exc c -> cY K c) (hT : T = "int" ∨ T = "bool" ∨ T = "tuple" ∨ T = "list" ∨ T = "str") : PySem.W.kitOne K (tyV d) (.type T) = some (isT T d) := by
 by_cases hx : ∃ c, d = .exc c
 ·obtain ⟨c, rfl⟩ := hx
  show PySem.W.kitOne K (.ref c) (.type T) = _
  rw [(hk c rfl).not T hT]
  show _ = some ("object" == T || ("object" == "bool" && T == "int"))
  rcases hT with e | e | e | e | e <;> subst e <;> decide +kernel
 have hv : tyV d = .type (tyD d) := by cases d <;> first | rfl | exact absurd ⟨_, rfl⟩ hx
 rw [hv, oB]
 unfold isT
 have hS : tyD d = "NoneType" ∨ tyD d = "bool" ∨ tyD d = "int" ∨ tyD d = "str" ∨ tyD d = "tuple" ∨ tyD d = "list" := by cases d <;> first | exact absurd ⟨_, rfl⟩ hx | simp [tyD]
 generalize tyD d = S at hS ⊢
 rcases hT with e | e | e | e | e <;> subst e <;> rcases hS with e | e | e | e | e | e <;> subst e <;> decide +kernel
def dIs (T : String) (te : DE) : DE := fun ρ Q => te ρ fun d => Q (.bl (isT T d))
theorem gm (hg : Gl X "isinstance") (hm : X.mg "isinstance" = none) (hgT : Gl X x) (hmT : X.mg x = none) (hv : bootBuiltins x = some (.type T)) (hT : T = "int" ∨ T = "bool" ∨ T = "tuple" ∨ T = "list" ∨ T = "str") (he : PED X e te)
  (hn : x ≠ "__name__" := by decide) (hdb : (x == ("__debug__" : Str)) = false := by decide)
  (hst : starEach [e, .Name x p'] X.env = (false, eval e X.env) :: starEach [.Name x p'] X.env := by rfl) (hst2 : starEach [.Name x p'] X.env = (false, eval (.Name x p') X.env) :: starEach [] X.env := by rfl) (hst3 : (backTo pos (starEach [.Name x p'] X.env)).any (·.1) = false := by rfl) :
  PED X (.Call (.Name "isinstance" p) [e, .Name x p'] [] pos) (dIs T te) := by
 intro pins s σ H W ρ Q I rr h
 have hpa : PA X [e, .Name x p'] (d6 (qw X te) (d6 (tC (.ty T)) lg)) := bK he.pe (bK (pE hgT hmT hv rfl hn hdb) eM hst2) hst
 refine wpAny_Call_Name_kw (cN I hg hm boot_isinstance ?_ (by decide) (by decide))
 refine PyProof.Rows.callWith_builtin1 (thn (hpa pos pins s σ H (fun vs H1 => ∃ v d, vs = [v, .ty T] /\ ai H H1 /\ Den X.K W.bad H1 d v /\ Q (.bl (isT T d))) I ⟨W, ρ, _, rr, h, fun v H1 d e1 hd q1 => ⟨v, d, rfl, e1, hd, q1⟩⟩) fun us s1 ⟨vs, H1, I1, rv, v, d, ev, e1, hd, q1⟩ => ?_) hst hst3
 subst ev
 cases rv with
 | cons r1 rr =>
  cases rr with
  | cons r2 rr =>
   cases rr
   cases (show _ = Value.type T from r2)
   exact nu I1 hd r1 (kit_ans X.K d (fun c z => by subst z; exact hd.exc_.choose_spec.2.2) hT) fun tk => ⟨.bl _, H1, _, I1.tok tk, rfl, e1, Den.bl _, q1⟩
end
section
variable {X : Cx} {pos : Pos}
theorem SPD.up {pins : List (Addr × Obj)} {W0 W : Own} {H0 H : Hp} {E : gk} {f : Flow} {s' : Shared} (g : Fwd W0 H0 W H) (h : SPD X pins W H E f s') : SPD X pins W0 H0 E f s' := by
 obtain ⟨W', σ', H', I, fw, q⟩ := h
 exact ⟨W', σ', H', I, g.trans fw, q⟩
variable {st : Stmt} {rest : List Stmt} {t u : DS} {e : Expr} {te : DE}
def qg : DS := fun E ρ => E.nx ρ
def tX (t u : DS) : DS := fun E ρ => t { E with nx := u E } ρ
theorem aC : bR X [] qg := fun _ _ σ H W ρ E I r h => wpAny_execs_nil ⟨W, σ, H, I, Fwd.refl W H, ρ, r, h⟩
theorem aq (h1 : PSD X st t) (h2 : bR X rest u) : bR X (st :: rest) (tX t u) := by
 intro pins s σ H W ρ E I r h
 refine wpAny_execs_cons (thn (h1 pins s σ H W ρ { E with nx := u E } I r h) fun f s1 ⟨W', σ', H', I', fw, q⟩ => ?_)
 cases f with
 | next =>
  obtain ⟨ρ', r', q⟩ := q
  exact thn (h2 pins s1 σ' H' W' ρ' E I' r' q) fun _ _ z => z.up fw
 | ret v => exact ⟨W', σ', H', I', fw, q⟩
 | brk => exact ⟨W', σ', H', I', fw, q⟩
 | cont => exact ⟨W', σ', H', I', fw, q⟩
theorem ao (h1 : PSD X st t) : bR X [st] t := by
 intro pins s σ H W ρ E I r h
 refine wpAny_execs_cons (thn (h1 pins s σ H W ρ E I r h) fun f s1 q => ?_)
 cases f with
 | next => exact wpAny_execs_nil q
 | ret v => exact q
 | brk => exact q
 | cont => exact q
def tW (te : DE) : DS := fun E ρ => te ρ E.rt
theorem av (he : PED X e te) : PSD X (.Return (some e) pos) (tW te) := by
 intro pins s σ H W ρ E I r h
 exact wpAny_Return_some (thn (he pins s σ H W ρ _ I r h) fun u s1 ⟨v, H1, d, I1, r1, e1, hd, q1⟩ => ⟨W, σ, H1, I1, Fwd.same e1, v, d, r1, hd, q1⟩)
def uN (te : DE) : DS := fun E ρ => te ρ fun _ => E.nx ρ
def tO (c : DT) (t u : DS) : DS := fun E ρ => c ρ fun b => if b = true then t E ρ else u E ρ
theorem aM {c : Expr} {a b : List Stmt} {tc : DT} (hc : PTD X c tc) (ha : bR X a t) (hb : bR X b u) : PSD X (.If c a b pos) (tO tc t u) := by
 intro pins s σ H W ρ E I r h
 refine wpAny_If (thn (hc pins s σ H W ρ _ I r h) fun d s1 ⟨H1, I1, e1, q1⟩ => ?_)
 cases d with
 | true => exact thn (ha pins s1 σ H1 W ρ E I1 (r.same e1) q1) fun _ _ z => z.up (Fwd.same e1)
 | false => exact thn (hb pins s1 σ H1 W ρ E I1 (r.same e1) q1) fun _ _ z => z.up (Fwd.same e1)
theorem Rel.put {X : Cx} {W : Own} {H : Hp} {σ : St} {ρ : Ro} {i : Nat} {d : D} {v : V} (r : Rel X W H σ ρ) (hi : i < σ.length) (hd : Den X.K W.bad H d v) : Rel X (W.drop i) H (σ.set i (some v)) (ρ.set i (some (.val d))) where
 val := fun j x h => by
  by_cases hj : j = i
  ·subst hj
   refine ⟨v, by simp [hi], ?_⟩
   by_cases hl : j < ρ.length
   ·rw [List.getElem?_set_self hl] at h
    cases h
    exact hd.fewer fun _ _ => Own.drop_bad
   ·rw [List.getElem?_eq_none (by simpa using hl)] at h
    cases h
  ·rw [List.getElem?_set_ne (Ne.symm hj)] at h
   obtain ⟨w, h1, h2⟩ := r.val j x h
   exact ⟨w, by rw [List.getElem?_set_ne (Ne.symm hj)]; exact h1, h2.fewer fun _ _ => Own.drop_bad⟩
 own := fun j x h => by
  by_cases hj : j = i
  ·subst hj
   by_cases hl : j < ρ.length
   ·rw [List.getElem?_set_self hl] at h; cases h
   ·rw [List.getElem?_eq_none (by simpa using hl)] at h; cases h
  ·rw [List.getElem?_set_ne (Ne.symm hj)] at h
   obtain ⟨a, vs, h1, h2, h3, h4⟩ := r.own j x h
   exact ⟨a, vs, by show (if j = i then none else W.O j) = _; rw [if_neg hj]; exact h1, by rw [List.getElem?_set_ne (Ne.symm hj)]; exact h2, h3, by rw [List.length_set]; exact h4.fewer (fun _ _ => Own.drop_bad) (Own.drop_sub hi)⟩
 inj := fun j k a h1 h2 => by
  have h1' : (if j = i then none else W.O j) = some a := h1
  have h2' : (if k = i then none else W.O k) = some a := h2
  by_cases e1 : j = i
  ·rw [if_pos e1] at h1'; cases h1'
  ·by_cases e2 : k = i
   ·rw [if_pos e2] at h2'; cases h2'
   ·rw [if_neg e1] at h1'
    rw [if_neg e2] at h2'
    exact r.inj j k a h1' h2'
 kn := fun j a h1 => by
  have h1' : (if j = i then none else W.O j) = some a := h1
  by_cases e1 : j = i
  ·rw [if_pos e1] at h1'; cases h1'
  ·rw [if_neg e1] at h1'
   exact r.kn j a h1'
 ke := fun j a h1 => by
  have h1' : (if j = i then none else W.O j) = some a := h1
  by_cases e1 : j = i
  ·rw [if_pos e1] at h1'; cases h1'
  ·rw [if_neg e1] at h1'
   exact r.ke j a h1'
 bt := r.bt
 st := r.st
 ent := r.ent
 tab := r.tab
theorem Fwd.drop (W : Own) (H : Hp) (i : Nat) : Fwd W H (W.drop i) H := ⟨rfl, rfl, fun _ _ _ h _ => h, fun j a h => by
 have h' : (if j = i then none else W.O j) = some a := h
 by_cases e1 : j = i
 ·rw [if_pos e1] at h'; cases h'
 ·rw [if_neg e1] at h'; exact .inl ⟨j, h'⟩, fun _ ps h => ⟨#[], by rw [h]; simp⟩, id⟩
theorem Inv.ilt {pins : List (Addr × Obj)} {σ : St} {H : Hp} {s : Shared} {i : Nat} {x : Str} (I : Inv X pins σ H s) (hi : X.N[i]? = some x) : i < σ.length := by
 rw [I.len]
 exact (List.getElem?_eq_some_iff.mp hi).1
def qm (i : Nat) (te : DE) : DS := fun E ρ => te ρ fun d => E.nx (ρ.set i (some (.val d)))
theorem aJ {x : Str} {pos' : Pos} (i : Nat) (hN : X.N.Nodup) (he : PED X e te) (hi : X.N[i]? = some x := by rfl) (hx : Loc X.env.scope x := by first | exact Or.inl rfl | exact Or.inr rfl) (hs : swapsWith e (some (.Name x pos')) pos.line X.env = pure false := by rfl)
  (hf : X.fn x = true ∨ X.env.scope.names.lookup x = some .local := by first | exact .inl rfl | exact .inr rfl | assumption) : PSD X (.Assign [.Name x pos'] e pos) (qm i te) := by
 intro pins s σ H W ρ E I r h
 refine wpAny_Assign_Name (thn (he pins s σ H W ρ _ I r h) fun u s1 ⟨v, H1, d, I1, r1, e1, hd, q1⟩ => ?_) hs
 exact da I1 hN hi hx r1 (fun s2 I2 => ⟨W.drop i, _, H1, I2, (Fwd.same e1).trans (Fwd.drop W H1 i), _, (r.same e1).put (Inv.ilt I1 hi) hd, q1⟩) hf
theorem PSD.of {ts : TS} {t : DS} (h : PS X st ts) (k : ∀ σ H W ρ E, Rel X W H σ ρ -> σ.length = X.N.length -> t E ρ -> ts ⟨(fun σ' H' => ∃ W' ρ', Fwd W H W' H' /\ Rel X W' H' σ' ρ' /\ E.nx ρ'), (fun v H' => ∃ W' d, Fwd W H W' H' /\ Den X.K W'.bad H' d v /\ E.rt d),
   (fun σ' H' => ∃ W' ρ', Fwd W H W' H' /\ Rel X W' H' σ' ρ' /\ E.bk ρ'), (fun σ' H' => ∃ W' ρ', Fwd W H W' H' /\ Rel X W' H' σ' ρ' /\ E.ct ρ')⟩ σ H) : PSD X st t := by
 intro pins s σ H W ρ E I r ht
 refine thn (h pins s σ H _ I (k σ H W ρ E r I.len ht)) fun f s1 q => ?_
 cases f with
 | next => obtain ⟨σ', H', I', W', ρ', fw, r', q⟩ := q; exact ⟨W', σ', H', I', fw, ρ', r', q⟩
 | brk => obtain ⟨σ', H', I', W', ρ', fw, r', q⟩ := q; exact ⟨W', σ', H', I', fw, ρ', r', q⟩
 | cont => obtain ⟨σ', H', I', W', ρ', fw, r', q⟩ := q; exact ⟨W', σ', H', I', fw, ρ', r', q⟩
 | ret u => obtain ⟨v, σ', H', I', rv, W', d, fw, hd, q⟩ := q; exact ⟨W', σ', H', I', fw, v, d, rv, hd, q⟩
def wM (c : DT) (tb : DS) : DS := fun E ρ => ∃ W : Nat -> Ro -> Prop, (∃ m, W m ρ) /\ ∀ m ρ, W m ρ -> c ρ fun b => if b = true then tb { E with nx := fun ρ' => ∃ m', m' < m /\ W m' ρ', ct := fun ρ' => ∃ m', m' < m /\ W m' ρ', bk := E.nx } ρ else E.nx ρ
theorem m5 {c : Expr} {body : List Stmt} {tc : DT} {tb : DS} (hp : PassesOwn (model X.prog X.w) X.A X.env X.xe) (hc : PTD X c tc) (hb : bR X body tb) : PSD X (.While c body [] pos) (wM tc tb) := by
 intro pins s σ H W ρ E I r h
 obtain ⟨Wd, ⟨m0, w0⟩, turn⟩ := h
 refine wpAny_While (codeAny_whileLoop (fun n s' => ∃ W' σ' H' ρ', Inv X pins σ' H' s' /\ Fwd W H W' H' /\ Rel X W' H' σ' ρ' /\ Wd n ρ') ?_ m0 ⟨W, σ, H, ρ, I, Fwd.refl W H, r, w0⟩)
 rintro n s1 ⟨W1, σ1, H1, ρ1, I1, fw1, r1, w1⟩
 refine wpAny_passesOwn hp (thn (hc pins s1 σ1 H1 W1 ρ1 _ I1 r1 (turn n ρ1 w1)) fun b s2 ⟨H2, I2, e2, q2⟩ => ?_)
 have fw2 := fw1.trans (Fwd.same (W := W1) e2)
 cases b with
 | true =>
  rw [if_pos rfl] at q2
  rw [if_pos rfl]
  refine wpAny_passesOwn hp (thn (hb pins s2 σ1 H2 W1 ρ1 _ I2 (r1.same e2) q2) fun f s3 q3 => ?_)
  obtain ⟨W3, σ3, H3, I3, fw3, q3⟩ := q3
  cases f with
  | next =>
   obtain ⟨ρ3, r3, m', hm, w3⟩ := q3
   exact ⟨m', hm, W3, σ3, H3, ρ3, I3, fw2.trans fw3, r3, w3⟩
  | cont =>
   obtain ⟨ρ3, r3, m', hm, w3⟩ := q3
   exact ⟨m', hm, W3, σ3, H3, ρ3, I3, fw2.trans fw3, r3, w3⟩
  | brk => exact ⟨W3, σ3, H3, I3, fw2.trans fw3, q3⟩
  | ret v => exact ⟨W3, σ3, H3, I3, fw2.trans fw3, q3⟩
 | false =>
  rw [if_neg Bool.false_ne_true] at q2
  rw [if_neg Bool.false_ne_true]
  exact wpAny_execs_nil ⟨W1, σ1, H2, I2, fw2, ρ1, r1.same e2, q2⟩
end
section
variable {X : Cx} {pos : Pos}
theorem wY {X : Cx} {W W' : Own} {H H' : Hp} {σ : St} {ρ : Ro} (r : Rel X W H σ ρ) (f : Fwd W H W' H') (a : Addr) (φ : Heap -> Prop) (q : H a = some (.ext φ)) : H' a = some (.ext φ) :=
 f.keep a _ (fun i z => by obtain ⟨_, _, o, q', m⟩ := r.kn i a z; rw [q] at q'; cases q'; exact m) q
theorem wX {X : Cx} {W W' : Own} {H H' : Hp} {σ : St} {ρ : Ro} (r : Rel X W H σ ρ) (f : Fwd W H W' H') (a : Addr) (vs : List V) (q : SqT X.K H a vs) : SqT X.K H' a vs := by
 have noT : ∀ a xs, (H a = some (.tup xs) ∨ ∃ o, H a = some (.frz o (.tup xs))) -> ∀ i, W.O i ≠ some a := fun a xs z i e => by
  obtain ⟨_, _, o', q, m⟩ := r.kn i a e
  rcases z with z | ⟨o, z⟩
  ·rw [q] at z; cases z; exact m
  ·rw [q] at z; cases z; exact m
 rcases q with q | q
 ·rcases q with q' | ⟨o, q'⟩
  ·exact .inl (.inl (f.keep a _ (noT a vs (.inl q')) q'))
  ·exact .inl (.inr ⟨o, f.keep a _ (noT a vs (.inr ⟨o, q'⟩)) q'⟩)
 ·exact .inr q
theorem wW {X : Cx} {W W' : Own} {H H' : Hp} {σ' : St} {ρ' : Ro} (r' : Rel X W' H' σ' ρ') (f : Fwd W H W' H') (t : Bool) (a : Addr) (vs : List V) (p : ¬ W.bad t a) (q : SqG X.K H t a vs) : ¬ W'.bad t a /\ SqG X.K H' t a vs := by
 have no : ∀ i, W.O i ≠ some a := fun i e => p (.inr (.inl ⟨i, e⟩))
 refine ⟨fun b => ?_, ?_, fun z => ⟨f.keep a _ no (q.2 z).1, (q.2 z).2⟩⟩
 ·rcases b with b | ⟨i, b⟩ | ⟨e, b⟩
  ·rw [f.B] at b; exact p (.inl b)
  ·rcases f.new i a b with ⟨j, z⟩ | z
   ·exact no j z
   ·rcases q.1 with (q | ⟨o, q⟩) | ⟨o, its, n, q, _⟩
    ·rw [z] at q; cases q
    ·rw [z] at q; cases q
    ·rw [(r'.kn i a b).1] at q; cases q
  ·rw [f.S] at b; exact p (.inr (.inr ⟨e, b⟩))
 ·rcases q.1 with (q | ⟨o, q⟩) | q
  ·exact .inl (.inl (f.keep a _ no q))
  ·exact .inl (.inr ⟨o, f.keep a _ no q⟩)
  ·exact .inr q
theorem Den.fwd {X : Cx} {W W' : Own} {H H' : Hp} {σ σ' : St} {ρ ρ' : Ro} {d : D} {v : V} (r : Rel X W H σ ρ) (r' : Rel X W' H' σ' ρ') (f : Fwd W H W' H') (h : Den X.K W.bad H d v) : Den X.K W'.bad H' d v :=
 Den.map (wX r f) (wW r' f) (wY r f) d v h
theorem SqL.fwd {K : PySem.W.Frag} {W W' : Own} {H H' : Hp} {a : Addr} {vs : List V} {t : Bool} (f : Fwd W H W' H') (p : ¬ W.bad t a) (q : SqL K H a vs) : SqL K H' a vs := by
 have no : ∀ i, W.O i ≠ some a := fun i e => p (.inr (.inl ⟨i, e⟩))
 rcases q with (q | ⟨o, q⟩) | q
 ·exact .inl (.inl (f.keep a _ no q))
 ·exact .inl (.inr ⟨o, f.keep a _ no q⟩)
 ·exact .inr q
abbrev DG := D -> Ro -> (Ro -> Prop) -> Prop
def PGD (X : Cx) (target : Expr) (g : DG) : Prop :=
 ∀ (pins : List (Addr × Obj)) (s : Shared) (σ : St) (H : Hp) (W : Own) (ρ : Ro) (d : D) (v : V) (u : Value) (Q : Ro -> Prop), Inv X pins σ H s -> Rel X W H σ ρ -> RelV v u -> Den X.K W.bad H d v -> g d ρ Q →
  wpAny (model X.prog X.w) X.A (assign target X.env u) (fun _ s' => ∃ W' σ' H' ρ', Inv X pins σ' H' s' /\ Fwd W H W' H' /\ Rel X W' H' σ' ρ' /\ Q ρ') X.xe s
abbrev DGs := List D -> Ro -> (Ro -> Prop) -> Prop
def kJ (X : Cx) (ts : List Expr) (t : DGs) : Prop :=
 ∀ (pins : List (Addr × Obj)) (s : Shared) (σ : St) (H : Hp) (W : Own) (ρ : Ro) (ds : List D) (vs : List V) (us : List Value) (Q : Ro -> Prop), Inv X pins σ H s -> Rel X W H σ ρ -> Vals vs us -> af X.K W.bad H ds vs -> t ds ρ Q →
  wpAny (model X.prog X.w) X.A (assignInOrder ((assignEach ts X.env).map (·.2)) us) (fun _ s' => ∃ W' σ' H' ρ', Inv X pins σ' H' s' /\ Fwd W H W' H' /\ Rel X W' H' σ' ρ' /\ Q ρ') X.xe s
theorem af.fwd {X : Cx} {W W' : Own} {H H' : Hp} {σ σ' : St} {ρ ρ' : Ro} (r : Rel X W H σ ρ) (r' : Rel X W' H' σ' ρ') (f : Fwd W H W' H') : ∀ {ds : List D} {vs : List V}, af X.K W.bad H ds vs -> af X.K W'.bad H' ds vs
 | [], _, h => by simpa only [af] using h
 | d :: ds, _, h => by
  simp only [af] at h ⊢
  obtain ⟨v, q, e, h1, h2⟩ := h
  exact ⟨v, q, e, Den.fwd r r' f h1, af.fwd r r' f h2⟩
def gP (i : Nat) : DG := fun d ρ Q => Q (ρ.set i (some (.val d)))
theorem aV {x : Str} (i : Nat) (hN : X.N.Nodup) (hi : X.N[i]? = some x := by rfl) (hx : Loc X.env.scope x := by first | exact Or.inl rfl | exact Or.inr rfl)
  (hf : X.fn x = true ∨ X.env.scope.names.lookup x = some .local := by first | exact .inl rfl | exact .inr rfl | assumption) : PGD X (.Name x pos) (gP i) := by
 intro pins s σ H W ρ d v u Q I r rv hd h
 exact wpAny_assign_Name (da I hN hi hx rv (fun s' I' => ⟨W.drop i, _, H, _, I', Fwd.drop W H i, r.put (Inv.ilt I hi) hd, h⟩) hf)
def dX : DGs := fun ds ρ Q => ds = [] /\ Q ρ
def aW (g : DG) (u : DGs) : DGs := fun ds ρ Q => ∃ d r, ds = d :: r /\ g d ρ fun ρ' => u r ρ' Q
theorem o2 : kJ X [] dX := by
 intro pins s σ H W ρ ds vs us Q I r rv hd h
 obtain ⟨e, h⟩ := h
 subst e
 simp only [af] at hd
 subst hd
 cases rv
 exact assignInOrder_nil ⟨W, σ, H, ρ, I, Fwd.refl W H, r, h⟩
theorem jI {e : Expr} {es : List Expr} {g : DG} {u : DGs} (h1 : PGD X e g) (h2 : kJ X es u) (hs : (assignEach (e :: es) X.env).map (·.2) = assign e X.env :: (assignEach es X.env).map (·.2) := by rfl) : kJ X (e :: es) (aW g u) := by
 intro pins s σ H W ρ ds vs us Q I r rv hd h
 obtain ⟨d, dr, e1, h⟩ := h
 subst e1
 simp only [af] at hd
 obtain ⟨v, vr, e2, hd1, hd2⟩ := hd
 subst e2
 cases rv with
 | cons ra rb =>
  rw [hs]
  refine assignInOrder_cons (thn (h1 pins s σ H W ρ d v _ _ I r ra hd1 h) fun _ s1 ⟨W1, σ1, H1, ρ1, I1, f1, r1, q1⟩ => ?_)
  exact thn (h2 pins s1 σ1 H1 W1 ρ1 dr vr _ Q I1 r1 rb (af.fwd r r1 f1 hd2) q1) fun _ s2 ⟨W2, σ2, H2, ρ2, I2, f2, r2, q2⟩ => ⟨W2, σ2, H2, ρ2, I2, f1.trans f2, r2, q2⟩
theorem nr {h h' : Heap} {it l : Addr} {items : Array Value} (hl : h.IsList l items) (hs : Heap.SameBut it h h') (hne : l ≠ it) : h'.IsList l items := by
 obtain ⟨o, ho, r⟩ := hl
 exact ⟨o, (hs.2 l hne).trans ho, r⟩
theorem lD {prog : Program} {w : World} {A : Around} {E : Value -> Shared -> Prop} {it l : Addr} {items : Array Value} (hne : l ≠ it) : ∀ (n i : Nat) (s : Shared) (Q : List Value -> Shared -> Prop), s.heap.IsListIter it l i -> s.heap.IsList l items -> i + n <= items.size →
  (∀ h', h'.IsListIter it l (i + n) -> Heap.SameBut it s.heap h' -> Q ((items.toList.drop i).take n) { s with heap := h' }) -> wpAny (model prog w) A (draw (.ref it) n) Q E s
 | 0, i, s, Q, hit, _, _, hQ => by
  show wpAny _ _ (pure []) Q E s
  exact wpAny_pure (by simpa using hQ s.heap hit (Heap.SameBut.refl ..))
 | n + 1, i, s, Q, hit, hl, hle, hQ => by
  have hlt : i < items.size := by omega
  show wpAny _ _ (pyNext (.ref it) >>= _) Q E s
  refine wpAny_bind (wpAny_pyNext_list_item hit hl (x := items[i]) (by simp [hlt]) fun h₁ hit₁ hs₁ => ?_)
  refine wpAny_bind (wpAny_holding (lD hne n (i + 1) _ _ hit₁ (nr hl hs₁ hne) (by omega) fun h₂ hit₂ hs₂ => wpAny_pure ?_))
  have hd : items.toList.drop i = items[i] :: items.toList.drop (i + 1) := by simp [List.drop_eq_getElem_cons, hlt]
  have := hQ h₂ (by rw [show i + (n + 1) = i + 1 + n by omega]; exact hit₂) (hs₁.trans hs₂)
  rw [hd, List.take_succ_cons] at this
  exact this
theorem jP {prog : Program} {w : World} {A : Around} {E : Value -> Shared -> Prop} {s : Shared} {l : Addr} {items : Array Value} {Q : List Value -> Shared -> Prop} (hh : A.handled = none) (hl : s.heap.IsList l items)
  (hQ : ∀ h', Heap.ExtBut s.heap.objs.size s.heap h' -> Q items.toList { s with heap := h' }) : wpAny (model prog w) A (unpackItems (.ref l) items.size none) Q E s := by
 have hlt : l ≠ s.heap.objs.size := by obtain ⟨o, ho, _⟩ := hl; exact Nat.ne_of_lt (Heap.lt_size ho)
 unfold unpackItems
 refine wpAny_bind ?_
 ·unfold notIterableAtAll
  refine wpAny_bind (wpAny_specialOf hl.typeIs F.slot_list_iter.lookup ?_)
  refine wpAny_pure ?_
  simp only [Bool.false_eq_true, if_false]
  refine wpAny_bind (wpAny_holding (wpAny_pyIter_list hl ?_))
  have hl0 : (s.heap.push { cls := .type "list_iterator", data := .fields #[.ref l, rawInt 0] }).IsList l items := by
   obtain ⟨o, ho, r⟩ := hl
   exact ⟨o, Heap.get?_push_of_some _ ho, r⟩
  refine wpAny_bind (wpAny_holding (lD hlt items.size 0 _ _ ⟨_, Heap.get?_push_size _ rfl, rfl, rfl⟩ hl0 (by omega) fun h₁ hit₁ hs₁ => ?_))
  have hall : List.take items.size (List.drop 0 items.toList) = items.toList := by
   rw [List.drop_zero]; exact List.take_of_length_le (by simp)
  rw [hall]
  rw [if_neg (by simp)]
  have hl₁ : h₁.IsList l items := nr hl0 hs₁ hlt
  refine wpAny_bind (wpAny_holding (wpAny_pyNext_list_end hh hit₁ hl₁ (by simp) fun h₂ he₂ => ?_))
  simp only [Option.isSome_none, Bool.false_eq_true, if_false]
  refine wpAny_pure (hQ h₂ fun b o hb e => he₂ b o hb (hs₁.extBut b o hb (Heap.get?_push_of_some _ e)))
def cT (n : Nat) (t : DGs) : DG := fun d ρ Q => ∃ ds, (d = .tup ds ∨ ∃ t, d = .lst t ds) /\ ds.length = n /\ t ds ρ Q
theorem rX {es : List Expr} {k : Nat} {t : DGs} {n : Nat} (hc : X.calm = true) (h : kJ X es t) (hn : (assignEach es X.env).length = n := by rfl) (hst : (assignEach es X.env).findIdx? (·.1) = none := by rfl) : PGD X (.Tuple es k pos) (cT n t) := by
 intro pins s σ H W ρ d v u Q I r rv hd hw
 obtain ⟨ds, ed, hl, hw⟩ := hw
 rcases ed with ed | ⟨tg, ed⟩
 ·subst ed
  obtain ⟨a, vs, e1, hq, hds⟩ := hd.tup_
  subst e1
  cases rv
  obtain ⟨its, rvs, ht, hz⟩ := I.tuple hq
  refine assign_Tuple_tuple (I.ok.hd hc) ht (by simp [hn, <- hl, <- rvs.length, hds.len]) hst fun h' hx => ?_
  have I1 : Inv X pins σ H { s with heap := h' } := I.kept (t' := s.toks) fun b o e => hx b o (Nat.ne_of_lt (Heap.lt_size e)) e
  exact h pins _ σ H W ρ ds vs _ Q I1 r (by simpa using rvs) hds hw
 ·subst ed
  obtain ⟨a, vs, e1, _, hq, hds⟩ := hd.lst_
  subst e1
  cases rv
  obtain ⟨its, rvs, ht, hz⟩ := I.list hq
  rw [assign_Tuple]
  refine wpAny_bind (wpAny_standAt ?_)
  unfold unpack
  rw [hst, show (assignEach es X.env).length = its.toArray.size by simp [hn, <- hl, <- rvs.length, hds.len]]
  refine wpAny_bind (wpAny_holding (jP (I.ok.hd hc) ht.isList fun h' hx => ?_))
  have I1 : Inv X pins σ H { s with heap := h' } := I.kept (t' := s.toks) fun b o e => hx b o (Nat.ne_of_lt (Heap.lt_size e)) e
  exact h pins _ σ H W ρ ds vs _ Q I1 r (by simpa using rvs) hds hw
def tN (te : DE) (g : DG) : DS := fun E ρ => te ρ fun d => g d ρ E.nx
theorem wO {tg e : Expr} {te : DE} {g : DG} (he : PED X e te) (hg : PGD X tg g) (hs : swapsWithSole [tg] e pos.line X.env = pure false := by rfl) (hw : swappedStores [tg] e X.env = pure none := by rfl)
  (h1 : (assignEach [tg] X.env).map (·.2) = [assign tg X.env] := by rfl) : PSD X (.Assign [tg] e pos) (tN te g) := by
 intro pins s σ H W ρ E I r h
 refine wpAny_Assign_stores (thn (he pins s σ H W ρ _ I r h) fun u s1 ⟨v, H1, d, I1, r1, e1, hd, q1⟩ => ?_) hs hw
 rw [h1]
 exact thn (hg pins s1 σ H1 W ρ d v u _ I1 (r.same e1) r1 hd q1) fun _ s2 ⟨W2, σ2, H2, ρ2, I2, f2, r2, q2⟩ => ⟨W2, σ2, H2, I2, (Fwd.same e1).trans f2, ρ2, r2, q2⟩
def YD (K : PySem.W.Frag) (W : Own) (H : Hp) (J : It) (ds : List D) : Prop := ∀ (P' : Bool -> Addr -> Prop) (H' : Hp), (∀ a vs, SqT K H a vs -> SqT K H' a vs) -> (∀ t a vs, ¬ W.bad t a -> SqG K H t a vs -> ¬ P' t a /\ SqG K H' t a vs) -> (∀ a φ, H a = some (.ext φ) -> H' a = some (.ext φ)) -> ∀ i, (i < ds.length -> J.go i H') /\ (∀ x H3, J.yld i H' x H3 -> i < ds.length -> ai H' H3 /\ ∃ d, ds[i]? = some d /\ Den K P' H3 d x) /\ (ds.length <= i -> J.stop i H')
def PID (X : Cx) (tg iter : Expr) (wi : DA) : Prop :=
 ∀ (pins : List (Addr × Obj)) (s : Shared) (σ : St) (H : Hp) (W : Own) (ρ : Ro) (R : List D -> Prop), Inv X pins σ H s -> Rel X W H σ ρ -> wi ρ R →
  wpAny (model X.prog X.w) X.A (eval iter X.env) (fun v s1 => wpAny (model X.prog X.w) X.A (pyIter v) (fun itv s2 => ∃ (it : Addr) (fp : List Addr) (tn : Nat -> Heap -> Prop) (J : It) (H' : Hp) (ds : List D), itv = .ref it /\ Inv X pins σ H' s2 /\ ai H H' ∧
   Turn X.prog X.w X.K tg J fp it tn /\ tn 0 s2.heap /\ (∀ b ∈ fp, cZ X pins H' b) /\ YD X.K W H' J ds /\ R ds) X.xe s1) X.xe s
theorem PID.of {tg iter : Expr} {wi : TI} {wd : DA} (h : PI X tg iter wi) (k : ∀ σ H W ρ R, Rel X W H σ ρ -> wd ρ R -> wi σ H fun J H' => ai H H' /\ ∃ ds, YD X.K W H' J ds /\ R ds) : PID X tg iter wd := by
 intro pins s σ H W ρ R I r hw
 refine thn (h pins s σ H _ I (k σ H W ρ R r hw)) fun v s1 h1 => thn h1 fun itv s2 h2 => ?_
 obtain ⟨it, fp, tn, J, H', e, I2, T, st, f2, e2, ds, y, q⟩ := h2
 exact ⟨it, fp, tn, J, H', ds, e, I2, e2, T, st, f2, y, q⟩
def qe (ti : DE) : DA := fun ρ R => ti ρ fun d => ∃ t ds, d = .lst t ds /\ R ds
theorem bj {tg iter : Expr} {ti : DE} (h : PED X iter ti) : PID X tg iter (qe ti) := by
 refine PID.of (wb h.pe) fun σ H W ρ R r hw => ⟨W, ρ, _, r, hw, fun v H1 d e1 hd q => ?_⟩
 obtain ⟨tg', ds, rfl, q⟩ := q
 obtain ⟨a, vs, rfl, na, hq, hds⟩ := hd.lstG_
 refine ⟨a, rfl, ⟨vs, hq.1⟩, e1, ds, ?_, q⟩
 intro P' H' hT hL hX i
 have hq' : SqL X.K H' a vs := (hL _ a vs na hq).2.1
 have hl := hds.len
 refine ⟨fun hi => ?_, fun x H3 y hi => ?_, fun hi => ⟨vs, hq', by omega⟩⟩
 ·obtain ⟨v, hv, _⟩ := hds.get (i := i) (d := ds[i]) (by simp [hi])
  exact ⟨vs, v, hq', hv⟩
 ·obtain ⟨e3, y⟩ := y
  subst e3
  obtain ⟨d, h1, h2⟩ := hds.bf (y vs hq')
  exact ⟨ai.refl _, d, h1, Den.map hT hL hX d _ h2⟩
def c6 (lo step : Int) (n : Nat) : List D := (List.range n).map fun (i : Nat) => D.int (lo + i * step)
theorem jL (lo step : Int) (n : Nat) : (c6 lo step n).length = n := by simp [c6]
theorem nY {lo step : Int} {n i : Nat} (h : i < n) : (c6 lo step n)[i]? = some (D.int (lo + i * step)) := by simp [c6, h]
def wA (lo c : Int) (n : Nat) : It := ⟨fun i _ => i < n, fun i H x H' => H' = H /\ x = .int (lo + i * c), fun i _ => n <= i⟩
theorem uI (K : PySem.W.Frag) (W : Own) (H : Hp) (lo c : Int) (n : Nat) : YD K W H (wA lo c n) (c6 lo c n) := fun P' H' _ _ _ i => by
 rw [jL]
 refine ⟨fun h => h, fun x H3 y hi => ?_, fun h => h⟩
 obtain ⟨e, ex⟩ := y
 subst e ex
 exact ⟨ai.refl _, _, nY hi, Den.int _⟩
theorem oJ {P : Program} {w : World} {K : PySem.W.Frag} {tg : Expr} (it : Addr) (lo c : Int) (n : Nat) : Turn P w K tg (wA lo c n) [it] it (fun i h => IsRangeIter h it (lo + (i : Nat) * c) ((n : Int) - (i : Nat)) c) where
 mem := by simp
 obj := fun i h st b hb => by
  have e : b = it := by simpa using hb
  subst e
  exact ⟨_, st, fun v z => by
   have z' : Data.fields _ = Data.cell v := z
   cases z'⟩
 keep := fun i h h' st k => k it (by simp) _ st
 item := by
  intro X hP hw hK hc i pins s σ H E I hf st hg
  subst hP hw hK
  obtain ⟨f0, f1, f2, f3, f4, f5⟩ := hf it (by simp)
  have W := Walks.range (prog := X.prog) (w := X.w) (I.ok.hd hc) it lo c n
  refine W.item i s _ _ hg st fun v h' tk hv st' kk => ?_
  obtain ⟨t, rfl⟩ := hv
  have I1 : Inv X pins σ H { s with heap := h', toks := tk } := I.turned (fun b o hb e => kk b o (by simpa using hb) e) f0 f1 f3 f4 f5
  exact ⟨_, rfl, qv (s := { s with heap := h', toks := tk }) (n := "range_iterator") st' rfl rfl (by decide) ⟨.int (lo + i * c), H, I1, ⟨t, rfl⟩, ⟨rfl, rfl⟩, st', fun b hb => (hf b hb).1⟩⟩
 done := by
  intro X hP hw hK hc i pins s σ H E I hf st hg
  subst hP hw hK
  obtain ⟨f0, f1, f2, f3, f4, f5⟩ := hf it (by simp)
  exact wpAny_pyNext_range_end (I.ok.hd hc) st (by have : n <= i := hg; omega) fun h' eb => ⟨rfl, I.turned (t' := s.toks) (fun b o hb e => eb b o hb e) f0 f1 f3 f4 f5⟩
 self := fun _ _ _ _ _ st h => wpAny_pyIter_rangeiter st h
def cK (lo hi c : Int) : Nat := (Builtin.Range.rangeSize lo hi c).toNat
theorem tm {a b c : Int} (ha : -(2 ^ 40) <= a) (ha' : a < 2 ^ 40) (hb : -(2 ^ 40) <= b) (hb' : b < 2 ^ 40) (hc : 0 < c) (hc' : c < 2 ^ 20) : Builtin.Range.small a b c = true /\ 0 <= Builtin.Range.rangeSize a b c := by
 have hd : a < b -> 0 <= (b - a - 1) / c /\ (b - a - 1) / c <= b - a - 1 := fun h => ⟨Int.ediv_nonneg (by omega) (by omega), Int.ediv_le_self _ (by omega)⟩
 have hm : a < b -> (b - a - 1) / c * c <= b - a - 1 := fun h => Int.ediv_mul_le _ (by omega)
 unfold Builtin.Range.small Builtin.Range.rangeSize
 rw [if_pos (show c > 0 from hc)]
 by_cases h : a < b
 ·obtain ⟨h1, h2⟩ := hd h
  have h3 := hm h
  rw [if_pos h]
  generalize (b - a - 1) / c = q at h1 h2 h3 ⊢
  have h4 : 0 <= q * c := Int.mul_nonneg h1 (by omega)
  simp only [Builtin.Range.rangeFitsLong, Bool.and_eq_true, Bool.or_eq_true, decide_eq_true_eq, beq_iff_eq]
  have e : (q + 1 - 1) * c = q * c := by rw [Int.add_sub_cancel]
  have e' : (q + 1) * c = q * c + c := by rw [Int.add_mul, Int.one_mul]
  constructor
  ·rw [if_pos (show c > 0 from hc)]
   simp only [Bool.and_eq_true, decide_eq_true_eq]
   omega
  ·omega
 ·rw [if_neg h]
  simp only [Builtin.Range.rangeFitsLong, Bool.and_eq_true, Bool.or_eq_true, decide_eq_true_eq, beq_iff_eq]
  constructor
  ·simp; omega
  ·exact Int.le_refl _
theorem lW {pins : List (Addr × Obj)} {σ : St} {H : Hp} {s : Shared} {W : Own} {R : List D -> Prop} {E : Value -> Shared -> Prop} {tg : Expr} {lo hi c : Int} {t u v : Tok} {tk : Nat} (I : Inv X pins σ H s) (h1 : -(2 ^ 40) <= lo) (h2 : lo < 2 ^ 40) (h3 : -(2 ^ 40) <= hi) (h4 : hi < 2 ^ 40) (h5 : 0 < c) (h6 : c < 2 ^ 20)
  (q : R (c6 lo c (cK lo hi c))) : wpAny (model X.prog X.w) X.A (pyIter (.ref s.heap.objs.size)) (fun itv s2 => ∃ (it : Addr) (fp : List Addr) (tn : Nat -> Heap -> Prop) (J : It) (H' : Hp) (ds : List D), itv = .ref it /\ Inv X pins σ H' s2 /\ ai H H' ∧
   Turn X.prog X.w X.K tg J fp it tn /\ tn 0 s2.heap /\ (∀ b ∈ fp, cZ X pins H' b) /\ YD X.K W H' J ds /\ R ds) E { s with heap := s.heap.push { cls := .type "range", data := .fields #[.int lo t, .int hi u, .int c v] }, toks := tk } := by
 obtain ⟨sm, nn⟩ := tm h1 h2 h3 h4 h5 h6
 refine wpAny_pyIter_range (IsRange.new ..) sm ?_
 have I1 : Inv X pins σ H { s with heap := s.heap.push { cls := .type "range", data := .fields #[.int lo t, .int hi u, .int c v] }, toks := tk } := I.kept fun b o e => Heap.get?_push_of_some _ e
 refine ⟨(s.heap.push { cls := .type "range", data := .fields #[.int lo t, .int hi u, .int c v] }).objs.size, [(s.heap.push { cls := .type "range", data := .fields #[.int lo t, .int hi u, .int c v] }).objs.size], _, _, H, _, rfl,
  I1.kept (t' := tk) fun b o e => Heap.get?_push_of_some _ e, ai.refl H, oJ _ lo c (cK lo hi c), ?_, fun b hb => ?_, uI _ _ _ _ _ _, q⟩
 ·have e1 : lo + ((0 : Nat) : Int) * c = lo := by simp
  have e2 : ((cK lo hi c : Nat) : Int) - ((0 : Nat) : Int) = Builtin.Range.rangeSize lo hi c := by unfold cK; omega
  show IsRangeIter _ _ (lo + ((0 : Nat) : Int) * c) (((cK lo hi c : Nat) : Int) - ((0 : Nat) : Int)) c
  rw [e1, e2]
  exact Heap.get?_push_size _ rfl
 ·have e : b = (s.heap.push { cls := .type "range", data := .fields #[.int lo t, .int hi u, .int c v] }).objs.size := by simpa using hb
  subst e
  exact I1.fpOk (Nat.le_refl _) (I1.hok.fresh (Nat.le_refl _))
def CR3 (i : Int) : Prop := -(2 ^ 40) <= i /\ i < 2 ^ 40
def uS (ta : DA) : DA := fun ρ R => ta ρ fun ds => ∃ i j c : Int, ds = [.int i, .int j, .int c] /\ CR3 i /\ CR3 j /\ 0 < c /\ c < 2 ^ 20 /\ R (c6 i c (cK i j c))
def mv (ta : DA) : DA := fun ρ R => ta ρ fun ds => ∃ i j : Int, ds = [.int i, .int j] /\ CR3 i /\ CR3 j /\ R (c6 i 1 (cK i j 1))
def qj (ta : DA) : DA := fun ρ R => ta ρ fun ds => ∃ j : Int, ds = [.int j] /\ CR3 j /\ R (c6 0 1 (cK 0 j 1))
theorem lJ {tg a b : Expr} {ta : DA} {p pos : Pos} (hg : Gl X "range") (hm : X.mg "range" = none) (ha : PAD X [a, b] ta) (hs : starEach [a, b] X.env = (false, eval a X.env) :: starEach [b] X.env := by rfl) (hs2 : (backTo pos (starEach [b] X.env)).any (·.1) = false := by rfl) :
  PID X tg (.Call (.Name "range" p) [a, b] [] pos) (mv ta) := by
 intro pins s σ H W ρ R I r h
 refine Call_ (cN I hg hm boot_range (PyProof.Rows.callWith_type1 (thn (ha pos pins s σ H W ρ _ I r h) fun us s1 ⟨vs, H1, ds, I1, r1, e1, hd, q1⟩ => ?_) hs hs2))
 obtain ⟨i, j, e, ⟨a1, a2⟩, ⟨b1, b2⟩, q⟩ := q1
 subst e
 obtain ⟨v1, u1, rfl, d1, d2⟩ := mw hd
 have z1 := d1.int_
 have z2 := d2.int_
 subst z1 z2
 cases r1 with
 | cons ra rr =>
  cases rr with
  | cons rb rr =>
   cases rr
   obtain ⟨t, rfl⟩ := ra
   obtain ⟨t', rfl⟩ := rb
   refine call_range_2 ?_
   exact thn (lW (W := W) (R := R) I1 a1 a2 b1 b2 (by decide) (by decide) q) fun itv s2 ⟨it, fp, tn, J, H', ds, x1, x2, x3, x4, x5, x6, x7, x8⟩ => ⟨it, fp, tn, J, H', ds, x1, x2, e1.trans x3, x4, x5, x6, x7, x8⟩
theorem cg {tg a : Expr} {ta : DA} {p pos : Pos} (hg : Gl X "range") (hm : X.mg "range" = none) (ha : PAD X [a] ta) (hs : starEach [a] X.env = (false, eval a X.env) :: starEach [] X.env := by rfl) (hs2 : (backTo pos (starEach [] X.env)).any (·.1) = false := by rfl) :
  PID X tg (.Call (.Name "range" p) [a] [] pos) (qj ta) := by
 intro pins s σ H W ρ R I r h
 refine Call_ (cN I hg hm boot_range (PyProof.Rows.callWith_type1 (thn (ha pos pins s σ H W ρ _ I r h) fun us s1 ⟨vs, H1, ds, I1, r1, e1, hd, q1⟩ => ?_) hs hs2))
 obtain ⟨j, e, ⟨b1, b2⟩, q⟩ := q1
 subst e
 obtain ⟨v1, rfl, d1⟩ := jg hd
 have z1 := d1.int_
 subst z1
 cases r1 with
 | cons ra rr =>
  cases rr
  obtain ⟨t, rfl⟩ := ra
  refine call_range_1 ?_
  exact thn (lW (W := W) (R := R) I1 (by decide) (by decide) b1 b2 (by decide) (by decide) q) fun itv s2 ⟨it, fp, tn, J, H', ds, x1, x2, x3, x4, x5, x6, x7, x8⟩ => ⟨it, fp, tn, J, H', ds, x1, x2, e1.trans x3, x4, x5, x6, x7, x8⟩
def qc (wi : DA) (g : DG) (tb : DS) : DS := fun E ρ => wi ρ fun ds => ∃ Pv : Nat -> Ro -> Prop, Pv 0 ρ ∧
 (∀ j x ρ', ds[j]? = some x -> Pv j ρ' -> g x ρ' fun ρ2 => tb { E with nx := Pv (j + 1), ct := Pv (j + 1), bk := E.nx } ρ2) /\ ∀ ρ', Pv ds.length ρ' -> E.nx ρ'
theorem br {tg iter : Expr} {body : List Stmt} {wi : DA} {g : DG} {tb : DS} (hp : PassesOwn (model X.prog X.w) X.A X.env X.xe) (hc : X.calm = true) (hi : PID X tg iter wi) (hg : PGD X tg g) (hb : bR X body tb)
  (hs : ∀ x, foldedSetIterable iter X.env x = pure x := by intro _; rfl) : PSD X (.For tg iter body [] pos) (qc wi g tb) := by
 intro pins s σ H W ρ E I r h
 refine wpAny_For (thn (hi pins s σ H W ρ _ I r h) fun v s1 h1 => thn h1 fun itv s2 h2 => ?_) hs
 obtain ⟨it, fp, tn, J, H2, ds, e, I2, e2, T, st2, f2, yd, Pv, p0, turn, pd⟩ := h2
 subst e
 have r2 := r.same e2
 have stat : ∀ {H' : Hp}, (∀ b ∈ fp, H' b = none) -> ∀ b ∈ fp, cZ X pins H' b := fun hn b hb => ⟨hn b hb, (f2 b hb).2⟩
 refine codeAny_forLoop_any (fun n s' => ∃ i W' σ' H' ρ', n = ds.length - i /\ i <= ds.length /\ Inv X pins σ' H' s' /\ tn i s'.heap /\ (∀ b ∈ fp, H' b = none) /\ Fwd W H2 W' H' /\ Rel X W' H' σ' ρ' /\ Pv i ρ') ?_ ds.length ⟨0, W, σ, H2, ρ, by simp, Nat.zero_le _, I2, st2, fun b hb => (f2 b hb).1, Fwd.refl W H2, r2, p0⟩
 rintro n s3 ⟨i, W3, σ3, H3, ρ3, en, hle, I3, st3, fr3, fw3, r3, p3⟩
 obtain ⟨yg, yy, ys⟩ := yd W3.bad H3 (wX r2 fw3) (wW r3 fw3) (wY r2 fw3) i
 by_cases hlt : i < ds.length
 ·refine wpAny_passesOwn hp (thn (T.item X rfl rfl rfl hc i pins s3 σ3 H3 X.xe I3 (stat fr3) st3 (yg hlt)) fun rr s4 ⟨u, hr, h4⟩ => ?_)
  subst hr
  refine wpAny_passesOwn hp (thn h4 fun _ s5 ⟨x, H5, I5, r5, y5, st5, fr5⟩ => ?_)
  obtain ⟨e5, d, hd, hden⟩ := yy x H5 y5 hlt
  have I5' := I5.pinned (stat fr5) (T.obj _ _ st5)
  have rl5 := r3.same e5
  refine wpAny_passesOwn hp (thn (hg _ s5 σ3 H5 W3 ρ3 d x u _ I5' rl5 r5 hden (turn i d ρ3 hd p3)) fun _ s6 ⟨W6, σ6, H6, ρ6, I6, f6, r6, q6⟩ => ?_)
  refine wpAny_passesOwn hp (thn (hb _ s6 σ6 H6 W6 ρ6 _ I6 r6 q6) fun f s7 q7 => ?_)
  obtain ⟨W7, σ7, H7, I7, f7, q7⟩ := q7
  have fw7 : Fwd W H2 W7 H7 := fw3.trans ((Fwd.same e5).trans (f6.trans f7))
  have fw70 : Fwd W H W7 H7 := (Fwd.same e2).trans fw7
  have again : ∀ {ρ7 : Ro}, Rel X W7 H7 σ7 ρ7 -> Pv (i + 1) ρ7 -> ∃ m, m < n /\ ∃ i W' σ' H' ρ', m = ds.length - i /\ i <= ds.length /\ Inv X pins σ' H' s7 /\ tn i s7.heap /\ (∀ b ∈ fp, H' b = none) /\ Fwd W H2 W' H' /\ Rel X W' H' σ' ρ' /\ Pv i ρ' := fun {ρ7} r7 p7 => by
   refine ⟨ds.length - (i + 1), by omega, i + 1, W7, σ7, H7, ρ7, rfl, hlt, I7.unpinned, T.keep _ _ _ st5 fun b hb o e => (I7.pin (b, o) (List.mem_append_right _ (List.mem_append_right _ (fx hb e)))).1, fun b hb => ?_, fw7, r7, p7⟩
   obtain ⟨o, e, d⟩ := T.obj _ _ st5 b hb
   exact (I7.pin (b, o) (List.mem_append_right _ (List.mem_append_right _ (fx hb e)))).2.1
  cases f with
  | next => obtain ⟨ρ7, r7, n7⟩ := q7; exact again r7 n7
  | cont => obtain ⟨ρ7, r7, n7⟩ := q7; exact again r7 n7
  | brk => obtain ⟨ρ7, r7, q7⟩ := q7; exact ⟨W7, σ7, H7, I7.unpinned, fw70, ρ7, r7, q7⟩
  | ret v => obtain ⟨x7, d7, r7, h7, q7⟩ := q7; exact ⟨W7, σ7, H7, I7.unpinned, fw70, x7, d7, r7, h7, q7⟩
 ·have e : i = ds.length := by omega
  refine wpAny_passesOwn hp (thn (T.done X rfl rfl rfl hc i pins s3 σ3 H3 X.xe I3 (stat fr3) st3 (ys (by omega))) fun rr s4 ⟨hr, I4⟩ => ?_)
  subst hr
  subst e
  exact wpAny_execs_nil ⟨W3, σ3, H3, I4, (Fwd.same e2).trans fw3, ρ3, r3, pd ρ3 p3⟩
def tV (i j : Nat) (ta : DA) : DS := fun E ρ => ta ρ fun ds => ∃ d e, ds = [d, e] /\ E.nx ((ρ.set i (some (.val d))).set j (some (.val e)))
theorem wQ {x y : Str} {a b : Expr} {ta : DA} {px py pt : Pos} {kt k2 pt2} (i j : Nat) (hc : X.calm = true) (hN : X.N.Nodup) (hij : i ≠ j) (ha : PAD X [a, b] ta) (hi : X.N[i]? = some x := by rfl) (hj : X.N[j]? = some y := by rfl)
  (hx : X.env.scope.names.lookup x = some .local := by rfl) (hy : X.env.scope.names.lookup y = some .local := by rfl)
  (hw : swappedStores [.Tuple [.Name x px, .Name y py] kt pt] (.Tuple [a, b] k2 pt2) X.env = pure (some [x, y]) := by rfl)
  (hs : swapsWithSole [.Tuple [.Name x px, .Name y py] kt pt] (.Tuple [a, b] k2 pt2) pos.line X.env = pure false := by rfl) :
  PSD X (.Assign [.Tuple [.Name x px, .Name y py] kt pt] (.Tuple [a, b] k2 pt2) pos) (tV i j ta) := by
 have hpa : PA X [a, b] (fun σ H Q => ∃ W ρ Qd, Rel X W H σ ρ /\ ta ρ Qd /\ ∀ vs H' ds, ai H H' -> af X.K W.bad H' ds vs -> Qd ds -> Q vs H') := by
  intro pos pins s σ H Q I q
  obtain ⟨W, ρ, Qd, r, ht, k⟩ := q
  exact thn (ha pos pins s σ H W ρ Qd I r ht) fun us s1 ⟨vs, H', ds, I1, rv, e1, hd, qd⟩ => ⟨vs, H', I1, rv, k vs H' ds e1 hd qd⟩
 refine PSD.of (xD hc hN hi hj hij hx hy hpa hw hs) fun σ H W ρ E r hl h => ?_
 refine ⟨W, ρ, _, r, h, fun vs H' ds e1 hd q => ?_⟩
 obtain ⟨d, e, rfl, q⟩ := q
 obtain ⟨v, u, rfl, h1, h2⟩ := mw hd
 have ilt : i < σ.length := by rw [hl]; exact (List.getElem?_eq_some_iff.mp hi).1
 have jlt : j < (σ.set i (some v)).length := by rw [List.length_set, hl]; exact (List.getElem?_eq_some_iff.mp hj).1
 have r1 := (r.same e1).put ilt h1
 exact ⟨v, u, rfl, _, _, (Fwd.same e1).trans ((Fwd.drop W H' i).trans (Fwd.drop _ H' j)), r1.put jlt (h2.fewer fun _ _ => Own.drop_bad), q⟩
end
def aE (N : List Str) (ds : List D) : Ro := ds.map (fun d => some (.val d)) ++ List.replicate (N.length - ds.length) none
theorem Rel.start {X : Cx} {P : Addr -> Prop} {H : Hp} {N : List Str} {ds : List D} {vs : List V} (hP : ∀ a, P a -> ∃ o, H a = some o) (h : af X.K (fun t a => t = true ∨ P a) H ds vs) (hH : X.H₀ = H) (hT : dj X.K H) : Rel X ⟨P, fun _ => none, fun a => ∃ o, H a = some o⟩ H (start N vs) (aE N ds) where
 val := fun i d e => by
  unfold aE at e
  have hl := h.len
  by_cases hi : i < ds.length
  ·rw [List.getElem?_append_left (by simpa using hi), List.getElem?_map] at e
   cases q : ds[i]? with
   | none => rw [q] at e; cases e
   | some d' =>
    rw [q] at e
    have e' : d' = d := by simpa using e
    subst e'
    obtain ⟨v, h1, h2⟩ := h.get q
    refine ⟨v, ?_, h2.fewer fun tg a z => ?_⟩
    ·unfold L2.start
     rw [List.getElem?_append_left (by simpa [hl] using hi), List.getElem?_map, h1]
     rfl
    ·rcases z with z | ⟨j, z⟩ | ⟨z, _⟩
     ·exact .inr z
     ·cases z
     ·exact .inl z
  ·rw [List.getElem?_append_right (by simpa using hi), List.getElem?_replicate] at e
   split at e <;> cases e
 own := fun i d e => by
  unfold aE at e
  by_cases hi : i < ds.length
  ·rw [List.getElem?_append_left (by simpa using hi), List.getElem?_map] at e
   cases q : ds[i]? with
   | none => rw [q] at e; cases e
   | some d' => rw [q] at e; cases e
  ·rw [List.getElem?_append_right (by simpa using hi), List.getElem?_replicate] at e
   split at e <;> cases e
 inj := fun i j a h _ => by cases h
 kn := fun i a h => by cases h
 ke := fun i a h => by cases h
 bt := hP
 st := fun _ z => z
 ent := by rw [hH]; exact ai.refl H
 tab := hT
end PD
namespace PD
open PySem PySem.Spec PyProof.Rows L2 PX
theorem bH.there {P : Program} {w : World} {H : Hp} {h : Heap} {a : Addr} {o : HO} (x : bH P w H h a o) : ∃ u, h.get? a = some u := by
 cases o with
 | lst xs => obtain ⟨_, _, _, _, e⟩ := x; exact ⟨_, e⟩
 | tup xs => obtain ⟨_, _, _, ob, e, _⟩ := x; exact ⟨ob, e⟩
 | dK kvs => obtain ⟨_, _, _, _, ob, _, _, e, _⟩ := x; exact ⟨ob, e⟩
 | dT kvs => obtain ⟨_, _, _, _, ob, _, _, e, _⟩ := x; exact ⟨ob, e⟩
 | set S n => obtain ⟨ob, _, _, _, e, _⟩ := x; exact ⟨ob, e⟩
 | ins C dx fs => obtain ⟨_, _, _, e, _⟩ := x; exact ⟨_, e⟩
 | own y => exact x
 | xd fs => obtain ⟨_, ⟨ob, _, _, e, _⟩, _⟩ := x; exact ⟨ob, e⟩
 | rng lo hi => obtain ⟨_, _, _, e⟩ := x; exact ⟨_, e⟩
 | frz ob u => obtain ⟨e, _⟩ := x; exact ⟨ob, e⟩
 | tbl ps => exact ⟨_, x⟩
 | met f y => exact ⟨_, x⟩
 | ext φ => obtain ⟨_, e, _⟩ := x; exact e
theorem HOk.keptT {P : Program} {w : World} {H : Hp} {h h' : Heap} (x : HOk P w H h) (k : ∀ b u, (∃ o, H b = some o) -> h.get? b = some u -> h'.get? b = some u) : HOk P w H h' := fun a o e =>
 (x a o e).stay (fun b u hb q => k b u (by
  rcases hb with z | z
  ·subst z; exact ⟨o, e⟩
  ·exact ⟨_, z⟩) q) (fun _ q => q) fun _ _ q => q
structure Fl (P : Program) (w : World) (l : List Env) (h₀ : Heap) (H₀ H : Hp) (B h : Heap) : Prop where
 un : Un (frs l) [] H₀ H h₀ h
 hok : HOk P w H h
 fr : ∀ b ∈ frs l, H₀ b = none /\ ∃ o, h₀.get? b = some o /\ ∀ vs, o.data ≠ .fields vs
 cov : ∀ b o, h.get? b = some o -> ((∃ u, H b = some u) ∨ ∃ o', h₀.get? b = some o') -> b ∉ frs l -> B.get? b = some o
section
variable {P : Program} {w : World} {l : List Env} {h₀ : Heap} {H₀ H : Hp} {B h h' : Heap}
theorem Fl.free (F : Fl P w l h₀ H₀ H B h) {b : Addr} (hb : b ∈ frs l) : H b = none := by
 obtain ⟨n, o, e, _⟩ := F.fr b hb
 exact F.un.free b o e n (by simp)
theorem Fl.step (F : Fl P w l h₀ H₀ H B h) (st : B.StaysIn h') (sl : h.UpToSlots h') : Fl P w l h₀ H₀ H B h' := by
 have fr1 : ∀ b o, b ∈ frs l -> h₀.get? b = some o -> ∃ s', h'.get? b = some { o with slots := s' } := fun b o hb e => by
  obtain ⟨n, o', e', hd⟩ := F.fr b hb
  rw [e] at e'
  cases e'
  obtain ⟨s1, e1⟩ := F.un.slot b o e n hb (by simp)
  obtain ⟨s2, e2⟩ := sl b _ e1 hd
  exact ⟨s2, e2⟩
 have kp : ∀ b o, h.get? b = some o -> ((∃ u, H b = some u) ∨ ∃ o', h₀.get? b = some o') -> b ∉ frs l -> h'.get? b = some o := fun b o e c n => st b o (F.cov b o e c n)
 refine ⟨⟨fun b o e n hb hx => kp b o (F.un.keep b o e n hb hx) (.inr ⟨o, e⟩) hb, fun b o e n hb hx => fr1 b o hb e, F.un.free, fun b o e hx => ?_, F.un.tups, F.un.frzs, F.un.tbls⟩, PD.HOk.keptT F.hok (fun b u hu e => kp b u e (.inl hu) fun z => ?_), F.fr, fun b o e c n => ?_⟩
 ·by_cases hb : b ∈ frs l
  ·obtain ⟨s2, e2⟩ := fr1 b o hb e
   exact ⟨_, e2⟩
  ·obtain ⟨o', e1⟩ := F.un.there b o e hx
   exact ⟨o', kp b o' e1 (.inr ⟨o, e⟩) hb⟩
 ·obtain ⟨o, q⟩ := hu
  rw [F.free z] at q
  cases q
 ·have : ∃ o1, h.get? b = some o1 := by
   rcases c with ⟨u, c⟩ | ⟨o', c⟩
   ·exact PD.bH.there (F.hok b u c)
   ·exact F.un.there b o' c (by simp)
  obtain ⟨o1, e1⟩ := this
  have q := kp b o1 e1 c n
  rw [e] at q
  cases q
  exact F.cov b o e1 c n
end
def CX1 (P : Program) (w : World) : CXT := fun outer H s E e s' => ∃ (ea c : Addr) (H' : Hp) (B : Heap) (a0 : Value), e = .ref ea /\ s'.os = s.os /\ AllBare s'.gens /\ Fl P w outer s.heap H H' B s'.heap /\ ai H H' /\ H' ea = none /\ s.heap.get? ea = none ∧
 Heap.FlyingW B outer ea (.ref c) a0 s'.heap /\ E (.ref c) none H'
theorem yw {P : Program} {w : World} {X : Cx} : Passes (CX1 P w) X E0 := fun _ _ _ _ _ _ _ h => by
 obtain ⟨_, _, _, _, _, _, _, _, _, _, _, _, _, z⟩ := h
 exact z.elim
def MadeX (X : Cx) (Ed : Value -> Prop) : Prop := ∀ (pins : List (Addr × Obj)) (σ : St) (H : Hp) (W : Own) (ρ : Ro) (s : Shared) (e c : Addr) (vs : List Value) (h' : Heap), Inv X pins σ H s -> Rel X W H σ ρ -> Heap.MadeExcOf s.heap h' e (.ref c) vs -> Ed (.ref c) -> X.xe (.ref e) { s with heap := h' }
def di (X : Cx) (Ed : Value -> Prop) : Prop := ∀ (pins : List (Addr × Obj)) (σ : St) (H : Hp) (W : Own) (ρ : Ro) (s : Shared) (e : Value) (s' : Shared), Inv X pins σ H s -> Rel X W H σ ρ -> CX1 X.prog X.w X.stack H s (fun c _ _ => Ed c) e s' -> X.xe e s'
section
variable {P : Program} {w : World} {K : PySem.W.Frag} {mg : Str -> Option Value} {base : Heap} {N : List Str} {qual : Str} {sc : Scope} {f : Addr} {cd : Value} {A : Around} {outer : List Env} {s₀ : Shared} {H₀ : Hp} {E : XK}
theorem mM {pins : List (Addr × Obj)} {σ : St} {H : Hp} {s : Shared} {B h' : Heap} {e c : Addr} {a0 : Value} (I : Inv (bS (CX1 P w) P w K mg base N qual sc f cd A outer s₀ H₀ E) pins σ H s) (hS : ai H₀ H) (hn : H e = none) (hn0 : s₀.heap.get? e = none)
  (cov : ∀ b o, s.heap.get? b = some o -> ((∃ u, H b = some u) ∨ ∃ o', s₀.heap.get? b = some o') -> b ∉ frs (envOfC qual sc s₀.heap.objs.size f cd :: outer) -> B.get? b = some o)
  (fl : Heap.FlyingW B outer e (.ref c) a0 h') (sl : s.heap.UpToSlots h') (hE : E (.ref c) none H) : CX1 P w outer H₀ s₀ E (.ref e) { s with heap := h' } := by
 have nf : ∀ b, ((∃ u, H b = some u) ∨ ∃ o', s₀.heap.get? b = some o') -> b ∉ frs outer -> b ∉ frs (envOfC qual sc s₀.heap.objs.size f cd :: outer) := fun b c n z => by
  rcases c with ⟨u, c⟩ | ⟨o', c⟩
  ·have := I.stkFree b z
   rw [c] at this
   cases this
  ·rcases List.mem_cons.mp (I.stkSub b z) with q | q
   ·have h1 := Heap.lt_size c
    have h2 : s₀.heap.objs.size <= b := by rw [q]; exact I.ok.above
    exact absurd (Nat.lt_of_lt_of_le h1 h2) (Nat.lt_irrefl _)
   ·exact n q
 have F : Fl P w outer s₀.heap H₀ H B s.heap := ⟨I.base, I.hok, fun b hb => ⟨I.ok.frf b hb, by
  obtain ⟨_, o, e, d⟩ := I.ok.funs.mem hb
  exact ⟨o, e, d⟩⟩, fun b o e c n => cov b o e c (nf b c n)⟩
 exact ⟨e, c, H, B, a0, rfl, I.os, I.bare, F.step fl.1 sl, hS, hn, hn0, fl, hE⟩
theorem yj {Ed : Value -> Prop} (hE : ∀ c a H', ai H₀ H' -> Ed c -> E c a H') : MadeX (bS (CX1 P w) P w K mg base N qual sc f cd A outer s₀ H₀ E) Ed := by
 intro pins σ H W ρ s e c vs h' I r hx hd
 show wpAny (model P w) (A.deeper (envOfC qual sc s₀.heap.objs.size f cd)) (leaving (envOfC qual sc s₀.heap.objs.size f cd) (.ref e)) _ _ _
 refine wpAny_leaves_madeW (base := PySem.W.hideAll s.heap (frs (envOfC qual sc s₀.heap.objs.size f cd :: outer))) (h := s.heap) (outer := outer) I.ok.frames rfl (fun b o q => PySem.W.of_hideAll _ q)
  (PySem.W.funFrames_hide I.stack fun env he b hb => List.mem_filterMap.mpr ⟨env, he, hb⟩) hx fun h'' t x1 _ _ x4 => ?_
 have ne : ∀ {h1 : Heap}, (∀ b o, h1.get? b = some o -> ∃ o', s.heap.get? b = some o') -> h1.get? e = none := fun {h1} k => by
  cases q : h1.get? e with
  | none => rfl
  | some o =>
   obtain ⟨o', q'⟩ := k e o q
   rw [hx.new] at q'
   cases q'
 refine mM (s := s) (h' := h'') I r.ent ?_ (ne fun b o q => I.base.there b o q (by intro z; cases z)) (fun b o q _ n => PySem.W.hideAll_get _ q n) x1 (fun b o q d => ?_) (hE _ _ _ r.ent hd)
 ·cases q : H e with
  | none => rfl
  | some u =>
   obtain ⟨o, z⟩ := PD.bH.there (I.hok e u q)
   rw [hx.new] at z
   cases z
 ·exact x4 b o (hx.keeps b o q) d
theorem wa {Ed : Value -> Prop} (hE : ∀ c a H', ai H₀ H' -> Ed c -> E c a H') : di (bS (CX1 P w) P w K mg base N qual sc f cd A outer s₀ H₀ E) Ed := by
 intro pins σ H W ρ s e s' I r hx
 obtain ⟨ea, c, H', B, a0, rfl, os, bare, F, sm, hn, hn0, fl, hd⟩ := hx
 show wpAny (model P w) (A.deeper (envOfC qual sc s₀.heap.objs.size f cd)) (leaving (envOfC qual sc s₀.heap.objs.size f cd) (.ref ea)) _ _ _
 refine wpAny_leaves_onW (outer := outer) I.ok.frames rfl fl fun h'' x1 x2 => ?_
 have I' := I.call' os F.un F.hok bare (by intro b z; cases z)
 refine mM (s := s') (h' := h'') I' (r.ent.trans sm) hn ?_ (fun b o q z n => F.cov b o q (z.elim .inl fun ⟨o', z⟩ => .inr (I.base.there b o' z (by intro q; cases q))) n) x1 x2 (hE _ _ _ (r.ent.trans sm) hd)
 cases q : s₀.heap.get? ea with
 | none => rfl
 | some o =>
  obtain ⟨o', q'⟩ := I.base.there ea o q (by intro z; cases z)
  rw [hn0] at q'
  cases q'
end
section
variable {X : Cx} {k : Nat} {f : Addr} {fd : FuncData} {ps : List Str} {sp : DSp} {x : Str} {p pos : Pos} {e : Expr} {es : List Expr} {t : DA}
theorem xH {dds : List D} {dsv : List Value} {Ed : Value -> Prop} {XE : Value -> Shared -> Prop} (F : aG X.prog X.w X.K X.mg X.base (CX1 X.prog X.w) k f fd ps (aO X.K sp)) (hr : aZ k X.A) (hb : Binds X.K fd ps dsv) (hd : Vals (dds.map jG) dsv) (hs : ∀ d ∈ dds, mz d)
  {pins : List (Addr × Obj)} {σ : St} {H : Hp} {s : Shared} {W : Own} {ρ : Ro} {us : List Value} {vs : List V} {ds : List D} {Q : D -> Prop} (I : Inv X pins σ H s) (rr : Rel X W H σ ρ) (r : Vals vs us) (hds : af X.K W.bad H ds vs)
  (q : sp (aP ds ++ dds) Q Ed) (hx : ∀ e s', CX1 X.prog X.w X.stack H s (fun c _ _ => Ed c) e s' -> XE e s') : wpAny (model X.prog X.w) X.A (call (.ref f) us) (DP X pins σ W H Q) XE s := by
 have r2 : Vals (vs ++ dds.map jG) (us ++ dsv) := r.append hd
 have hsp : aO X.K sp (vs ++ dds.map jG) H (fun v H' => ai H H' /\ ∃ d, Den X.K W.bad H' d v /\ Q d) (fun c _ _ => Ed c) :=
  ⟨W.bad false, aP ds ++ dds, Q, Ed, rr.tab, rr.tracked false, (af.aI (fun _ _ => Own.bad_up) ds vs hds).append (af.k8 hs), q, fun d v H' e h1 h2 => ⟨e, d, Den.back rr.tracked h1, h2⟩, fun _ _ _ _ z => z⟩
 have hl : (us ++ dsv).length = ps.length := by rw [<- r2.length]; exact F.len _ _ _ _ hsp
 refine wpAny_call (codeAny_mono (F.run X.A X.stack s H ⟨us, []⟩ (us ++ dsv) (vs ++ dds.map jG) _ _ hr I.env0 (hb s us I.kIn hl) r2 hsp) fun res s' hq => ?_)
 cases res with
 | error er => exact hx er s' hq
 | ok fl =>
  cases fl with
  | ret u =>
   obtain ⟨v, H2, I2, r2, e2, d, h1, h2⟩ := I.after hq
   exact ⟨v, H2, d, I2, r2, e2, h1, h2⟩
  | next => exact False.elim hq
  | brk => exact False.elim hq
  | cont => exact False.elim hq
def rg (sp : DSp) (Ed : Value -> Prop) (dds : List D) (t : DA) : DE := fun ρ Q => t ρ fun ds => sp (aP ds ++ dds) Q Ed
end
theorem vJ {K : PySem.W.Frag} {h : Heap} {C : Addr} {bmB : List Value} {newId : String} (X : K.In h) (q : PySem.W.excIn K C bmB newId = true) : ∃ tl N nm qn bs hd sn sub ab col dd k0 k1 k2 k3 k5 mN,
  h.get? C = some (excClassObj nm qn C N bs tl hd sn sub ab col dd k0 k1 k2 k3 k5 newId) /\ h.Ns N mN /\ mN "__init__" = none /\ OwnTail h bmB tl := by
 unfold PySem.W.excIn at q
 split at q
 next dd cd sl ho =>
  split at q
  next C' tl k0 k1 k2 k3 n k5 hm hs =>
   simp only [Bool.and_eq_true, beq_iff_eq, Bool.not_eq_true'] at q
   obtain ⟨⟨⟨⟨⟨e1, e2⟩, hdel⟩, ht⟩, hok⟩, hni⟩ := q
   subst e1 e2
   cases cd with
   | mk nm bs mro ns qn hd sn sub ab col del =>
    simp only at hm hdel hok hni
    subst hm hdel
    have hsl : sl = #[k0, k1, k2, k3, some (.builtin n), k5] := by
     apply Array.ext'
     rw [hs]
    subst hsl
    exact ⟨tl, ns, nm, qn, bs, hd, sn, sub, ab, col, dd, k0, k1, k2, k3, k5, _, X _ _ ho, .of_isNs (PySem.W.isNs_of_in X hok), PySem.W.nsMap_none_of_in X hok hni, PySem.W.tail_of_in X ht⟩
  next => cases q
 next => cases q
abbrev qN : List Value := [.type "ValueError", .type "Exception", .type "BaseException", .type "object"]
section
variable {X : Cx} {pos : Pos}
theorem uc {x : Str} {C : Addr} {e : Expr} {es : List Expr} {t : DA} {np cpos : Pos} {Ed : Value -> Prop} (pm : MadeX X Ed) (hg : Gl X x) (hm : X.mg x = some (.ref C)) (q : PySem.W.excIn X.K C qN "ValueError.__new__" = true) (hc : X.calm = true) (ha : PAD X (e :: es) t)
  (he : starEach (e :: es) X.env = (false, eval e X.env) :: starEach es X.env := by rfl) (hpl : (backTo cpos (starEach es X.env)).any (·.1) = false := by rfl) (hdb : (x == ("__debug__" : Str)) = false := by decide) :
  PSD X (.Raise (some (.Call (.Name x np) (e :: es) [] cpos)) none pos) (fun _ ρ => t ρ fun ds => ds.length <= sizeLine /\ Ed (.ref C)) := by
 intro pins s σ H W ρ E I r h
 obtain ⟨tl, N, nm, qn, bs, hd, sn, sub, ab, col, dd, k0, k1, k2, k3, k5, mN, hC, hN, hni, T⟩ := vJ I.ok.mod.kin q
 have FB := PySem.F.excBase_ValueError
 refine wpAny_Raise_call_subT (C := C) (nm := nm) (q := qn) (N := N) (bs := bs) (bm := tl) (hdct := hd) (sn := sn) (sub := sub) (ab := ab) (col := col) (dd := dd) (k0 := k0) (k1 := k1) (k2 := k2) (k3 := k3) (k5 := k5) FB (mN := mN) (T.hasType FB.hasBase) (I.ok.hd hc)
  (by rw [he]; show (false || (backTo cpos (starEach es X.env)).any (·.1)) = false; rw [hpl]; rfl) hni (gQ I hg hm ⟨rfl, ?_⟩ hdb)
 have hz := ha cpos pins s σ H W ρ _ I r h
 rw [he] at hz ⊢
 refine Calls.evalArgs_plain (thn hz fun us s1 ⟨vs, H1, ds, I1, rv, e1, hds, z, hE⟩ => ?_)
 exact ⟨rfl, by rw [<- hds.len, rv.length] at z; exact z, I1.bk _ _ hC, hN.keeps I1.bk, T.keeps I1.bk, fun h' ea hm => pm pins σ H1 W ρ s1 ea C us h' I1 (r.same e1) hm hE⟩
theorem mZ {st : Stmt} : PSD X st (fun _ _ => False) := fun _ _ _ _ _ _ _ _ _ h => h.elim
theorem Rel.wish {W : Own} {H : Hp} {σ : St} {ρ : Ro} (r : Rel X W H σ ρ) (E : Value -> Shared -> Prop) : Rel (X.wish E) W H σ ρ := ⟨r.val, r.own, r.inj, r.kn, r.ke, r.bt, r.st, r.ent, r.tab⟩
theorem Rel.unwish {W : Own} {H : Hp} {σ : St} {ρ : Ro} {E : Value -> Shared -> Prop} (r : Rel (X.wish E) W H σ ρ) : Rel X W H σ ρ := ⟨r.val, r.own, r.inj, r.kn, r.ke, r.bt, r.st, r.ent, r.tab⟩
theorem SPD.unwish {pins : List (Addr × Obj)} {W : Own} {H : Hp} {E : gk} {f : Flow} {s' : Shared} {XE : Value -> Shared -> Prop} (h : SPD (X.wish XE) pins W H E f s') : SPD X pins W H E f s' := by
 obtain ⟨W', σ', H', I, fw, q⟩ := h
 refine ⟨W', σ', H', I.unwish, fw, ?_⟩
 cases f with
 | next => obtain ⟨ρ', r, q⟩ := q; exact ⟨ρ', r.unwish, q⟩
 | brk => obtain ⟨ρ', r, q⟩ := q; exact ⟨ρ', r.unwish, q⟩
 | cont => obtain ⟨ρ', r, q⟩ := q; exact ⟨ρ', r.unwish, q⟩
 | ret u => exact q
theorem PSD.nox {st : Stmt} {t : DS} (h : PSD X.nox st t) : PSD X st t := fun pins s σ H W ρ E I r hw =>
 wpAny_mono (h pins s σ H W ρ E (I.wish _) (r.wish _) hw) (fun _ _ q => q.unwish) fun _ _ z => False.elim z
theorem bR.nox {st : List Stmt} {t : DS} (h : bR X.nox st t) : bR X st t := fun pins s σ H W ρ E I r hw =>
 wpAny_mono (h pins s σ H W ρ E (I.wish _) (r.wish _) hw) (fun _ _ q => q.unwish) fun _ _ z => False.elim z
theorem PED.nox {e : Expr} {t : DE} (h : PED X.nox e t) : PED X e t := fun pins s σ H W ρ Q I r hw =>
 wpAny_mono (h pins s σ H W ρ Q (I.wish _) (r.wish _) hw) (fun _ _ ⟨v, H', d, I', q⟩ => ⟨v, H', d, I'.unwish, q⟩) fun _ _ z => False.elim z
abbrev Cx.markX (X : Cx) (e : Value) : Cx := { X with A := X.A.mark (some e), calm := false, xe := fun _ _ => False }
theorem Inv.marked {pins : List (Addr × Obj)} {σ : St} {H : Hp} {s : Shared} (I : Inv X pins σ H s) (e : Value) : Inv (Cx.markX X e) pins σ H s :=
 have ok := I.ok
 ⟨⟨ok.mod, ok.kind, ok.glob, ok.blt, ok.above, ok.inj, ok.has, ok.cab, (fun z => by cases z), ok.frames, ok.stk, ok.exf, ok.bs, ok.bsz, ok.noex, ok.exfs, ok.funs, ok.frf⟩, I.os, I.bare, I.base, I.loc, I.cell, I.free, I.freeC, I.pin, I.hok, I.len⟩
theorem Inv.unmark {pins : List (Addr × Obj)} {σ : St} {H : Hp} {s : Shared} {e : Value} (J : Inv (Cx.markX X e) pins σ H s) (ok : X.Ok) : Inv X pins σ H s :=
 ⟨ok, J.os, J.bare, J.base, J.loc, J.cell, J.free, J.freeC, J.pin, J.hok, J.len⟩
theorem Rel.marked {W : Own} {H : Hp} {σ : St} {ρ : Ro} (r : Rel X W H σ ρ) (e : Value) : Rel (Cx.markX X e) W H σ ρ := ⟨r.val, r.own, r.inj, r.kn, r.ke, r.bt, r.st, r.ent, r.tab⟩
theorem Rel.unmark {W : Own} {H : Hp} {σ : St} {ρ : Ro} {e : Value} (r : Rel (Cx.markX X e) W H σ ρ) : Rel X W H σ ρ := ⟨r.val, r.own, r.inj, r.kn, r.ke, r.bt, r.st, r.ent, r.tab⟩
theorem Inv.track {pins : List (Addr × Obj)} {σ : St} {H : Hp} {s : Shared} {e : Addr} {o : HO} (I : Inv X pins σ H s) (hn : H e = none) (h0 : X.s₀.heap.get? e = none) (hL : e ≠ X.env.locals) (hc : ∀ x c, X.env.cells.lookup x = some c -> c ≠ e) (hp : ∀ p ∈ X.pn ++ pins, p.1 ≠ e)
  (new : bH X.prog X.w (L2.upd H e o) s.heap e o) : Inv X pins σ (L2.upd H e o) s := by
 refine ⟨I.ok, I.os, I.bare, ⟨I.base.keep, I.base.slot, fun b u q n x => ?_, I.base.there, fun b xs q => ?_, fun b u xs q => ?_, fun b ps q => ?_⟩, I.loc, I.cell, by rw [ar (Ne.symm hL)]; exact I.free, fun x c q => by rw [ar (hc x c q)]; exact I.freeC x c q, fun p q => ?_, fun b u q => ?_, I.len⟩
 ·rw [ar (fun z => by rw [z, h0] at q; cases q)]
  exact I.base.free b u q n x
 ·have := I.base.tups b xs q
  rw [ar (aH this hn)]
  exact this
 ·have := I.base.frzs b u xs q
  rw [ar (aH this hn)]
  exact this
 ·obtain ⟨more, this⟩ := I.base.tbls b ps q
  exact ⟨more, by rw [ar (aH this hn)]; exact this⟩
 ·obtain ⟨p1, p2, p3⟩ := I.pin p q
  exact ⟨p1, by rw [ar (hp p q)]; exact p2, p3⟩
 ·by_cases hb : b = e
  ·subst hb
   rw [aA] at q
   cases q
   exact new
  ·rw [ar hb] at q
   exact (I.hok b u q).stay (fun c v _ z => z) (fun c z => by rw [ar (aH z hn)]; exact z) fun c xs z => by rw [ar (aH z hn)]; exact z
theorem sG {M : Model} {A : Around} {E : Value -> Shared -> Prop} {pins : List (Addr × Obj)} {σ : St} {H : Hp} {s : Shared} {i : Nat} {n : Str} {Q : Unit -> Shared -> Prop} (I : Inv X pins σ H s) (hN : X.N.Nodup) (hi : X.N[i]? = some n) (hk : X.env.scope.names.lookup n = some .local)
  (h : ∀ s', Inv X pins (σ.set i none) H s' -> Q () s') : wpAny M A (do bindName X.env n .none; unbindBehindTheSuite X.env n pos) Q E s := by
 obtain ⟨m, hn, hl⟩ := id I.loc
 refine wpAny_nameGoes_keeps hk hn (by rw [I.ok.kind]; rfl) fun h' v hn' hs => h _ ?_
 have neL : ∀ b o, X.s₀.heap.get? b = some o -> b ≠ X.env.locals := fun b o e => Nat.ne_of_lt (Nat.lt_of_lt_of_le (Heap.lt_size e) I.ok.above)
 refine ⟨I.ok, I.os, I.bare, ⟨fun b o e z hb hx => (hs.2 b (neL b o e)).trans (I.base.keep b o e z hb hx), fun b o e z hb hx => ?_, I.base.free, fun b o e hx => ?_, I.base.tups, I.base.frzs, I.base.tbls⟩, ⟨_, hn', fun j y v' e1 e2 e3 => ?_⟩, fun y c e => ?_, I.free, I.freeC, fun p hp => ?_, fun b ob e => ?_, by simpa using I.len⟩
 ·obtain ⟨sl, e1⟩ := I.base.slot b o e z hb hx
  exact ⟨sl, (hs.2 b (neL b o e)).trans e1⟩
 ·obtain ⟨o', e1⟩ := I.base.there b o e hx
  exact ⟨o', (hs.2 b (neL b o e)).trans e1⟩
 ·by_cases hj : j = i
  ·subst hj
   rw [List.getElem?_set] at e2
   simp at e2
  ·rw [List.getElem?_set_ne (Ne.symm hj)] at e2
   obtain ⟨u', r', q⟩ := hl j y v' e1 e2 e3
   refine ⟨u', r', ?_⟩
   rcases q with ⟨k, e⟩ | ⟨k, c, e, z⟩
   ·refine .inl ⟨k, ?_⟩
    have : y ≠ n := fun e => hj (jJ hN e1 (e ▸ hi))
    simp [this, e]
   ·exact .inr ⟨k, c, e, z.sameBut hs (I.cne y c e)⟩
 ·obtain ⟨w', z⟩ := I.cell y c e
  exact ⟨w', z.sameBut hs (I.cne y c e)⟩
 ·obtain ⟨e, z, ne, nf, d⟩ := I.pin p hp
  exact ⟨(hs.2 p.1 ne).trans e, z, ne, nf, d⟩
 ·refine (I.hok b ob e).stay (fun c w' hc q => (hs.2 c ?_).trans q) (fun _ q => q) fun _ _ q => q
  intro z
  rcases hc with hc | hc
  ·rw [<- hc, z, I.free] at e; cases e
  ·rw [z, I.free] at hc; cases hc
theorem Rel.unset {W : Own} {H : Hp} {σ : St} {ρ : Ro} {i : Nat} (r : Rel X W H σ ρ) (hi : i < σ.length) : Rel X (W.drop i) H (σ.set i none) (ρ.set i none) := by
 have at_ : ∀ {j : Nat} {x : Sl}, (ρ.set i none)[j]? = some (some x) -> j ≠ i /\ ρ[j]? = some (some x) := fun {j x} h => by
  by_cases hj : j = i
  ·subst hj
   rw [List.getElem?_set] at h
   simp at h
  ·rw [List.getElem?_set_ne (Ne.symm hj)] at h
   exact ⟨hj, h⟩
 have dr : ∀ {j : Nat} {a : Addr}, (W.drop i).O j = some a -> j ≠ i /\ W.O j = some a := fun {j a} h => by
  have h' : (if j = i then none else W.O j) = some a := h
  by_cases e1 : j = i
  ·rw [if_pos e1] at h'; cases h'
  ·rw [if_neg e1] at h'; exact ⟨e1, h'⟩
 refine ⟨fun j d h => ?_, fun j ds h => ?_, fun j k a h1 h2 => r.inj j k a (dr h1).2 (dr h2).2, fun j a h => r.kn j a (dr h).2, fun j a h => r.ke j a (dr h).2, r.bt, r.st, r.ent, r.tab⟩
 ·obtain ⟨hj, h⟩ := at_ h
  obtain ⟨v, h1, h2⟩ := r.val j d h
  exact ⟨v, by rw [List.getElem?_set_ne (Ne.symm hj)]; exact h1, h2.fewer fun _ _ => Own.drop_bad⟩
 ·obtain ⟨hj, h⟩ := at_ h
  obtain ⟨a, vs, h1, h2, h3, h4⟩ := r.own j ds h
  exact ⟨a, vs, by show (if j = i then none else W.O j) = _; rw [if_neg hj]; exact h1, by rw [List.getElem?_set_ne (Ne.symm hj)]; exact h2, h3, by rw [List.length_set]; exact h4.fewer (fun _ _ => Own.drop_bad) (Own.drop_sub hi)⟩
def qo (K : PySem.W.Frag) (C : Addr) (i : Nat) (sp : DSp) (t : DA) (su : DS) : DS := fun E ρ => t ρ fun ds => sp (aP ds) (fun _ => E.nx ρ) fun cv => ∃ c, cv = .ref c /\ cY K c /\ PySem.W.exmOne K (.ref c) (.ref C) = some true ∧
 su ⟨fun ρ' => E.nx (ρ'.set i none), E.rt, fun ρ' => E.bk (ρ'.set i none), fun ρ' => E.ct (ρ'.set i none)⟩ (ρ.set i (some (.val (.exc c))))
theorem wR {k : Nat} {f C : Addr} {fd : FuncData} {ps : List Str} {sp : DSp} {g x n : Str} {p cp ep np hp : Pos} {e : Expr} {es : List Expr} {t : DA} {b₀ : Stmt} {suite : List Stmt} {su : DS} (i : Nat) (F : aG X.prog X.w X.K X.mg X.base (CX1 X.prog X.w) k f fd ps (aO X.K sp)) (hr : aZ k X.A) (hm : X.mg g = some (.ref f)) (hk : PySem.W.keepIn X.K (.ref f) = true) (hb : Binds X.K fd ps [])
  (hN : X.N.Nodup) (hmx : X.mg x = some (.ref C)) (ha : PAD X.nox (e :: es) t) (hsu : ∀ v, bR (Cx.markX X v) (b₀ :: suite) su) (hgg : Gl X g := by rfl) (hgx : Gl X x := by rfl) (hi : X.N[i]? = some n := by rfl) (hkn : X.env.scope.names.lookup n = some .local := by rfl)
  (hex : X.ex = [] := by rfl) (hst : X.stack = X.env :: X.outer := by rfl) (hef : X.env.frame = some X.env.locals := by rfl) (hdb : (g == ("__debug__" : Str)) = false := by decide) (hdx : (x == ("__debug__" : Str)) = false := by decide) (he : starEach (e :: es) X.env = (false, eval e X.env) :: starEach es X.env := by rfl) (hpl : (backTo cp (starEach es X.env)).any (·.1) = false := by rfl)
  (hs : swapsWith (.Call (.Name g p) (e :: es) [] cp) none ep.line X.env = pure false := by rfl) :
  PSD X (.Try [.Expr (.Call (.Name g p) (e :: es) [] cp) ep] [.ExceptHandler (some (.Name x np)) (some n) (b₀ :: suite) hp] [] [] pos) (qo X.K C i sp t su) := by
 intro pins s σ H W ρ E I rr h
 refine wpAny_Try_except (wpAny_execs_cons (wpAny_Expr_any (wpAny_Call_Name_kw (gQ I hgg hm ?_ hdb)) I.quiet hs))
 refine PySem.W.callWith_K (h₀ := X.base) I.ok.mod.kin hk (wpAny_mono (ha cp pins s σ H W ρ _ (I.wish _) (rr.wish _) h) (fun us s1 ⟨vs, H1, ds, I1, r, e1, hds, q⟩ => ⟨I1.unwish.kIn, ?_⟩) fun _ _ z => False.elim z) he hpl
 have I1 := I1.unwish
 have rr1 := rr.same e1
 have ist : i < σ.length := Inv.ilt I hi
 refine wpAny_mono (xH (dds := []) (dsv := []) F hr hb .nil (by simp) I1 rr1 r hds (by rw [List.append_nil]; exact q) fun er s' hx => ?_) (fun u s2 ⟨v, H2, d, I2, r2, e2, hd2, q2⟩ => wpAny_execs_nil (wpAny_execs_nil ⟨W, σ, H2, I2, Fwd.same (e1.trans e2), ρ, rr1.same e2, q2⟩)) fun _ _ z => z
 obtain ⟨ea, c, H', B, a0, rfl, os, bare, Ff, sm, hn, hn0, fl, c', hc', xk, exm, hsu'⟩ := hx
 cases hc'
 have fr' : X.A.frames = some (X.env :: X.outer) := by rw [<- hst]; exact I.ok.frames
 rw [hst] at fl
 refine wpAny_looks_onW fr' hef fl fun h4 x4 u4 => wpAny_landsW x4 fun h5 x5 u5 => ?_
 have F5 := (Ff.step x4.1 u4).step x5.1 u5
 have I5 : Inv X pins σ H' { s' with heap := h5 } := I1.call' os F5.un F5.hok bare (by intro b z; cases z)
 have ex_ : ∀ {h' : Heap}, Heap.FlyingW B (X.env :: X.outer) ea (.ref c) a0 h' -> ExcAt ea c h' := fun {h'} x => by
  obtain ⟨oe, ws, q1, q2, q3, _⟩ := x.first
  exact ⟨oe, ws, q1, q2, q3⟩
 refine wpAny_handleBy_cons (codeAny_handlers_test (gQ (Inv.marked I5 (.ref ea)) hgx hmx ?_ hdx)) (by intro q; cases q)
 refine (PySem.W.exm_one I5.kIn (ExcAt.ty (ex_ x5)) exm).here ?_
 refine codeAny_handlers_suite_as (lands_againW x5 fun h6 x6 u6 => ?_)
 have F6 := F5.step x6.1 u6
 have I6 : Inv X pins σ H' { s' with heap := h6 } := I1.call' os F6.un F6.hok bare (by intro b z; cases z)
 have I7 : Inv X pins σ (L2.upd H' ea (.ext (ExcAt ea c))) { s' with heap := h6 } := by
  refine Inv.track I6 hn ?_ ?_ (fun y c' q z => ?_) (fun p hp z => ?_) ⟨ex_ x6, ?_, fun h1 h2 q z => ?_⟩
  ·cases q : X.s₀.heap.get? ea with
   | none => rfl
   | some o =>
    by_cases hx : ea ∈ X.ex
    ·rw [hex] at hx; cases hx
    ·obtain ⟨o', q'⟩ := I1.base.there ea o q hx
     rw [hn0] at q'
     cases q'
  ·intro z
   obtain ⟨m, ⟨o, _, _, q, _⟩, _⟩ := I1.loc
   rw [<- z, hn0] at q
   cases q
  ·obtain ⟨w', o, z', _⟩ := I1.cell y c' q
   rw [z, hn0] at z'
   cases z'
  ·have := (I1.pin p hp).1
   rw [z, hn0] at this
   cases this
  ·obtain ⟨oe, ws, q1, _⟩ := ex_ x6
   exact ⟨oe, q1⟩
  ·obtain ⟨oe, ws, q1, q2, q3⟩ := q
   exact ⟨oe, ws, z _ q1, q2, q3⟩
 have smu : ai H' (L2.upd H' ea (.ext (ExcAt ea c))) := ai.upd hn
 refine da (X := Cx.markX X (.ref ea)) (v := .ref ea) (Inv.marked I7 (.ref ea)) hN hi (.inl hkn) rfl (fun s7 J7 => ?_) (.inr hkn)
 have rl7 : Rel X (W.drop i) (L2.upd H' ea (.ext (ExcAt ea c))) (σ.set i (some (.ref ea))) (ρ.set i (some (.val (.exc c)))) := ((rr1.same sm).same smu).put ist (Den.exc aA xk)
 refine wpAny_mono (hsu (.ref ea) pins s7 _ _ _ _ _ J7 (Rel.marked rl7 _) hsu') (fun fw s8 q8 => ?_) fun _ _ z => False.elim z
 obtain ⟨W8, σ8, H8, J8, f8, q8⟩ := q8
 have ff : Fwd W H (W8.drop i) H8 := (Fwd.same ((e1.trans sm).trans smu)).trans ((Fwd.drop W _ i).trans (f8.trans (Fwd.drop W8 H8 i)))
 refine sG (Inv.unmark J8 I.ok) hN hi hkn fun s9 I9 => ⟨W8.drop i, _, H8, I9, ff, ?_⟩
 cases fw with
 | next => obtain ⟨ρ8, r8, n8⟩ := q8; exact ⟨_, (Rel.unmark r8).unset (Inv.ilt (Inv.unmark J8 I.ok) hi), n8⟩
 | brk => obtain ⟨ρ8, r8, n8⟩ := q8; exact ⟨_, (Rel.unmark r8).unset (Inv.ilt (Inv.unmark J8 I.ok) hi), n8⟩
 | cont => obtain ⟨ρ8, r8, n8⟩ := q8; exact ⟨_, (Rel.unmark r8).unset (Inv.ilt (Inv.unmark J8 I.ok) hi), n8⟩
 | ret v => obtain ⟨x8, d8, r8, h8, n8⟩ := q8; exact ⟨x8, d8, r8, h8.fewer fun _ _ => Own.drop_bad, n8⟩
def tP (K : PySem.W.Frag) (c : Value) (te : DE) : DE := fun ρ Q => te ρ fun d => ∃ b, PySem.W.kitOne K (tyV d) c = some b /\ Q (.bl b)
theorem ft {e : Expr} {te : DE} {p p' : Pos} {x : Str} {cv : V} {c : Value} (hg : Gl X "isinstance") (hm : X.mg "isinstance" = none) (hx : PE X (.Name x p') (tC cv)) (rc : ∀ u, RelV cv u -> u = c) (he : PED X e te)
  (hst : starEach [e, .Name x p'] X.env = (false, eval e X.env) :: starEach [.Name x p'] X.env := by rfl) (hst2 : starEach [.Name x p'] X.env = (false, eval (.Name x p') X.env) :: starEach [] X.env := by rfl) (hst3 : (backTo pos (starEach [.Name x p'] X.env)).any (·.1) = false := by rfl) :
  PED X (.Call (.Name "isinstance" p) [e, .Name x p'] [] pos) (tP X.K c te) := by
 intro pins s σ H W ρ Q I rr h
 have hpa : PA X [e, .Name x p'] (d6 (qw X te) (d6 (tC cv) lg)) := bK he.pe (bK hx eM hst2) hst
 refine wpAny_Call_Name_kw (cN I hg hm boot_isinstance ?_ (by decide) (by decide))
 refine PyProof.Rows.callWith_builtin1 (thn (hpa pos pins s σ H (fun vs H1 => ∃ v d, vs = [v, cv] /\ ai H H1 /\ Den X.K W.bad H1 d v /\ ∃ b, PySem.W.kitOne X.K (tyV d) c = some b /\ Q (.bl b)) I ⟨W, ρ, _, rr, h, fun v H1 d e1 hd q1 => ⟨v, d, rfl, e1, hd, q1⟩⟩) fun us s1 ⟨vs, H1, I1, rv, v, d, ev, e1, hd, b, kb, q1⟩ => ?_) hst hst3
 subst ev
 cases rv with
 | cons r1 rr =>
  cases rr with
  | cons r2 rr =>
   cases rr
   have := rc _ r2
   subst this
   exact nu I1 hd r1 kb fun tk => ⟨.bl _, H1, _, I1.tok tk, rfl, e1, Den.bl _, q1⟩
end
def pR (base : Heap) (l : List Env) (e : Addr) (cls a0 : Value) (h : Heap) : Prop := base.StaysIn h /\ base.get? e = none /\ h.FunFrames base l /\ ∃ fl, h.TracedAtW base e cls a0 fl
section
variable {M : Model} {A : Around} {E : Value -> Shared -> Prop} {s : Shared} {base : Heap} {l outer : List Env} {env : Env} {e L : Addr} {cls a0 : Value}
theorem vU {Q : Unit -> Shared -> Prop} (hfr : A.frames = some (env :: outer)) (hf : env.frame = some L) (R : pR base (env :: outer) e cls a0 s.heap)
  (h : ∀ h', pR base (env :: outer) e cls a0 h' -> s.heap.UpToSlots h' -> Q () { s with heap := h' }) : wpAny M A (noteFrame (.ref e) env) Q E s := by
 obtain ⟨k1, k2, k3, fl, oe, vs, T, oT, ts, g1, g2, g3, g4, g5, g6, g7, g8, g9⟩ := id R
 by_cases hfl : (fl == rawInt L) = true
 ·have efl : fl = rawInt L := by simpa using hfl
  subst efl
  exact wpAny_noteFrame_againW (base := base) (cls := cls) (a0 := a0) hf ⟨oe, vs, T, oT, ts, g1, g2, g3, g4, g5, g6, g7, g8, g9⟩ (h _ R (Heap.UpToSlots.refl _))
 ·obtain ⟨ec, g0⟩ := g2
  subst ec
  unfold noteFrame
  simp only [hf]
  refine wpAny_bind (wpAny_field g1 g3 g4 ?_)
  rw [if_pos (by simp)]
  refine wpAny_bind (wpAny_field g7 g8 g9 ?_)
  rw [if_neg hfl]
  refine wpAny_bind (wpAny_setField g7 g8 (Array.getElem?_eq_some_iff.mp g9).1 ?_)
  have oth : ∀ b, b ≠ T -> (s.heap.update T (Obj.mapFields (·.setIfInBounds 3 Value.none))).get? b = s.heap.get? b := fun b hb => Heap.get?_update_other _ _ (Ne.symm hb)
  have nrec : ∀ b o, s.heap.get? b = some o -> (∀ vs, o.data ≠ .fields vs) -> b ≠ T := fun b o hb hn q => by
   rw [q, g7] at hb
   cases hb
   exact hn ts g8
  refine wpAny_entryW (base := base) hfr (k3.of_keeps fun b o hb hn => ⟨o, (oth b (nrec b o hb hn)).trans hb, rfl⟩) hf ((oth e (Ne.symm g6)).trans g1) (fun b o hb => (oth b fun q => by rw [q, g5] at hb; cases hb).trans (k1 b o hb)) k2 g3 (Array.getElem?_eq_some_iff.mp g4).1 g0 fun h' hN => ?_
  obtain ⟨n1, n2, n3, n4⟩ := hN
  exact h h' ⟨n1, k2, n2, _, n3⟩ fun b o hb hn => n4 b o ((oth b (nrec b o hb hn)).trans hb) hn
theorem um {Q : Unit -> Shared -> Prop} (hfr : A.frames = some (env :: outer)) (hf : env.frame = some L) (R : pR base (env :: outer) e cls a0 s.heap)
  (h : ∀ h', Heap.FlyingW base outer e cls a0 h' -> s.heap.UpToSlots h' -> Q () { s with heap := h' }) : wpAny M A (leaving env (.ref e)) Q E s := by
 unfold leaving
 refine wpAny_bind (vU hfr hf R fun h1 R1 s1 => ?_)
 obtain ⟨k1, k2, k3, fl, k4⟩ := R1
 refine wpAny_setFlight_noneW (base := base) k1 k3 k4 fun h2 m1 m2 m3 m4 => ?_
 obtain ⟨_, _, m2⟩ := m2
 exact h h2 ⟨m1, k2, m2, m3⟩ (s1.trans fun b o hb hn => ⟨o.slots, m4 b o hb hn⟩)
end
def jX (X : Cx) (Ed : Value -> Prop) : Prop := ∀ (pins : List (Addr × Obj)) (σ : St) (H : Hp) (W : Own) (ρ : Ro) (s s' : Shared) (ea c : Addr) (H' : Hp) (B : Heap) (a0 : Value), Inv X pins σ H s -> Rel X W H σ ρ -> s'.os = s.os -> AllBare s'.gens -> Fl X.prog X.w X.stack s.heap H H' B s'.heap -> ai H H' -> H' ea = none -> s.heap.get? ea = none →
 pR B X.stack ea (.ref c) a0 s'.heap -> Ed (.ref c) -> X.xe (.ref ea) s'
theorem jX.no {X : Cx} : jX X fun _ => False := fun _ _ _ _ _ _ _ _ _ _ _ _ _ _ _ _ _ _ _ _ _ z => z.elim
section
variable {P : Program} {w : World} {K : PySem.W.Frag} {mg : Str -> Option Value} {base : Heap} {N : List Str} {qual : Str} {sc : Scope} {f : Addr} {cd : Value} {A : Around} {outer : List Env} {s₀ : Shared} {H₀ : Hp} {E : XK}
theorem ya {Ed : Value -> Prop} (hE : ∀ c a H', ai H₀ H' -> Ed c -> E c a H') : jX (bS (CX1 P w) P w K mg base N qual sc f cd A outer s₀ H₀ E) Ed := by
 intro pins σ H W ρ s s' ea c H' B a0 I r os bare F sm hn hn0 R hd
 show wpAny (model P w) (A.deeper (envOfC qual sc s₀.heap.objs.size f cd)) (leaving (envOfC qual sc s₀.heap.objs.size f cd) (.ref ea)) _ _ _
 refine um (outer := outer) I.ok.frames rfl R fun h'' x1 x2 => ?_
 have I' := I.call' os F.un F.hok bare (by intro b z; cases z)
 refine mM (s := s') (h' := h'') I' (r.ent.trans sm) hn ?_ (fun b o q z n => F.cov b o q (z.elim .inl fun ⟨o', z⟩ => .inr (I.base.there b o' z (by intro q; cases q))) n) x1 x2 (hE _ _ _ (r.ent.trans sm) hd)
 cases q : s₀.heap.get? ea with
 | none => rfl
 | some o =>
  obtain ⟨o', q'⟩ := I.base.there ea o q (by intro z; cases z)
  rw [hn0] at q'
  cases q'
end
section
variable {P : Program} {w : World} {K : PySem.W.Frag} {mg : Str -> Option Value} {base : Heap}
structure ay (K : PySem.W.Frag) (x qual : Str) (st : Stmt) (f : Addr) (fd : FuncData) : Prop where
 ex : ∃ (oc : Value) (od : Option Addr) (dV kV doc pm : Value) (an : Option Addr) (cdv ct : Value) (osl : Array (Option Value)),
  fd = PySem.W.fnOf x qual (bJ st) (bc st) (ak st) dV kV doc pm an cdv ct /\ K.lookup f = some ⟨oc, od, .func fd, osl⟩ /\ PySem.W.codeIn K cdv qual = true
 kp : PySem.W.keepIn K (.ref f) = true
theorem ay.okC {x qual : Str} {st : Stmt} {f : Addr} {fd : FuncData} {N ps : List Str} {k : Nat} {sp : DSp} (F : ay K x qual st f fd) (S : aB N ps (ak st)) (len : ∀ ds Q E, sp ds Q E -> ds.length = ps.length)
  (hbody : ∀ (cdv : Value), fd.code = cdv -> ∀ (A : Around) (outer : List Env) (s : Shared) (H : Hp) (E : XK) (Ed : Value -> Prop), aZ k (A.deeper (envOfC qual (ak st) s.heap.objs.size f cdv)) -> MadeX (bS (CX1 P w) P w K mg base N qual (ak st) f cdv A outer s H E) Ed -> di (bS (CX1 P w) P w K mg base N qual (ak st) f cdv A outer s H E) Ed -> jX (bS (CX1 P w) P w K mg base N qual (ak st) f cdv A outer s H E) Ed →
   ∃ t, bR (bS (CX1 P w) P w K mg base N qual (ak st) f cdv A outer s H E) (bc st) t /\ ∀ ds Q, sp ds Q Ed -> t { nx := fun _ => Q .non, rt := Q } (aE N ds)) : aG P w K mg base (CX1 P w) (k + 1) f fd ps (aO K sp) := by
 obtain ⟨oc, od, dV, kV, doc, pm, an, cdv, ct, osl, rfl, lk, hcd⟩ := F.ex
 refine qr lk hcd S (fun vs H Q E h => ?_) fun A outer s H vs Q E hr h => ?_
 ·obtain ⟨_, ds, _, _, _, _, hd, hs, _⟩ := h
  rw [hd.len]
  exact len ds _ _ hs
 ·obtain ⟨Pb, ds, Qd, Ed, hT, hP, hd, hs, kq, ke⟩ := h
  obtain ⟨t, ht, k⟩ := hbody cdv rfl A outer s H E Ed hr (yj ke) (wa ke) (ya ke)
  refine ⟨_, ht.ps, ⟨Pb, fun _ => none, fun a => ∃ o, H a = some o⟩, _, _, Rel.start hP hd rfl hT, k ds Qd hs, fun W' σ' H' ρ' f r q => ?_, fun W' H' v d f hd' q => ?_, fun _ _ _ _ _ _ q => q, fun _ _ _ _ _ _ q => q⟩
  ·exact kq .non .non H' ⟨fun b o e n => f.kp b o (fun i z => by cases z) e n, f.tb, f.ok⟩ Den.non q
  ·refine kq d v H' ⟨fun b o e n => f.kp b o (fun i z => by cases z) e n, f.tb, f.ok⟩ (hd'.fewer fun t a z => ?_) q
   rcases z with z | z
   ·exact .inl (by rw [f.B]; exact z)
   ·exact .inr (.inr ⟨z.1, by rw [f.S]; exact z.2⟩)
theorem ay.okX {x qual : Str} {st : Stmt} {f : Addr} {fd : FuncData} {N ps : List Str} {k : Nat} {sp : DSp} (F : ay K x qual st f fd) (S : aB N ps (ak st)) (len : ∀ ds Q E, sp ds Q E -> ds.length = ps.length)
  (hbody : ∀ (cdv : Value) (A : Around) (outer : List Env) (s : Shared) (H : Hp) (E : XK) (Ed : Value -> Prop), aZ k (A.deeper (envOfC qual (ak st) s.heap.objs.size f cdv)) -> MadeX (bS (CX1 P w) P w K mg base N qual (ak st) f cdv A outer s H E) Ed -> di (bS (CX1 P w) P w K mg base N qual (ak st) f cdv A outer s H E) Ed -> jX (bS (CX1 P w) P w K mg base N qual (ak st) f cdv A outer s H E) Ed →
   ∃ t, bR (bS (CX1 P w) P w K mg base N qual (ak st) f cdv A outer s H E) (bc st) t /\ ∀ ds Q, sp ds Q Ed -> t { nx := fun _ => Q .non, rt := Q } (aE N ds)) : aG P w K mg base (CX1 P w) (k + 1) f fd ps (aO K sp) := ay.okC F S len fun cdv _ => hbody cdv
theorem ay.okN {x qual : Str} {st : Stmt} {f : Addr} {fd : FuncData} {N ps : List Str} {k : Nat} {sp : DSp} (F : ay K x qual st f fd) (S : aB N ps (ak st)) (len : ∀ ds Q E, sp ds Q E -> ds.length = ps.length)
  (hbody : ∀ (cdv : Value) (A : Around) (outer : List Env) (s : Shared) (H : Hp) (E : XK), aZ k (A.deeper (envOfC qual (ak st) s.heap.objs.size f cdv)) →
   ∃ t, bR (bS (CX1 P w) P w K mg base N qual (ak st) f cdv A outer s H E).nox (bc st) t /\ ∀ ds Q Ed, sp ds Q Ed -> t { nx := fun _ => Q .non, rt := Q } (aE N ds)) : aG P w K mg base (CX1 P w) (k + 1) f fd ps (aO K sp) :=
 ay.okX F S len fun cdv A outer s H E Ed hr _ _ _ => by
  obtain ⟨t, ht, k⟩ := hbody cdv A outer s H E hr
  exact ⟨t, ht.nox, fun ds Q h => k ds Q Ed h⟩
theorem ay.binds {x qual : Str} {st : Stmt} {f : Addr} {kV doc pm cdv ct : Value} {an : Option Addr} {ps : List Str}
  (h : ∀ us : List Value, us.length = ps.length -> bindArgs (PySem.W.fnOf x qual (bJ st) (bc st) (ak st) .none kV doc pm an cdv ct) ⟨us, []⟩ = pure (ps.zip us)) : Binds K (PySem.W.fnOf x qual (bJ st) (bc st) (ak st) .none kV doc pm an cdv ct) ps [] := .all h
theorem oZ {x qual : Str} {st : Stmt} {f : Addr} {oc : Value} {od an : Option Addr} {osl : Array (Option Value)} {dV kV doc pm cdv ct : Value} (l : K.lookup f = some ⟨oc, od, .func (PySem.W.fnOf x qual (bJ st) (bc st) (ak st) dV kV doc pm an cdv ct), osl⟩)
  (c : PySem.W.codeIn K cdv qual = true) (k : PySem.W.keepIn K (.ref f) = true) : ay K x qual st f (PySem.W.fnOf x qual (bJ st) (bc st) (ak st) dV kV doc pm an cdv ct) := ⟨⟨oc, od, dV, kV, doc, pm, an, cdv, ct, osl, rfl, l, c⟩, k⟩
end
end PD
namespace PD
open PySem PySem.Spec PyProof.Rows L2
def Has (P : Program) (w : World) (K : PySem.W.Frag) (mg : Str -> Option Value) (base : Heap) (x : Str) (k : Nat) (ps : List Str) (sp : DSp) : Prop :=
 ∃ f fd, aG P w K mg base (CX1 P w) k f fd ps (aO K sp) /\ mg x = some (.ref f) /\ PySem.W.keepIn K (.ref f) = true /\ Binds K fd ps []
section
variable {X : Cx} {k : Nat} {ps : List Str} {sp : DSp} {x : Str} {p pos : Pos} {e : Expr} {es : List Expr} {t : DA}
theorem aw (h : Has X.prog X.w X.K X.mg X.base x k ps sp) (hr : aZ k X.A) (ha : PAD X (e :: es) t) (hg : Gl X x := by rfl) (hdb : (x == ("__debug__" : Str)) = false := by decide)
  (he : starEach (e :: es) X.env = (false, eval e X.env) :: starEach es X.env := by rfl) (hpl : (backTo pos (starEach es X.env)).any (·.1) = false := by rfl) : PED X (.Call (.Name x p) (e :: es) [] pos) (mr sp [] t) := by
 obtain ⟨f, fd, F, hm, hk, hb⟩ := h
 exact ua (dds := []) (dsv := []) F hr hg hm hk hb .nil (by simp) yw ha hdb he hpl
theorem vD {C : Addr} {y n : Str} {cp ep np hp : Pos} {b₀ : Stmt} {suite : List Stmt} {su : DS} (i : Nat) (h : Has X.prog X.w X.K X.mg X.base x k ps sp) (hr : aZ k X.A) (hN : X.N.Nodup) (hmx : X.mg y = some (.ref C)) (ha : PAD X.nox (e :: es) t) (hsu : ∀ v, bR (Cx.markX X v) (b₀ :: suite) su)
  (hgg : Gl X x := by rfl) (hgx : Gl X y := by rfl) (hi : X.N[i]? = some n := by rfl) (hkn : X.env.scope.names.lookup n = some .local := by rfl)
  (hex : X.ex = [] := by rfl) (hst : X.stack = X.env :: X.outer := by rfl) (hef : X.env.frame = some X.env.locals := by rfl) (hdb : (x == ("__debug__" : Str)) = false := by decide) (hdx : (y == ("__debug__" : Str)) = false := by decide) (he : starEach (e :: es) X.env = (false, eval e X.env) :: starEach es X.env := by rfl) (hpl : (backTo cp (starEach es X.env)).any (·.1) = false := by rfl)
  (hs : swapsWith (.Call (.Name x p) (e :: es) [] cp) none ep.line X.env = pure false := by rfl) :
  PSD X (.Try [.Expr (.Call (.Name x p) (e :: es) [] cp) ep] [.ExceptHandler (some (.Name y np)) (some n) (b₀ :: suite) hp] [] [] pos) (qo X.K C i sp t su) := by
 obtain ⟨f, fd, F, hm, hk, hb⟩ := h
 exact wR i F hr hm hk hb hN hmx ha hsu hgg hgx hi hkn hex hst hef hdb hdx he hpl hs
end
theorem q5 {CX : CXT} {P : Program} {w : World} {K : PySem.W.Frag} {mg : Str -> Option Value} {base : Heap} {N : List Str} {qual : Str} {sc : Scope} {f : Addr} {cd : Value} {A : Around} {outer : List Env} {s : Shared} {H : Hp} {E : XK} : (bS CX P w K mg base N qual sc f cd A outer s H E).K = K := rfl
theorem pQ (c : Addr) : tyV (.exc c) = .ref c := rfl
theorem lK (c : Addr) : dq (.exc c) = false := rfl
def kE : DSp := fun ds Q _ => ∃ ns : List Int, ds = [.lst false (ns.map .int)] /\ ns.length <= 63 /\ Q (.bl true)
theorem lB {K : PySem.W.Frag} {P : Bool -> Addr -> Prop} {H : Hp} : ∀ ns : List Int, af K P H (ns.map D.int) (ns.map V.int)
 | [] => af.nil
 | n :: r => af.cons (Den.int n) (lB r)
theorem xg {K : PySem.W.Frag} {H : Hp} {a : Addr} {ns : List Int} (hl : ns.length <= 63) (hS : SqL K H a (ns.map V.int)) (hT : dj K H) : aO K kE [.ref a] H (fun v _ => v = .bl true) fun _ _ _ => False :=
 ⟨fun _ => False, [.lst false (ns.map D.int)], fun d => d = .bl true, fun _ => False, hT, fun _ z => z.elim, af.one (Den.lst (fun z => z.elim (fun z => by cases z) id) (.any hS) (lB ns)), ⟨ns, rfl, hl, rfl⟩, fun d v H' _ hd e => by subst e; exact hd.bl_, fun _ _ _ _ z => z.elim⟩
theorem walk {l : PySem.W.OpenLaw} {q : Program} {loose : List Str} {XP : (Str -> Option Value) -> Heap -> Prop} {YP : World -> Heap -> Prop} {d : DefRec} {K : Params -> PySem.W.Frag} {k : Nat} {x : Str} (hn : l.most = some 63) (hdf : d.params.defaults = []) (hr : aZ k callerA)
  (hY : ∀ (w : World) (h : Heap), YP w h -> (K w.params).In h) (hT : ∀ w : World, tabOf (K w.params) = none)
  (F : ∀ (w : World) (mg : Str -> Option Value) (fa : Addr) (h : Heap), (K w.params).In h -> h.Ns mainGlobals mg -> mg d.name = some (.ref fa) →
   ∃ fd : FuncData, (∀ (s : Shared) (u : Value), BindsTo s fd ⟨[u], []⟩ [(x, u)]) /\ ∀ base : Heap, (K w.params).In base -> base.Ns mainGlobals mg -> aG l.prog w (K w.params) mg base (CX1 l.prog w) k fa fd [x] (aO (K w.params) kE)) :
  PySem.W.WalkO q loose XP YP l.row.toRowW d [] (fun f vs => PySem.call f vs) :=
 L2.wt (n := 63) (k := k) (x := x) (CX := fun w => CX1 l.prog w) (sp := fun w => aO (K w.params) kE) hn (by decide) hdf hr hY F (fun w _ a ns hl hO hS => xg hl hS ⟨fun P ps e => (by rcases hO P with z | ⟨o, xs, z⟩ <;> rw [z] at e <;> cases e), fun P e => (by rw [hT w] at e; cases e)⟩) fun _ _ _ _ _ z => by obtain ⟨_, _, _, _, _, _, _, _, _, _, _, _, _, q⟩ := z; exact q.elim
theorem at0 {α : Type} (a : α) (r : List α) : atI (a :: r) 0 = some a := bI (j := 0) rfl
theorem at1 {α : Type} (a b : α) (r : List α) : atI (a :: b :: r) 1 = some b := bI (j := 1) rfl
theorem at2 {α : Type} (a b c : α) (r : List α) : atI (a :: b :: c :: r) 2 = some c := bI (j := 2) rfl
theorem at3 {α : Type} (a b c d : α) (r : List α) : atI (a :: b :: c :: d :: r) 3 = some d := bI (j := 3) rfl
theorem nW (ds : List D) (i : Int) (Q : D -> Prop) : jK (.tup ds) (.int i) Q = ∃ d, atI ds i = some d /\ Q d := by
 apply propext
 constructor
 ·rintro ⟨ds', i', d, e1, e2, h, q⟩
  rcases e1 with e1 | ⟨_, e1⟩
  ·cases e1; cases e2; exact ⟨d, h, q⟩
  ·cases e1
 ·rintro ⟨d, h, q⟩
  exact ⟨ds, i, d, .inl rfl, rfl, h, q⟩
theorem dP (t : Bool) (ds : List D) (i : Int) (Q : D -> Prop) : jK (.lst t ds) (.int i) Q = ∃ d, atI ds i = some d /\ Q d := by
 apply propext
 constructor
 ·rintro ⟨ds', i', d, e1, e2, h, q⟩
  rcases e1 with e1 | ⟨_, e1⟩
  ·cases e1
  ·cases e1; cases e2; exact ⟨d, h, q⟩
 ·rintro ⟨d, h, q⟩
  exact ⟨ds, i, d, .inr ⟨t, rfl⟩, rfl, h, q⟩
theorem cj (i : Int) : aI (.int i) = .int i := by rw [aI]
theorem oh (b : Bool) : aI (.bl b) = .bl b := by rw [aI]
theorem l5 : aI .non = .non := by rw [aI]
theorem i7 (x : Str) : aI (.str x) = .str x := by rw [aI]
theorem l4 (c : Addr) : aI (.exc c) = .exc c := by rw [aI]
theorem dh (ds : List D) : aI (.tup ds) = .tup (aP ds) := by rw [aI]
theorem bQ (t : Bool) (ds : List D) : aI (.lst t ds) = .lst false (aP ds) := by rw [aI]
theorem cJ : aP [] = [] := by rw [aP]
theorem bA (d : D) (ds : List D) : aP (d :: ds) = aI d :: aP ds := by rw [aP]
theorem cn {α : Type} (f : α -> D) (h : ∀ x, aI (f x) = f x) : ∀ xs : List α, aP (xs.map f) = xs.map f
 | [] => by rw [List.map_nil, aP]
 | x :: r => by rw [List.map_cons, aP, h, cn f h r]
theorem d9 (ns : List Int) : aP (ns.map D.int) = ns.map D.int := cn _ cj ns
theorem pH (C : Int -> Int -> Prop) (g : Int -> Int -> D) (i j : Int) (Q : D -> Prop) : rdI C g (.int i) (.int j) Q = (C i j /\ Q (g i j)) := by
 apply propext
 constructor
 ·rintro ⟨i', j', e1, e2, h, q⟩
  cases e1; cases e2; exact ⟨h, q⟩
 ·rintro ⟨h, q⟩
  exact ⟨i, j, rfl, rfl, h, q⟩
theorem nV (g : Int -> Int -> D) (i j : Int) (Q : D -> Prop) : fN g (.int i) (.int j) Q = Q (g i j) := by
 apply propext
 constructor
 ·rintro ⟨i', j', e1, e2, q⟩
  cases e1; cases e2; exact q
 ·intro q
  exact ⟨i, j, rfl, rfl, q⟩
theorem rC (d : D) (r : Ro) (Q : D -> Prop) : iQ 0 (some (.val d) :: r) Q = Q d := by
 apply propext
 constructor
 ·rintro ⟨d', e, q⟩
  cases e; exact q
 ·intro q; exact ⟨d, rfl, q⟩
theorem rD (n : Nat) (x : Option Sl) (r : Ro) (Q : D -> Prop) : iQ (n + 1) (x :: r) Q = iQ n r Q := rfl
theorem vn (x y : Option Sl) (r : Ro) : List.set (x :: r) 0 y = y :: r := rfl
theorem vo (n : Nat) (x y : Option Sl) (r : Ro) : List.set (x :: r) (n + 1) y = x :: List.set r n y := rfl
theorem u0 (k : Bool) (R : Bool -> Prop) : (∃ c, (D.bl k) = .bl c /\ R c) = R k := by
 apply propext
 constructor
 ·rintro ⟨c, e, q⟩; cases e; exact q
 ·intro q; exact ⟨k, rfl, q⟩
theorem rM (k : Int) (R : Int -> Prop) : (∃ c, (D.int k) = .int c /\ R c) = R k := by
 apply propext
 constructor
 ·rintro ⟨c, e, q⟩; cases e; exact q
 ·intro q; exact ⟨k, rfl, q⟩
theorem oW {α : Type} (k : α) (R : α -> Prop) : (∃ c, some k = some c /\ R c) = R k := by
 apply propext
 constructor
 ·rintro ⟨c, e, q⟩; cases e; exact q
 ·intro q; exact ⟨k, rfl, q⟩
theorem sz3 (a b c : D) : ([a, b, c] : List D).length <= sizeLine := by rw [sizeLine_eq]; show 3 <= 16777216; decide
theorem sz2 (a b : D) : ([a, b] : List D).length <= sizeLine := by rw [sizeLine_eq]; show 2 <= 16777216; decide
theorem sz1 (a : D) : ([a] : List D).length <= sizeLine := by rw [sizeLine_eq]; show 1 <= 16777216; decide
theorem o6 (t : Bool) (xs : List D) (R : List D -> Prop) : (∃ ys, ((∃ t', [D.lst t xs] = [.lst t' ys]) ∨ [D.lst t xs] = [.tup ys]) /\ R ys) = R xs := by
 apply propext
 constructor
 ·rintro ⟨c, e, q⟩
  rcases e with ⟨_, e⟩ | e
  ·cases e; exact q
  ·cases e
 ·intro q; exact ⟨xs, .inl ⟨t, rfl⟩, q⟩
theorem o7 (xs : List D) (R : List D -> Prop) : (∃ ys, ((∃ t', [D.tup xs] = [.lst t' ys]) ∨ [D.tup xs] = [.tup ys]) /\ R ys) = R xs := by
 apply propext
 constructor
 ·rintro ⟨c, e, q⟩
  rcases e with ⟨_, e⟩ | e
  ·cases e
  ·cases e; exact q
 ·intro q; exact ⟨xs, .inr rfl, q⟩
theorem sP (a b : D) (R : D -> D -> Prop) : (∃ d e, [a, b] = [d, e] /\ R d e) = R a b := by
 apply propext
 constructor
 ·rintro ⟨_, _, e, q⟩; cases e; exact q
 ·intro q; exact ⟨a, b, rfl, q⟩
theorem o5 (ds : List D) : isT "tuple" (.tup ds) = true := by
 show (("tuple" : String) == "tuple" || (("tuple" : String) == "bool" && ("tuple" : String) == "int")) = true
 decide
theorem lQ (t : Bool) (ds : List D) : isT "tuple" (.lst t ds) = false := by
 show (("list" : String) == "tuple" || (("list" : String) == "bool" && ("tuple" : String) == "int")) = false
 decide
theorem o4 (t : Bool) (ds : List D) : isT "list" (.lst t ds) = true := by
 show (("list" : String) == "list" || (("list" : String) == "bool" && ("list" : String) == "int")) = true
 decide
theorem lP (ds : List D) : isT "list" (.tup ds) = false := by
 show (("tuple" : String) == "list" || (("tuple" : String) == "bool" && ("list" : String) == "int")) = false
 decide
theorem o3 (i : Int) : isT "int" (.int i) = true := by
 show (("int" : String) == "int" || (("int" : String) == "bool" && ("int" : String) == "int")) = true
 decide
theorem kl (i : Int) : isT "bool" (.int i) = false := by
 show (("int" : String) == "bool" || (("int" : String) == "bool" && ("bool" : String) == "int")) = false
 decide
theorem lN : dq .non = true := rfl
theorem lO (ds : List D) : dq (.tup ds) = false := rfl
theorem lM (t : Bool) (ds : List D) : dq (.lst t ds) = false := rfl
theorem lL (i : Int) : dq (.int i) = false := rfl
theorem pq (i : Int) : okD (.int i) := by unfold okD; rw [pyD, plD] <;> first | exact ⟨rfl, rfl⟩ | (intros; contradiction)
theorem pA : okD .non := by unfold okD; rw [pyD, plD] <;> first | exact ⟨rfl, rfl⟩ | (intros; contradiction)
theorem sJ (a b c : Int) : okD (.tup [.int a, .int b, .int c]) := by unfold okD; simp only [pyD, bU, plD, iz]; exact ⟨rfl, rfl⟩
theorem rK (a b c x y z : Int) : eqD (.tup [.int a, .int b, .int c]) (.tup [.int x, .int y, .int z]) = (decide (a = x) && (decide (b = y) && decide (c = z))) := by
 unfold eqD
 simp only [pyD, bU, PyData.eqv, PyData.eqvAll, Bool.and_true]
 rfl
abbrev T3 (a b c : Int) : D := .tup [.int a, .int b, .int c]
theorem CD.lit {i n : Int} (h : n ≠ 0 /\ n.natAbs < 2 ^ 64 := by decide) : CD i n := ⟨h.1, Nat.lt_of_lt_of_le h.2 (Nat.pow_le_pow_right (by decide) (by decide))⟩
theorem pK (a b d : Int) (R : Int -> Int -> Int -> Prop) : (∃ i j c : Int, [D.int a, D.int b, D.int d] = [.int i, .int j, .int c] /\ R i j c) = R a b d := by
 apply propext
 constructor
 ·rintro ⟨_, _, _, e, q⟩; cases e; exact q
 ·intro q; exact ⟨a, b, d, rfl, q⟩
theorem pJ (a b : Int) (R : Int -> Int -> Prop) : (∃ i j : Int, [D.int a, D.int b] = [.int i, .int j] /\ R i j) = R a b := by
 apply propext
 constructor
 ·rintro ⟨_, _, e, q⟩; cases e; exact q
 ·intro q; exact ⟨a, b, rfl, q⟩
theorem pI (a : Int) (R : Int -> Prop) : (∃ i : Int, [D.int a] = [.int i] /\ R i) = R a := by
 apply propext
 constructor
 ·rintro ⟨_, e, q⟩; cases e; exact q
 ·intro q; exact ⟨a, rfl, q⟩
theorem sU {lo c : Int} {n j : Nat} {x : D} (h : (c6 lo c n)[j]? = some x) : j < n /\ x = .int (lo + j * c) := by
 by_cases hj : j < n
 ·rw [nY hj] at h
  exact ⟨hj, (Option.some.inj h).symm⟩
 ·rw [List.getElem?_eq_none (by rw [jL]; omega)] at h
  cases h
theorem wg {lo hi c : Int} {j : Nat} (hc : 0 < c) (h : j < cK lo hi c) : lo + j * c < hi := by
 unfold cK Builtin.Range.rangeSize at h
 rw [if_pos (show c > 0 from hc)] at h
 by_cases hl : lo < hi
 ·rw [if_pos hl] at h
  have h1 : (j : Int) <= (hi - lo - 1) / c := by omega
  have h2 := (Int.le_ediv_iff_mul_le hc).mp h1
  omega
 ·rw [if_neg hl] at h
  simp at h
theorem tJ {ns : List Int} {k : Int} (h0 : 0 <= k) (h1 : k < ns.length) : atI (ns.map D.int) k = some (.int (ns.getD k.toNat 0)) := by
 have e : k = ((k.toNat : Nat) : Int) := by omega
 have hl : k.toNat < ns.length := by omega
 have q : atI (ns.map D.int) ((k.toNat : Nat) : Int) = some (.int (ns.getD k.toNat 0)) := bI (by simp [List.getElem?_map, List.getElem?_eq_getElem hl, List.getD_eq_getElem?_getD])
 rw [<- e] at q
 exact q
theorem gC {xs ys : List Int} (h : xs.map D.int = ys.map D.int) : xs = ys := by
 induction xs generalizing ys with
 | nil => cases ys with
  | nil => rfl
  | cons y r => simp at h
 | cons x r ih => cases ys with
  | nil => simp at h
  | cons y q =>
   simp only [List.map_cons, List.cons.injEq, D.int.injEq] at h
   rw [h.1, ih h.2]
theorem gdN (n : Nat) (t : DGs) (tg : Bool) (ds : List D) (h : ds.length = n) (ρ : Ro) (Q : Ro -> Prop) : cT n t (.lst tg ds) ρ Q = t ds ρ Q := by
 apply propext
 unfold cT
 constructor
 ·rintro ⟨ds', e, _, h⟩
  rcases e with e | ⟨_, e⟩
  ·cases e
  ·cases e; exact h
 ·intro q; exact ⟨ds, .inr ⟨tg, rfl⟩, h, q⟩
theorem kT (n : Nat) (t : DGs) (ds : List D) (h : ds.length = n) (ρ : Ro) (Q : Ro -> Prop) : cT n t (.tup ds) ρ Q = t ds ρ Q := by
 apply propext
 unfold cT
 constructor
 ·rintro ⟨ds', e, _, h⟩
  rcases e with e | ⟨_, e⟩
  ·cases e; exact h
  ·cases e
 ·intro q; exact ⟨ds, .inl rfl, h, q⟩
theorem gdc (g : DG) (u : DGs) (x : D) (r : List D) (ρ : Ro) (Q : Ro -> Prop) : aW g u (x :: r) ρ Q = g x ρ fun ρ' => u r ρ' Q := by
 apply propext
 unfold aW
 constructor
 ·rintro ⟨d, r', e, h⟩; cases e; exact h
 ·intro h; exact ⟨x, r, rfl, h⟩
theorem gdn (ρ : Ro) (Q : Ro -> Prop) : dX [] ρ Q = Q ρ := by apply propext; unfold dX; simp
theorem gd2 (g1 g2 : DG) (tg : Bool) (a b : D) (ρ : Ro) (Q : Ro -> Prop) : cT 2 (aW g1 (aW g2 dX)) (.lst tg [a, b]) ρ Q = g1 a ρ fun ρ1 => g2 b ρ1 Q := by
 (first | rw [gdN 2 _ _ _ rfl] | rw [gdN 3 _ _ _ rfl]); simp only [gdc, gdn]
theorem w4 (g1 g2 : DG) (a b : D) (ρ : Ro) (Q : Ro -> Prop) : cT 2 (aW g1 (aW g2 dX)) (.tup [a, b]) ρ Q = g1 a ρ fun ρ1 => g2 b ρ1 Q := by
 (first | rw [kT 2 _ _ rfl] | rw [kT 4 _ _ rfl]); simp only [gdc, gdn]
theorem gd3 (g1 g2 g3 : DG) (tg : Bool) (a b c : D) (ρ : Ro) (Q : Ro -> Prop) : cT 3 (aW g1 (aW g2 (aW g3 dX))) (.lst tg [a, b, c]) ρ Q = g1 a ρ fun ρ1 => g2 b ρ1 fun ρ2 => g3 c ρ2 Q := by
 (first | rw [gdN 2 _ _ _ rfl] | rw [gdN 3 _ _ _ rfl]); simp only [gdc, gdn]
theorem w6 (g1 g2 g3 g4 : DG) (a b c d : D) (ρ : Ro) (Q : Ro -> Prop) : cT 4 (aW g1 (aW g2 (aW g3 (aW g4 dX)))) (.tup [a, b, c, d]) ρ Q = g1 a ρ fun ρ1 => g2 b ρ1 fun ρ2 => g3 c ρ2 fun ρ3 => g4 d ρ3 Q := by
 (first | rw [kT 2 _ _ rfl] | rw [kT 4 _ _ rfl]); simp only [gdc, gdn]
end PD
namespace PD
open PySem PySem.Spec PyProof.Rows L2
section
variable {X : Cx} {pos : Pos}
theorem Rel.putG {W : Own} {H H' : Hp} {σ : St} {ρ : Ro} {i : Nat} {p : Addr} {x : OS} {o : HO} (r : Rel X W H σ ρ) (hi : i < σ.length) (sm : ai H H') (hp : H p = none) (hk : X.K.lookup p = none) (h' : H' p = some o) (hd : bW X.K (fun t b => W.bad t b ∨ b = p) H' (W.sub σ.length i) x o) :
  Rel X ((W.drop i).put i p) H' (σ.set i (some (.ref p))) (ρ.set i (some (.ob x))) /\ Fwd W H ((W.drop i).put i p) H' := by
 have hO : ∀ j a, ((W.drop i).put i p).O j = some a -> (j = i /\ a = p) ∨ (j ≠ i /\ W.O j = some a) := fun j a h => by
  have h1 : (if j = i then some p else (if j = i then none else W.O j)) = some a := h
  by_cases e : j = i
  ·rw [if_pos e] at h1; cases h1; exact .inl ⟨e, rfl⟩
  ·rw [if_neg e, if_neg e] at h1; exact .inr ⟨e, h1⟩
 have hOi : ((W.drop i).put i p).O i = some p := by show (if i = i then some p else _) = _; rw [if_pos rfl]
 have hOj : ∀ j, j ≠ i -> ((W.drop i).put i p).O j = W.O j := fun j n => by show (if j = i then some p else (if j = i then none else W.O j)) = _; rw [if_neg n, if_neg n]
 have hS : ∀ j k b, W.sub σ.length j k = some b -> ((W.drop i).put i p).sub σ.length j k = some b := fun j k b e => (hOj _ (oo hi)).trans e
 have bad' : ∀ t a, ((W.drop i).put i p).bad t a -> W.bad t a ∨ a = p := fun t a z => by
  rcases z with z | ⟨j, z⟩ | z
  ·exact .inl (.inl z)
  ·rcases hO j a z with ⟨_, q⟩ | ⟨_, q⟩
   ·exact .inr q
   ·exact .inl (.inr (.inl ⟨j, q⟩))
  ·exact .inl (.inr (.inr z))
 have nb : ∀ {t : Bool} {a : Addr} {ws : List V}, SqG X.K H t a ws -> a ≠ p := fun {t a ws} q z => by
  subst z
  rcases q.1 with (q | ⟨o, q⟩) | ⟨o, its, n, q, _⟩
  ·rw [hp] at q; cases q
  ·rw [hp] at q; cases q
  ·rw [hk] at q; cases q
 have up : ∀ (d : D) (v : V), Den X.K W.bad H d v -> Den X.K ((W.drop i).put i p).bad H' d v := Den.map (fun _ _ q => SqT.same sm q) (fun t a ws n q => ⟨fun z => (bad' t a z).elim n (nb q), q.same sm⟩) (fun a _ q => sm a _ q)
 have ups : ∀ (ds : List D) (vs' : List V), af X.K W.bad H ds vs' -> af X.K ((W.drop i).put i p).bad H' ds vs' := af.map (fun _ _ q => SqT.same sm q) (fun t a ws n q => ⟨fun z => (bad' t a z).elim n (nb q), q.same sm⟩) (fun a _ q => sm a _ q)
 refine ⟨⟨fun j d h => ?_, fun j x h => ?_, fun j k a h1 h2 => ?_, fun j a h1 => ?_, fun j a h1 => ?_, fun a h => let ⟨_, q⟩ := r.bt a h; sm.ex q, fun a h => let ⟨_, q⟩ := r.st a h; sm.ex q, r.ent.trans sm, r.tab.same sm⟩, rfl, rfl, fun b o _ q n => sm.kp b o q n, fun j a h => ?_, sm.tb, sm.ok⟩
 ·by_cases hj : j = i
  ·subst hj
   rw [List.getElem?_set] at h
   split at h
   ·split at h <;> cases h
   ·omega
  ·rw [List.getElem?_set_ne (Ne.symm hj)] at h
   obtain ⟨w, h1, h2⟩ := r.val j d h
   exact ⟨w, by rw [List.getElem?_set_ne (Ne.symm hj)]; exact h1, up d w h2⟩
 ·by_cases hj : j = i
  ·subst hj
   rw [List.getElem?_set] at h
   split at h
   ·split at h
    ·cases h
     exact ⟨p, _, hOi, by simp [hi], h', by rw [List.length_set]; exact hd.fewer (fun t a z => bad' t a z) (hS _)⟩
    ·cases h
   ·omega
  ·rw [List.getElem?_set_ne (Ne.symm hj)] at h
   obtain ⟨a, ws, h1, h2, h3, h4⟩ := r.own j x h
   exact ⟨a, ws, (hOj j hj).trans h1, by rw [List.getElem?_set_ne (Ne.symm hj)]; exact h2, sm.kp _ _ h3 h4.mut.nt, by rw [List.length_set]; exact h4.map ups fun k b q => ⟨hS j k b q, fun _ z => sm _ _ z⟩⟩
 ·rcases hO j a h1 with ⟨e1, q1⟩ | ⟨e1, q1⟩ <;> rcases hO k a h2 with ⟨e2, q2⟩ | ⟨e2, q2⟩
  ·rw [e1, e2]
  ·subst q1
   obtain ⟨_, _, ws, q, _⟩ := r.kn k _ q2
   rw [hp] at q; cases q
  ·subst q2
   obtain ⟨_, _, ws, q, _⟩ := r.kn j _ q1
   rw [hp] at q; cases q
  ·exact r.inj j k a q1 q2
 ·rcases hO j a h1 with ⟨e1, q1⟩ | ⟨e1, q1⟩
  ·subst q1
   exact ⟨hk, ⟨fun z => (by obtain ⟨o, q⟩ := r.bt _ z; rw [hp] at q; cases q), fun z => (by obtain ⟨o, q⟩ := r.st _ z; rw [hp] at q; cases q)⟩, _, h', hd.mut⟩
  ·obtain ⟨a1, a2, ws, a3, a4⟩ := r.kn j a q1
   exact ⟨a1, a2, ws, sm.kp _ _ a3 a4.nt, a4⟩
 ·rcases hO j a h1 with ⟨e1, q1⟩ | ⟨e1, q1⟩
  ·subst q1; exact r.ent.free hp
  ·exact r.ke j a q1
 ·rcases hO j a h with ⟨e1, q1⟩ | ⟨e1, q1⟩
  ·subst q1; exact .inr hp
  ·exact .inl ⟨j, q1⟩
theorem Rel.putOwn2 {W : Own} {H H' : Hp} {σ : St} {ρ : Ro} {i : Nat} {p : Addr} {ds : List D} {vs : List V} (r : Rel X W H σ ρ) (hi : i < σ.length) (sm : ai H H') (hp : H p = none) (hk : X.K.lookup p = none) (h' : H' p = some (.lst vs)) (hd : af X.K (fun t b => W.bad t b ∨ b = p) H' ds vs) :
  Rel X ((W.drop i).put i p) H' (σ.set i (some (.ref p))) (ρ.set i (some (.own ds))) /\ Fwd W H ((W.drop i).put i p) H' := r.putG hi sm hp hk h' (.lst hd)
theorem af.apart {K : PySem.W.Frag} {P : Bool -> Addr -> Prop} {H : Hp} {a : Addr} {o : HO} {ds : List D} {us : List V} (n : H a = none) (k : K.lookup a = none) (h : af K P H ds us) (nt : NT o := by exact True.intro) : af K (fun t b => P t b ∨ b = a) (L2.upd H a o) ds us :=
 af.map (fun _ _ q => SqT.same (ai.upd n nt) q) (fun t b ws p q => ⟨(fun z => z.elim p fun z => by
  subst z
  rcases q.1 with (q | ⟨o, q⟩) | ⟨o, its, m, q, _⟩
  ·rw [n] at q; cases q
  ·rw [n] at q; cases q
  ·rw [k] at q; cases q), q.same (ai.upd n nt)⟩) (fun b _ q => (ai.upd n nt) b _ q) ds us h
theorem Rel.mutG {W : Own} {H : Hp} {σ : St} {ρ : Ro} {i : Nat} {a : Addr} {x x' : OS} {o o' : HO} (r : Rel X W H σ ρ) (eo : ρ[i]? = some (some (.ob x))) (oa : W.O i = some a) (sa : σ[i]? = some (some (.ref a))) (ha : H a = some o) (hm : hV o) (hd : bW X.K W.bad H (W.sub σ.length i) x' o') :
  Rel X W (L2.upd H a o') σ (ρ.set i (some (.ob x'))) /\ Fwd W H W (L2.upd H a o') := by
 have badA : ∀ t, W.bad t a := fun _ => .inr (.inl ⟨i, oa⟩)
 have noT : ∀ b ws, SqT X.K H b ws -> SqT X.K (L2.upd H a o') b ws := fun b ws q => by
  rcases q with (q | ⟨u, q⟩) | q
  ·exact .inl (.inl (by rw [ar (fy q ha (by intro z; subst z; exact hm))]; exact q))
  ·exact .inl (.inr ⟨u, by rw [ar (fy q ha (by intro z; subst z; exact hm))]; exact q⟩)
  ·exact .inr q
 have noL : ∀ t b ws, ¬ W.bad t b -> SqG X.K H t b ws -> ¬ W.bad t b /\ SqG X.K (L2.upd H a o') t b ws := fun t b ws n q => by
  have hne : b ≠ a := fun e => n (e ▸ badA t)
  refine ⟨n, ?_, fun z => ⟨by rw [ar hne]; exact (q.2 z).1, (q.2 z).2⟩⟩
  rcases q.1 with (q | ⟨u, q⟩) | q
  ·exact .inl (.inl (by rw [ar hne]; exact q))
  ·exact .inl (.inr ⟨u, by rw [ar hne]; exact q⟩)
  ·exact .inr q
 have noX : ∀ b φ, H b = some (.ext φ) -> L2.upd H a o' b = some (.ext φ) := fun b φ q => by rw [ar (fy q ha (by intro z; subst z; exact hm))]; exact q
 have hl' : i < ρ.length := (List.getElem?_eq_some_iff.mp eo).1
 have il : i < σ.length := (List.getElem?_eq_some_iff.mp sa).1
 have hSb : ∀ j k b, W.sub σ.length j k = some b -> W.sub σ.length j k = some b /\ ∀ us, H b = some (.lst us) -> L2.upd H a o' b = some (.lst us) := fun j k b q => ⟨q, fun us z => by rw [ar (fun e => oo il (r.inj _ _ a (by rw [<- e]; exact q) oa))]; exact z⟩
 have tr : ∀ b u, H b = some u -> ∃ u', L2.upd H a o' b = some u' := fun b u q => by
  by_cases hba : b = a
  ·subst hba; exact ⟨_, aA⟩
  ·exact ⟨u, by rw [ar hba]; exact q⟩
 refine ⟨⟨fun j d h => ?_, fun j y h => ?_, r.inj, fun j b hb => ?_, r.ke, fun b hb => let ⟨u, q⟩ := r.bt b hb; tr b u q, fun b hb => let ⟨u, q⟩ := r.st b hb; tr b u q, r.ent.ins (r.ke i a oa) ha hm hd.mut.nt, r.tab.upd hd.mut.nt (.inr ⟨o, ha, hm.ne, hm.nt⟩)⟩, Fwd.upd oa ha hm hd.mut.nt⟩
 ·by_cases hj : j = i
  ·subst hj
   rw [List.getElem?_set_self hl'] at h; cases h
  ·rw [List.getElem?_set_ne (Ne.symm hj)] at h
   obtain ⟨w, h1, h2⟩ := r.val j d h
   exact ⟨w, h1, Den.map noT noL noX d w h2⟩
 ·by_cases hj : j = i
  ·subst hj
   rw [List.getElem?_set_self hl'] at h
   cases h
   exact ⟨a, o', oa, sa, aA, hd.map (af.map noT noL noX) (hSb _)⟩
  ·rw [List.getElem?_set_ne (Ne.symm hj)] at h
   obtain ⟨b, ws, h1, h2, h3, h4⟩ := r.own j y h
   have hne : b ≠ a := fun e => hj (r.inj j i a (by rw [<- e]; exact h1) oa)
   exact ⟨b, ws, h1, h2, by rw [ar hne]; exact h3, h4.map (af.map noT noL noX) (hSb _)⟩
 ·obtain ⟨k1, k2, ws, k3, k4⟩ := r.kn j b hb
  refine ⟨k1, k2, ?_⟩
  by_cases hba : b = a
  ·subst hba; exact ⟨_, aA, hd.mut⟩
  ·exact ⟨ws, by rw [ar hba]; exact k3, k4⟩
theorem Rel.mut {W : Own} {H : Hp} {σ : St} {ρ : Ro} {i : Nat} {a : Addr} {ds ds' : List D} {vs vs' : List V} (r : Rel X W H σ ρ) (eo : ρ[i]? = some (some (.own ds))) (oa : W.O i = some a) (sa : σ[i]? = some (some (.ref a))) (ha : H a = some (.lst vs)) (hd : af X.K W.bad H ds' vs') :
  Rel X W (L2.upd H a (.lst vs')) σ (ρ.set i (some (.own ds'))) /\ Fwd W H W (L2.upd H a (.lst vs')) := r.mutG eo oa sa ha True.intro (.lst hd)
variable {es : List Expr} {t : DA}
def tU (i : Nat) (t : DA) : DS := fun E ρ => t ρ fun ds => ds.length <= sizeLine /\ E.nx (ρ.set i (some (.own ds)))
theorem gM {x : Str} {pos' lpos : Pos} (i : Nat) (hN : X.N.Nodup) (h : PAD X es t) (hi : X.N[i]? = some x := by rfl) (hx : Loc X.env.scope x := by first | exact Or.inl rfl | exact Or.inr rfl)
  (hs : swapsWith (.List es lpos) (some (.Name x pos')) pos.line X.env = pure false := by rfl) (hf : X.fn x = true ∨ X.env.scope.names.lookup x = some .local := by first | exact .inl rfl | exact .inr rfl | assumption) :
  PSD X (.Assign [.Name x pos'] (.List es lpos) pos) (tU i t) := by
 intro pins s σ H W ρ E I r hq
 refine wpAny_Assign_Name (wpAny_List_spliced (thn (h lpos pins s σ H W ρ _ I r hq) fun us s1 ⟨vs, H1, ds, I1, rv, e1, hd, z, q⟩ => ?_)) hs
 rw [<- hd.len] at z
 refine ⟨by rw [<- rv.length]; exact z, ?_⟩
 have hf1 : H1 s1.heap.objs.size = none := I1.hok.fresh (Nat.le_refl _)
 have I2 := I1.laid (o := .lst vs) (t' := s1.toks) (fun b u e => Heap.get?_push_of_some _ e) (Nat.le_refl _) ⟨z, us, 0, rv, Heap.get?_push_size _ rfl⟩
 have rp := (r.same e1).putOwn2 (Inv.ilt I1 hi) (ai.upd (o := .lst vs) hf1) hf1 (Inv.kfresh I1) aA (af.apart hf1 (Inv.kfresh I1) hd)
 exact da (v := .ref s1.heap.objs.size) I2 hN hi hx rfl (fun s2 I3 => ⟨_, _, _, I3, (Fwd.same e1).trans rp.2, _, rp.1, q⟩) hf
def kL (i : Nat) (te : DE) : DS := fun E ρ => ∃ ds, ρ[i]? = some (some (.own ds)) /\ te ρ fun d => ds.length < sizeLine /\ E.nx (ρ.set i (some (.own (ds ++ [d]))))
theorem gn {x : Str} {e : Expr} {te : DE} {px apos cpos : Pos} (i : Nat) (he : PED X e te) (hi : X.N[i]? = some x := by rfl) (hv : Vis X.env.scope x := by first | exact Or.inl rfl | exact Or.inr (Or.inl rfl) | exact Or.inr (Or.inr rfl))
  (hd : (x == ("__debug__" : Str)) = false := by decide) (hcd : (x == ("__classdict__" : Str)) = false := by decide)
  (hbase : attributeBase (.Name x px) "append" X.env (eval (.Name x px) X.env) = eval (.Name x px) X.env := by rfl)
  (hfew : ((backTo cpos (starEach [e] X.env)).all (fun x => !x.1) && (backToKw cpos (keywordEach [] X.env)).all (fun x => x.1.isSome) && decide ([e].length + ([] : List Keyword).length + (if ([] : List Keyword).isEmpty then 0 else 1) < 30)) = true := by rfl)
  (hline : (apos.endLine == cpos.line) = true := by rfl) (hst : starEach [e] X.env = (false, eval e X.env) :: starEach [] X.env := by rfl) (hplain : (backTo cpos (starEach [] X.env)).any (·.1) = false := by rfl)
  (hs : swapsWith (.Call (.Attribute (.Name x px) "append" apos) [e] [] cpos) none pos.line X.env = pure false := by rfl) :
  PSD X (.Expr (.Call (.Attribute (.Name x px) "append" apos) [e] [] cpos) pos) (kL i te) := by
 have P0 := kY (pos := pos) (qG PySem.F.plainAttrs_list PySem.F.slot_list_append PySem.F.type_list_append iW (gW hi hv hd hcd) (bK he.pe eM hst) hbase hfew hline hst hplain) hs
 refine PSD.of P0 fun σ H W ρ E r hl h => ?_
 obtain ⟨ds, eo, h⟩ := h
 obtain ⟨a, vs, oa, sa, ha, hds⟩ := r.ownL i ds eo
 refine ⟨.ref a, sa, .inl ⟨rfl, _, SqL.of ha⟩, W, ρ, _, r, h, fun v H' d e1 hd' q => ?_⟩
 obtain ⟨z, q⟩ := q
 have ha' := e1 _ _ ha
 have r' := r.same e1
 have hds' := hds.same e1
 refine ⟨a, vs, v, rfl, rfl, ha', by rw [hds'.len]; exact z, ?_⟩
 obtain ⟨r2, f2⟩ := r'.mut (vs' := vs ++ [v]) eo oa sa ha' (hds'.append (af.one hd'))
 exact ⟨W, _, (Fwd.same e1).trans f2, r2, q⟩
theorem Rel.freeze {X : Cx} {W : Own} {H : Hp} {σ : St} {ρ : Ro} {i : Nat} {ds : List D} (r : Rel X W H σ ρ) (e : ρ[i]? = some (some (.own ds))) : Rel X (W.drop i) H σ (ρ.set i (some (.val (.lst true ds)))) := by
 obtain ⟨a, vs, oa, sa, ha, hds⟩ := r.ownL i ds e
 have il : i < σ.length := (List.getElem?_eq_some_iff.mp sa).1
 have hl' : i < ρ.length := (List.getElem?_eq_some_iff.mp e).1
 have nb : ¬ (W.drop i).bad true a := fun z => by
  rcases z with z | ⟨j, z⟩ | ⟨_, z⟩
  rotate_right
  ·exact (r.kn i a oa).2.1.2 z
  ·exact (r.kn i a oa).2.1.1 z
  ·have z' : (if j = i then none else W.O j) = some a := z
   by_cases ej : j = i
   ·rw [if_pos ej] at z'; cases z'
   ·rw [if_neg ej] at z'; exact ej (r.inj j i a z' oa)
 have hd : Den X.K (W.drop i).bad H (.lst true ds) (.ref a) := Den.lst nb (.new ha (r.kn i a oa).1) (hds.fewer fun _ _ => Own.drop_bad)
 refine ⟨fun j x h => ?_, fun j x h => ?_, fun j k b h1 h2 => ?_, fun j b h1 => ?_, fun j b h1 => ?_, r.bt, r.st, r.ent, r.tab⟩
 ·by_cases hj : j = i
  ·subst hj
   rw [List.getElem?_set_self hl'] at h
   cases h
   exact ⟨.ref a, sa, hd⟩
  ·rw [List.getElem?_set_ne (Ne.symm hj)] at h
   obtain ⟨w, h1, h2⟩ := r.val j x h
   exact ⟨w, h1, h2.fewer fun _ _ => Own.drop_bad⟩
 ·by_cases hj : j = i
  ·subst hj
   rw [List.getElem?_set_self hl'] at h; cases h
  ·rw [List.getElem?_set_ne (Ne.symm hj)] at h
   obtain ⟨b, ws, h1, h2, h3, h4⟩ := r.own j x h
   exact ⟨b, ws, by show (if j = i then none else W.O j) = _; rw [if_neg hj]; exact h1, h2, h3, h4.fewer (fun _ _ => Own.drop_bad) (Own.drop_sub il)⟩
 ·have h1' : (if j = i then none else W.O j) = some b := h1
  have h2' : (if k = i then none else W.O k) = some b := h2
  by_cases e1 : j = i
  ·rw [if_pos e1] at h1'; cases h1'
  ·by_cases e2 : k = i
   ·rw [if_pos e2] at h2'; cases h2'
   ·rw [if_neg e1] at h1'
    rw [if_neg e2] at h2'
    exact r.inj j k b h1' h2'
 ·have h1' : (if j = i then none else W.O j) = some b := h1
  by_cases e1 : j = i
  ·rw [if_pos e1] at h1'; cases h1'
  ·rw [if_neg e1] at h1'
   exact r.kn j b h1'
 ·have h1' : (if j = i then none else W.O j) = some b := h1
  by_cases e1 : j = i
  ·rw [if_pos e1] at h1'; cases h1'
  ·rw [if_neg e1] at h1'
   exact r.ke j b h1'
def kN (i : Nat) (t : DS) : DS := fun E ρ => ∃ ds, ρ[i]? = some (some (.own ds)) /\ t E (ρ.set i (some (.val (.lst true ds))))
theorem cF {sts : List Stmt} {t : DS} (i : Nat) (h : bR X sts t) : bR X sts (kN i t) := by
 intro pins s σ H W ρ E I r hq
 obtain ⟨ds, e, hq⟩ := hq
 exact thn (h pins s σ H (W.drop i) _ E I (r.freeze e) hq) fun _ _ z => z.up (Fwd.drop W H i)
end
def cD (env : Env) (ns : List Str) : List (Str × Addr) := ns.filterMap fun n => (env.cells.lookup n).map fun c => (n, c)
theorem ib {env : Env} : ∀ {ns : List Str} {x : Str} {c : Addr}, (cD env ns).lookup x = some c -> env.cells.lookup x = some c
 | [], _, _, h => by cases h
 | n :: r, x, c, h => by
  unfold cD at h
  rw [List.filterMap_cons] at h
  cases e : env.cells.lookup n with
  | none =>
   rw [e] at h
   exact ib (ns := r) h
  | some c' =>
   rw [e] at h
   have h' : List.lookup x ((n, c') :: cD env r) = some c := h
   rw [List.lookup_cons] at h'
   cases q : x == n with
   | true =>
    rw [q] at h'
    have ex : x = n := by simpa using q
    subst ex
    rw [e]
    exact h'
   | false =>
    rw [q] at h'
    exact ib (ns := r) h'
theorem jE {env : Env} : ∀ {ns : List Str} {x : Str} {c : Addr}, x ∈ ns -> env.cells.lookup x = some c -> (cD env ns).lookup x = some c
 | [], _, _, h, _ => by cases h
 | n :: r, x, c, h, e => by
  unfold cD
  rw [List.filterMap_cons]
  by_cases ex : x = n
  ·subst ex
   rw [e]
   show List.lookup x ((x, c) :: _) = some c
   simp [List.lookup_cons]
  ·have h' : x ∈ r := by
    rcases List.mem_cons.mp h with z | z
    ·exact absurd z ex
    ·exact z
   have ih := jE (ns := r) h' e
   cases q : env.cells.lookup n with
   | none => exact ih
   | some c' =>
    show List.lookup x ((n, c') :: cD env r) = some c
    rw [List.lookup_cons]
    have : (x == n) = false := by simpa using ex
    rw [this]
    exact ih
structure CSc (osc sc : Scope) (xs ns : List Str) : Prop where
 kind : sc.kind = .function
 nocell : ∀ y ∈ sc.names, y.2 ≠ .cell
 names : ∀ y ∈ sc.names, y.2 = .local -> sc.names.lookup y.1 = some .local
 tgt : ∀ x ∈ xs, sc.names.lookup x = some .local
 free : ∀ y ∈ sc.names, y.2 = .free -> y.1 ∈ ns /\ osc.names.lookup y.1 = some .cell
 cells : ∀ n ∈ ns, sc.names.lookup n = some .free /\ osc.names.lookup n = some .cell
 nd : (xs ++ ns).Nodup
def aQ (X : Cx) (sc : Scope) (ns xs : List Str) (C : Addr) (s₂ : Shared) (H₂ : Hp) (fp : List Addr) (XE : Value -> Shared -> Prop) : Cx :=
 { X with N := xs ++ ns, s₀ := s₂, H₀ := H₂, env := compEnvC sc (cD X.env ns) C X.env, outer := X.stack, stack := X.stack, ex := fp, fn := fun _ => false, pn := [], xe := XE }
theorem gX {env : Env} (hk : env.scope.kind = .function) : ∀ {names : List (Str × NameKind)} {n : Str}, names.lookup n = some .free -> env.kindOf n = some .cell →
  (names.map fun (n, k) => if (k == NameKind.free && env.scope.kind == .function && env.kindOf n == some .cell) then (n, NameKind.cell) else (n, k)).lookup n = some .cell
 | [], _, h, _ => by simp at h
 | (m, k) :: r, n, h, hc => by
  have ih := @gX env hk r n
  show List.lookup n ((if (k == NameKind.free && env.scope.kind == .function && env.kindOf m == some .cell) = true then (m, NameKind.cell) else (m, k)) :: _) = _
  cases hx : n == m with
  | true =>
   simp only [List.lookup_cons, hx] at h
   cases h
   have e : n = m := by simpa using hx
   subst e
   rw [hk, hc]
   simp [List.lookup_cons]
  | false =>
   simp only [List.lookup_cons, hx] at h
   by_cases hcc : (k == NameKind.free && env.scope.kind == .function && env.kindOf m == some .cell) = true
   ·rw [if_pos hcc]; simp only [List.lookup_cons, hx]; exact ih h hc
   ·rw [if_neg hcc]; simp only [List.lookup_cons, hx]; exact ih h hc
theorem gD {env : Env} : ∀ {names : List (Str × NameKind)} {n : Str} {k : NameKind},
  (names.map fun (n, k) => if (k == NameKind.free && env.scope.kind == .function && env.kindOf n == some .cell) then (n, NameKind.cell) else (n, k)).lookup n = some k -> (k = .cell ∨ k = .free) →
  (∃ y ∈ names, y.1 = n /\ y.2 = .free) ∨ ∃ y ∈ names, y.1 = n /\ y.2 = .cell
 | [], _, _, h, _ => by simp at h
 | (m, j) :: r, n, k, h, hk => by
  have h' : List.lookup n ((if (j == NameKind.free && env.scope.kind == .function && env.kindOf m == some .cell) = true then (m, NameKind.cell) else (m, j)) :: (r.map fun (n, k) => if (k == NameKind.free && env.scope.kind == .function && env.kindOf n == some .cell) then (n, NameKind.cell) else (n, k))) = some k := h
  have up : ((∃ y ∈ r, y.1 = n /\ y.2 = .free) ∨ ∃ y ∈ r, y.1 = n /\ y.2 = .cell) -> ((∃ y ∈ (m, j) :: r, y.1 = n /\ y.2 = .free) ∨ ∃ y ∈ (m, j) :: r, y.1 = n /\ y.2 = .cell) := fun z => by
   rcases z with ⟨y, hy, q⟩ | ⟨y, hy, q⟩
   ·exact .inl ⟨y, List.mem_cons_of_mem _ hy, q⟩
   ·exact .inr ⟨y, List.mem_cons_of_mem _ hy, q⟩
  cases hx : n == m with
  | true =>
   have e : n = m := by simpa using hx
   subst e
   by_cases hcc : (j == NameKind.free && env.scope.kind == .function && env.kindOf n == some .cell) = true
   ·have : j = .free := by
     simp only [Bool.and_eq_true] at hcc
     exact beq_iff_eq.mp hcc.1.1
    exact .inl ⟨(n, j), List.mem_cons_self, rfl, this⟩
   ·rw [if_neg hcc] at h'
    simp only [List.lookup_cons, hx] at h'
    cases h'
    rcases hk with hk | hk
    ·exact .inr ⟨(n, j), List.mem_cons_self, rfl, hk⟩
    ·exact .inl ⟨(n, j), List.mem_cons_self, rfl, hk⟩
  | false =>
   by_cases hcc : (j == NameKind.free && env.scope.kind == .function && env.kindOf m == some .cell) = true
   ·rw [if_pos hcc] at h'; simp only [List.lookup_cons, hx] at h'
    exact up (gD h' hk)
   ·rw [if_neg hcc] at h'; simp only [List.lookup_cons, hx] at h'
    exact up (gD h' hk)
end PD
namespace PD
open PySem PySem.Spec PyProof.Rows L2
def bf (ρ : Ro) (j : Nat) : Option Sl := match ρ[j]? with
 | some (some (.val d)) => some (.val d)
 | _ => none
def gA (σ : St) (j : Nat) : Option V := match σ[j]? with
 | some (some v) => some v
 | _ => none
section
variable {X : Cx} {pins : List (Addr × Obj)} {σ : St} {H : Hp} {s : Shared} {sc : Scope} {ns : List Str} {js : List Nat} {xs : List Str} {fp : List Addr}
theorem Inv.comp {XE : Value -> Shared -> Prop} {s₁ : Shared} {H₁ : Hp} {C : Addr} (I : Inv X pins σ H s) (S : CSc X.env.scope sc xs ns) (hj : js.length = ns.length /\ ∀ (i : Nat) (j : Nat) (n : Str), js[i]? = some j -> ns[i]? = some n -> X.N[j]? = some n) (hfp : ∀ b ∈ fp, cZ X pins H b) (hfo : ∀ b ∈ fp, ∃ o, s.heap.get? b = some o) (hC : s.heap.objs.size <= C)
  (hos : s₁.os = s.os) (hg : AllBare s₁.gens) (hk : ∀ b o, s.heap.get? b = some o -> s₁.heap.get? b = some o) (hns : s₁.heap.Ns C fun _ => none) (hCn : H₁ C = none) (hs : ai H H₁) (hnew : ∀ b o, s.heap.get? b = some o -> H b = none -> H₁ b = none) (hok : HOk X.prog X.w H₁ s₁.heap) :
  Inv (aQ X sc ns xs C s H fp XE) [] (List.replicate xs.length none ++ js.map (gA σ)) H₁ s₁ := by
 have kd : X.env.scope.kind = .function := I.ok.kind
 have cab : ∀ y c, (cD X.env ns).lookup y = some c -> X.env.cells.lookup y = some c := fun y c e => ib e
 have cold : ∀ y c, (cD X.env ns).lookup y = some c -> ∃ v, s.heap.IsCell c v := fun y c e => I.cell y c (cab y c e)
 refine ⟨⟨I.ok.mod, S.kind, I.ok.glob, I.ok.blt, hC, fun y z c h1 h2 => I.ok.inj y z c (cab y c h1) (cab z c h2), fun y hy => ?_, fun y c h _ => (by cases h), I.ok.hd, I.ok.frames, .inl rfl, fun b hb => ?_, I.bs, Nat.le_trans I.ok.bsz I.sz, fun b o e hb => ?_, fun b hb z => ?_, I.stack, I.stkFree⟩,
  hos, hg, ⟨fun b o e n _ _ => hk b o e, fun b o e n _ _ => ⟨o.slots, hk b o e⟩, fun b o e n _ => hnew b o e n, fun b o e _ => ⟨o, hk b o e⟩, fun b xs e => hs b _ e, fun b o u e => hs b _ e, fun b ps e => hs.tb b ps e⟩, ⟨_, hns, fun i y v h1 h2 h3 => ?_⟩, fun y c e => ?_, hCn, fun y c e => ?_, fun p hp => absurd (show p ∈ ([] : List (Addr × Obj)) from hp) (by simp), hok, ?_⟩
 ·-- every cell of the block is one of the body's
  have hy' : ∃ k, ((relabel sc X.env).names.lookup y = some k) /\ (k = .cell ∨ k = .free) := by
   rcases hy with hy | hy
   ·exact ⟨_, hy, .inl rfl⟩
   ·exact ⟨_, hy, .inr rfl⟩
  obtain ⟨k, h1, h2⟩ := hy'
  rcases gD (env := X.env) h1 h2 with ⟨z, hz, e1, e2⟩ | ⟨z, hz, e1, e2⟩
  ·obtain ⟨m1, m2⟩ := S.free z hz e2
   subst e1
   obtain ⟨c, hc⟩ := I.ok.has z.1 (.inl m2)
   exact ⟨c, jE m1 hc⟩
  ·exact absurd e2 (S.nocell z hz)
 ·refine ⟨fun z => ?_, fun y c e z => ?_⟩
  ·have z' : b = C := z
   obtain ⟨o, ho⟩ := hfo b hb
   have hlt := Heap.lt_size ho
   rw [z'] at hlt
   exact absurd (Nat.lt_of_lt_of_le hlt hC) (Nat.lt_irrefl _)
  ·exact (hfp b hb).2.2.2.2.1 y c (cab y c e) z
 ·obtain ⟨f0, f1, f2, f3, f4, f5⟩ := hfp b hb
  rcases f3 with f3 | f3
  ·exact I.ok.noex b o e f3
  ·exact absurd (Nat.lt_of_lt_of_le (Heap.lt_size (I.ok.bs b o e).1) f3) (Nat.lt_irrefl _)
 ·obtain ⟨f0, f1, f2, f3, f4, f5⟩ := hfp b hb
  rcases List.mem_cons.mp (I.stkSub b z) with e | e
  ·exact f1 e
  ·exact f2 e
 ·by_cases hi : i < xs.length
  ·rw [List.getElem?_append_left (by simpa using hi), List.getElem?_replicate, if_pos hi] at h2
   cases h2
  ·have h1' : ns[i - xs.length]? = some y := by
    have h1 : (xs ++ ns)[i]? = some y := h1
    rw [List.getElem?_append_right (by omega)] at h1
    exact h1
   have h2' : (js.map (gA σ))[i - xs.length]? = some (some v) := by
    rw [List.getElem?_append_right (by simpa using hi)] at h2
    simpa using h2
   generalize i - xs.length = i at h1' h2'
   rw [List.getElem?_map] at h2'
   cases e : js[i]? with
   | none => rw [e] at h2'; cases h2'
   | some j =>
    rw [e] at h2'
    have h4 : gA σ j = some v := Option.some.inj h2'
    have h5 : σ[j]? = some (some v) := by
     unfold gA at h4
     split at h4
     ·rename_i u q
      cases h4
      exact q
     ·cases h4
    have hN := hj.2 i j y e h1'
    have mem : y ∈ ns := List.mem_of_getElem? h1'
    obtain ⟨c1, c2⟩ := S.cells y mem
    obtain ⟨m, hm, hl⟩ := I.loc
    obtain ⟨u, ru, lk⟩ := hl j y v hN h5 (.inr (.inl c2))
    refine ⟨u, ru, ?_⟩
    rcases lk with ⟨k1, _⟩ | ⟨_, c, e1, o, ho, hd⟩
    ·have k1' : X.env.scope.names.lookup y = some .local := k1
     rw [c2] at k1'; cases k1'
    ·exact .inr ⟨.inl (gX kd c1 c2), c, jE mem e1, o, hk c o ho, hd⟩
 ·obtain ⟨v, z⟩ := cold y c e
  obtain ⟨o, ho, hd⟩ := z
  exact ⟨v, o, hk c o ho, hd⟩
 ·obtain ⟨v, o, ho, hd⟩ := cold y c e
  exact hnew c o ho (I.freeC y c (cab y c e))
 ·show (List.replicate xs.length none ++ js.map (gA σ)).length = (xs ++ ns).length
  simp [hj.1]
def TsD (X : Cx) (ifs : List Expr) (t : DT) : Prop :=
 ∀ (pins : List (Addr × Obj)) (s : Shared) (σ : St) (H : Hp) (W : Own) (ρ : Ro) (Q : Bool -> Prop), Inv X pins σ H s -> Rel X W H σ ρ -> t ρ Q →
  wpAny (model X.prog X.w) X.A (forIn ifs true fun c r => if r = true then do let ok ← isTrue c X.env (eval c X.env); pure (ForInStep.yield ok) else pure (ForInStep.yield r)) (DTP X pins σ H Q) X.xe s
def mP : DT := fun _ Q => Q true
theorem cc {X : Cx} : TsD X [] mP := fun _ s σ H W ρ Q I r h => wpAny_tests_nil ⟨H, I, ai.refl H, h⟩
def jC (n : Nat) (cap ρ : Ro) : Prop := ∃ r0 : Ro, r0.length = n /\ ρ = r0 ++ cap
theorem qZ {prog : Program} {w : World} {A : Around} {s : Shared} {R : Result -> Shared -> Prop} {elt target iter : Expr} {ifs : List Expr} {scope : Scope} {pos : Pos} {it acc : Value} {env : Env} (I : Nat -> Shared -> Prop)
  (turn : ∀ n s, I n s -> wpAny (model prog w) A (pyNext it) (fun r s₁ => match r with
   | none => R (.ok .next) s₁
   | some v => wpAny (model prog w) A (letOwnedTupleGo target it v) (fun _ z₁ => wpAny (model prog w) A (assign target env v) (fun _ s₂ =>
     wpAny (model prog w) A (forIn ifs true fun c r => if r = true then do let ok ← isTrue c env (eval c env); pure (ForInStep.yield ok) else pure (ForInStep.yield r)) (fun ok s₃ => if ok = true then wpAny (model prog w) A (eval elt env) (fun x s₄ =>
       wpAny (model prog w) A (call (.builtin "list.append") [acc, x]) (fun _ s₅ => ∃ m, m < n /\ I m s₅) (notedBy (model prog w) A env fun e z => R (.error e) z) s₄) (notedBy (model prog w) A env fun e z => R (.error e) z) s₃
      else ∃ m, m < n /\ I m s₃) (notedBy (model prog w) A env fun e z => R (.error e) z) s₂) (notedBy (model prog w) A env fun e z => R (.error e) z) z₁) (notedBy (model prog w) A env fun e z => R (.error e) z) s₁) (notedBy (model prog w) A env fun e z => R (.error e) z) s)
  (n : Nat) (h : I n s) : codeAny (model prog w) A (.compLoop (.ListComp elt [⟨target, iter, ifs, 0⟩] scope pos) 0 it acc env) R s := by
 refine codeAny_loop rfl I (fun m z hI => ?_) n h
 show wpAny _ A ((compTurn (.ListComp elt [⟨target, iter, ifs, 0⟩] scope pos) 0 it acc env).onRaise (fun e => do noteFrame e env; theTreesLotGoes e)) _ _ z
 refine wpAny_noted ?_
 rw [compTurn_list]
 refine wpAny_bind (wpAny_standAt (wpAny_bind (wpAny_mono (turn m z hI) (fun r z1 g1 => ?_) fun _ _ q => q)))
 cases r with
 | none => exact wpAny_pure g1
 | some v =>
  refine wpAny_bind (wpAny_mono g1 (fun _ z2 g2 => ?_) fun _ _ q => q)
  refine wpAny_bind (wpAny_mono g2 (fun _ z3 g3 => wpAny_bind (wpAny_mono g3 (fun ok z4 g4 => ?_) fun _ _ q => q)) fun _ _ q => q)
  cases ok with
  | false => exact wpAny_pure ⟨rfl, g4⟩
  | true => exact wpAny_bind (wpAny_bind (wpAny_mono g4 (fun y z5 g5 => wpAny_bind (wpAny_mono g5 (fun _ z6 g6 => wpAny_pure (wpAny_pure ⟨rfl, g6⟩)) fun _ _ q => q)) fun _ _ q => q))
theorem Rel.mutB {X : Cx} {W : Own} {H : Hp} {σ : St} {ρ : Ro} {a : Addr} {vs vs' : List V} (r : Rel X W H σ ρ) (hB : W.B a) (ha : H a = some (.lst vs)) (h0 : X.H₀ a = none) :
  Rel X W (L2.upd H a (.lst vs')) σ ρ /\ ∀ ds us, af X.K W.bad H ds us -> af X.K W.bad (L2.upd H a (.lst vs')) ds us := by
 have noT : ∀ b ws, SqT X.K H b ws -> SqT X.K (L2.upd H a (.lst vs')) b ws := fun b ws q => by
  rcases q with (q | ⟨o, q⟩) | q
  ·exact .inl (.inl (by rw [ar (fy q ha (by intro z; cases z))]; exact q))
  ·exact .inl (.inr ⟨o, by rw [ar (fy q ha (by intro z; cases z))]; exact q⟩)
  ·exact .inr q
 have noL : ∀ t b ws, ¬ W.bad t b -> SqG X.K H t b ws -> ¬ W.bad t b /\ SqG X.K (L2.upd H a (.lst vs')) t b ws := fun t b ws n q => by
  have hne : b ≠ a := fun e => n (.inl (e ▸ hB))
  refine ⟨n, ?_, fun z => ⟨by rw [ar hne]; exact (q.2 z).1, (q.2 z).2⟩⟩
  rcases q.1 with (q | ⟨o, q⟩) | q
  ·exact .inl (.inl (by rw [ar hne]; exact q))
  ·exact .inl (.inr ⟨o, by rw [ar hne]; exact q⟩)
  ·exact .inr q
 have noX : ∀ b φ, H b = some (.ext φ) -> L2.upd H a (.lst vs') b = some (.ext φ) := fun b φ q => by rw [ar (fy q ha (by intro z; cases z))]; exact q
 have tr : ∀ b o, H b = some o -> ∃ o', L2.upd H a (.lst vs') b = some o' := fun b o q => by
  by_cases hba : b = a
  ·subst hba; exact ⟨_, aA⟩
  ·exact ⟨o, by rw [ar hba]; exact q⟩
 refine ⟨⟨fun j d h => ?_, fun j y h => ?_, r.inj, fun j b hb => ?_, r.ke, fun b hb => let ⟨o, q⟩ := r.bt b hb; tr b o q, fun b hb => let ⟨o, q⟩ := r.st b hb; tr b o q, r.ent.ins h0 ha True.intro True.intro, r.tab.upd True.intro (.inr ⟨_, ha, (fun _ z => by cases z), True.intro⟩)⟩, af.map noT noL noX⟩
 ·obtain ⟨v, h1, h2⟩ := r.val j d h
  exact ⟨v, h1, Den.map noT noL noX d v h2⟩
 ·obtain ⟨b, o, h1, h2, h3, h4⟩ := r.own j y h
  exact ⟨b, o, h1, h2, by rw [ar (fun e => (r.kn j b h1).2.1.1 (by rw [e]; exact hB))]; exact h3, h4.map (af.map noT noL noX) fun k c q => ⟨q, fun us z => by rw [ar (fun e => (r.kn _ c q).2.1.1 (by rw [e]; exact hB))]; exact z⟩⟩
 ·obtain ⟨k1, k2, o, k3, k4⟩ := r.kn j b hb
  exact ⟨k1, k2, o, by rw [ar (fun e => k2.1 (by rw [e]; exact hB))]; exact k3, k4⟩
def du (X : Cx) (sc : Scope) (ns : List Str) (RR : Value -> Addr -> Result -> Shared -> Prop) (D C : Addr) : Value -> Shared -> Prop := notedBy (model X.prog X.w) X.A (compEnvC sc (cD X.env ns) C X.env) fun e s'' => RR (.ref D) C (.error e) s''
theorem di.no {X : Cx} : di X fun _ => False := fun _ _ _ _ _ _ _ _ _ _ h => by
 obtain ⟨_, _, _, _, _, _, _, _, _, _, _, _, _, z⟩ := h
 exact z.elim
theorem ic {elt iter tg : Expr} {ifs : List Expr} {pos : Pos} {g : DG} {te : DE} {tc : DT} {W : Own} {ρ : Ro} {J : It} {it : Addr} {tn : Nat -> Heap -> Prop} {ds : List D} {E : Value -> Shared -> Prop} {RR : Value -> Addr -> Result -> Shared -> Prop} (hc : X.calm = true) (S : CSc X.env.scope sc xs ns)
  (hj : js.length = ns.length /\ ∀ (i : Nat) (j : Nat) (n : Str), js[i]? = some j -> ns[i]? = some n -> X.N[j]? = some n)
  {Ed : Value -> Prop} (he : ∀ (C : Addr) (s₂ : Shared) (H₂ : Hp) (fp : List Addr) (XE : Value -> Shared -> Prop), di (aQ X sc ns xs C s₂ H₂ fp XE) Ed -> PED (aQ X sc ns xs C s₂ H₂ fp XE) elt te) (ht : ∀ (C : Addr) (s₂ : Shared) (H₂ : Hp) (fp : List Addr) (XE : Value -> Shared -> Prop), di (aQ X sc ns xs C s₂ H₂ fp XE) Ed -> TsD (aQ X sc ns xs C s₂ H₂ fp XE) ifs tc)
  (hx : ∀ D C : Addr, di (aQ X sc ns xs C s H fp (du X sc ns RR D C)) Ed) (I : Inv X pins σ H s) (r : Rel X W H σ ρ) (hg : ∀ (C : Addr) (s₂ : Shared) (H₂ : Hp) (fp : List Addr) (XE : Value -> Shared -> Prop), PGD (aQ X sc ns xs C s₂ H₂ fp XE) tg g) (T : Turn X.prog X.w X.K tg J fp it tn) (st : tn 0 s.heap) (hfp : ∀ b ∈ fp, cZ X pins H b) (yd : YD X.K W H J ds) (hz : ds.length <= sizeLine)
  (Pv : Nat -> List D -> Prop) (p0 : Pv 0 []) (step : ∀ j d out ρ1, ds[j]? = some d -> Pv j out -> jC xs.length (js.map (bf ρ)) ρ1 -> g d ρ1 fun ρ2 => jC xs.length (js.map (bf ρ)) ρ2 /\ tc ρ2 fun b => if b = true then te ρ2 (fun e => Pv (j + 1) (out ++ [e])) else Pv (j + 1) out)
  (hRR : ∀ (D C : Addr) (s' : Shared) (H' : Hp) (m' : Str -> Option Value) (out : List PD.D), Inv X pins σ H' s' -> ai H H' -> s'.heap.Ns C m' -> H' C = none -> C ≠ X.env.locals -> X.s₀.heap.objs.size <= C -> (∀ y c, X.env.cells.lookup y = some c -> c ≠ C) -> (∀ p ∈ X.pn ++ pins, p.1 ≠ C) →
   (H D = none /\ X.K.lookup D = none /\ ∃ vs, H' D = some (.lst vs) /\ af X.K (fun t b => W.bad t b ∨ b = D) H' out vs) -> Pv ds.length out -> RR (.ref D) C (.ok .next) s') :
  wpAny (model X.prog X.w) X.A (newList []) (fun acc s₃ => wpAny (model X.prog X.w) X.A (newFunctionEnv sc X.env.globals (cD X.env ns) [] X.env.qual none .none (some X.env)) (fun cenv s₄ =>
   codeAny (model X.prog X.w) X.A (.compStart (.ListComp elt [⟨tg, iter, ifs, 0⟩] sc pos) 0 (.ref it) acc { cenv with scope := relabel sc X.env }) (RR acc cenv.locals) s₄) E s₃) E s := by
 refine wpAny_newObj_type (wpAny_newFunctionEnv S.nocell (by intro y hy; simp at hy) (fun h₁ hns₁ hsb₁ => ?_) S.kind)
 dsimp only at hns₁ hsb₁ ⊢
 generalize hH2 : s.heap.push { cls := .type "list", dict := none, data := .seq ([] : List Value).toArray } = HP at hns₁ hsb₁ ⊢
 have hC : HP.objs.size = s.heap.objs.size + 1 := by rw [<- hH2, Heap.size_push]
 have hDC : s.heap.objs.size ≠ HP.objs.size := by rw [hC]; exact Nat.ne_of_lt (Nat.lt_succ_self _)
 have hCle : s.heap.objs.size <= HP.objs.size := by rw [hC]; exact Nat.le_succ _
 have below : ∀ b, b < s.heap.objs.size -> b ≠ HP.objs.size := fun b hb => by rw [hC]; exact Nat.ne_of_lt (Nat.lt_succ_of_lt hb)
 have old : ∀ b o, s.heap.get? b = some o -> h₁.get? b = some o := fun b o e => hsb₁.extBut b o (below b (Heap.lt_size e)) (Heap.get?_push_of_some _ (hH2 ▸ Heap.get?_push_of_some _ e))
 have hacc : h₁.get? s.heap.objs.size = some { cls := .type "list", data := .seq ([] : List Value).toArray } := hsb₁.extBut _ _ hDC (Heap.get?_push_of_some _ (hH2 ▸ Heap.get?_push_size _ rfl))
 generalize eD : s.heap.objs.size = D at hDC hacc
 generalize eC : HP.objs.size = C at *
 have hDf : H D = none := by rw [<- eD]; exact I.hok.fresh (Nat.le_refl _)
 have hKD : X.K.lookup D = none := by rw [<- eD]; exact Inv.kfresh I
 have hCf : H C = none := I.hok.fresh hCle
 have hfo : ∀ b ∈ fp, ∃ o, s.heap.get? b = some o := fun b hb => let ⟨o, e, _⟩ := T.obj 0 s.heap st b hb; ⟨o, e⟩
 have leD : s.heap.objs.size <= D := Nat.le_of_eq eD
 have okk : HOk X.prog X.w (L2.upd H D (.lst [])) h₁ := I.hok.laid old leD ⟨Nat.zero_le _, [], 0, .nil, hacc⟩
 have upCD : ∀ o, L2.upd H D o C = none := fun o => by rw [ar (Ne.symm hDC)]; exact hCf
 have I1 : Inv (aQ X sc ns xs C s H fp (du X sc ns RR D C)) [] (List.replicate xs.length none ++ js.map (gA σ)) (L2.upd H D (.lst [])) { s with heap := h₁, toks := s.toks + ([] : List (Str × Value)).length } :=
  Inv.comp I S hj hfp hfo hCle rfl I.bare old hns₁ (upCD _) (ai.upd hDf) (fun b o e n => by rw [ar (fun z => absurd (Heap.lt_size e) (by rw [z]; exact Nat.not_lt.mpr leD))]; exact n) okk
 have nl : ∀ {a : Addr} {ws : List V}, SqL X.K H a ws -> a ≠ D := fun {a ws} q z => by
  subst z
  rcases q with (q | ⟨o, q⟩) | ⟨o, its, n, q, _⟩
  ·rw [hDf] at q; cases q
  ·rw [hDf] at q; cases q
  ·rw [hKD] at q; cases q
 let W' : Own := ⟨fun a => W.bad false a ∨ a = D, fun _ => none, W.S⟩
 have bad' : ∀ t a, W'.bad t a ↔ (W.bad t a ∨ a = D) := fun t a => ⟨fun z => by
  rcases z with (z | z) | ⟨_, q⟩ | ⟨z1, z2⟩
  ·exact .inl (Own.bad_up z)
  ·exact .inr z
  ·cases q
  ·exact .inl (.inr (.inr ⟨z1, z2⟩)), fun z => by
  rcases z with z | z
  ·rcases z with z | z | z
   ·exact .inl (.inl (.inl z))
   ·exact .inl (.inl (.inr (.inl z)))
   ·exact .inr (.inr z)
  ·exact .inl (.inr z)⟩
 have hT : ∀ {H' : Hp}, ai H H' -> ∀ a vs, SqT X.K H a vs -> SqT X.K H' a vs := fun sm a vs q => SqT.same sm q
 have hL : ∀ {H' : Hp}, ai H H' -> ∀ t a vs, ¬ W.bad t a -> SqG X.K H t a vs -> ¬ W'.bad t a /\ SqG X.K H' t a vs := fun sm t a vs n q => ⟨fun z => ((bad' t a).mp z).elim n (nl q.1), q.same sm⟩
 have relC : Rel (aQ X sc ns xs C s H fp (du X sc ns RR D C)) W' (L2.upd H D (.lst [])) (List.replicate xs.length none ++ js.map (gA σ)) (List.replicate xs.length none ++ js.map (bf ρ)) := by
  have sm : ai H (L2.upd H D (.lst [])) := ai.upd hDf
  have at_ : ∀ {i : Nat} {z : Sl}, (List.replicate xs.length none ++ js.map (bf ρ))[i]? = some (some z) -> ¬ i < xs.length /\ (js.map (bf ρ))[i - xs.length]? = some (some z) := fun {i z} h => by
   by_cases hi : i < xs.length
   ·rw [List.getElem?_append_left (by simpa using hi), List.getElem?_replicate, if_pos hi] at h
    cases h
   ·rw [List.getElem?_append_right (by simpa using hi)] at h
    exact ⟨hi, by simpa using h⟩
  refine ⟨fun i d h => ?_, fun i x h => ?_, fun i j a h _ => (by cases h), fun i a h => (by cases h), fun i a h => (by cases h), fun a h => ?_, fun a h => ?_, sm, r.tab.same sm⟩
  ·obtain ⟨hi, h'⟩ := at_ h
   rw [List.getElem?_map] at h'
   cases e : js[i - xs.length]? with
   | none => rw [e] at h'; cases h'
   | some j =>
    rw [e] at h'
    have h4 : bf ρ j = some (.val d) := Option.some.inj h'
    have h5 : ρ[j]? = some (some (.val d)) := by
     unfold bf at h4
     split at h4
     ·rename_i u q
      cases h4
      exact q
     ·cases h4
    obtain ⟨v, e1, e2⟩ := r.val j d h5
    refine ⟨v, ?_, Den.map (hT sm) (hL sm) (fun a _ q => sm a _ q) d v e2⟩
    rw [List.getElem?_append_right (by simpa using hi)]
    show (js.map (gA σ))[i - (List.replicate xs.length (none : Option V)).length]? = some (some v)
    rw [List.length_replicate, List.getElem?_map, e]
    show some (gA σ j) = some (some v)
    unfold gA
    rw [e1]
  ·obtain ⟨hi, h'⟩ := at_ h
   rw [List.getElem?_map] at h'
   cases e : js[i - xs.length]? with
   | none => rw [e] at h'; cases h'
   | some j =>
    rw [e] at h'
    have h4 : bf ρ j = some (.ob x) := Option.some.inj h'
    unfold bf at h4
    split at h4 <;> cases h4
  ·rcases h with h | h
   ·obtain ⟨o, q⟩ := r.tracked false a h
    exact sm.ex q
   ·rw [h]; exact ⟨_, aA⟩
  ·obtain ⟨o, q⟩ := r.st a h
   exact sm.ex q
 have statC : ∀ {H' : Hp}, (∀ b ∈ fp, H' b = none) -> ∀ b ∈ fp, cZ (aQ X sc ns xs C s H fp (du X sc ns RR D C)) [] H' b := fun hn b hb => by
  obtain ⟨f0, f1, f2, f3, f4, f5⟩ := hfp b hb
  obtain ⟨o, ho⟩ := hfo b hb
  refine ⟨hn b hb, fun z => ?_, fun z => ?_, .inl hb, fun y c e z => f4 y c (ib e) z, fun p hp => absurd (show p ∈ ([] : List (Addr × Obj)) from hp) (by simp)⟩
  ·have z' : b = C := z
   have hlt := Heap.lt_size ho
   rw [z'] at hlt
   exact absurd (Nat.lt_of_lt_of_le hlt hCle) (Nat.lt_irrefl _)
  ·rcases List.mem_cons.mp (I.stkSub b z) with e | e
   ·exact f1 e
   ·exact f2 e
 have hch : ∀ b ∈ fp, (b ∈ X.ex ∨ X.s₀.heap.objs.size <= b) /\ b ≠ X.env.locals /\ (∀ x c, X.env.cells.lookup x = some c -> c ≠ b) /\ ∀ p ∈ X.pn ++ pins, p.1 ≠ b := fun b hb => by
  obtain ⟨f0, f1, f2, f3, f4, f5⟩ := hfp b hb
  exact ⟨f3, f1, f4, f5⟩
 have loop : ∀ s₃ : Shared, s₃ = { s with heap := h₁, toks := s.toks + ([] : List (Str × Value)).length } →
   codeAny (model X.prog X.w) X.A (.compLoop (.ListComp elt [⟨tg, iter, ifs, 0⟩] sc pos) 0 (.ref it) (.ref D) (compEnvC sc (cD X.env ns) C X.env)) (RR (.ref D) C) s₃ := by
  rintro s₃ rfl
  refine qZ (fun n s' => ∃ (i : Nat) (W2 : Own) (σ2 : St) (ρ2 : Ro) (H' : Hp) (out : List PD.D) (vs : List V), n = ds.length - i /\ i <= ds.length /\ Inv (aQ X sc ns xs C s H fp (du X sc ns RR D C)) [] σ2 H' s' /\ tn i s'.heap /\ (∀ b ∈ fp, H' b = none) ∧
   H' D = some (.lst vs) /\ (W2.B = W'.B /\ W2.S = W'.S) /\ af X.K W2.bad H' out vs /\ ai H H' /\ Rel (aQ X sc ns xs C s H fp (du X sc ns RR D C)) W2 H' σ2 ρ2 /\ jC xs.length (js.map (bf ρ)) ρ2 /\ Pv i out /\ out.length <= i) ?_ ds.length
   ⟨0, W', _, _, _, [], [], by simp, Nat.zero_le _, I1, T.keep 0 s.heap h₁ st (fun b hb o e => old b o e), fun b hb => ?_, aA, ⟨rfl, rfl⟩, af.nil, ai.upd hDf, relC, ⟨_, by simp, rfl⟩, p0, Nat.le_refl _⟩
  rotate_left
  ·obtain ⟨o, ho⟩ := hfo b hb
   rw [ar (fun z => absurd (Heap.lt_size ho) (by rw [z]; exact Nat.not_lt.mpr leD))]
   exact (hfp b hb).1
  rintro n s3 ⟨i, W2, σ2, ρ2, H3, out, vs, en, hle, I3, st3, fr3, hD3, hW2, hds3, sm3, rl3, cap3, p3, ol⟩
  have nb2 : ∀ {W3 : Own} {H' : Hp} {σ3 : St} {ρ3 : Ro}, (W3.B = W'.B /\ W3.S = W'.S) -> Rel (aQ X sc ns xs C s H fp (du X sc ns RR D C)) W3 H' σ3 ρ3 -> ai H H' -> ∀ t a vs, ¬ W.bad t a -> SqG X.K H t a vs -> ¬ W3.bad t a /\ SqG X.K H' t a vs := fun {W3 H' σ3 ρ3} hw rl sm t a vs n q => by
   refine ⟨fun z => ?_, q.same sm⟩
   rcases z with z | ⟨k, z⟩ | ⟨z1, z2⟩
   ·rw [hw.1] at z
    exact (hL sm t a vs n q).1 (.inl z)
   ·have h0 : H a = none := rl.ke k a z
    rcases q.1 with (q1 | ⟨o, q1⟩) | ⟨o, its, m, q1, _⟩
    ·rw [h0] at q1; cases q1
    ·rw [h0] at q1; cases q1
    ·have kk : X.K.lookup a = none := (rl.kn k a z).1
     rw [kk] at q1; cases q1
   ·rw [hw.2] at z2
    exact (hL sm t a vs n q).1 (.inr (.inr ⟨z1, z2⟩))
  obtain ⟨yg, yy, ys⟩ := yd W2.bad H3 (hT sm3) (nb2 hW2 rl3 sm3) (fun a _ q => sm3 a _ q) i
  by_cases hlt : i < ds.length
  ·refine thn (T.item (aQ X sc ns xs C s H fp (du X sc ns RR D C)) rfl rfl rfl hc i [] s3 _ H3 _ I3 (statC fr3) st3 (yg hlt)) fun rr s4 ⟨u, hr, h4⟩ => ?_
   subst hr
   refine thn h4 fun _ s5 ⟨x5, H5, I5, r5, y5, st5, fr5⟩ => ?_
   obtain ⟨e5, d, hd, hden⟩ := yy x5 H5 y5 hlt
   have I5' := I5.pinned (statC fr5) (T.obj _ _ st5)
   have rl5 := rl3.same e5
   have sm5 : ai H H5 := sm3.trans e5
   refine wpAny_mono (hg C s H fp _ _ s5 σ2 H5 W2 ρ2 d x5 u _ I5' rl5 r5 hden (step i d out ρ2 hd p3 cap3)) (fun _ s6 ⟨W6, σ6, H6, ρ6, I6, f6, rl6, cap6, q6⟩ => ?_) (fun _ _ z => z)
   have hW6 : W6.B = W'.B /\ W6.S = W'.S := ⟨f6.B.trans hW2.1, f6.S.trans hW2.2⟩
   have sm6 : ai H H6 := ⟨fun b o e n => f6.kp b o (fun k z => by have h0 : H b = none := rl5.ke k b z; rw [e] at h0; cases h0) (sm5.kp b o e n) n, (fun b ps e => by obtain ⟨m1, e1⟩ := sm5.tb b ps e; obtain ⟨m2, e2⟩ := f6.tb b _ e1; exact ⟨m1 ++ m2, by rw [e2, Array.append_assoc]⟩), fun h => f6.ok (sm5.ok h)⟩
   have BD : W'.B D := .inr rfl
   have hD6 : H6 D = some (.lst vs) := f6.keep D _ (fun k z => (rl5.kn k D z).2.1.1 (by rw [hW2.1]; exact BD)) (e5 _ _ hD3)
   have hds6 := af.fwd rl5 rl6 f6 (hds3.same e5)
   have keepT : ∀ {σ7 : St} {H7 : Hp} {s7 : Shared}, Inv (aQ X sc ns xs C s H fp (du X sc ns RR D C)) ([] ++ ky fp s5.heap) σ7 H7 s7 -> tn (i + 1) s7.heap /\ ∀ b ∈ fp, H7 b = none := fun {σ7 H7 s7} I7 => by
    refine ⟨T.keep _ _ _ st5 fun b hb o e => (I7.pin (b, o) (List.mem_append_right _ (List.mem_append_right _ (fx hb e)))).1, fun b hb => ?_⟩
    obtain ⟨o, e, _⟩ := T.obj _ _ st5 b hb
    exact (I7.pin (b, o) (List.mem_append_right _ (List.mem_append_right _ (fx hb e)))).2.1
   refine wpAny_mono (ht C s H fp _ (hx D C) _ s6 _ H6 W6 _ _ I6 rl6 q6) (fun b s7 ⟨H7, I7, e7, q7⟩ => ?_) (fun _ _ z => z)
   cases b with
   | false =>
    rw [if_neg Bool.false_ne_true] at q7
    rw [if_neg Bool.false_ne_true]
    obtain ⟨t7, f7⟩ := keepT I7
    exact ⟨ds.length - (i + 1), by omega, i + 1, W6, σ6, ρ6, H7, out, vs, rfl, hlt, I7.unpinned, t7, f7, e7 _ _ hD6, hW6, hds6.same e7, sm6.trans e7, rl6.same e7, cap6, q7, by omega⟩
   | true =>
    rw [if_pos rfl] at q7
    rw [if_pos rfl]
    refine wpAny_mono (he C s H fp _ (hx D C) _ s7 _ H7 W6 _ _ I7 (rl6.same e7) q7) (fun u8 s8 ⟨v8, H8, e8, I8, r8, sm8, hd8, q8⟩ => ?_) (fun _ _ z => z)
    have sm78 := e7.trans sm8
    have hD8 := sm78 _ _ hD6
    have hds8 := hds6.same sm78
    have rl8 := (rl6.same e7).same sm8
    have BD6 : W6.B D := by rw [hW6.1]; exact BD
    refine wpAny_mono (iW (X := aQ X sc ns xs C s H fp (du X sc ns RR D C)) _ s8 _ H8 (.ref D) [v8] (.ref D) [u8] (fun _ H' => H' = L2.upd H8 D (.lst (vs ++ [v8]))) I8 rfl (.cons r8 .nil) ⟨D, vs, v8, rfl, rfl, hD8, by rw [hds8.len]; omega, rfl⟩) (fun _ s9 ⟨v9, H9, I9, _, eH⟩ => ?_) (fun _ _ z => z)
    subst eH
    obtain ⟨t9, f9⟩ := keepT I9
    obtain ⟨rl9, dn9⟩ := rl8.mutB (vs' := vs ++ [v8]) BD6 hD8 hDf
    exact ⟨ds.length - (i + 1), by omega, i + 1, W6, σ6, ρ6, _, out ++ [e8], vs ++ [v8], rfl, hlt, I9.unpinned, t9, f9, aA, hW6, dn9 _ _ (hds8.append (af.one hd8)), (sm6.trans sm78).ins hDf hD8 True.intro True.intro, rl9, cap6, q8, by rw [List.length_append, List.length_singleton]; omega⟩
  ·have e : i = ds.length := by omega
   refine thn (T.done (aQ X sc ns xs C s H fp (du X sc ns RR D C)) rfl rfl rfl hc i [] s3 _ H3 _ I3 (statC fr3) st3 (ys (by omega))) fun rr s4 ⟨hr, I4⟩ => ?_
   subst hr
   subst e
   have Io : Inv X pins σ H3 s4 := I.call' I4.os I4.base I4.hok I4.bare hch
   obtain ⟨m, hm, _⟩ := I4.loc
   exact hRR D C s4 H3 m out Io sm3 hm I4.free (fun z => absurd I.lt (by rw [<- z]; exact Nat.not_lt.mpr hCle)) (Nat.le_trans I.sz hCle) (fun y c e z => by
    obtain ⟨v, q⟩ := I.cell y c e
    exact absurd q.lt (by rw [z]; exact Nat.not_lt.mpr hCle)) (fun p hp z => absurd (Heap.lt_size (I.pin p hp).1) (by rw [z]; exact Nat.not_lt.mpr hCle))
    ⟨hDf, hKD, _, hD3, hds3.fewer fun t a z => (by
     rcases (bad' t a).mpr z with q | ⟨k, q⟩ | q
     ·exact .inl (by rw [hW2.1]; exact q)
     ·cases q
     ·exact .inr (.inr ⟨q.1, by rw [hW2.2]; exact q.2⟩))⟩ p3
 exact codeAny_compStart_list (loop _ rfl) (T.self _ 0 _ _ _ (T.keep 0 s.heap h₁ st (fun b hb o e => old b o e)) (loop _ rfl))
theorem ni {X : Cx} {sc : Scope} {ns : List Str} {x : Str} {px : Pos} {C : Addr} {s₂ : Shared} {H₂ : Hp} {fp : List Addr} {XE : Value -> Shared -> Prop} (S : CSc X.env.scope sc [x] ns) : PGD (aQ X sc ns [x] C s₂ H₂ fp XE) (.Name x px) (gP 0) :=
 have tl : (compEnvC sc (cD X.env ns) C X.env).scope.names.lookup x = some .local := lookup_relabel_local (S.tgt x (by simp))
 aV (X := aQ X sc ns [x] C s₂ H₂ fp XE) 0 S.nd rfl (.inl tl) (.inr tl)
theorem vp {ds : List D} {Pv : Nat -> List D -> Prop} {tc : DT} {te : DE} {cap : Ro} (step : ∀ j d out, ds[j]? = some d -> Pv j out -> tc (some (.val d) :: cap) fun b => if b = true then te (some (.val d) :: cap) (fun e => Pv (j + 1) (out ++ [e])) else Pv (j + 1) out) :
  ∀ j d out ρ1, ds[j]? = some d -> Pv j out -> jC 1 cap ρ1 -> gP 0 d ρ1 fun ρ2 => jC 1 cap ρ2 /\ tc ρ2 fun b => if b = true then te ρ2 (fun e => Pv (j + 1) (out ++ [e])) else Pv (j + 1) out := by
 rintro j d out ρ1 hd hp ⟨r0, hl, rfl⟩
 match r0, hl with
 | [a], _ => exact ⟨⟨[some (.val d)], rfl, rfl⟩, step j d out hd hp⟩
def jc (wi : DA) (js : List Nat) (tc : DT) (te : DE) : DE := fun ρ Q => wi ρ fun ds => ds.length <= sizeLine /\ ∃ Pv : Nat -> List D -> Prop, Pv 0 [] ∧
 (∀ j d out, ds[j]? = some d -> Pv j out -> tc (some (.val d) :: js.map (bf ρ)) fun b => if b = true then te (some (.val d) :: js.map (bf ρ)) (fun e => Pv (j + 1) (out ++ [e])) else Pv (j + 1) out) /\ ∀ out, Pv ds.length out -> Q (.lst true out)
def aY (N : List Str) (ns : List Str) (js : List Nat) : Prop := js.length = ns.length /\ ∀ (i : Nat) (j : Nat) (n : Str), js[i]? = some j -> ns[i]? = some n -> N[j]? = some n
theorem aY.nil {N : List Str} : aY N [] [] := ⟨rfl, fun i j n h => by simp at h⟩
theorem aY.cons {N ns : List Str} {js : List Nat} {n : Str} (j : Nat) (h : aY N ns js) (e : N[j]? = some n := by rfl) : aY N (n :: ns) (j :: js) := ⟨by simp [h.1], fun i j' m h1 h2 => by
 cases i with
 | zero => simp at h1 h2; subst h1 h2; exact e
 | succ i => exact h.2 i j' m (by simpa using h1) (by simpa using h2)⟩
variable {elt iter : Expr} {ifs : List Expr} {px pos : Pos} {te : DE} {tc : DT} {wi : DA} {x : Str}
theorem de (hc : X.calm = true) (S : CSc X.env.scope sc [x] ns) (hj : aY X.N ns js) (hi : PID X (.Name x px) iter wi) (ht : ∀ (C : Addr) (s₂ : Shared) (H₂ : Hp) (fp : List Addr) (XE : Value -> Shared -> Prop), TsD (aQ X sc ns [x] C s₂ H₂ fp XE) ifs tc)
  (he : ∀ (C : Addr) (s₂ : Shared) (H₂ : Hp) (fp : List Addr) (XE : Value -> Shared -> Prop), PED (aQ X sc ns [x] C s₂ H₂ fp XE) elt te) (hclos : closureFor sc X.env = pure (cD X.env ns) := by rfl) (hs : ∀ x, foldedSetIterable iter X.env x = pure x := by intro _; rfl) :
  PED X (.ListComp elt [⟨.Name x px, iter, ifs, 0⟩] sc pos) (jc wi js tc te) := by
 intro pins s σ H W ρ Q I r h
 rw [eval_ListComp]
 refine wpAny_comprehension_free (use := none) rfl hs hclos S.kind S.names (thn (hi pins s σ H W ρ _ I r h) fun v s1 h1 => thn h1 fun itv s2 h2 => ?_)
 obtain ⟨it, fp, tn, J, H2, ds, e, I2, e2, T, st2, f2, yd, hz, Pv, p0, step, fin⟩ := h2
 subst e
 refine ic (RR := fun acc C => compPost (model X.prog X.w) X.A X.xe none (DP X pins σ W H Q) acc C) hc S hj (Ed := fun _ => False) (fun C s₂ H₂ fp XE _ => he C s₂ H₂ fp XE) (fun C s₂ H₂ fp XE _ => ht C s₂ H₂ fp XE) (fun _ _ => di.no) I2 (r.same e2) (fun C s₂ H₂ fp XE => ni S) T st2 f2 yd hz Pv p0 (vp step) ?_
 intro D C s' H' m' out I' sm hns hCn hC1 hC2 hC3 hC4 ⟨hn, hk, vs, hD, hds⟩ pv
 have hden : Den X.K W.bad H' (.lst true out) (.ref D) := Den.lst ((r.same e2).fresh hn) (.new hD hk) (hds.fewer fun _ _ z => .inl z)
 refine ⟨m', hns, fun h' hsb => ?_⟩
 exact ⟨.ref D, H', _, I'.turned (t' := s'.toks) (fun b o hb e => (hsb.2 b hb).trans e) hCn hC1 (.inr hC2) hC3 hC4, rfl, e2.trans sm, hden, fin out pv⟩
theorem ig {y : Str} {py spos : Pos} (i : Nat) (hN : X.N.Nodup) (hc : X.calm = true) (S : CSc X.env.scope sc [x] ns) (hj : aY X.N ns js) (hi : PID X (.Name x px) iter wi) (ht : ∀ (C : Addr) (s₂ : Shared) (H₂ : Hp) (fp : List Addr) (XE : Value -> Shared -> Prop), TsD (aQ X sc ns [x] C s₂ H₂ fp XE) ifs tc)
  (he : ∀ (C : Addr) (s₂ : Shared) (H₂ : Hp) (fp : List Addr) (XE : Value -> Shared -> Prop), PED (aQ X sc ns [x] C s₂ H₂ fp XE) elt te) (hy : X.N[i]? = some y := by rfl) (hly : X.env.scope.names.lookup y = some .local := by rfl) (hclos : closureFor sc X.env = pure (cD X.env ns) := by rfl) (hs : ∀ x, foldedSetIterable iter X.env x = pure x := by intro _; rfl)
  (hsw : swapsWith (.ListComp elt [⟨.Name x px, iter, ifs, 0⟩] sc pos) (some (.Name y py)) spos.line X.env = pure true := by rfl) :
  PSD X (.Assign [.Name y py] (.ListComp elt [⟨.Name x px, iter, ifs, 0⟩] sc pos) spos) (qm i (jc wi js tc te)) := by
 intro pins s σ H W ρ E I r h
 rw [exec_Assign_Name_used _ _ _ _ hsw]
 refine wpAny_bind (wpAny_standAt (wpAny_bind ?_))
 show wpAny _ X.A (do let _ ← comprehension (.ListComp elt [⟨.Name x px, iter, ifs, 0⟩] sc pos) sc X.env _ (newList []) false (eval iter X.env) (some (assign (.Name y py) X.env))) _ _ s
 refine wpAny_bind (wpAny_mono (wpAny_comprehension_free (use := some (assign (.Name y py) X.env)) (Q := fun _ s' => SPD X pins W H E .next s') rfl hs hclos S.kind S.names
  (thn (hi pins s σ H W ρ _ I r h) fun v s1 h1 => thn h1 fun itv s2 h2 => ?_)) (fun _ s' hq => wpAny_pure (wpAny_pure hq)) fun _ _ e => e)
 obtain ⟨it, fp, tn, J, H2, ds, e, I2, e2, T, st2, f2, yd, hz, Pv, p0, step, fin⟩ := h2
 subst e
 refine ic (RR := fun acc C => compPost (model X.prog X.w) X.A X.xe (some (assign (.Name y py) X.env)) (fun _ s' => SPD X pins W H E .next s') acc C) hc S hj (Ed := fun _ => False) (fun C s₂ H₂ fp XE _ => he C s₂ H₂ fp XE) (fun C s₂ H₂ fp XE _ => ht C s₂ H₂ fp XE) (fun _ _ => di.no) I2 (r.same e2) (fun C s₂ H₂ fp XE => ni S) T st2 f2 yd hz Pv p0 (vp step) ?_
 intro D C s' H' m' out I' sm hns hCn hC1 hC2 hC3 hC4 ⟨hn, hk, vs, hD, hds⟩ pv
 have hden : Den X.K W.bad H' (.lst true out) (.ref D) := Den.lst ((r.same e2).fresh hn) (.new hD hk) (hds.fewer fun _ _ z => .inl z)
 have rr := (r.same e2).same sm
 show wpAny _ X.A (assign (.Name y py) X.env (.ref D)) _ _ _
 refine wpAny_assign_Name (lZ (v := .ref D) I' hN hy (.inl hly) rfl (fun s3 I3 ⟨a, hsb, ha⟩ => ?_) (.inr hly))
 have hne : C ≠ a := by
  rcases ha with z | z
  ·rw [z]; exact hC1
  ·exact fun q => hC3 y a z q.symm
 refine ⟨m', hns.sameBut hsb hne, fun h' hsb' => ?_⟩
 refine ⟨W.drop i, _, H', I3.turned (t' := s3.toks) (fun b o hb e => (hsb'.2 b hb).trans e) hCn hC1 (.inr hC2) hC3 hC4, (Fwd.same (e2.trans sm)).trans (Fwd.drop W H' i), _, rr.put (Inv.ilt I' hy) hden, fin out pv⟩
end
section
variable {X : Cx} {pins : List (Addr × Obj)} {σ : St} {H : Hp} {s : Shared} {sc : Scope} {ns : List Str} {js : List Nat} {xs : List Str} {fp : List Addr}
variable {elt iter : Expr} {ifs : List Expr} {px pos : Pos} {te : DE} {tc : DT} {wi : DA} {x : Str}
end
def wI (osc sc : Scope) (xs ns : List Str) : Bool :=
 decide (sc.kind = .function) && (sc.names.all fun y => decide (y.2 ≠ .cell)) && (sc.names.all fun y => decide (y.2 = .local -> sc.names.lookup y.1 = some .local)) && (xs.all fun x => decide (sc.names.lookup x = some .local)) &&
 (sc.names.all fun y => decide (y.2 = .free -> y.1 ∈ ns /\ osc.names.lookup y.1 = some .cell)) && (ns.all fun n => decide (sc.names.lookup n = some .free /\ osc.names.lookup n = some .cell)) && decide (xs ++ ns).Nodup
theorem bB {osc sc : Scope} {xs ns : List Str} (h : wI osc sc xs ns = true) : CSc osc sc xs ns := by
 unfold wI at h
 simp only [Bool.and_eq_true] at h
 obtain ⟨⟨⟨⟨⟨⟨h1, h2⟩, h3⟩, h4⟩, h5⟩, h6⟩, h7⟩ := h
 exact ⟨of_decide_eq_true h1, fun y hy => of_decide_eq_true (List.all_eq_true.mp h2 y hy), fun y hy => of_decide_eq_true (List.all_eq_true.mp h3 y hy), fun x hx => of_decide_eq_true (List.all_eq_true.mp h4 x hx), fun y hy => of_decide_eq_true (List.all_eq_true.mp h5 y hy), fun n hn => of_decide_eq_true (List.all_eq_true.mp h6 n hn), of_decide_eq_true h7⟩
end PD
namespace PD
open PySem PySem.Spec PyProof.Rows L2
inductive Nms : List Expr -> List Str -> Prop where
 | nil : Nms [] []
 | cons {x : Str} {p : Pos} {es : List Expr} {xs : List Str} (h : Nms es xs) : Nms (.Name x p :: es) (x :: xs)
def iU : Nat -> Nat -> DGs
 | _, 0 => dX
 | i, n + 1 => aW (gP i) (iU (i + 1) n)
theorem kh : ∀ (ys : List D) (pre r0 cap : Ro) (Q : Ro -> Prop), r0.length = ys.length -> Q (pre ++ ys.map (fun d => some (Sl.val d)) ++ cap) -> iU pre.length ys.length ys (pre ++ r0 ++ cap) Q
 | [], pre, r0, cap, Q, hl, h => by
  have : r0 = [] := List.eq_nil_of_length_eq_zero hl
  subst this
  exact ⟨rfl, h⟩
 | d :: r, pre, r0, cap, Q, hl, h => by
  match r0, hl with
  | a :: q, hl =>
   refine ⟨d, r, rfl, ?_⟩
   show iU (pre.length + 1) r.length r ((pre ++ a :: q ++ cap).set pre.length (some (.val d))) Q
   have e : (pre ++ a :: q ++ cap).set pre.length (some (Sl.val d)) = (pre ++ [some (Sl.val d)]) ++ q ++ cap := by
    rw [List.append_assoc, List.set_append_right _ _ (Nat.le_refl _), Nat.sub_self]
    simp
   have e2 : pre.length + 1 = (pre ++ [some (Sl.val d)]).length := by simp
   rw [e, e2]
   refine kh r _ q cap Q (by simpa using hl) ?_
   simpa using h
section
variable {X : Cx} {sc : Scope} {ns xs : List Str} {js : List Nat}
theorem Nms.len {env : Env} : ∀ {es : List Expr} {ys : List Str}, Nms es ys -> (assignEach es env).length = ys.length /\ (assignEach es env).findIdx? (·.1) = none
 | _, _, .nil => ⟨rfl, rfl⟩
 | _, _, .cons (x := x) (p := p) (es := es) h => by
  obtain ⟨h1, h2⟩ := Nms.len (env := env) h
  have e : assignEach (.Name x p :: es) env = (false, assign (.Name x p) env) :: assignEach es env := rfl
  rw [e]
  refine ⟨by rw [List.length_cons, h1]; rfl, ?_⟩
  rw [List.findIdx?_cons, h2]
  rfl
theorem ki {C : Addr} {s₂ : Shared} {H₂ : Hp} {fp : List Addr} {XE : Value -> Shared -> Prop} (S : CSc X.env.scope sc xs ns) : ∀ {es : List Expr} {ys : List Str} (i : Nat), Nms es ys -> (∀ k y, ys[k]? = some y -> xs[i + k]? = some y) -> kJ (aQ X sc ns xs C s₂ H₂ fp XE) es (iU i ys.length)
 | _, _, _, .nil, _ => o2
 | _, _, i, .cons (x := x) (xs := ys) h, hk => by
  have hx : xs[i]? = some x := hk 0 x rfl
  have tl : (compEnvC sc (cD X.env ns) C X.env).scope.names.lookup x = some .local := lookup_relabel_local (S.tgt x (List.mem_of_getElem? hx))
  have hN : (xs ++ ns)[i]? = some x := by rw [List.getElem?_append_left (List.getElem?_eq_some_iff.mp hx).1]; exact hx
  exact jI (aV (X := aQ X sc ns xs C s₂ H₂ fp XE) i S.nd hN (.inl tl) (.inr tl)) (ki S (i + 1) h fun k y e => by
   have := hk (k + 1) y e
   rw [show i + (k + 1) = i + 1 + k by omega] at this
   exact this)
variable {elt iter : Expr} {ifs es : List Expr} {kt : Nat} {tp pos : Pos} {te : DE} {tc : DT} {wi : DA}
def eh (ys : List D) : Ro := ys.map fun d => some (Sl.val d)
def ri (n : Nat) (wi : DA) (js : List Nat) (tc : DT) (te : DE) : DE := fun ρ Q => wi ρ fun ds => ds.length <= sizeLine /\ ∃ Pv : Nat -> List D -> Prop, Pv 0 [] ∧
 (∀ j d out, ds[j]? = some d -> Pv j out -> ∃ ys, (d = .tup ys ∨ ∃ t, d = .lst t ys) /\ ys.length = n /\ tc (eh ys ++ js.map (bf ρ)) fun b => if b = true then te (eh ys ++ js.map (bf ρ)) (fun e => Pv (j + 1) (out ++ [e])) else Pv (j + 1) out) /\ ∀ out, Pv ds.length out -> Q (.lst true out)
theorem stepT {n : Nat} {ds : List D} {Pv : Nat -> List D -> Prop} {cap : Ro} (step : ∀ j d out, ds[j]? = some d -> Pv j out -> ∃ ys, (d = .tup ys ∨ ∃ t, d = .lst t ys) /\ ys.length = n /\ tc (eh ys ++ cap) fun b => if b = true then te (eh ys ++ cap) (fun e => Pv (j + 1) (out ++ [e])) else Pv (j + 1) out) :
  ∀ j d out ρ1, ds[j]? = some d -> Pv j out -> jC n cap ρ1 -> cT n (iU 0 n) d ρ1 fun ρ2 => jC n cap ρ2 /\ tc ρ2 fun b => if b = true then te ρ2 (fun e => Pv (j + 1) (out ++ [e])) else Pv (j + 1) out := by
 rintro j d out ρ1 hd hp ⟨r0, hl, rfl⟩
 obtain ⟨ys, e, hn, h⟩ := step j d out hd hp
 refine ⟨ys, e, hn, ?_⟩
 subst hn
 exact kh ys [] r0 cap _ hl ⟨⟨eh ys, by simp [eh], rfl⟩, h⟩
theorem mT (hc : X.calm = true) (S : CSc X.env.scope sc xs ns) (hj : aY X.N ns js) (hn : Nms es xs) (hi : PID X (.Tuple es kt tp) iter wi) (ht : ∀ (C : Addr) (s₂ : Shared) (H₂ : Hp) (fp : List Addr) (XE : Value -> Shared -> Prop), TsD (aQ X sc ns xs C s₂ H₂ fp XE) ifs tc)
  (he : ∀ (C : Addr) (s₂ : Shared) (H₂ : Hp) (fp : List Addr) (XE : Value -> Shared -> Prop), PED (aQ X sc ns xs C s₂ H₂ fp XE) elt te) (hclos : closureFor sc X.env = pure (cD X.env ns) := by rfl) (hs : ∀ x, foldedSetIterable iter X.env x = pure x := by intro _; rfl) :
  PED X (.ListComp elt [⟨.Tuple es kt tp, iter, ifs, 0⟩] sc pos) (ri xs.length wi js tc te) := by
 intro pins s σ H W ρ Q I r h
 rw [eval_ListComp]
 refine wpAny_comprehension_free (use := none) rfl hs hclos S.kind S.names (thn (hi pins s σ H W ρ _ I r h) fun v s1 h1 => thn h1 fun itv s2 h2 => ?_)
 obtain ⟨it, fp, tn, J, H2, ds, e, I2, e2, T, st2, f2, yd, hz, Pv, p0, step, fin⟩ := h2
 subst e
 refine ic (RR := fun acc C => compPost (model X.prog X.w) X.A X.xe none (DP X pins σ W H Q) acc C) hc S hj (Ed := fun _ => False) (fun C s₂ H₂ fp XE _ => he C s₂ H₂ fp XE) (fun C s₂ H₂ fp XE _ => ht C s₂ H₂ fp XE) (fun _ _ => di.no) I2 (r.same e2) (fun C s₂ H₂ fp XE => rX (X := aQ X sc ns xs C s₂ H₂ fp XE) hc (ki S 0 hn fun k y q => by simpa using q) (Nms.len hn).1 (Nms.len hn).2) T st2 f2 yd hz Pv p0 (stepT step) ?_
 intro D C s' H' m' out I' sm hns hCn hC1 hC2 hC3 hC4 ⟨hn, hk, vs, hD, hds⟩ pv
 have hden : Den X.K W.bad H' (.lst true out) (.ref D) := Den.lst ((r.same e2).fresh hn) (.new hD hk) (hds.fewer fun _ _ z => .inl z)
 refine ⟨m', hns, fun h' hsb => ?_⟩
 exact ⟨.ref D, H', _, I'.turned (t' := s'.toks) (fun b o hb e => (hsb.2 b hb).trans e) hCn hC1 (.inr hC2) hC3 hC4, rfl, e2.trans sm, hden, fin out pv⟩
end
theorem lx {α : Type} {n : Nat} {wi : DA} {js : List Nat} {tc : DT} {te : DE} {ρ : Ro} {Q : D -> Prop} (zs : List α) (f : α -> List D) (c : α -> Bool) (g : α -> D) (hw : ∀ R : List D -> Prop, R (zs.map fun z => .tup (f z)) -> wi ρ R) (hz : zs.length <= sizeLine) (hn : ∀ z, (f z).length = n)
  (hc : ∀ z ∈ zs, ∀ K : Bool -> Prop, K (c z) -> tc (eh (f z) ++ js.map (bf ρ)) K) (he : ∀ z ∈ zs, c z = true -> ∀ K : D -> Prop, K (g z) -> te (eh (f z) ++ js.map (bf ρ)) K) (q : Q (.lst true ((zs.filter c).map g))) : ri n wi js tc te ρ Q := by
 refine hw _ ⟨by rw [List.length_map]; exact hz, fun j out => out = ((zs.take j).filter c).map g, by simp, fun j d out hd ho => ?_, fun out ho => ?_⟩
 ·rw [List.getElem?_map] at hd
  cases ex : zs[j]? with
  | none => rw [ex] at hd; cases hd
  | some x =>
   rw [ex] at hd
   cases hd
   have hm : x ∈ zs := List.mem_of_getElem? ex
   have ht : zs.take (j + 1) = zs.take j ++ [x] := by rw [List.take_succ, ex]; rfl
   refine ⟨f x, .inl rfl, hn x, hc x hm _ ?_⟩
   by_cases z : c x = true
   ·rw [if_pos z]
    refine he x hm z _ ?_
    show _ = List.map g (List.filter c (List.take (j + 1) zs))
    rw [ht, ho, List.filter_append, List.map_append]
    simp [z]
   ·rw [if_neg z]
    show _ = List.map g (List.filter c (List.take (j + 1) zs))
    rw [ht, ho, List.filter_append]
    simp [z]
 ·rw [List.length_map, List.take_of_length_le (Nat.le_refl _)] at ho
  rw [ho]; exact q
end PD
namespace PD
open PySem PySem.Spec PyProof.Rows L2
theorem sv (k : Bool) (R : Int -> Prop) (S : Bool -> Prop) : ((∃ i : Int, [D.bl k] = [.int i] /\ R i) ∨ ∃ j : Bool, [D.bl k] = [.bl j] /\ S j) = S k := by
 apply propext
 constructor
 ·rintro (⟨_, e, _⟩ | ⟨_, e, q⟩)
  ·cases e
  ·cases e; exact q
 ·intro q; exact .inr ⟨k, rfl, q⟩
theorem xo (b : Bool) : okD (.bl b) := by unfold okD; rw [pyD, plD] <;> first | exact ⟨rfl, rfl⟩ | (intros; contradiction)
theorem nL (i : Int) : okD (.int i) = True := eq_true (pq i)
theorem ph (b : Bool) : okD (.bl b) = True := eq_true (xo b)
theorem nM : okD .non = True := eq_true pA
theorem pB (a b c : Int) : okD (.tup [.int a, .int b, .int c]) = True := eq_true (sJ a b c)
theorem kR (i j : Int) : eqD (.int i) (.int j) = decide (i = j) := by
 unfold eqD
 rw [pyD, pyD]
 rfl
theorem m7 (i j : Bool) : eqD (.bl i) (.bl j) = decide (i = j) := by
 unfold eqD
 rw [pyD, pyD]
 cases i <;> cases j <;> rfl
theorem sC (t : Bool) (xs : List D) (R : List D -> Prop) : (∃ t' ds, D.lst t xs = .lst t' ds /\ R ds) = R xs := by
 apply propext
 constructor
 ·rintro ⟨_, _, e, q⟩; cases e; exact q
 ·intro q; exact ⟨t, xs, rfl, q⟩
theorem oX (ds : List D) (r : Ro) (R : List D -> Prop) : (∃ ds', (some (Sl.own ds) :: r)[0]? = some (some (Sl.own ds')) /\ R ds') = R ds := by
 apply propext
 constructor
 ·rintro ⟨_, e, q⟩
  have e' : some (some (Sl.own ds)) = some (some (Sl.own _)) := e
  cases e'
  exact q
 ·intro q; exact ⟨ds, rfl, q⟩
theorem oY (n : Nat) (x : Option Sl) (r : Ro) (R : List D -> Prop) : (∃ ds', (x :: r)[n + 1]? = some (some (Sl.own ds')) /\ R ds') = (∃ ds', r[n]? = some (some (Sl.own ds')) /\ R ds') := rfl
theorem rY (d : D) (r : Ro) : bf (some (.val d) :: r) 0 = some (.val d) := rfl
theorem r9 (r : Ro) : bf (none :: r) 0 = none := rfl
theorem rZ (n : Nat) (x : Option Sl) (r : Ro) : bf (x :: r) (n + 1) = bf r n := rfl
end PD
namespace PD
open PySem PySem.Spec PyProof.Rows L2
def sg (n : Int) : Int := if 0 < n then 1 else if n < 0 then -1 else 0
def sw (a0 a1 a2 b0 b1 b2 c0 c1 c2 : Int) : Int := a0 * (b1 * c2 - c1 * b2) + b0 * (c1 * a2 - a1 * c2) + c0 * (a1 * b2 - b1 * a2)
structure Pl (n : Nat) (a b c : Int) : Prop where
 pos : 0 < a
 low : PM.g3 a b c = 1
 b0 : Bd n a
 b1 : Bd n b
 b2 : Bd n c
theorem Pl.mono {m n : Nat} {a b c : Int} (h : Pl m a b c) (l : m <= n) : Pl n a b c := ⟨h.pos, h.low, h.b0.mono l, h.b1.mono l, h.b2.mono l⟩
def cq (b x y : Int) : D := T3 (b.fdiv (PM.dv3 b x y b)) (x.fdiv (PM.dv3 b x y b)) (y.fdiv (PM.dv3 b x y b))
theorem wZ (b x y : Int) {t : Int} (ht : 0 < t) : (PM.g3 (b * t) (x * t) (y * t) : Int) = PM.g3 b x y * t := by
 unfold PM.g3
 have e : (Int.gcd (b * t) (x * t) : Int) = (Int.gcd b x : Int) * t := by
  rw [Int.gcd_mul_right]
  have : ((t.natAbs : Nat) : Int) = t := by omega
  rw [Int.natCast_mul, this]
 rw [e, Int.gcd_mul_right]
 have : ((t.natAbs : Nat) : Int) = t := by omega
 rw [Int.natCast_mul, this]
theorem vF (b x y l : Int) {t : Int} (ht : 0 < t) : PM.dv3 (b * t) (x * t) (y * t) (l * t) = PM.dv3 b x y l * t := by
 unfold PM.dv3
 rw [wZ b x y ht]
 by_cases h : l < 0
 ·rw [if_pos h, if_pos (Int.mul_neg_of_neg_of_pos h ht), Int.neg_mul]
 ·rw [if_neg h, if_neg (by have := Int.mul_nonneg (show 0 <= l by omega) (show 0 <= t by omega); omega)]
theorem jH (z d : Int) {t : Int} (ht : 0 < t) (hd : d ≠ 0) (hz : d ∣ z) : (z * t).fdiv (d * t) = z.fdiv d := by
 obtain ⟨k, rfl⟩ := hz
 rw [Int.fdiv_eq_ediv_of_dvd (Int.dvd_mul_right _ _), Int.fdiv_eq_ediv_of_dvd ⟨k, by rw [Int.mul_right_comm]⟩]
 rw [Int.mul_ediv_cancel_left _ hd]
 rw [Int.mul_right_comm, Int.mul_ediv_cancel_left _ (by
  intro e
  rcases Int.mul_eq_zero.mp e with e | e
  ·exact hd e
  ·omega)]
theorem lV {b : Int} (x y : Int) {t : Int} (hb : b ≠ 0) (ht : 0 < t) : cq (b * t) (x * t) (y * t) = cq b x y := by
 have hz : ¬ (b = 0 /\ x = 0 /\ y = 0) := fun z => hb z.1
 unfold cq
 rw [vF b x y b ht, jH _ _ ht (PM.eI hz) (PM.gN (PM.m8 _ _ _)), jH _ _ ht (PM.eI hz) (PM.gN (PM.qt _ _ _)), jH _ _ ht (PM.eI hz) (PM.gN (PM.qu _ _ _))]
structure y4 (d : D) (b x y : Int) : Prop where
 ex : ∃ p q r, d = T3 p q r /\ Bd 4000 p /\ Bd 4000 q /\ Bd 4000 r /\ 0 < p /\ p * x = b * q /\ p * y = b * r /\ PM.g3 p q r = 1
end PD
namespace PZ
open PySem PySem.Spec PyProof.Rows
def SIt : Bool -> Heap -> Addr -> Addr -> Nat -> Prop
 | true, h, it, a, i => h.IsListIter it a i
 | false, h, it, a, i => h.IsTupleIter it a i
def SSq : Bool -> Heap -> Addr -> Array Value -> Prop
 | true, h, a, xs => h.IsList a xs
 | false, h, a, xs => h.IsTuple a xs
def eK : Bool -> String
 | true => "list_iterator"
 | false => "tuple_iterator"
section
variable {k : Bool} {h h' : Heap} {it a b : Addr} {i : Nat} {xs : Array Value}
theorem SIt.of (x : SIt k h it a i) (e : ∀ o, h.get? it = some o -> h'.get? it = some o) : SIt k h' it a i := by
 cases k with
 | true => obtain ⟨o, ho, r⟩ := x; exact ⟨o, e o ho, r⟩
 | false => obtain ⟨o, ho, r⟩ := x; exact ⟨o, e o ho, r⟩
theorem SSq.of (x : SSq k h a xs) (e : ∀ o, h.get? a = some o -> h'.get? a = some o) : SSq k h' a xs := by
 cases k with
 | true => obtain ⟨o, ho, r⟩ := x; exact ⟨o, e o ho, r⟩
 | false => obtain ⟨o, ho, r⟩ := x; exact ⟨o, e o ho, r⟩
theorem SIt.obj (x : SIt k h it a i) : ∃ o, h.get? it = some o /\ o.cls = .type (eK k) /\ o.data = .fields #[.ref a, .int i 0] := by
 cases k with
 | true => exact x
 | false => exact x
theorem SSq.obj (x : SSq k h a xs) : ∃ o n, h.get? a = some o /\ o.data = .seq xs n := by
 cases k with
 | true => obtain ⟨o, ho, _, n, r⟩ := x; exact ⟨o, n, ho, r⟩
 | false => obtain ⟨o, ho, _, n, r⟩ := x; exact ⟨o, n, ho, r⟩
end
section
variable {prog : Program} {w : World} {A : Around} {E : Value -> Shared -> Prop} {s : Shared} {k : Bool} {it a : Addr} {i : Nat} {xs : Array Value}
theorem qA {x : Value} {Q : Value -> Shared -> Prop} (hi : SIt k s.heap it a i) (hs : SSq k s.heap a xs) (hx : xs[i]? = some x) (hQ : ∀ h', SIt k h' it a (i + 1) -> Heap.SameBut it s.heap h' -> Q x { s with heap := h' }) :
  wpAny (model prog w) A (Builtin.SmallTypes.nextOf (.ref it)) Q E s := by
 cases k with
 | true => exact wpAny_nextOf_list_item hi hs hx hQ
 | false =>
  obtain ⟨o, ho, hc, hd⟩ := id hi
  obtain ⟨oq, hq, _, nq, hdq⟩ := hs
  unfold Builtin.SmallTypes.nextOf
  refine wpAny_bind (wpAny_callSpecial?_slot (name := Str.ofString "__next__") (Heap.IsTupleIter.typeIs hi) F.slot_tuple_iterator_next (wpAny_call_entry F.slot_tuple_iterator_next (Heap.IsTupleIter.typeIs hi) F.entry_tuple_iterator_next ?_ (F.args_tuple_iterator_next_1 _)))
  show wpAny _ _ (field (.ref it) 0 >>= _) _ _ s; refine wpAny_bind (wpAny_field ho hd (x := .ref a) rfl ?_)
  show wpAny _ _ (if (Value.ref a == Value.none) = true then _ else _) _ _ s; rw [if_neg (show ¬ ((Value.ref a == Value.none) = true) from Bool.false_ne_true)]
  show wpAny _ _ (field (.ref it) 1 >>= _) _ _ s; refine wpAny_bind (wpAny_field ho hd (x := .int i 0) rfl ?_)
  show wpAny _ _ (seqItems? (.ref a) >>= _) _ _ s; refine wpAny_bind (wpAny_seqItems hq hdq ?_); simp only [Int.toNat_natCast, hx]
  refine wpAny_bind (wpAny_setField ho hd (by simp) (wpAny_pure ⟨x, rfl, wpAny_pure (hQ _ ⟨_, Heap.get?_update_self _ ho (Obj.isFreed_of_fields (Obj.data_mapFields hd _)), (Obj.cls_mapFields ..).trans hc, by rw [Obj.data_mapFields hd]; simp [rawInt]⟩ (Heap.SameBut.update ..))⟩))
theorem vf {Q : Value -> Shared -> Prop} (hh : A.handled = none) (hi : SIt k s.heap it a i) (hs : SSq k s.heap a xs) (hx : xs[i]? = none)
  (hE : ∀ h' e, Heap.ExtBut it s.heap h' -> (∃ o, h'.get? e = some o /\ o.cls = .type "StopIteration") -> E (.ref e) { s with heap := h' }) : wpAny (model prog w) A (Builtin.SmallTypes.nextOf (.ref it)) Q E s := by
 cases k with
 | true => exact wpAny_nextOf_list_end hh hi hs hx hE
 | false =>
  obtain ⟨o, ho, hc, hd⟩ := id hi
  obtain ⟨oq, hq, _, nq, hdq⟩ := hs
  unfold Builtin.SmallTypes.nextOf
  refine wpAny_bind (wpAny_callSpecial?_slot (name := Str.ofString "__next__") (Heap.IsTupleIter.typeIs hi) F.slot_tuple_iterator_next (wpAny_call_entry F.slot_tuple_iterator_next (Heap.IsTupleIter.typeIs hi) F.entry_tuple_iterator_next ?_ (F.args_tuple_iterator_next_1 _)))
  show wpAny _ _ (field (.ref it) 0 >>= _) _ _ s; refine wpAny_bind (wpAny_field ho hd (x := .ref a) rfl ?_)
  show wpAny _ _ (if (Value.ref a == Value.none) = true then _ else _) _ _ s; rw [if_neg (show ¬ ((Value.ref a == Value.none) = true) from Bool.false_ne_true)]
  show wpAny _ _ (field (.ref it) 1 >>= _) _ _ s; refine wpAny_bind (wpAny_field ho hd (x := .int i 0) rfl ?_)
  show wpAny _ _ (seqItems? (.ref a) >>= _) _ _ s; refine wpAny_bind (wpAny_seqItems hq hdq ?_); simp only [Int.toNat_natCast, hx]
  refine wpAny_bind (wpAny_rule (wpAny_bind (wpAny_setField ho hd (by simp) ?_))); show wpAny _ _ (newExc (.type "StopIteration") [] >>= _) _ _ _
  refine wpAny_bind ?_; simp only [newExc, newTuple]; refine wpAny_bind (wpAny_newObj_type ?_ (by size_fits))
  refine wpAny_bind (m := firstArgMember _ _) (wpAny_of_eq (a := Value.none) (by simp only [firstArgMember]; rfl) ?_); refine wpAny_newObj_type ?_ (by size_fits)
  simp only [raiseNew]; refine wpAny_bind (wpAny_handled ?_); first | rw [show A.in1.handled = none from hh] | rw [hh]
  exact wpAny_bind (wpAny_pure (wpAny_throw (hE _ _ (((Heap.SameBut.update ..).extBut.push _).push _) ⟨_, Heap.get?_push_size _ rfl, rfl⟩)))
end
structure Ap (z TI TO i1 i2 : Addr) : Prop where
 a1 : TI ≠ z
 a2 : TO ≠ z
 a3 : i1 ≠ z
 a4 : i2 ≠ z
 a5 : TI ≠ TO
 a6 : TI ≠ i1
 a7 : TI ≠ i2
 a8 : TO ≠ i1
 a9 : TO ≠ i2
 b1 : i1 ≠ i2
structure Out (z TO i1 i2 l : Addr) : Prop where
 c1 : l ≠ z
 c2 : l ≠ TO
 c3 : l ≠ i1
 c4 : l ≠ i2
structure ZSt (k1 k2 : Bool) (z TI TO i1 i2 l1 l2 : Addr) (i : Nat) (h : Heap) : Prop where
 z : IsZip h z TI TO .none
 ti : IsPair h TI (.ref i1) (.ref i2)
 to : ∃ a b, IsPair h TO a b
 s1 : SIt k1 h i1 l1 i
 s2 : SIt k2 h i2 l2 i
section
variable {prog : Program} {w : World} {A : Around} {E : Value -> Shared -> Prop} {s : Shared} {k1 k2 : Bool} {z TI TO i1 i2 l1 l2 : Addr} {i : Nat} {xs ys : Array Value}
theorem yE {x y : Value} {Q : Option Value -> Shared -> Prop} (D : Ap z TI TO i1 i2) (D1 : Out z TO i1 i2 l1) (D2 : Out z TO i1 i2 l2) (Z : ZSt k1 k2 z TI TO i1 i2 l1 l2 i s.heap) (q1 : SSq k1 s.heap l1 xs) (q2 : SSq k2 s.heap l2 ys) (hx : xs[i]? = some x) (hy : ys[i]? = some y)
  (hQ : ∀ h', IsZip h' z TI TO (rawInt s.heap.objs.size) -> IsPair h' TI (.ref i1) (.ref i2) -> IsPair h' TO x y -> SIt k1 h' i1 l1 (i + 1) -> SIt k2 h' i2 l2 (i + 1) -> IsPair h' s.heap.objs.size x y →
   (∀ c o, c ≠ z -> c ≠ TO -> c ≠ i1 -> c ≠ i2 -> s.heap.get? c = some o -> h'.get? c = some o) -> Q (some (.ref s.heap.objs.size)) { s with heap := h' }) : wpAny (model prog w) A (pyNext (.ref z)) Q E s := by
 obtain ⟨hz, hTI, ⟨a, b, hTO⟩, h1, h2⟩ := Z
 have hT : s.TypeIs (.ref z) "zip" := ⟨_, hz, rfl⟩
 unfold pyNext
 refine wpAny_bind (wpAny_attempt (wpAny_callSpecial?_slot (name := Str.ofString "__next__") hT F.slot_zip_next (wpAny_call_entry F.slot_zip_next hT F.entry_zip_next ?_ (F.args_zip_next_1 _))))
 show wpAny _ _ (field (.ref z) 2 >>= _) _ _ _; refine wpAny_bind (wpAny_field hz rfl (x := .bool false) rfl ?_)
 show wpAny _ _ (field (.ref z) 3 >>= _) _ _ _; refine wpAny_bind (wpAny_field hz rfl (x := .ref TI) rfl (wpAny_bind (wpAny_seqItems hTI rfl ?_)))
 show wpAny _ _ (Builtin.SmallTypes.ownedTupleIsFree (.ref z) >>= _) _ _ _; refine wpAny_bind ?_; unfold Builtin.SmallTypes.ownedTupleIsFree
 refine wpAny_bind (wpAny_field hz rfl (x := .none) rfl (wpAny_pure ?_)); simp only [if_true]; refine wpAny_bind (wpAny_rule (wpAny_bind (wpAny_field hz rfl (x := .ref TO) rfl ?_)))
 refine wpAny_bind (wpAny_setField_rec hz (by simp) fun g1 (z1 : IsZip g1 z TI TO .ellipsis) b1 => wpAny_bind ?_)
 simp only [List.zipIdx_cons, List.zipIdx_nil, List.forIn_cons, List.forIn_nil]
 have k1' : ∀ c o, c ≠ z -> s.heap.get? c = some o -> g1.get? c = some o := fun c o n e => b1.extBut c o n e
 refine wpAny_bind (wpAny_bind (wpAny_onRaise ?_)); show wpAny _ _ (Builtin.SmallTypes.nextOf (.ref i1) >>= _) _ _ _
 refine wpAny_bind (qA (s := { s with heap := g1 }) (h1.of fun o e => k1' _ o D.a3 e) (q1.of fun o e => k1' _ o D1.c1 e) hx fun g2 n2 b2 => wpAny_pure ?_)
 have t2 : IsPair g2 TO a b := b2.extBut _ _ D.a8 (k1' _ _ D.a2 hTO)
 refine wpAny_bind (wpAny_seqItems t2 rfl (wpAny_bind (wpAny_updateSeq_pair t2 fun g3 (t3 : IsPair g3 TO x b) b3 => wpAny_bind (wpAny_letGo (wpAny_pure ?_)))))
 have k3 : ∀ c o, c ≠ z -> c ≠ TO -> c ≠ i1 -> s.heap.get? c = some o -> g3.get? c = some o := fun c o n1 n2 n3 e => b3.extBut c o n2 (b2.extBut c o n3 (k1' c o n1 e))
 refine wpAny_bind (wpAny_bind (wpAny_onRaise ?_)); show wpAny _ _ (Builtin.SmallTypes.nextOf (.ref i2) >>= _) _ _ _
 refine wpAny_bind (qA (s := { s with heap := g3 }) (h2.of fun o e => k3 _ o D.a4 (Ne.symm D.a9) (Ne.symm D.b1) e) (q2.of fun o e => k3 _ o D2.c1 D2.c2 D2.c3 e) hy fun g4 n4 b4 => wpAny_pure ?_)
 have t4 : IsPair g4 TO x b := b4.extBut _ _ D.a9 t3
 refine wpAny_bind (wpAny_seqItems t4 rfl (wpAny_bind (wpAny_updateSeq_pair t4 fun g5 (t5 : IsPair g5 TO x y) b5 => wpAny_bind (wpAny_letGo (wpAny_pure (wpAny_pure ?_))))))
 refine wpAny_bind (wpAny_seqItems t5 rfl (wpAny_bind (wpAny_newTuple ?_)))
 have sz : g5.objs.size = s.heap.objs.size := by rw [b5.1, b4.1, b3.1, b2.1, b1.1]
 have k5 : ∀ c o, c ≠ z -> c ≠ TO -> c ≠ i1 -> c ≠ i2 -> s.heap.get? c = some o -> g5.get? c = some o := fun c o n1 n2 n3 n4 e => b5.extBut c o n2 (b4.extBut c o n4 (k3 c o n1 n2 n3 e))
 have z5 : IsZip g5 z TI TO .ellipsis := b5.extBut _ _ (Ne.symm D.a2) (b4.extBut _ _ (Ne.symm D.a4) (b3.extBut _ _ (Ne.symm D.a2) (b2.extBut _ _ (Ne.symm D.a3) z1)))
 have s15 : SIt k1 g5 i1 l1 (i + 1) := n2.of fun o e => b5.extBut _ o (Ne.symm D.a8) (b4.extBut _ o D.b1 (b3.extBut _ o (Ne.symm D.a8) e))
 have s25 : SIt k2 g5 i2 l2 (i + 1) := n4.of fun o e => b5.extBut _ o (Ne.symm D.a9) e
 have zl : z < g5.objs.size := Heap.lt_size z5
 show wpAny _ _ (Builtin.SmallTypes.ownedTupleHandOut (.ref z) (.ref g5.objs.size) >>= _) _ _ _; refine wpAny_bind ?_; unfold Builtin.SmallTypes.ownedTupleHandOut
 have z6 : IsZip (g5.push { cls := .type "tuple", data := .seq #[x, y] }) z TI TO .ellipsis := Heap.get?_push_of_some _ z5
 refine wpAny_bind (wpAny_setField_rec z6 (by simp) fun g7 (z7 : IsZip g7 z TI TO (rawInt g5.objs.size)) b7 => wpAny_setField_rec z7 (by simp) fun g8 (z8 : IsZip g8 z TI TO (rawInt g5.objs.size)) b8 => wpAny_pure ?_)
 have up : ∀ c o, c ≠ z -> g5.get? c = some o -> g8.get? c = some o := fun c o n e => b8.extBut c o n (b7.extBut c o n (Heap.get?_push_of_some _ e))
 have p8 : IsPair g8 g5.objs.size x y := b8.extBut _ _ (Nat.ne_of_gt zl) (b7.extBut _ _ (Nat.ne_of_gt zl) (Heap.get?_push_size _ rfl))
 refine ⟨_, rfl, ?_⟩
 rw [sz] at z8 p8
 refine wpAny_pure ?_
 show Q (some (.ref g5.objs.size)) _
 rw [sz]
 exact hQ g8 z8 (up _ _ D.a1 (k5 _ _ D.a1 D.a5 D.a6 D.a7 hTI)) (up _ _ D.a2 t5) (s15.of fun o e => up _ o D.a3 e) (s25.of fun o e => up _ o D.a4 e) p8 fun c o n1 n2 n3 n4 e => up c o n1 (k5 c o n1 n2 n3 n4 e)
theorem yF {Q : Option Value -> Shared -> Prop} (hh : A.handled = none) (D : Ap z TI TO i1 i2) (D1 : Out z TO i1 i2 l1) (D2 : Out z TO i1 i2 l2) (Z : ZSt k1 k2 z TI TO i1 i2 l1 l2 i s.heap) (q1 : SSq k1 s.heap l1 xs) (q2 : SSq k2 s.heap l2 ys) (hend : xs[i]? = none ∨ ys[i]? = none)
  (hQ : ∀ h', (∀ c o, c ≠ z -> c ≠ TO -> c ≠ i1 -> c ≠ i2 -> s.heap.get? c = some o -> h'.get? c = some o) -> Q none { s with heap := h' }) : wpAny (model prog w) A (pyNext (.ref z)) Q E s := by
 obtain ⟨hz, hTI, ⟨a, b, hTO⟩, h1, h2⟩ := Z
 have hT : s.TypeIs (.ref z) "zip" := ⟨_, hz, rfl⟩
 unfold pyNext
 refine wpAny_bind (wpAny_attempt (wpAny_callSpecial?_slot (name := Str.ofString "__next__") hT F.slot_zip_next (wpAny_call_entry F.slot_zip_next hT F.entry_zip_next ?_ (F.args_zip_next_1 _))))
 show wpAny _ _ (field (.ref z) 2 >>= _) _ _ _; refine wpAny_bind (wpAny_field hz rfl (x := .bool false) rfl ?_)
 show wpAny _ _ (field (.ref z) 3 >>= _) _ _ _; refine wpAny_bind (wpAny_field hz rfl (x := .ref TI) rfl (wpAny_bind (wpAny_seqItems hTI rfl ?_)))
 show wpAny _ _ (Builtin.SmallTypes.ownedTupleIsFree (.ref z) >>= _) _ _ _; refine wpAny_bind ?_; unfold Builtin.SmallTypes.ownedTupleIsFree
 refine wpAny_bind (wpAny_field hz rfl (x := .none) rfl (wpAny_pure ?_)); simp only [if_true]; refine wpAny_bind (wpAny_rule (wpAny_bind (wpAny_field hz rfl (x := .ref TO) rfl ?_)))
 refine wpAny_bind (wpAny_setField_rec hz (by simp) fun g1 (z1 : IsZip g1 z TI TO .ellipsis) b1 => wpAny_bind ?_)
 simp only [List.zipIdx_cons, List.zipIdx_nil, List.forIn_cons, List.forIn_nil]
 have k1' : ∀ c o, c ≠ z -> s.heap.get? c = some o -> g1.get? c = some o := fun c o n e => b1.extBut c o n e
 refine wpAny_bind (wpAny_bind (wpAny_onRaise ?_)); show wpAny _ _ (Builtin.SmallTypes.nextOf (.ref i1) >>= _) _ _ _
 cases hx : xs[i]? with
 | none =>
  refine wpAny_bind (vf (s := { s with heap := g1 }) hh (h1.of fun o e => k1' _ o D.a3 e) (q1.of fun o e => k1' _ o D1.c1 e) hx fun g2 e b2 he => ?_)
  obtain ⟨oe, ho, hc⟩ := he
  have z2 : IsZip g2 z TI TO .ellipsis := b2 _ _ (Ne.symm D.a3) z1
  have nz : e ≠ z := fun q => by subst q; rw [z2] at ho; cases ho; simp at hc
  refine wpAny_setField_rec z2 (by simp) fun g3 _ b3 => wpAny_bind (wpAny_isInstance (T := "StopIteration") (b := true) ⟨oe, b3.extBut _ _ nz ho, hc⟩ isSubtype_stop ?_)
  exact wpAny_pure (hQ g3 fun c o n1 _ n3 _ q => b3.extBut c o n1 (b2 c o n3 (k1' c o n1 q)))
 | some x =>
  have hy : ys[i]? = none := by
   rcases hend with q | q
   ·rw [hx] at q; cases q
   ·exact q
  refine wpAny_bind (qA (s := { s with heap := g1 }) (h1.of fun o e => k1' _ o D.a3 e) (q1.of fun o e => k1' _ o D1.c1 e) hx fun g2 n2 b2 => wpAny_pure ?_)
  have t2 : IsPair g2 TO a b := b2.extBut _ _ D.a8 (k1' _ _ D.a2 hTO)
  refine wpAny_bind (wpAny_seqItems t2 rfl (wpAny_bind (wpAny_updateSeq_pair t2 fun g3 t3 b3 => wpAny_bind (wpAny_letGo (wpAny_pure ?_)))))
  have k3 : ∀ c o, c ≠ z -> c ≠ TO -> c ≠ i1 -> s.heap.get? c = some o -> g3.get? c = some o := fun c o n1 n2 n3 e => b3.extBut c o n2 (b2.extBut c o n3 (k1' c o n1 e))
  refine wpAny_bind (wpAny_bind (wpAny_onRaise ?_)); show wpAny _ _ (Builtin.SmallTypes.nextOf (.ref i2) >>= _) _ _ _
  refine wpAny_bind (vf (s := { s with heap := g3 }) hh (h2.of fun o e => k3 _ o D.a4 (Ne.symm D.a9) (Ne.symm D.b1) e) (q2.of fun o e => k3 _ o D2.c1 D2.c2 D2.c3 e) hy fun g4 e b4 he => ?_)
  obtain ⟨oe, ho, hc⟩ := he
  have z4 : IsZip g4 z TI TO .ellipsis := b4 _ _ (Ne.symm D.a4) (b3.extBut _ _ (Ne.symm D.a2) (b2.extBut _ _ (Ne.symm D.a3) z1))
  have nz : e ≠ z := fun q => by subst q; rw [z4] at ho; cases ho; simp at hc
  refine wpAny_setField_rec z4 (by simp) fun g5 _ b5 => wpAny_bind (wpAny_isInstance (T := "StopIteration") (b := true) ⟨oe, b5.extBut _ _ nz ho, hc⟩ isSubtype_stop ?_)
  exact wpAny_pure (hQ g5 fun c o n1 n2 n3 n4 q => b5.extBut c o n1 (b4 c o n4 (k3 c o n1 n2 n3 q)))
theorem va {k : Bool} {a : Addr} {Q : Value -> Shared -> Prop} (q : SSq k s.heap a xs) (hQ : Q (.ref s.heap.objs.size) { s with heap := s.heap.push { cls := .type (eK k), data := .fields #[.ref a, .int 0 0] } }) : wpAny (model prog w) A (pyIter (.ref a)) Q E s := by
 cases k with
 | true => exact wpAny_pyIter_list q hQ
 | false => exact wpAny_pyIter_tuple q hQ
end
abbrev zp1 (k1 : Bool) (h : Heap) (l1 : Addr) : Heap := h.push { cls := .type (eK k1), data := .fields #[.ref l1, .int 0 0] }
abbrev zp2 (k1 k2 : Bool) (h : Heap) (l1 l2 : Addr) : Heap := (zp1 k1 h l1).push { cls := .type (eK k2), data := .fields #[.ref l2, .int 0 0] }
abbrev zp3 (k1 k2 : Bool) (h : Heap) (l1 l2 : Addr) : Heap := (zp2 k1 k2 h l1 l2).push { cls := .type "tuple", data := .seq #[.ref h.objs.size, .ref (zp1 k1 h l1).objs.size] }
abbrev zp4 (k1 k2 : Bool) (h : Heap) (l1 l2 : Addr) : Heap := (zp3 k1 k2 h l1 l2).push { cls := .type "tuple", data := .seq #[.none, .none] }
abbrev zp5 (k1 k2 : Bool) (h : Heap) (l1 l2 : Addr) : Heap := (zp4 k1 k2 h l1 l2).push { cls := .type "zip", data := .fields #[.none, .bool false, .bool false, .ref (zp2 k1 k2 h l1 l2).objs.size, .ref (zp3 k1 k2 h l1 l2).objs.size] }
theorem yY (k1 k2 : Bool) (l1 l2 : Addr) (xs ys : Array Value) : Meets (Builtin.«zip.__new__» ⟨[.type "zip", .ref l1, .ref l2], []⟩) (fun _ R s => SSq k1 s.heap l1 xs /\ SSq k2 s.heap l2 ys /\ R (.ok (.ret (.ref (zp4 k1 k2 s.heap l1 l2).objs.size))) { s with heap := zp5 k1 k2 s.heap l1 l2 }) :=
 .of_wp fun prog w A R s h => by
  obtain ⟨hp, g, d, tk, os⟩ := s; obtain ⟨q1, q2, h⟩ := h; have hsub := sub_zip
  have p1 : SSq k1 (Shared.heap ⟨hp, g, d, tk, os⟩) l1 xs := q1
  have p2 : SSq k2 (Shared.heap ⟨hp.push { cls := .type (eK k1), data := .fields #[.ref l1, .int 0 0] }, g, d, tk, os⟩) l2 ys := q2.of fun o e => Heap.get?_push_of_some _ e
  wp_walk using va p1, va p2
  exact ⟨_, rfl, h⟩
section
variable {prog : Program} {w : World} {A : Around} {E : Value -> Shared -> Prop} {s : Shared} {k1 k2 : Bool} {l1 l2 : Addr} {xs ys : Array Value}
theorem yD {Q : Value -> Shared -> Prop} (q1 : SSq k1 s.heap l1 xs) (q2 : SSq k2 s.heap l2 ys)
  (hQ : ∀ h', ZSt k1 k2 (s.heap.objs.size + 4) (s.heap.objs.size + 2) (s.heap.objs.size + 3) s.heap.objs.size (s.heap.objs.size + 1) l1 l2 0 h' -> (∀ c o, s.heap.get? c = some o -> h'.get? c = some o) -> Q (.ref (s.heap.objs.size + 4)) { s with heap := h' }) :
  wpAny (model prog w) A (call (.type "zip") [.ref l1, .ref l2]) Q E s := by
 refine callType_new F.called_zip (by decide) (F.typeCall_zip_2 _ _) (F.newCall_zip_2 _ _) (fun obj => F.args_object_init_3 obj _ _) F.entry_zip_new (yY k1 k2 l1 l2 xs ys) ⟨q1, q2, ?_⟩
 have n1 : (zp1 k1 s.heap l1).objs.size = s.heap.objs.size + 1 := Heap.size_push ..
 have n2 : (zp2 k1 k2 s.heap l1 l2).objs.size = s.heap.objs.size + 2 := by rw [Heap.size_push, n1]
 have n3 : (zp3 k1 k2 s.heap l1 l2).objs.size = s.heap.objs.size + 3 := by rw [Heap.size_push, n2]
 have n4 : (zp4 k1 k2 s.heap l1 l2).objs.size = s.heap.objs.size + 4 := by rw [Heap.size_push, n3]
 have up5 : ∀ c o, (zp4 k1 k2 s.heap l1 l2).get? c = some o -> (zp5 k1 k2 s.heap l1 l2).get? c = some o := fun c o e => Heap.get?_push_of_some _ e
 have up4 : ∀ c o, (zp3 k1 k2 s.heap l1 l2).get? c = some o -> (zp5 k1 k2 s.heap l1 l2).get? c = some o := fun c o e => up5 c o (Heap.get?_push_of_some _ e)
 have up3 : ∀ c o, (zp2 k1 k2 s.heap l1 l2).get? c = some o -> (zp5 k1 k2 s.heap l1 l2).get? c = some o := fun c o e => up4 c o (Heap.get?_push_of_some _ e)
 have up2 : ∀ c o, (zp1 k1 s.heap l1).get? c = some o -> (zp5 k1 k2 s.heap l1 l2).get? c = some o := fun c o e => up3 c o (Heap.get?_push_of_some _ e)
 have g5 : (zp5 k1 k2 s.heap l1 l2).get? (zp4 k1 k2 s.heap l1 l2).objs.size = some _ := Heap.get?_push_size _ rfl
 have g4 := up5 _ _ (Heap.get?_push_size (zp3 k1 k2 s.heap l1 l2) (o := { cls := .type "tuple", data := .seq #[.none, .none] }) rfl)
 have g3 := up4 _ _ (Heap.get?_push_size (zp2 k1 k2 s.heap l1 l2) (o := { cls := .type "tuple", data := .seq #[.ref s.heap.objs.size, .ref (zp1 k1 s.heap l1).objs.size] }) rfl)
 have g2 := up3 _ _ (Heap.get?_push_size (zp1 k1 s.heap l1) (o := { cls := .type (eK k2), data := .fields #[.ref l2, .int 0 0] }) rfl)
 have g1 := up2 _ _ (Heap.get?_push_size s.heap (o := { cls := .type (eK k1), data := .fields #[.ref l1, .int 0 0] }) rfl)
 have hQ' := hQ (zp5 k1 k2 s.heap l1 l2)
 rw [n2, n3, n4] at g5; rw [n3] at g4; rw [n1, n2] at g3; rw [n1] at g2
 have sit : ∀ {k : Bool} {h : Heap} {it a : Addr}, h.get? it = some { cls := .type (eK k), data := .fields #[.ref a, .int 0 0] } -> SIt k h it a 0 := fun {k h it a} e => by
  cases k with
  | true => exact ⟨_, e, rfl, rfl⟩
  | false => exact ⟨_, e, rfl, rfl⟩
 show _ /\ _
 rw [n4]
 exact ⟨⟨_, g5, rfl⟩, hQ' ⟨g5, g3, ⟨_, _, g4⟩, sit g1, sit g2⟩ fun c o e => up2 c o (Heap.get?_push_of_some _ e)⟩
end
end PZ
namespace PD
open PySem PySem.Spec PyProof.Rows L2 PZ
def SqK (K : PySem.W.Frag) : Bool -> Hp -> Addr -> List V -> Prop
 | true => SqL K
 | false => SqT K
section
variable {X : Cx} {pins : List (Addr × Obj)} {σ : St} {H : Hp} {s : Shared} {k : Bool} {a : Addr} {xs : List V}
theorem SqK.list (I : Inv X pins σ H s) (h : SqK X.K k H a xs) : ∃ its : List Value, Vals xs its /\ SSq k s.heap a its.toArray := by
 cases k with
 | true =>
  obtain ⟨its, r, p, _⟩ := I.list h
  exact ⟨its, r, p.isList⟩
 | false =>
  obtain ⟨its, r, p, _⟩ := I.tuple h
  exact ⟨its, r, p⟩
theorem SqK.inj (I : Inv X pins σ H s) {ys : List V} (h : SqK X.K k H a xs) (h' : SqK X.K k H a ys) : xs = ys := by
 cases k with
 | true => exact I.list_inj h h'
 | false => exact I.tuple_inj h h'
theorem SqK.ne (I : Inv X pins σ H s) {b : Addr} (f : cZ X pins H b) (h : SqK X.K k H a xs) : a ≠ b := fun e => by
 subst e
 obtain ⟨f0, f1, f2, f3, f4, f5⟩ := f
 have kn : ∀ o, X.K.lookup a = some o -> False := fun o q => by
  have hb := I.ok.mod.kin a o q
  rcases f3 with z | z
  ·exact I.ok.noex a o hb z
  ·exact absurd (Nat.lt_of_lt_of_le (Heap.lt_size (I.ok.bs a o hb).1) z) (Nat.lt_irrefl _)
 cases k with
 | true =>
  rcases h with (h | ⟨o, h⟩) | ⟨o, its, n, h, _⟩
  ·rw [f0] at h; cases h
  ·rw [f0] at h; cases h
  ·exact kn o h
 | false =>
  rcases h with (h | ⟨o, h⟩) | ⟨o, its, n, h, _⟩
  ·rw [f0] at h; cases h
  ·rw [f0] at h; cases h
  ·exact kn o h
end
def Itz (K : PySem.W.Frag) (k1 k2 : Bool) (a b : Addr) : It :=
 ⟨fun i H => ∃ xs ys x y, SqK K k1 H a xs /\ SqK K k2 H b ys /\ xs[i]? = some x /\ ys[i]? = some y,
  fun i H v H' => ∃ T x y, v = .ref T /\ H T = none /\ H' = L2.upd H T (.tup [x, y]) /\ (∀ xs, SqK K k1 H a xs -> xs[i]? = some x) /\ ∀ ys, SqK K k2 H b ys -> ys[i]? = some y,
  fun i H => ∃ xs ys, SqK K k1 H a xs /\ SqK K k2 H b ys /\ (xs[i]? = none ∨ ys[i]? = none)⟩
theorem uH {P : Program} {w : World} {K : PySem.W.Frag} {es : List Expr} {kt : Nat} {tp : Pos} (k1 k2 : Bool) (a b z TI TO i1 i2 : Addr) (D : Ap z TI TO i1 i2) :
  Turn P w K (.Tuple es kt tp) (Itz K k1 k2 a b) [z, TI, TO, i1, i2] z (fun i h => ZSt k1 k2 z TI TO i1 i2 a b i h) where
 mem := by simp
 obj := fun i h st c hc => by
  obtain ⟨hz, hTI, ⟨x, y, hTO⟩, s1, s2⟩ := st
  simp only [List.mem_cons, List.not_mem_nil, or_false] at hc
  rcases hc with e | e | e | e | e <;> subst e
  ·exact ⟨_, hz, fun v q => by cases q⟩
  ·exact ⟨_, hTI, fun v q => by cases q⟩
  ·exact ⟨_, hTO, fun v q => by cases q⟩
  ·obtain ⟨o, q1, _, q2⟩ := s1.obj
   exact ⟨o, q1, fun v q => by rw [q2] at q; cases q⟩
  ·obtain ⟨o, q1, _, q2⟩ := s2.obj
   exact ⟨o, q1, fun v q => by rw [q2] at q; cases q⟩
 keep := fun i h h' st kp => by
  obtain ⟨hz, hTI, ⟨x, y, hTO⟩, s1, s2⟩ := st
  exact ⟨kp z (by simp) _ hz, kp TI (by simp) _ hTI, ⟨x, y, kp TO (by simp) _ hTO⟩, s1.of fun o e => kp i1 (by simp) o e, s2.of fun o e => kp i2 (by simp) o e⟩
 item := by
  intro X hP hw hK hc i pins s σ H E I hf st hg
  subst hP hw hK
  obtain ⟨xs, ys, x, y, q1, q2, hx, hy⟩ := hg
  obtain ⟨us, r1, p1⟩ := q1.list I
  obtain ⟨ws, r2, p2⟩ := q2.list I
  obtain ⟨u, hu, ru⟩ := r1.get hx
  obtain ⟨v, hv, rv⟩ := r2.get hy
  have out : ∀ {k : Bool} {l : Addr} {zs : List V}, SqK X.K k H l zs -> Out z TO i1 i2 l := fun q => ⟨q.ne I (hf z (by simp)), q.ne I (hf TO (by simp)), q.ne I (hf i1 (by simp)), q.ne I (hf i2 (by simp))⟩
  refine yE D (out q1) (out q2) st p1 p2 (x := u) (y := v) (by simpa using hu) (by simpa using hv) fun h' z1 ti to s1 s2 pr kp => ⟨_, rfl, wpAny_letOwnedTupleGo_zip z1 fun h'' z2 sb => ?_⟩
  have sz : s.heap.objs.size <= s.heap.objs.size := Nat.le_refl _
  have nz : s.heap.objs.size ≠ z := Nat.ne_of_gt (Heap.lt_size st.z)
  have nT : H s.heap.objs.size = none := I.hok.fresh sz
  have kp2 : ∀ c o, c ∉ [z, TI, TO, i1, i2] -> s.heap.get? c = some o -> h''.get? c = some o := fun c o n e => by
   simp only [List.mem_cons, List.not_mem_nil, or_false, not_or] at n
   exact sb.extBut c o n.1 (kp c o n.1 n.2.2.1 n.2.2.2.1 n.2.2.2.2 e)
  have st2 : ZSt k1 k2 z TI TO i1 i2 a b (i + 1) h'' := ⟨z2, sb.extBut _ _ D.a1 ti, ⟨_, _, sb.extBut _ _ D.a2 to⟩, s1.of fun o e => sb.extBut _ o D.a3 e, s2.of fun o e => sb.extBut _ o D.a4 e⟩
  have pr2 : IsPair h'' s.heap.objs.size u v := sb.extBut _ _ nz pr
  have lo : ∀ c ∈ [z, TI, TO, i1, i2], c ≠ s.heap.objs.size := fun c hc e => by
   have hlt : c < s.heap.objs.size := by
    obtain ⟨hz, hTI, ⟨x', y', hTO⟩, t1, t2⟩ := st
    simp only [List.mem_cons, List.not_mem_nil, or_false] at hc
    rcases hc with q | q | q | q | q <;> subst q
    ·exact Heap.lt_size hz
    ·exact Heap.lt_size hTI
    ·exact Heap.lt_size hTO
    ·obtain ⟨o, q1, _⟩ := t1.obj; exact Heap.lt_size q1
    ·obtain ⟨o, q1, _⟩ := t2.obj; exact Heap.lt_size q1
   rw [e] at hlt
   exact Nat.lt_irrefl _ hlt
  refine ⟨.ref s.heap.objs.size, L2.upd H s.heap.objs.size (.tup [x, y]), ?_, rfl, ⟨_, x, y, rfl, nT, rfl, fun xs' q => by rw [q.inj I q1]; exact hx, fun ys' q => by rw [q.inj I q2]; exact hy⟩, st2, fun c hc => by rw [ar (lo c hc)]; exact (hf c hc).1⟩
  have nch : ∀ c o, H c = some o -> c ∉ [z, TI, TO, i1, i2] := fun c o e hc => by
   have := (hf c hc).1
   rw [e] at this
   cases this
  refine L2.Inv.step (s := s) (h' := h'') (g' := s.gens) (d' := s.drawn) (t' := s.toks) (ch := [z, TI, TO, i1, i2]) I (fun c hc => ?_) (fun c o _ _ n e _ => kp2 c o n e) (fun c o _ _ n e _ => ⟨o.slots, kp2 c o n e⟩) (fun c o _ e n => by rw [ar (Nat.ne_of_lt (Heap.lt_size e))]; exact n) (fun c o n e => ⟨o, kp2 c o n e⟩)
   (fun c ls e => by rw [ar (aH e nT)]; exact e) (fun c o ls e => by rw [ar (aH e nT)]; exact e) (fun c ps e => ⟨#[], by rw [ar (aH e nT), e]; simp⟩) (fun m hm => ?_) (fun c o e => ?_) I.bare
  ·obtain ⟨f0, f1, f2, f3, f4, f5⟩ := hf c hc
   exact ⟨f3, f1, f4, f5⟩
  ·obtain ⟨o, es', ep, ho, r⟩ := hm
   exact ⟨o, es', ep, kp2 _ o (fun q => (hf _ q).2.1 rfl) ho, r⟩
  ·by_cases hcT : c = s.heap.objs.size
   ·subst hcT
    rw [aA] at e
    cases e
    exact ⟨by rw [sizeLine_eq]; show 2 <= 16777216; decide, [u, v], .cons ru (.cons rv .nil), ⟨_, pr2, rfl, _, rfl⟩⟩
   ·rw [ar hcT] at e
    refine (I.hok c o e).stay (fun d' o' hd q => kp2 d' o' ?_ q) (fun d' q => by rw [ar (aH q nT)]; exact q) fun d' ls q => by rw [ar (aH q nT)]; exact q
    rcases hd with q' | q'
    ·rw [q']; exact nch c o e
    ·exact nch d' _ q'
 done := by
  intro X hP hw hK hc i pins s σ H E I hf st hg
  subst hP hw hK
  obtain ⟨xs, ys, q1, q2, hend⟩ := hg
  obtain ⟨us, r1, p1⟩ := q1.list I
  obtain ⟨ws, r2, p2⟩ := q2.list I
  have out : ∀ {k : Bool} {l : Addr} {zs : List V}, SqK X.K k H l zs -> Out z TO i1 i2 l := fun q => ⟨q.ne I (hf z (by simp)), q.ne I (hf TO (by simp)), q.ne I (hf i1 (by simp)), q.ne I (hf i2 (by simp))⟩
  refine yF (I.ok.hd hc) D (out q1) (out q2) st p1 p2 (hend.imp (fun q => by simpa using r1.none_of q) fun q => by simpa using r2.none_of q) fun h' kp => ⟨rfl, ?_⟩
  have kp2 : ∀ c o, c ∉ [z, TI, TO, i1, i2] -> s.heap.get? c = some o -> h'.get? c = some o := fun c o n e => by
   simp only [List.mem_cons, List.not_mem_nil, or_false, not_or] at n
   exact kp c o n.1 n.2.2.1 n.2.2.2.1 n.2.2.2.2 e
  have nch : ∀ c o, H c = some o -> c ∉ [z, TI, TO, i1, i2] := fun c o e hc => by
   have := (hf c hc).1
   rw [e] at this
   cases this
  refine L2.Inv.step (s := s) (h' := h') (g' := s.gens) (d' := s.drawn) (t' := s.toks) (ch := [z, TI, TO, i1, i2]) I (fun c hc => ?_) (fun c o _ _ n e _ => kp2 c o n e) (fun c o _ _ n e _ => ⟨o.slots, kp2 c o n e⟩) (fun _ _ _ _ n => n) (fun c o n e => ⟨o, kp2 c o n e⟩) (fun _ _ e => e) (fun _ _ _ e => e) (fun c ps e => ⟨#[], by rw [e]; simp⟩) (fun m hm => ?_) (fun c o e => ?_) I.bare
  ·obtain ⟨f0, f1, f2, f3, f4, f5⟩ := hf c hc
   exact ⟨f3, f1, f4, f5⟩
  ·obtain ⟨o, es', ep, ho, r⟩ := hm
   exact ⟨o, es', ep, kp2 _ o (fun q => (hf _ q).2.1 rfl) ho, r⟩
  ·refine (I.hok c o e).stay (fun d' o' hd q => kp2 d' o' ?_ q) (fun _ q => q) fun _ _ q => q
   rcases hd with q' | q'
   ·rw [q']; exact nch c o e
   ·exact nch d' _ q'
 self := fun _ _ _ _ _ st h => wpAny_pyIter_zip st.z h
def cm : D -> Option (Bool × List D)
 | .lst _ ds => some (true, ds)
 | .tup ds => some (false, ds)
 | _ => none
section
variable {X : Cx}
theorem Den.seq {P : Bool -> Addr -> Prop} {H : Hp} {d : D} {v : V} {k : Bool} {ds : List D} (h : Den X.K P H d v) (e : cm d = some (k, ds)) : ∃ a vs, v = .ref a /\ SqK X.K k H a vs /\ af X.K P H ds vs ∧
  ∀ (P' : Bool -> Addr -> Prop) (H' : Hp), (∀ a vs, SqT X.K H a vs -> SqT X.K H' a vs) -> (∀ t a vs, ¬ P t a -> SqG X.K H t a vs -> ¬ P' t a /\ SqG X.K H' t a vs) -> SqK X.K k H' a vs := by
 cases d with
 | lst t es =>
  cases e
  obtain ⟨a, vs, e1, p, q, hd⟩ := h.lstG_
  exact ⟨a, vs, e1, q.1, hd, fun P' H' _ hL => (hL t a vs p q).2.1⟩
 | tup es =>
  cases e
  obtain ⟨a, vs, e1, q, hd⟩ := h.tup_
  exact ⟨a, vs, e1, q, hd, fun P' H' hT _ => hT a vs q⟩
 | non => cases e
 | bl _ => cases e
 | int _ => cases e
 | str _ => cases e
 | exc _ => cases e
def t8 (ta : DA) : DA := fun ρ R => ta ρ fun ds => ∃ d1 d2 k1 k2 xs ys, ds = [d1, d2] /\ cm d1 = some (k1, xs) /\ cm d2 = some (k2, ys) /\ R (List.zipWith (fun x y => D.tup [x, y]) xs ys)
theorem sk {es : List Expr} {kt : Nat} {tp : Pos} {a b : Expr} {ta : DA} {p pos : Pos} (hg : Gl X "zip") (hm : X.mg "zip" = none) (ha : PAD X [a, b] ta) (hs : starEach [a, b] X.env = (false, eval a X.env) :: starEach [b] X.env := by rfl) (hs2 : (backTo pos (starEach [b] X.env)).any (·.1) = false := by rfl) :
  PID X (.Tuple es kt tp) (.Call (.Name "zip" p) [a, b] [] pos) (t8 ta) := by
 intro pins s σ H W ρ R I r h
 refine Call_ (cN I hg hm boot_zip (PyProof.Rows.callWith_type1 (thn (ha pos pins s σ H W ρ _ I r h) fun us s1 ⟨vs, H1, ds, I1, r1, e1, hd, q1⟩ => ?_) hs hs2))
 obtain ⟨d1, d2, k1, k2, xs, ys, e, g1, g2, q⟩ := q1
 subst e
 obtain ⟨v1, v2, rfl, hd1, hd2⟩ := mw hd
 obtain ⟨l1, ws1, e2, sq1, dn1, up1⟩ := hd1.seq g1
 obtain ⟨l2, ws2, e3, sq2, dn2, up2⟩ := hd2.seq g2
 subst e2 e3
 cases r1 with
 | cons ra rr =>
  cases rr with
  | cons rb rr =>
   cases rr
   cases ra
   cases rb
   obtain ⟨us1, _, p1⟩ := sq1.list I1
   obtain ⟨us2, _, p2⟩ := sq2.list I1
   have nn : ∀ j : Nat, s1.heap.objs.size <= s1.heap.objs.size + j := fun j => Nat.le_add_right _ j
   refine yD p1 p2 fun h' Z kp => ?_
   refine wpAny_pyIter_zip Z.z ?_
   have Dz : Ap (s1.heap.objs.size + 4) (s1.heap.objs.size + 2) (s1.heap.objs.size + 3) s1.heap.objs.size (s1.heap.objs.size + 1) := by constructor <;> simp
   refine ⟨s1.heap.objs.size + 4, [s1.heap.objs.size + 4, s1.heap.objs.size + 2, s1.heap.objs.size + 3, s1.heap.objs.size, s1.heap.objs.size + 1], _, _, H1, _, rfl, I1.kept (t' := s1.toks) kp, e1, uH k1 k2 l1 l2 _ _ _ _ _ Dz, Z, fun c hc => ?_, ?_, q⟩
   ·have hc' : s1.heap.objs.size <= c := by
     simp only [List.mem_cons, List.not_mem_nil, or_false] at hc
     rcases hc with q | q | q | q | q <;> subst q <;> first | exact nn _ | exact Nat.le_refl _
    exact I1.fpOk hc' (I1.hok.fresh hc')
   ·intro P' H' hT hL hX i
    have k1' := up1 P' H' hT hL
    have k2' := up2 P' H' hT hL
    have n1 := dn1.len
    have n2 := dn2.len
    have hlen : (List.zipWith (fun x y => D.tup [x, y]) xs ys).length = min xs.length ys.length := List.length_zipWith
    refine ⟨fun hi => ?_, fun v H3 y hi => ?_, fun hi => ⟨ws1, ws2, k1', k2', ?_⟩⟩
    ·obtain ⟨x, hx, _⟩ := dn1.get (i := i) (d := xs[i]'(by omega)) (by simp)
     obtain ⟨y, hy, _⟩ := dn2.get (i := i) (d := ys[i]'(by omega)) (by simp)
     exact ⟨ws1, ws2, x, y, k1', k2', hx, hy⟩
    ·obtain ⟨T, x, y', e, nT, eH, hx, hy⟩ := y
     subst e eH
     obtain ⟨dx, g1', hx'⟩ := dn1.bf (hx ws1 k1')
     obtain ⟨dy, g2', hy'⟩ := dn2.bf (hy ws2 k2')
     have sm : ai H' (L2.upd H' T (.tup [x, y'])) := ai.upd nT
     refine ⟨sm, .tup [dx, dy], by simp [List.getElem?_zipWith, g1', g2'], Den.tup (SqT.of aA) (af.cons ((Den.map hT hL hX dx x hx').same sm) (af.one ((Den.map hT hL hX dy y' hy').same sm)))⟩
    ·by_cases hz : xs.length <= i
     ·exact .inl (List.getElem?_eq_none (by omega))
     ·exact .inr (List.getElem?_eq_none (by omega))
end
end PD
namespace PD
open PySem PySem.Spec PyProof.Rows L2
def PEF (X : Cx) (e : Expr) (t : DA) : Prop :=
 ∀ (pins : List (Addr × Obj)) (s : Shared) (σ : St) (H : Hp) (W : Own) (ρ : Ro) (Q : List D -> Prop), Inv X pins σ H s -> Rel X W H σ ρ -> t ρ Q →
  wpAny (model X.prog X.w) X.A (eval e X.env) (fun u s' => ∃ a vs H' ds, u = .ref a /\ Inv X pins σ H' s' /\ ai H H' /\ H a = none /\ X.K.lookup a = none /\ H' a = some (.lst vs) /\ af X.K (fun t b => W.bad t b ∨ b = a) H' ds vs /\ Q ds) X.xe s
def tR (t : DA) : DE := fun ρ Q => t ρ fun ds => Q (.lst true ds)
section
variable {X : Cx} {e : Expr} {t : DA} {pos : Pos}
theorem PEF.ped (h : PEF X e t) : PED X e (tR t) := by
 intro pins s σ H W ρ Q I r hw
 refine thn (h pins s σ H W ρ _ I r hw) fun u s1 ⟨a, vs, H', ds, e, I1, sm, n, k, ha, hd, q⟩ => ?_
 subst e
 exact ⟨.ref a, H', _, I1, rfl, sm, Den.lst (r.fresh n) (.new ha k) (hd.fewer fun _ _ z => .inl z), q⟩
theorem PEF.of {te : TE} (h : PE X e te) (k : ∀ σ H W ρ Q, Rel X W H σ ρ -> t ρ Q -> te σ H fun v H' => ∃ a vs ds H1, v = .ref a /\ ai H H1 /\ H1 a = none /\ H' = L2.upd H1 a (.lst vs) /\ af X.K W.bad H1 ds vs /\ Q ds) (hK : ∀ pins σ H s a vs, Inv X pins σ H s -> H a = some (.lst vs) -> X.K.lookup a = none) : PEF X e t := by
 intro pins s σ H W ρ Q I r hw
 refine thn (h pins s σ H _ I (k σ H W ρ Q r hw)) fun u s1 ⟨v, H', I1, rv, a, vs, ds, H1, e, sm, n, eH, hd, q⟩ => ?_
 subst e eH
 cases rv
 exact ⟨a, vs, _, ds, rfl, I1, sm.trans (ai.upd n), sm.free n, hK _ _ _ _ a vs I1 aA, aA, af.apart n (hK _ _ _ _ a vs I1 aA) hd, q⟩
theorem Inv.kno {pins : List (Addr × Obj)} {σ : St} {H : Hp} {s : Shared} {a : Addr} {o : HO} (I : Inv X pins σ H s) (h : H a = some o) : X.K.lookup a = none := by
 cases e : X.K.lookup a with
 | none => rfl
 | some ob =>
  have := (I.bs a ob (I.ok.mod.kin a ob e)).2
  rw [h] at this
  cases this
def uP (i : Nat) (t : DA) : DS := fun E ρ => t ρ fun ds => E.nx (ρ.set i (some (.own ds)))
end
mutual
def iX : D -> Bool
 | .tup ds => cH ds
 | .lst _ _ => false
 | _ => true
def cH : List D -> Bool
 | [] => true
 | d :: ds => iX d && cH ds
end
mutual
def hW : D -> Bool
 | .tup ds => mq ds
 | .lst t ds => t && mq ds
 | _ => true
def mq : List D -> Bool
 | [] => true
 | d :: ds => hW d && mq ds
end
section
variable {K : PySem.W.Frag} {P P' : Bool -> Addr -> Prop} {H : Hp}
mutual
theorem Den.nol : ∀ (d : D) (v : V), iX d = true -> Den K P H d v -> Den K P' H d v
 | .non, _, _, h => by simpa only [Den] using h
 | .bl _, _, _, h => by simpa only [Den] using h
 | .int _, _, _, h => by simpa only [Den] using h
 | .str _, _, _, h => by simpa only [Den] using h
 | .exc _, _, _, h => by simpa only [Den] using h
 | .lst _ _, _, n, _ => by rw [iX] at n; cases n
 | .tup ds, _, n, h => by
  rw [iX] at n
  simp only [Den] at h ⊢
  obtain ⟨a, vs, e, q, r⟩ := h
  exact ⟨a, vs, e, q, af.nol ds vs n r⟩
theorem af.nol : ∀ (ds : List D) (vs : List V), cH ds = true -> af K P H ds vs -> af K P' H ds vs
 | [], _, _, h => by simpa only [af] using h
 | d :: ds, _, n, h => by
  rw [cH, Bool.and_eq_true] at n
  simp only [af] at h ⊢
  obtain ⟨v, r, e, h1, h2⟩ := h
  exact ⟨v, r, e, Den.nol d v n.1 h1, af.nol ds r n.2 h2⟩
end
end
section
variable {X : Cx}
variable {e : Expr} {te : DE} {tt : DT} {ta : DA}
def uT (i : Nat) (t : DE) : DE := fun ρ Q => ∃ ds, ρ[i]? = some (some (.own ds)) /\ t (ρ.set i (some (.val (.lst false ds)))) fun d => hW d = true /\ Q d
def rB (i : Nat) (t : DT) : DT := fun ρ Q => ∃ ds, ρ[i]? = some (some (.own ds)) /\ t (ρ.set i (some (.val (.lst false ds)))) Q
def rz (i : Nat) (t : DA) : DA := fun ρ Q => ∃ ds, ρ[i]? = some (some (.own ds)) /\ t (ρ.set i (some (.val (.lst false ds)))) fun ys => mq ys = true /\ Q ys
end
section
variable {X : Cx} {pos : Pos}
theorem af.set {K : PySem.W.Frag} {P : Bool -> Addr -> Prop} {H : Hp} {d : D} {v : V} (hd : Den K P H d v) : ∀ {ds : List D} {vs : List V} (j : Nat), af K P H ds vs -> af K P H (ds.set j d) (vs.set j v)
 | [], _, _, h => by simp only [af] at h; subst h; exact af.nil
 | x :: r, _, 0, h => by
  simp only [af] at h
  obtain ⟨u, w, rfl, h1, h2⟩ := h
  exact af.cons hd h2
 | x :: r, _, j + 1, h => by
  simp only [af] at h
  obtain ⟨u, w, rfl, h1, h2⟩ := h
  exact af.cons h1 (af.set hd j h2)
theorem af.take {K : PySem.W.Frag} {P : Bool -> Addr -> Prop} {H : Hp} : ∀ {ds : List D} {vs : List V} (n : Nat), af K P H ds vs -> af K P H (ds.take n) (vs.take n)
 | _, _, 0, _ => by simp only [List.take_zero]; exact af.nil
 | [], _, _ + 1, h => by simp only [af] at h; subst h; exact af.nil
 | x :: r, _, n + 1, h => by
  simp only [af] at h
  obtain ⟨u, w, rfl, h1, h2⟩ := h
  exact af.cons h1 (af.take n h2)
theorem af.drop {K : PySem.W.Frag} {P : Bool -> Addr -> Prop} {H : Hp} : ∀ {ds : List D} {vs : List V} (n : Nat), af K P H ds vs -> af K P H (ds.drop n) (vs.drop n)
 | _, _, 0, h => by simpa only [List.drop_zero] using h
 | [], _, _ + 1, h => by simp only [af] at h; subst h; exact af.nil
 | x :: r, _, n + 1, h => by
  simp only [af] at h
  obtain ⟨u, w, rfl, h1, h2⟩ := h
  exact af.drop n h2
def ro (i : Nat) (tk te : DE) : DS := fun E ρ => ∃ ds, ρ[i]? = some (some (.own ds)) /\ te ρ fun d => tk ρ fun k => ∃ n j, k = .int n /\ ixN ds.length n = some j /\ E.nx (ρ.set i (some (.own (ds.set j d))))
end
end PD
namespace PD
open PySem PySem.Spec PyProof.Rows L2
section
variable {X : Cx} {pos : Pos}
def uQ (i : Nat) (C : List D -> Prop) (f : List D -> List D) : DS := fun E ρ => ∃ ds, ρ[i]? = some (some (.own ds)) /\ C ds /\ E.nx (ρ.set i (some (.own (f ds))))
theorem af.dropLast {K : PySem.W.Frag} {P : Bool -> Addr -> Prop} {H : Hp} {ds : List D} {vs : List V} (h : af K P H ds vs) : af K P H ds.dropLast vs.dropLast := by
 rw [List.dropLast_eq_take, List.dropLast_eq_take, h.len]
 exact h.take _
variable {e : Expr} {te : DE} {p : Pos}
def qk (te : DE) : DA := fun ρ Q => te ρ fun d => ∃ k ds, cm d = some (k, ds) /\ Q ds
theorem mY {K : PySem.W.Frag} {P : Bool -> Addr -> Prop} {H : Hp} {d : D} {v : V} {k : Bool} {ds : List D} (h : Den K P H d v) (e : cm d = some (k, ds)) : ∃ a vs, v = .ref a /\ (SqL K H a vs ∨ SqT K H a vs) /\ af K P H ds vs := by
 cases d with
 | lst t es =>
  cases e
  obtain ⟨a, vs, e1, p, q, hd⟩ := h.lst_
  exact ⟨a, vs, e1, .inl q, hd⟩
 | tup es =>
  cases e
  obtain ⟨a, vs, e1, q, hd⟩ := h.tup_
  exact ⟨a, vs, e1, .inr q, hd⟩
 | non => cases e
 | bl _ => cases e
 | int _ => cases e
 | str _ => cases e
 | exc _ => cases e
theorem vC (hg : Gl X "list") (hm : X.mg "list" = none) (he : PED X e te) (hst : starEach [e] X.env = (false, eval e X.env) :: starEach [] X.env := by rfl) (hpl : (backTo pos (starEach [] X.env)).any (·.1) = false := by rfl) : PEF X (.Call (.Name "list" p) [e] [] pos) (qk te) := by
 refine PEF.of (lU iN hg hm boot_list (bK he.pe eM hst) (by decide) (by decide) hst hpl) (fun σ H W ρ Q r h => ?_) fun _ _ _ _ _ _ I h => Inv.kno I h
 refine ⟨W, ρ, _, r, h, fun v H' d e1 hd q => ?_⟩
 obtain ⟨k, ds, es, q⟩ := q
 obtain ⟨a, vs, ev, hq, hds⟩ := mY hd es
 subst ev
 exact ⟨a, vs, rfl, hq, fun l hl => ⟨l, vs, ds, H', rfl, e1, hl, rfl, hds, q⟩⟩
theorem bF {K : PySem.W.Frag} {P : Bool -> Addr -> Prop} {H : Hp} : ∀ {ns : List Int} {vs : List V}, af K P H (ns.map D.int) vs -> vs = ns.map V.int
 | [], _, h => by simpa only [List.map_nil, af] using h
 | n :: r, _, h => by
  simp only [List.map_cons, af] at h
  obtain ⟨v, w, rfl, h1, h2⟩ := h
  rw [h1.int_, bF h2]
  rfl
theorem mK (hc : X.calm = true) : cR X (.builtin "sum") (fun ds Q => ∃ (t : Bool) (ns : List Int), ds = [.lst t (ns.map D.int)] /\ Q (.int ns.sum)) := by
 intro pins s σ H W ds vs us Q I tr r hd q
 obtain ⟨t, ns, e, q⟩ := q
 subst e
 obtain ⟨v, rfl, h1⟩ := jg hd
 obtain ⟨a, ws, ev, _, hq, hw⟩ := h1.lst_
 subst ev
 cases r with
 | cons r1 rr =>
  cases rr
  cases r1
  obtain ⟨its, rv, pl, _⟩ := I.list hq
  rw [bF hw] at rv
  have ia := intsAre_of rv
  obtain ⟨xs, ex⟩ := ia.allInts.items
  have hl : s.heap.IsList a (intItems xs) := by rw [<- ex]; exact pl.isList
  refine sum_intListG (I.ok.hd hc) hl fun h' tk t' kp => ?_
  have es : preSum (numAt xs) xs.size = ns.sum := by
   rw [preSum_eq, List.take_of_length_le (by simp), <- nums_intItems, <- ex, show its.toArray.toList = its from rfl, ia.numsOf]
  rw [es]
  exact ⟨.int ns.sum, H, _, I.kept kp, ⟨_, rfl⟩, ai.refl H, Den.int _, q⟩
def cutD (xs : List D) (lo hi : Option Int) : List D := (xs.drop (HT.sIx xs.length 0 lo)).take (HT.sIx xs.length xs.length hi - HT.sIx xs.length 0 lo)
theorem af.cut {K : PySem.W.Frag} {P : Bool -> Addr -> Prop} {H : Hp} {ds : List D} {vs : List V} (lo hi : Option Int) (h : af K P H ds vs) : af K P H (cutD ds lo hi) (iP vs lo hi) := by
 unfold cutD iP
 rw [h.len]
 exact (h.drop _).take _
abbrev DO := Ro -> (Option Int -> Prop) -> Prop
def PDO (X : Cx) (e : Option Expr) (t : DO) : Prop :=
 ∀ (pins : List (Addr × Obj)) (s : Shared) (σ : St) (H : Hp) (W : Own) (ρ : Ro) (Q : Option Int -> Prop), Inv X pins σ H s -> Rel X W H σ ρ -> t ρ Q →
  wpAny (model X.prog X.w) X.A (evalPart e X.env) (fun u s' => ∃ o H', Inv X pins σ H' s' /\ IsPart u o /\ ai H H' /\ Q o) X.xe s
def dO : DO := fun _ Q => Q none
def qi (te : DE) : DO := fun ρ Q => te ρ fun d => ∃ i, d = .int i /\ Q (some i)
theorem kO : PDO X none dO := by
 intro pins s σ H W ρ Q I r h
 rw [evalPart_none]
 exact wpAny_pure ⟨none, H, I, .none, ai.refl H, h⟩
theorem kP (he : PED X e te) : PDO X (some e) (qi te) := by
 intro pins s σ H W ρ Q I r h
 rw [evalPart_some]
 refine thn (he pins s σ H W ρ _ I r h) fun u s1 ⟨v, H1, d, I1, rv, e1, hd, i, ed, q⟩ => ?_
 subst ed
 have z := hd.int_
 subst z
 obtain ⟨t, rfl⟩ := rv
 exact ⟨some i, H1, I1, .int i t, e1, q⟩
variable {lo hi st : Option Expr} {tl th ts : DO} {p2 : Pos}
theorem og {Q : Value -> Shared -> Prop} {pins : List (Addr × Obj)} {s : Shared} {σ : St} {H : Hp} {W : Own} {ρ : Ro} {R : D -> Option Int -> Option Int -> Option Int -> Prop} (he : PED X e te) (hl : PDO X lo tl) (hh : PDO X hi th) (ht : PDO X st ts) (I : Inv X pins σ H s) (r : Rel X W H σ ρ)
  (h : te ρ fun d => tl ρ fun l => th ρ fun u => ts ρ fun k => R d l u k)
  (hk : ∀ (v : V) (vv vl vu vk : Value) (l u k : Option Int) (d : D) (sl : Addr) (H' : Hp) (s' : Shared), Inv X pins σ H' s' -> ai H H' -> RelV v vv -> Den X.K W.bad H' d v -> s'.heap.IsSliceOf sl vl vu vk -> IsPart vl l -> IsPart vu u -> IsPart vk k -> R d l u k →
   ∃ T id, typeLookup (.type T) "__getitem__" = pure (some (.builtin id)) /\ s'.TypeIs vv T /\ wpAny (model X.prog X.w) X.A (getItem vv (.ref sl)) Q X.xe s')
  (htail : ∀ vv sl, ∃ ops, subscripted (.Slice lo hi st p2) false vv sl = operate ops (getItem vv sl)) : wpAny (model X.prog X.w) X.A (eval (.Subscript e (.Slice lo hi st p2) pos) X.env) Q X.xe s := by
 refine Subscript_ (thn (he pins s σ H W ρ _ I r h) fun vv s1 ⟨v, H1, d, I1, rv, e1, hd, q1⟩ => ?_)
 have r1 := r.same e1
 refine wpAny_Slice (thn (hl pins s1 σ H1 W ρ _ I1 r1 q1) fun vl s2 ⟨l, H2, I2, pl, e2, q2⟩ => thn (hh pins s2 σ H2 W ρ _ I2 (r1.same e2) q2) fun vu s3 ⟨u, H3, I3, pu, e3, q3⟩ => thn (ht pins s3 σ H3 W ρ _ I3 ((r1.same e2).same e3) q3) fun vk s4 ⟨k, H4, I4, pk, e4, q4⟩ => ?_)
 have I5 : Inv X pins σ H4 { s4 with heap := s4.heap.push { cls := .type "slice", data := .fields #[vl, vu, vk] } } := I4.kept (t' := s4.toks) fun b ob q => Heap.get?_push_of_some _ q
 obtain ⟨T, id, hT, ht', hg⟩ := hk v vv vl vu vk l u k d s4.heap.objs.size H4 _ I5 (e1.trans (e2.trans (e3.trans e4))) rv (hd.same (e2.trans (e3.trans e4))) (Heap.IsSliceOf.new ..) pl pu pk q4
 show wpAny (model X.prog X.w) X.A (subscriptTail e (.Slice lo hi st p2) vv (.ref s4.heap.objs.size)) Q X.xe _
 obtain ⟨ops, ho⟩ := htail vv (.ref s4.heap.objs.size)
 exact tail_any (ops := ops) ht' hT hg ho
def tY (te : DE) (tl th : DO) : DA := fun ρ Q => te ρ fun d => tl ρ fun l => th ρ fun u => ∃ t ds, d = .lst t ds /\ Q (cutD ds l u)
def tZ (te : DE) (tl th : DO) : DE := fun ρ Q => te ρ fun d => tl ρ fun l => th ρ fun u => ∃ ds, d = .tup ds /\ ¬ (HT.sIx ds.length 0 l = 0 /\ HT.sIx ds.length ds.length u = ds.length) /\ Q (.tup (cutD ds l u))
theorem oC {pins : List (Addr × Obj)} {s : Shared} {σ : St} {H H' : Hp} {W : Own} {v : V} {vv vl vu vk : Value} {l u k : Option Int} {tg : Bool} {ds : List D} {sl : Addr} (f : List V -> List V) (g : List D -> List D) (I : Inv X pins σ H' s) (r : Rel X W H' σ ρ) (sm : ai H H') (rv : RelV v vv) (hd : Den X.K W.bad H' (.lst tg ds) v) (hs : s.heap.IsSliceOf sl vl vu vk) (pl : IsPart vl l) (pu : IsPart vu u) (pk : IsPart vk k) (k0 : k ≠ some 0)
  (hp : ∀ its : List Value, ∃ g' : List Value -> List Value, slicePick its.toArray l u k = (g' its).toArray /\ ∀ vs, Vals vs its -> Vals (f vs) (g' its) /\ (f vs).length <= vs.length) (hg : ∀ vs, af X.K W.bad H' ds vs -> af X.K W.bad H' (g ds) (f vs)) {Q : List D -> Prop} (q : Q (g ds)) :
  ∃ T id, typeLookup (.type T) "__getitem__" = pure (some (.builtin id)) /\ s.TypeIs vv T /\ wpAny (model X.prog X.w) X.A (getItem vv (.ref sl)) (fun uu s' => ∃ a vs H'' ds, uu = .ref a /\ Inv X pins σ H'' s' /\ ai H H'' /\ H a = none /\ X.K.lookup a = none /\ H'' a = some (.lst vs) /\ af X.K (fun t b => W.bad t b ∨ b = a) H'' ds vs /\ Q ds) X.xe s := by
 obtain ⟨a, vs, ev, _, hq, hds⟩ := hd.lst_
 subst ev
 cases rv
 obtain ⟨its, rr, ht, hz⟩ := I.list hq
 have hlen := rr.length
 refine ⟨"list", _, slot_list_getitem.lookup, ht.isList.typeIs, ?_⟩
 refine wpAny_getItem_list_slice ht.isList hs pl pu pk k0 ?_ (by rw [List.size_toArray] <;> omega)
 obtain ⟨g', e, hv⟩ := hp its
 rw [e]
 obtain ⟨rv', hl'⟩ := hv vs rr
 have hf : H' s.heap.objs.size = none := I.hok.fresh (Nat.le_refl _)
 refine ⟨s.heap.objs.size, f vs, _, g ds, rfl, I.laid (t' := s.toks) (o := .lst (f vs)) (fun b ob q => Heap.get?_push_of_some _ q) (Nat.le_refl _) ⟨Nat.le_trans hl' hz, _, 0, rv', Heap.get?_push_size _ rfl⟩, sm.trans (ai.upd hf), sm.free hf, Inv.kfresh I, aA, af.apart hf (Inv.kfresh I) (hg vs hds), q⟩
theorem ub (he : PED X e te) (hl : PDO X lo tl) (hh : PDO X hi th) : PEF X (.Subscript e (.Slice lo hi none p2) pos) (tY te tl th) := by
 intro pins s σ H W ρ Q I r h
 refine og (st := none) (ts := dO) (R := fun d l u k => k = none /\ ∃ t ds, d = .lst t ds /\ Q (cutD ds l u)) he hl hh kO I r ?_ ?_ (fun _ _ => ⟨_, rfl⟩)
 ·have e1 : (fun d => tl ρ fun l => th ρ fun u => dO ρ fun k => k = none /\ ∃ t ds, d = D.lst t ds /\ Q (cutD ds l u)) = fun d => tl ρ fun l => th ρ fun u => ∃ t ds, d = D.lst t ds /\ Q (cutD ds l u) := by
   funext d
   congr 1
   funext l
   congr 1
   funext u
   exact propext ⟨fun z => z.2, fun z => ⟨rfl, z⟩⟩
  rw [e1]
  exact h
 ·intro v vv vl vu vk l u k d sl H' s' I' sm rv hd hs pl pu pk hR
  obtain ⟨ek, t, ds, ed, q⟩ := hR
  subst ek ed
  exact oC (fun vs => iP vs l u) (fun ds => cutD ds l u) I' (r.same sm) sm rv hd hs pl pu pk (by simp) (fun its => ⟨fun its => (its.drop (HT.sIx its.length 0 l)).take (HT.sIx its.length its.length u - HT.sIx its.length 0 l), mj its l u, fun vs rr => ⟨by unfold iP; rw [rr.length]; exact (rr.drop _).take _, jy vs l u⟩⟩) (fun vs hds => hds.cut l u) q
def wL (te : DE) : DA := fun ρ Q => te ρ fun d => ∃ t ds, d = .lst t ds /\ Q ds.reverse
end
end PD
namespace PD
open PySem PySem.Spec PyProof.Rows L2
section
variable {prog : Program} {w : World} {A : Around} {E : Value -> Shared -> Prop} {s : Shared} {p q : Addr} {us ws : List Value} {Q : Value -> Shared -> Prop}
theorem yH (hp : s.heap.IsList p us.toArray) (hq : s.heap.IsList q ws.toArray) (hz : us.length + ws.length <= sizeLine)
  (h : Q (.ref s.heap.objs.size) { s with heap := s.heap.push { cls := .type "list", data := .seq (us ++ ws).toArray } }) : wpAny (model prog w) A (binaryOp .Add (.ref p) (.ref q)) Q E s := by
 obtain ⟨⟨c1, k1, x1, y1⟩, g1, g2, n1, g3⟩ := id hp
 obtain ⟨⟨c2, k2, x2, y2⟩, f1, f2, n2, f3⟩ := id hq
 simp only at g2 g3 f2 f3
 subst g2 g3 f2 f3
 refine concat_meets ⟨_, g1, rfl⟩ ⟨_, f1, rfl⟩ noFill_list_add seq_list_add PySem.F.slot_list_add PySem.F.entry_list_add (PySem.F.args_list_add_2 _ _) (list_addW p q us.toArray ws.toArray n1 n2 k1 k2 y1 y2 (by simpa using hz)) ⟨g1, f1, ?_⟩
 rw [show us.toArray ++ ws.toArray = (us ++ ws).toArray by simp]
 exact h
theorem yI (hp : IsTup s.heap p us.toArray) (hq : IsTup s.heap q ws.toArray) (hz : us.length + ws.length <= sizeLine) (h0 : us = [] -> Q (.ref q) s) (h1 : ws = [] -> Q (.ref p) s)
  (h : Q (.ref s.heap.objs.size) { s with heap := s.heap.push { cls := .type "tuple", data := .seq (us ++ ws).toArray } }) : wpAny (model prog w) A (binaryOp .Add (.ref p) (.ref q)) Q E s := by
 obtain ⟨⟨c1, k1, x1, y1⟩, g1, g2, n1, g3⟩ := id hp
 obtain ⟨⟨c2, k2, x2, y2⟩, f1, f2, n2, f3⟩ := id hq
 simp only at g2 g3 f2 f3
 subst g2 g3 f2 f3
 by_cases hv : us = []
 ·exact concat_meets ⟨_, g1, rfl⟩ ⟨_, f1, rfl⟩ noFill_tuple_add seq_tuple_add PySem.F.slot_tuple_add PySem.F.entry_tuple_add (PySem.F.args_tuple_add_2 _ _) (tuple_addW0 p q us.toArray ws.toArray n1 n2 k1 k2 y1 y2 (by simp [hv])) ⟨g1, f1, h0 hv⟩
 ·by_cases hw : ws = []
  ·exact concat_meets ⟨_, g1, rfl⟩ ⟨_, f1, rfl⟩ noFill_tuple_add seq_tuple_add PySem.F.slot_tuple_add PySem.F.entry_tuple_add (PySem.F.args_tuple_add_2 _ _) (tuple_addW1 p q us.toArray ws.toArray n1 n2 k1 k2 y1 y2 (by simpa using hv) (by simp [hw])) ⟨g1, f1, h1 hw⟩
  ·refine concat_meets ⟨_, g1, rfl⟩ ⟨_, f1, rfl⟩ noFill_tuple_add seq_tuple_add PySem.F.slot_tuple_add PySem.F.entry_tuple_add (PySem.F.args_tuple_add_2 _ _) (tuple_addW2 p q us.toArray ws.toArray n1 n2 k1 k2 y1 y2 (by simpa using hv) (by simpa using hw) (by simpa using hz)) ⟨g1, f1, ?_⟩
   rw [show us.toArray ++ ws.toArray = (us ++ ws).toArray by simp]
   exact h
end
section
variable {X : Cx} {pos : Pos}
def cB : RD2 := fun x y Q => match x, y with
 | .int i, .int j => Q (.int (i + j))
 | .tup xs, .tup ys => xs.length + ys.length <= sizeLine /\ Q (.tup (xs ++ ys))
 | .lst _ xs, .lst _ ys => xs.length + ys.length <= sizeLine /\ Q (.lst true (xs ++ ys))
 | _, _ => False
theorem mD (i j : Int) (Q : D -> Prop) : cB (.int i) (.int j) Q = Q (.int (i + j)) := rfl
theorem qQ (xs ys : List D) (Q : D -> Prop) : cB (.tup xs) (.tup ys) Q = (xs.length + ys.length <= sizeLine /\ Q (.tup (xs ++ ys))) := rfl
theorem qP (t u : Bool) (xs ys : List D) (Q : D -> Prop) : cB (.lst t xs) (.lst u ys) Q = (xs.length + ys.length <= sizeLine /\ Q (.lst true (xs ++ ys))) := rfl
theorem vT {W : Own} {H : Hp} {t : Bool} {a : Addr} (tr : ∀ t a, W.bad t a -> ∃ o, H a = some o) (h : H a = none) : ¬ W.bad t a := fun z => by
 obtain ⟨o, q⟩ := tr _ _ z
 rw [h] at q
 cases q
theorem aX : OpD X (binaryOp .Add) cB := by
 intro pins s σ H W x y v u vv uu Q I tr rv ru hx hy q
 cases x <;> cases y <;> first | exact q.elim | skip
 ·exact xm pins s σ H W _ _ v u vv uu Q I tr rv ru hx hy ⟨_, _, rfl, rfl, q⟩
 ·rename_i xs ys
  obtain ⟨p, vs, e1, hq1, hd1⟩ := hx.tup_
  obtain ⟨p', vs', e2, hq2, hd2⟩ := hy.tup_
  subst e1 e2
  cases rv
  cases ru
  obtain ⟨its, r1, t1, _⟩ := I.tuple hq1
  obtain ⟨its', r2, t2, _⟩ := I.tuple hq2
  obtain ⟨hz, q⟩ := q
  have l1 := hd1.len
  have l2 := hd2.len
  have m1 := r1.length
  have m2 := r2.length
  have hz' : its.length + its'.length <= sizeLine := by omega
  have hf : H s.heap.objs.size = none := I.hok.fresh (Nat.le_refl _)
  refine yI t1 t2 hz' (fun e => ?_) (fun e => ?_) ?_
  ·subst e
   have : vs = [] := List.eq_nil_of_length_eq_zero (by simpa using m1)
   subst this
   have : xs = [] := List.eq_nil_of_length_eq_zero (by simpa using l1.symm)
   subst this
   exact ⟨.ref p', H, _, I, rfl, ai.refl H, hy, q⟩
  ·subst e
   have : vs' = [] := List.eq_nil_of_length_eq_zero (by simpa using m2)
   subst this
   have : ys = [] := List.eq_nil_of_length_eq_zero (by simpa using l2.symm)
   subst this
   rw [List.append_nil] at q
   exact ⟨.ref p, H, _, I, rfl, ai.refl H, hx, q⟩
  ·exact ⟨.ref s.heap.objs.size, L2.upd H s.heap.objs.size (.tup (vs ++ vs')), _, I.laid (t' := s.toks) (fun b u e => Heap.get?_push_of_some _ e) (Nat.le_refl _) ⟨by rw [List.length_append]; omega, its ++ its', r1.append r2, ⟨_, Heap.get?_push_size _ rfl, rfl, _, rfl⟩⟩, rfl, ai.upd hf, Den.tup (SqT.of aA) ((hd1.append hd2).same (ai.upd hf)), q⟩
 ·obtain ⟨p, vs, e1, _, hq1, hd1⟩ := hx.lst_
  obtain ⟨p', vs', e2, _, hq2, hd2⟩ := hy.lst_
  subst e1 e2
  cases rv
  cases ru
  obtain ⟨its, r1, t1, _⟩ := I.list hq1
  obtain ⟨its', r2, t2, _⟩ := I.list hq2
  obtain ⟨hz, q⟩ := q
  have l1 := hd1.len
  have l2 := hd2.len
  have m1 := r1.length
  have m2 := r2.length
  have hf : H s.heap.objs.size = none := I.hok.fresh (Nat.le_refl _)
  refine yH t1.isList t2.isList (by omega) ?_
  exact ⟨.ref s.heap.objs.size, L2.upd H s.heap.objs.size (.lst (vs ++ vs')), _, I.laid (t' := s.toks) (fun b u e => Heap.get?_push_of_some _ e) (Nat.le_refl _) ⟨by rw [List.length_append]; omega, its ++ its', 0, r1.append r2, Heap.get?_push_size _ rfl⟩, rfl, ai.upd hf, Den.lst (vT tr hf) (.new aA (Inv.kfresh I)) ((hd1.append hd2).same (ai.upd hf)), q⟩
def okI (x : D) : Prop := okD x /\ (pyD x).depth < 64
def xF : RD2 := fun x y Q => okI x /\ okD y /\ ∃ ys, (y = .tup ys ∨ ∃ t, y = .lst t ys) /\ Q (.bl (ys.any fun z => eqD z x))
theorem sq (x : D) (t : Bool) (ys : List D) (Q : D -> Prop) : xF x (.lst t ys) Q = (okI x /\ okD (.lst t ys) /\ Q (.bl (ys.any fun z => eqD z x))) := by
 apply propext
 constructor
 ·rintro ⟨h1, h2, zs, e, q⟩
  rcases e with e | ⟨_, e⟩
  ·cases e
  ·cases e; exact ⟨h1, h2, q⟩
 ·rintro ⟨h1, h2, q⟩
  exact ⟨h1, h2, ys, .inr ⟨t, rfl⟩, q⟩
theorem sr (x : D) (ys : List D) (Q : D -> Prop) : xF x (.tup ys) Q = (okI x /\ okD (.tup ys) /\ Q (.bl (ys.any fun z => eqD z x))) := by
 apply propext
 constructor
 ·rintro ⟨h1, h2, zs, e, q⟩
  rcases e with e | ⟨_, e⟩
  ·cases e; exact ⟨h1, h2, q⟩
  ·cases e
 ·rintro ⟨h1, h2, q⟩
  exact ⟨h1, h2, ys, .inl rfl, q⟩
theorem pC (i : Int) : okI (.int i) = True := eq_true ⟨pq i, by rw [pyD, PyData.depth]; decide⟩
theorem pD : okI .non = True := eq_true ⟨pA, by rw [pyD, PyData.depth]; decide⟩
end
def PKD (X : Cx) (kws : List Keyword) (t : DA) : Prop :=
 ∀ (pos : Pos) (pins : List (Addr × Obj)) (s : Shared) (σ : St) (H : Hp) (W : Own) (ρ : Ro) (Q : List D -> Prop), Inv X pins σ H s -> Rel X W H σ ρ -> t ρ Q →
  wpAny (model X.prog X.w) X.A (evalAll ((backToKw pos (keywordEach kws X.env)).map (·.2))) (DAP X pins σ W H Q) X.xe s
section
variable {X : Cx} {k : Nat} {ps : List Str} {kn : Str} {sp : DSp} {x : Str} {p pos kpos : Pos} {e : Expr} {es : List Expr} {t tk : DA} {te : DE} {nm : Option Str} {kws : List Keyword}
def rf (sp : DSp) (t tk : DA) : DE := fun ρ Q => t ρ fun ds => tk ρ fun es => ∃ d, es = [d] /\ sp (aP (ds ++ [d])) Q fun _ => False
theorem rN (a : D) (R : D -> Prop) : (∃ d, [a] = [d] /\ R d) = R a := by
 apply propext
 constructor
 ·rintro ⟨_, e, q⟩; cases e; exact q
 ·intro q; exact ⟨a, rfl, q⟩
def q9 (sp : DSp) (t : DA) : DA := fun ρ Q => t ρ fun ds => sp (aP ds) (fun d => ∃ ys, d = .lst true ys /\ cH ys = true /\ Q ys) fun _ => False
end
end PD
namespace PD
open PySem PySem.Spec PyProof.Rows L2
def gB : Key -> D
 | .inl i => .int i
 | .inr x => .str x
section
variable {κ : Type} [DecidableEq κ] {K : PySem.W.Frag} {P : Bool -> Addr -> Prop} {H : Hp}
def kr (kvs : List (κ × D)) (k : κ) : Option D := (kvs.find? fun kv => decide (kv.1 = k)).map (·.2)
def putD (kvs : List (κ × D)) (k : κ) (d : D) : List (κ × D) := if (kr kvs k).isSome = true then kvs.map (fun kv => if kv.1 = k then (kv.1, d) else kv) else kvs ++ [(k, d)]
end
theorem vB {K : PySem.W.Frag} {P : Bool -> Addr -> Prop} {H : Hp} {k : Key} {v : V} (h : Den K P H (gB k) v) : v = kV k := by
 cases k with
 | inl i => exact h.int_
 | inr x => exact h.str_
theorem lC {K : PySem.W.Frag} {P : Bool -> Addr -> Prop} {H : Hp} : ∀ {ks : List Key} {vs : List V}, af K P H (ks.map gB) vs -> vs = ks.map kV
 | [], _, h => by simpa only [List.map_nil, af] using h
 | k :: r, _, h => by
  simp only [List.map_cons, af] at h
  obtain ⟨v, u, e, h1, h2⟩ := h
  rw [e, vB h1, lC h2]
  rfl
def PPD (X : Cx) (pos : Pos) (keys : List (Option Expr)) (values : List Expr) (t : Ro -> (List (D × D) -> Prop) -> Prop) : Prop :=
 ∀ (pins : List (Addr × Obj)) (s : Shared) (σ : St) (H : Hp) (W : Own) (ρ : Ro) (Q : List (D × D) -> Prop), Inv X pins σ H s -> Rel X W H σ ρ -> t ρ Q →
  wpAny (model X.prog X.w) X.A (evalPairs (pairTrees keys values X.env pos)) (fun vs s' => ∃ ps H' ds, Inv X pins σ H' s' /\ VV ps vs /\ ai H H' /\ af X.K W.bad H' (ds.map (·.1)) (ps.map (·.1)) /\ af X.K W.bad H' (ds.map (·.2)) (ps.map (·.2)) /\ Q ds) X.xe s
section
variable {X : Cx} {pos : Pos}
def uY : Ro -> (List (D × D) -> Prop) -> Prop := fun _ Q => Q []
def rH (tk tv : DE) (t : Ro -> (List (D × D) -> Prop) -> Prop) : Ro -> (List (D × D) -> Prop) -> Prop := fun ρ Q => tk ρ fun k => tv ρ fun v => t ρ fun r => Q ((k, v) :: r)
def rk (i : Nat) (t : Ro -> (List (D × D) -> Prop) -> Prop) : DS := fun E ρ => t ρ fun ps => ∃ kvs : List (Key × D), ps = kvs.map (fun kv => (gB kv.1, kv.2)) /\ kvs.length <= 15 /\ (kvs.map (·.1)).Nodup /\ E.nx (ρ.set i (some (.ob (.dk kvs))))
def wK (i : Nat) (tb : DE) : DE := fun ρ Q => ∃ kvs, ρ[i]? = some (some (.ob (.dk kvs))) /\ tb ρ fun k => ∃ key d, k = gB key /\ kr kvs key = some d /\ Q d
def uL (i : Nat) (tk te : DE) : DS := fun E ρ => ∃ kvs, ρ[i]? = some (some (.ob (.dk kvs))) /\ tk ρ fun k => ∃ key n, k = gB key /\ kr kvs key = some (.int n) /\ te ρ fun d => ∃ m, d = .int m /\ kvs.length < sizeLine /\ E.nx (ρ.set i (some (.ob (.dk (putD kvs key (.int (n + m)))))))
end
end PD
namespace PD
open PySem PySem.Spec PyProof.Rows L2
theorem rS (kvs : List (Key × D)) (r : Ro) (R : List (Key × D) -> Prop) : (∃ ys, (some (Sl.ob (.dk kvs)) :: r)[0]? = some (some (Sl.ob (.dk ys))) /\ R ys) = R kvs := by
 apply propext
 constructor
 ·rintro ⟨_, e, q⟩
  have e' : some (some (Sl.ob (.dk kvs))) = some (some (Sl.ob (.dk _))) := e
  cases e'
  exact q
 ·intro q; exact ⟨kvs, rfl, q⟩
theorem rT (n : Nat) (x : Option Sl) (r : Ro) (R : List (Key × D) -> Prop) : (∃ ys, (x :: r)[n + 1]? = some (some (Sl.ob (.dk ys))) /\ R ys) = (∃ ys, r[n]? = some (some (Sl.ob (.dk ys))) /\ R ys) := rfl
theorem pO (t : Bool) (xs : List D) (R : List D -> Prop) : (∃ k ds, cm (.lst t xs) = some (k, ds) /\ R ds) = R xs := by
 apply propext
 constructor
 ·rintro ⟨_, _, e, q⟩; cases e; exact q
 ·intro q; exact ⟨_, _, rfl, q⟩
theorem pP (xs : List D) (R : List D -> Prop) : (∃ k ds, cm (.tup xs) = some (k, ds) /\ R ds) = R xs := by
 apply propext
 constructor
 ·rintro ⟨_, _, e, q⟩; cases e; exact q
 ·intro q; exact ⟨_, _, rfl, q⟩
theorem jt {a b : D} {k1 k2 : Bool} {xs ys : List D} (h1 : cm a = some (k1, xs)) (h2 : cm b = some (k2, ys)) (R : List D -> Prop) : (∃ d1 d2 k1 k2 us vs, [a, b] = [d1, d2] /\ cm d1 = some (k1, us) /\ cm d2 = some (k2, vs) /\ R (List.zipWith (fun x y => D.tup [x, y]) us vs)) = R (List.zipWith (fun x y => D.tup [x, y]) xs ys) := by
 apply propext
 constructor
 ·rintro ⟨_, _, _, _, _, _, e, e1, e2, q⟩
  cases e
  rw [h1] at e1
  rw [h2] at e2
  cases e1
  cases e2
  exact q
 ·intro q; exact ⟨_, _, _, _, _, _, rfl, h1, h2, q⟩
theorem tw (t u : Bool) (xs ys : List D) (R : List D -> Prop) : (∃ d1 d2 k1 k2 us vs, [D.lst t xs, D.lst u ys] = [d1, d2] /\ cm d1 = some (k1, us) /\ cm d2 = some (k2, vs) /\ R (List.zipWith (fun x y => D.tup [x, y]) us vs)) = R (List.zipWith (fun x y => D.tup [x, y]) xs ys) := jt rfl rfl R
theorem tD (u : Bool) (xs ys : List D) (R : List D -> Prop) : (∃ d1 d2 k1 k2 us vs, [D.tup xs, D.lst u ys] = [d1, d2] /\ cm d1 = some (k1, us) /\ cm d2 = some (k2, vs) /\ R (List.zipWith (fun x y => D.tup [x, y]) us vs)) = R (List.zipWith (fun x y => D.tup [x, y]) xs ys) := jt rfl rfl R
theorem tB (u : Bool) (xs ys : List D) (R : List D -> Prop) : (∃ d1 d2 k1 k2 us vs, [D.lst u xs, D.tup ys] = [d1, d2] /\ cm d1 = some (k1, us) /\ cm d2 = some (k2, vs) /\ R (List.zipWith (fun x y => D.tup [x, y]) us vs)) = R (List.zipWith (fun x y => D.tup [x, y]) xs ys) := jt rfl rfl R
theorem tE (xs ys : List D) (R : List D -> Prop) : (∃ d1 d2 k1 k2 us vs, [D.tup xs, D.tup ys] = [d1, d2] /\ cm d1 = some (k1, us) /\ cm d2 = some (k2, vs) /\ R (List.zipWith (fun x y => D.tup [x, y]) us vs)) = R (List.zipWith (fun x y => D.tup [x, y]) xs ys) := jt rfl rfl R
theorem oM (b : Bool) : hW (.bl b) = true := by rw [hW] <;> (intros; contradiction)
theorem mE (b : Int) : hW (.int b) = true := by rw [hW] <;> (intros; contradiction)
theorem mF : hW .non = true := by rw [hW] <;> (intros; contradiction)
theorem j4 {ds : List D} {k : Int} {Q : D -> Prop} (h0 : 0 <= k) (h1 : k < ds.length) (h : ∀ d ∈ ds, Q d) : ∃ d, atI ds k = some d /\ Q d := by
 have e : k = ((k.toNat : Nat) : Int) := by omega
 have hl : k.toNat < ds.length := by omega
 refine ⟨ds[k.toNat], ?_, h _ (List.getElem_mem hl)⟩
 have q : atI ds ((k.toNat : Nat) : Int) = some ds[k.toNat] := bI (by simp)
 rw [<- e] at q
 exact q
theorem comp_map {α : Type} {wi : DA} {js : List Nat} {tc : DT} {te : DE} {ρ : Ro} {Q : D -> Prop} (xs : List α) (f : α -> D) (c : α -> Bool) (g : α -> D) (hw : ∀ R : List D -> Prop, R (xs.map f) -> wi ρ R) (hz : xs.length <= sizeLine)
  (hc : ∀ x ∈ xs, ∀ K : Bool -> Prop, K (c x) -> tc (some (.val (f x)) :: js.map (bf ρ)) K) (he : ∀ x ∈ xs, c x = true -> ∀ K : D -> Prop, K (g x) -> te (some (.val (f x)) :: js.map (bf ρ)) K) (q : Q (.lst true ((xs.filter c).map g))) : jc wi js tc te ρ Q := by
 refine hw _ ⟨by rw [List.length_map]; exact hz, fun j out => out = ((xs.take j).filter c).map g, by simp, fun j d out hd ho => ?_, fun out ho => ?_⟩
 ·rw [List.getElem?_map] at hd
  cases ex : xs[j]? with
  | none => rw [ex] at hd; cases hd
  | some x =>
   rw [ex] at hd
   cases hd
   have hm : x ∈ xs := List.mem_of_getElem? ex
   have ht : xs.take (j + 1) = xs.take j ++ [x] := by rw [List.take_succ, ex]; rfl
   refine hc x hm _ ?_
   by_cases z : c x = true
   ·rw [if_pos z]
    refine he x hm z _ ?_
    show _ = List.map g (List.filter c (List.take (j + 1) xs))
    rw [ht, ho, List.filter_append, List.map_append]
    simp [z]
   ·rw [if_neg z]
    show _ = List.map g (List.filter c (List.take (j + 1) xs))
    rw [ht, ho, List.filter_append]
    simp [z]
 ·rw [List.length_map, List.take_of_length_le (Nat.le_refl _)] at ho
  rw [ho]; exact q
theorem jh {α : Type} {wi : DA} {g : DG} {tb : DS} {E : gk} {ρ : Ro} (xs : List α) (f : α -> D) (Pv : List α -> Ro -> Prop) (hw : ∀ R : List D -> Prop, R (xs.map f) -> wi ρ R) (p0 : Pv [] ρ)
  (turn : ∀ (done : List α) (x : α) (ρ' : Ro), x ∈ xs -> done.length < xs.length -> Pv done ρ' -> g (f x) ρ' fun ρ2 => tb { E with nx := Pv (done ++ [x]), ct := Pv (done ++ [x]), bk := E.nx } ρ2) (fin : ∀ ρ', Pv xs ρ' -> E.nx ρ') : qc wi g tb E ρ := by
 refine hw _ ⟨fun j => Pv (xs.take j), by simpa using p0, fun j d ρ' hd hp => ?_, fun ρ' hp => fin ρ' (by rw [List.length_map, List.take_of_length_le (Nat.le_refl _)] at hp; exact hp)⟩
 rw [List.getElem?_map] at hd
 cases ex : xs[j]? with
 | none => rw [ex] at hd; cases hd
 | some x =>
  rw [ex] at hd
  cases hd
  have hj := (List.getElem?_eq_some_iff.mp ex).1
  have ht : xs.take (j + 1) = xs.take j ++ [x] := by rw [List.take_succ, ex]; rfl
  show g (f x) ρ' fun ρ2 => tb { E with nx := Pv (xs.take (j + 1)), ct := Pv (xs.take (j + 1)), bk := E.nx } ρ2
  rw [ht]
  exact turn (xs.take j) x ρ' (List.mem_of_getElem? ex) (by rw [List.length_take]; omega) hp
end PD
namespace PD
open PySem PySem.Spec PyProof.Rows L2
structure OkN (n : Nat) (d : D) : Prop where
 pl : plD d = true
 lay : (pyD d).canLay0 = true
 dp : (pyD d).depth <= n
structure fE (n : Nat) (ds : List D) : Prop where
 pl : iz ds = true
 lay : PyData.canLayAll0 (bU ds) = true
 dp : PyData.depthAll (bU ds) <= n
theorem OkN.ok {n : Nat} {d : D} (h : OkN n d) (hn : n <= 64 := by decide) : okD d := ⟨h.pl, by
 unfold SeqAt.shaped
 rw [h.lay, decide_eq_true (Nat.le_trans h.dp hn)]
 rfl⟩
theorem OkN.okI {n : Nat} {d : D} (h : OkN n d) (hn : n < 64 := by decide) : okI d := ⟨h.ok (Nat.le_of_lt hn), Nat.lt_of_le_of_lt h.dp hn⟩
theorem OkN.int (n : Nat) (i : Int) : OkN n (.int i) := ⟨by rw [plD] <;> (intros; contradiction), by rw [pyD, PyData.canLay0], by rw [pyD, PyData.depth]; exact Nat.zero_le _⟩
theorem OkN.bl (n : Nat) (i : Bool) : OkN n (.bl i) := ⟨by rw [plD] <;> (intros; contradiction), by rw [pyD, PyData.canLay0], by rw [pyD, PyData.depth]; exact Nat.zero_le _⟩
theorem OkN.non (n : Nat) : OkN n .non := ⟨by rw [plD] <;> (intros; contradiction), by rw [pyD, PyData.canLay0], by rw [pyD, PyData.depth]; exact Nat.zero_le _⟩
theorem fE.nil (n : Nat) : fE n [] := ⟨by rw [iz], by rw [bU, PyData.canLayAll0], by rw [bU, PyData.depthAll]; exact Nat.zero_le _⟩
theorem fE.cons {n : Nat} {d : D} {ds : List D} (h : OkN n d) (h' : fE n ds) : fE n (d :: ds) := ⟨by rw [iz, h.pl, h'.pl]; rfl, by rw [bU, PyData.canLayAll0, h.lay, h'.lay]; rfl, by
 rw [bU, PyData.depthAll]
 exact Nat.max_le.mpr ⟨h.dp, h'.dp⟩⟩
theorem fE.of {n : Nat} : ∀ {ds : List D}, (∀ d ∈ ds, OkN n d) -> fE n ds
 | [], _ => .nil n
 | d :: r, h => .cons (h d List.mem_cons_self) (fE.of fun x hx => h x (List.mem_cons_of_mem _ hx))
theorem OkN.tup {n : Nat} {ds : List D} (h : fE n ds) : OkN (n + 1) (.tup ds) := ⟨by rw [plD]; exact h.pl, by rw [pyD, PyData.canLay0]; exact h.lay, by rw [pyD, PyData.depth]; exact Nat.succ_le_succ h.dp⟩
theorem OkN.lst {n : Nat} {t : Bool} {ds : List D} (h : fE n ds) : OkN (n + 1) (.lst t ds) := ⟨by rw [plD]; exact h.pl, by rw [pyD, PyData.canLay0]; exact h.lay, by rw [pyD, PyData.depth]; exact Nat.succ_le_succ h.dp⟩
theorem OkN.map {α : Type} {n : Nat} {t : Bool} {f : α -> D} {xs : List α} (h : ∀ x, OkN n (f x)) : OkN (n + 1) (.lst t (xs.map f)) := OkN.lst (fE.of fun d hd => by
 obtain ⟨x, _, rfl⟩ := List.mem_map.mp hd
 exact h x)
def eR (xs ys : List D) : Bool := PyData.eqvAll (bU xs) (bU ys)
theorem gO (t u : Bool) (xs ys : List D) : eqD (.lst t xs) (.lst u ys) = eR xs ys := by unfold eqD eR; rw [pyD, pyD, PyData.eqv]
theorem vI (xs ys : List D) : eqD (.tup xs) (.tup ys) = eR xs ys := by unfold eqD eR; rw [pyD, pyD, PyData.eqv]
theorem ue : eR [] [] = true := by unfold eR; rw [bU, PyData.eqvAll]
theorem rL (x y : D) (xs ys : List D) : eR (x :: xs) (y :: ys) = (eqD x y && eR xs ys) := by unfold eR eqD; rw [bU, bU, PyData.eqvAll]
theorem kS (y : D) (ys : List D) : eR (y :: ys) [] = false := by unfold eR; rw [bU, bU, PyData.eqvAll]
theorem vH (x y : Str) : eqD (.str x) (.str y) = (x == y) := by unfold eqD; rw [pyD, pyD, PyData.eqv]
theorem vG : eqD .non .non = true := by unfold eqD; rw [pyD, PyData.eqv]
mutual
theorem ij : ∀ d : D, eqD d d = true
 | .non => vG
 | .bl b => by rw [m7]; simp
 | .int i => by rw [kR]; simp
 | .str x => by rw [vH]; simp
 | .exc _ => by unfold eqD; rw [pyD, PyData.eqv]
 | .tup ds => by rw [vI]; exact gq ds
 | .lst t ds => by rw [gO]; exact gq ds
theorem gq : ∀ ds : List D, eR ds ds = true
 | [] => ue
 | d :: r => by rw [rL, ij d, gq r]; rfl
end
theorem bG (t u : Bool) (xs : List D) : eqD (.lst t xs) (.lst u xs) = true := by rw [gO]; exact gq xs
end PD
namespace PD
open PySem PySem.Spec PyProof.Rows L2
section
variable {X : Cx} {a b c : Expr} {ta tb tc : DE} {pos : Pos}
def rh (r r' : RD2) (ta tb tc : DE) : DE := fun ρ Q => ta ρ fun x => tb ρ fun y => r x y fun z => ∃ k, z = .bl k /\ if k = true then tc ρ fun u => r' y u Q else Q (.bl false)
def mQ (ti : DE) : DA := fun ρ R => ti ρ fun d => ∃ ds, d = .tup ds /\ R ds
theorem sj {tg iter : Expr} {ti : DE} (h : PED X iter ti) : PID X tg iter (mQ ti) := by
 refine PID.of (xB h.pe) fun σ H W ρ R r hw => ⟨W, ρ, _, r, hw, fun v H1 d e1 hd q => ?_⟩
 obtain ⟨ds, rfl, q⟩ := q
 obtain ⟨p, vs, rfl, hq, hds⟩ := hd.tup_
 refine ⟨p, rfl, ⟨vs, hq⟩, e1, ds, ?_, q⟩
 intro P' H' hT hL hX i
 have hq' := hT p vs hq
 have hl := hds.len
 refine ⟨fun hi => ?_, fun x H3 y hi => ?_, fun hi => ⟨vs, hq', by omega⟩⟩
 ·obtain ⟨v, hv, _⟩ := hds.get (i := i) (d := ds[i]) (by simp [hi])
  exact ⟨vs, v, hq', hv⟩
 ·obtain ⟨e3, y⟩ := y
  subst e3
  obtain ⟨d, h1, h2⟩ := hds.bf (y vs hq')
  exact ⟨ai.refl _, d, h1, Den.map hT hL hX d _ h2⟩
theorem sD (xs : List D) (R : List D -> Prop) : (∃ ds, D.tup xs = .tup ds /\ R ds) = R xs := by
 apply propext
 constructor
 ·rintro ⟨_, e, q⟩; cases e; exact q
 ·intro q; exact ⟨xs, rfl, q⟩
variable {e : Expr} {te : DE} {lo hi : Option Expr} {tl th : DO} {p2 : Pos}
theorem wN (he : PED X e te) (hl : PDO X lo tl) (hh : PDO X hi th) : PED X (.Subscript e (.Slice lo hi none p2) pos) (tZ te tl th) := by
 intro pins s σ H W ρ Q I r h
 refine og (st := none) (ts := dO) (R := fun d l u k => k = none /\ ∃ ds, d = .tup ds /\ ¬ (HT.sIx ds.length 0 l = 0 /\ HT.sIx ds.length ds.length u = ds.length) /\ Q (.tup (PD.cutD ds l u))) he hl hh kO I r ?_ ?_ (fun _ _ => ⟨_, rfl⟩)
 ·have e1 : (fun d => tl ρ fun l => th ρ fun u => dO ρ fun k => k = none /\ ∃ ds, d = D.tup ds /\ ¬ (HT.sIx ds.length 0 l = 0 /\ HT.sIx ds.length ds.length u = ds.length) /\ Q (.tup (PD.cutD ds l u))) = fun d => tl ρ fun l => th ρ fun u => ∃ ds, d = D.tup ds /\ ¬ (HT.sIx ds.length 0 l = 0 /\ HT.sIx ds.length ds.length u = ds.length) /\ Q (.tup (PD.cutD ds l u)) := by
   funext d
   congr 1
   funext l
   congr 1
   funext u
   exact propext ⟨fun z => z.2, fun z => ⟨rfl, z⟩⟩
  rw [e1]
  exact h
 ·intro v vv vl vu vk l u k d sl H' s' I' sm rv hd hs pl pu pk hR
  obtain ⟨ek, ds, ed, hw, q⟩ := hR
  subst ek ed
  cases pk
  obtain ⟨p, vs, ev, hq, hds⟩ := hd.tup_
  subst ev
  obtain ⟨T, id, h1, h2, h3⟩ := xM pins s' σ H' (.ref p) vv vl vu l u sl (fun v' H'' => ai H' H'' /\ ∃ d', Den X.K W.bad H'' d' v' /\ Q d') I' rv hs pl pu ⟨p, vs, rfl, hq, by rw [hds.len]; exact hw, fun q' hp => ⟨ai.upd hp, _, Den.tup (SqT.of aA) ((hds.cut l u).same (ai.upd hp)), q⟩⟩
  exact ⟨T, id, h1, h2, thn h3 fun _ s2 ⟨w', H2, I2, r2, e2, d', hd', q'⟩ => ⟨w', H2, d', I2, r2, sm.trans e2, hd', q'⟩⟩
end
section
variable {X : Cx} {pos : Pos}
end
end PD
namespace PD
open PySem PySem.Spec PyProof.Rows L2
section
variable {K : PySem.W.Frag} {P : Bool -> Addr -> Prop} {H : Hp} {B : Nat -> Option Addr}
theorem aF.len : ∀ {k : Nat} {xs : List LI} {vs : List V}, aF K P H B k xs vs -> vs.length = xs.length
 | _, [], _, h => by simp only [aF] at h; subst h; rfl
 | k, .own ds :: r, _, h => by
  simp only [aF] at h
  obtain ⟨b, us, u, rfl, _, _, _, h4⟩ := h
  simp [aF.len h4]
 | k, .val d :: r, _, h => by
  simp only [aF] at h
  obtain ⟨v, u, rfl, _, h2⟩ := h
  simp [aF.len h2]
theorem aF.get : ∀ {k : Nat} {xs : List LI} {vs : List V} {m : Nat} {ds : List D}, aF K P H B k xs vs -> xs[m]? = some (.own ds) -> ∃ b us, vs[m]? = some (.ref b) /\ B (k + m) = some b /\ H b = some (.lst us) /\ af K P H ds us
 | _, [], _, _, _, _, e => by simp at e
 | k, .own ds :: r, _, 0, _, h, e => by
  simp only [aF] at h
  obtain ⟨b, us, u, rfl, h1, h2, h3, _⟩ := h
  simp at e; subst e
  exact ⟨b, us, rfl, h1, h2, h3⟩
 | k, .val d :: r, _, 0, _, h, e => by simp at e
 | k, .own ds :: r, _, m + 1, x, h, e => by
  simp only [aF] at h
  obtain ⟨b, us, u, rfl, _, _, _, h4⟩ := h
  obtain ⟨c, ws, e1, e2, e3⟩ := aF.get (m := m) (ds := x) h4 (by simpa using e)
  exact ⟨c, ws, by simpa using e1, by rw [<- e2]; congr 1; omega, e3⟩
 | k, .val d :: r, _, m + 1, x, h, e => by
  simp only [aF] at h
  obtain ⟨v, u, rfl, _, h2⟩ := h
  obtain ⟨c, ws, e1, e2, e3⟩ := aF.get (m := m) (ds := x) h2 (by simpa using e)
  exact ⟨c, ws, by simpa using e1, by rw [<- e2]; congr 1; omega, e3⟩
theorem aF.put {H' : Hp} {b : Addr} {us' : List V} {ds' : List D} (hd : ∀ ds vs, af K P H ds vs -> af K P H' ds vs) (hb : H' b = some (.lst us')) (hn : af K P H' ds' us') (ho : ∀ k c, B k = some c -> c ≠ b -> ∀ us, H c = some (.lst us) -> H' c = some (.lst us)) (inj : ∀ k l c, B k = some c -> B l = some c -> k = l) :
  ∀ {k : Nat} {xs : List LI} {vs : List V} {m : Nat} {ds : List D}, aF K P H B k xs vs -> xs[m]? = some (.own ds) -> B (k + m) = some b -> aF K P H' B k (xs.set m (.own ds')) vs
 | _, [], _, _, _, _, e, _ => by simp at e
 | k, .own ds :: r, _, 0, _, h, _, hB => by
  simp only [aF] at h
  obtain ⟨c, us, u, rfl, h1, h2, h3, h4⟩ := h
  rw [Nat.add_zero, h1] at hB
  cases hB
  simp only [List.set_cons_zero, aF]
  refine ⟨b, us', u, rfl, h1, hb, hn, ?_⟩
  have rest : ∀ {l : Nat} {ys : List LI} {ws : List V}, k < l -> aF K P H B l ys ws -> aF K P H' B l ys ws := by
   intro l ys
   induction ys generalizing l with
   | nil => intro ws _ z; simpa only [aF] using z
   | cons y ys ih =>
    intro ws hl z
    cases y with
    | own es =>
     simp only [aF] at z ⊢
     obtain ⟨d, ps, q, rfl, z1, z2, z3, z4⟩ := z
     exact ⟨d, ps, q, rfl, z1, ho l d z1 (fun e => by subst e; have := inj _ _ _ h1 z1; omega) ps z2, hd _ _ z3, ih (Nat.lt_succ_of_lt hl) z4⟩
    | val e =>
     simp only [aF] at z ⊢
     obtain ⟨v, q, rfl, z1, z2⟩ := z
     have z3 := hd [e] [v] (af.one z1)
     simp only [af] at z3
     obtain ⟨v', r', e', z4, _⟩ := z3
     cases e'
     exact ⟨v, q, rfl, z4, ih (Nat.lt_succ_of_lt hl) z2⟩
  exact rest (Nat.lt_succ_self k) h4
 | k, .val d :: r, _, 0, _, h, e, _ => by simp at e
 | k, .own ds :: r, _, m + 1, x, h, e, hB => by
  simp only [aF] at h
  obtain ⟨c, us, u, rfl, h1, h2, h3, h4⟩ := h
  simp only [List.set_cons_succ, aF]
  refine ⟨c, us, u, rfl, h1, ho k c h1 (fun z => by subst z; have := inj _ _ _ h1 hB; omega) us h2, hd _ _ h3, aF.put hd hb hn ho inj h4 (by simpa using e) (by rw [<- hB]; congr 1; omega)⟩
 | k, .val d :: r, _, m + 1, x, h, e, hB => by
  simp only [aF] at h
  obtain ⟨v, u, rfl, h1, h2⟩ := h
  simp only [List.set_cons_succ, aF]
  have z3 := hd [d] [v] (af.one h1)
  simp only [af] at z3
  obtain ⟨v', r', e', z4, _⟩ := z3
  cases e'
  exact ⟨v, u, rfl, z4, aF.put hd hb hn ho inj h2 (by simpa using e) (by rw [<- hB]; congr 1; omega)⟩
end
section
variable {X : Cx} {pos : Pos}
def PFL (X : Cx) (i : Nat) (es : List Expr) (t : Ro -> (List (List D) -> Prop) -> Prop) : Prop :=
 ∀ (pos : Pos) (pins : List (Addr × Obj)) (s : Shared) (σ : St) (H : Hp) (W : Own) (ρ : Ro) (k : Nat) (Q : List (List D) -> Prop), Inv X pins σ H s -> Rel X W H σ ρ -> i < σ.length -> ρ[i]? = some none -> t ρ Q →
  wpAny (model X.prog X.w) X.A (spliced (backTo pos (starEach es X.env))) (fun us s' => ∃ vs H' W' xss, Inv X pins σ H' s' /\ Vals vs us /\ ai H H' /\ Rel X W' H' σ ρ /\ Fwd W H W' H' /\ aF X.K W'.bad H' (W'.sub σ.length i) k (xss.map LI.own) vs /\ (∀ l, l < k -> W'.sub σ.length i l = W.sub σ.length i l) /\ Q xss) X.xe s
def uW : Ro -> (List (List D) -> Prop) -> Prop := fun _ Q => Q []
def rF (ta : DA) (t : Ro -> (List (List D) -> Prop) -> Prop) : Ro -> (List (List D) -> Prop) -> Prop := fun ρ Q => ta ρ fun x => t ρ fun xs => Q (x :: xs)
def rn (i : Nat) (t : Ro -> (List (List D) -> Prop) -> Prop) : DS := fun E ρ => ρ[i]? = some none /\ t ρ fun xss => xss.length <= sizeLine /\ E.nx (ρ.set i (some (.ob (.ll (xss.map LI.own)))))
def mB : LI -> D
 | .own ds => .lst false ds
 | .val d => d
variable {e : Expr} {te : DE} {tt : DT} {ta : DA}
def rA (i : Nat) (t : DE) : DE := fun ρ Q => ∃ xs, ρ[i]? = some (some (.ob (.ll xs))) /\ t (ρ.set i (some (.val (.lst false (xs.map mB))))) fun d => hW d = true /\ Q d
def oS (i : Nat) (t : DT) : DT := fun ρ Q => ∃ xs, ρ[i]? = some (some (.ob (.ll xs))) /\ t (ρ.set i (some (.val (.lst false (xs.map mB))))) Q
def rq (i : Nat) (tc tk te : DE) : DS := fun E ρ => ∃ xs, ρ[i]? = some (some (.ob (.ll xs))) /\ te ρ fun d => tc ρ fun c => ∃ n m ds, c = .int n /\ ixN xs.length n = some m /\ xs[m]? = some (.own ds) /\ tk ρ fun k => ∃ l j, k = .int l /\ ixN ds.length l = some j /\ E.nx (ρ.set i (some (.ob (.ll (xs.set m (.own (ds.set j d)))))))
end
theorem rQ (xs : List LI) (r : Ro) (R : List LI -> Prop) : (∃ ys, (some (Sl.ob (.ll xs)) :: r)[0]? = some (some (Sl.ob (.ll ys))) /\ R ys) = R xs := by
 apply propext
 constructor
 ·rintro ⟨_, e, q⟩
  have e' : some (some (Sl.ob (.ll xs))) = some (some (Sl.ob (.ll _))) := e
  cases e'
  exact q
 ·intro q; exact ⟨xs, rfl, q⟩
theorem rR (n : Nat) (x : Option Sl) (r : Ro) (R : List LI -> Prop) : (∃ ys, (x :: r)[n + 1]? = some (some (Sl.ob (.ll ys))) /\ R ys) = (∃ ys, r[n]? = some (some (Sl.ob (.ll ys))) /\ R ys) := rfl
theorem se (r : Ro) : ((none :: r)[0]? = some (none : Option Sl)) = True := eq_true rfl
theorem si (n : Nat) (x : Option Sl) (r : Ro) : ((x :: r)[n + 1]? = some (none : Option Sl)) = (r[n]? = some none) := rfl
theorem vc {α : Type} (x : α) (xs : List α) (R : Nat -> Prop) : (∃ m, ixN (x :: xs).length 0 = some m /\ R m) = R 0 := by
 have e : ixN (x :: xs).length 0 = some 0 := by unfold ixN; simp
 apply propext
 constructor
 ·rintro ⟨_, h, q⟩
  rw [e] at h
  cases h
  exact q
 ·intro q; exact ⟨0, e, q⟩
theorem vd {α : Type} (x y : α) (xs : List α) (R : Nat -> Prop) : (∃ m, ixN (x :: y :: xs).length 1 = some m /\ R m) = R 1 := by
 have e : ixN (x :: y :: xs).length 1 = some 1 := by unfold ixN; simp; omega
 apply propext
 constructor
 ·rintro ⟨_, h, q⟩
  rw [e] at h
  cases h
  exact q
 ·intro q; exact ⟨1, e, q⟩
theorem xi (ds : List D) (r : List LI) (R : List D -> Prop) : (∃ es, (LI.own ds :: r)[0]? = some (LI.own es) /\ R es) = R ds := by
 apply propext
 constructor
 ·rintro ⟨_, e, q⟩
  have e' : some (LI.own ds) = some (LI.own _) := e
  cases e'
  exact q
 ·intro q; exact ⟨ds, rfl, q⟩
theorem xj (n : Nat) (x : LI) (r : List LI) (R : List D -> Prop) : (∃ es, (x :: r)[n + 1]? = some (LI.own es) /\ R es) = (∃ es, r[n]? = some (LI.own es) /\ R es) := rfl
end PD
namespace PD
open PySem PySem.Spec PyProof.Rows L2
section
variable {X : Cx} {pins : List (Addr × Obj)} {σ : St} {H : Hp} {s : Shared} {sc : Scope} {ns : List Str} {js : List Nat} {x : Str}
end
section
variable {X : Cx} {pins : List (Addr × Obj)} {σ : St} {H : Hp}
structure y6 (X : Cx) (pins : List (Addr × Obj)) (H : Hp) (s : Shared) (l f S I : Addr) (fo : Obj) (j : Nat) (vb : Value) (k : Int) : Prop where
 fo : s.heap.get? f = some fo
 ff : cZ X pins H f
 so : ∃ tb n, s.heap.get? S = some (seqObj "list" #[vb, .int k tb] n)
 sf : cZ X pins H S
 io : s.heap.IsListIter I l j
 jf : cZ X pins H I
 fS : f ≠ S
 fI : f ≠ I
 SI : S ≠ I
 lI : l ≠ I
end
section
variable {X : Cx} {sc : Scope} {ns : List Str} {js : List Nat} {x : Str} {pos : Pos}
def oQ (te : DE) (js : List Nat) (tb : DE) : DE := fun ρ Q => te ρ fun d => ∃ (t : Bool) (ds : List D) (kf : Nat -> Int), d = .lst t ds /\ 0 < ds.length /\ (∀ i x, ds[i]? = some x -> tb (some (.val x) :: js.map (bf ρ)) fun r => r = .int (kf i)) /\ ∀ i x, ds[i]? = some x -> (∀ j, j < ds.length -> kf i <= kf j /\ (j < i -> kf i < kf j)) -> Q x
end
end PD
namespace PD
open PySem PySem.Spec PyProof.Rows L2
section
variable {X : Cx} {pos : Pos}
def kM (i : Nat) (te : DE) : DS := fun E ρ => ∃ ds, ρ[i]? = some (some (.own ds)) /\ te ρ fun d => ∃ xs, d = .lst true xs /\ ds.length + xs.length <= sizeLine /\ E.nx (ρ.set i (some (.own (ds ++ xs))))
theorem rJ {x : Str} {e : Expr} {te : DE} {px apos cpos : Pos} (i : Nat) (he : PED X e te) (hi : X.N[i]? = some x := by rfl) (hv : Vis X.env.scope x := by first | exact Or.inl rfl | exact Or.inr (Or.inl rfl) | exact Or.inr (Or.inr rfl))
  (hd : (x == ("__debug__" : Str)) = false := by decide) (hcd : (x == ("__classdict__" : Str)) = false := by decide)
  (hbase : attributeBase (.Name x px) "extend" X.env (eval (.Name x px) X.env) = eval (.Name x px) X.env := by rfl)
  (hfew : ((backTo cpos (starEach [e] X.env)).all (fun x => !x.1) && (backToKw cpos (keywordEach [] X.env)).all (fun x => x.1.isSome) && decide ([e].length + ([] : List Keyword).length + (if ([] : List Keyword).isEmpty then 0 else 1) < 30)) = true := by rfl)
  (hline : (apos.endLine == cpos.line) = true := by rfl) (hst : starEach [e] X.env = (false, eval e X.env) :: starEach [] X.env := by rfl) (hplain : (backTo cpos (starEach [] X.env)).any (·.1) = false := by rfl)
  (hs : swapsWith (.Call (.Attribute (.Name x px) "extend" apos) [e] [] cpos) none pos.line X.env = pure false := by rfl) :
  PSD X (.Expr (.Call (.Attribute (.Name x px) "extend" apos) [e] [] cpos) pos) (kM i te) := by
 have P0 := kY (pos := pos) (qG PySem.F.plainAttrs_list PySem.F.slot_list_extend PySem.F.type_list_extend sF (gW hi hv hd hcd) (bK he.pe eM hst) hbase hfew hline hst hplain) hs
 refine PSD.of P0 fun σ H W ρ E r hl h => ?_
 obtain ⟨ds, eo, h⟩ := h
 obtain ⟨a, vs, oa, sa, ha, hds⟩ := r.ownL i ds eo
 refine ⟨.ref a, sa, .inl ⟨rfl, _, SqL.of ha⟩, W, ρ, _, r, h, fun v H' d e1 hd' q => ?_⟩
 obtain ⟨xs, rfl, z, q⟩ := q
 obtain ⟨b, us, rfl, _, hb, hxs⟩ : ∃ b us, v = .ref b /\ ¬ W.bad true b /\ SqG X.K H' true b us /\ af X.K W.bad H' xs us := by simpa only [Den] using hd'
 have ha' := e1 _ _ ha
 have r' := r.same e1
 have hds' := hds.same e1
 refine ⟨a, b, vs, us, rfl, rfl, ha', (hb.2 rfl).1, by rw [hds'.len, hxs.len]; exact z, ?_⟩
 obtain ⟨r2, f2⟩ := r'.mut (vs' := vs ++ us) eo oa sa ha' (hds'.append hxs)
 exact ⟨W, _, (Fwd.same e1).trans f2, r2, q⟩
end
section
variable {prog : Program} {w : World} {A : Around} {E : Value -> Shared -> Prop} {s : Shared}
end
section
variable {X : Cx} {pos : Pos}
def rm (i : Nat) : DS := fun E ρ => E.nx (ρ.set i (some (.ob (.dt []))))
def PEK (X : Cx) (e : Expr) (t : DE) : Prop :=
 ∀ (pins : List (Addr × Obj)) (s : Shared) (σ : St) (H : Hp) (W : Own) (ρ : Ro) (Q : D -> Prop), Inv X pins σ H s -> Rel X W H σ ρ -> t ρ Q →
  wpAny (model X.prog X.w) X.A (eval e X.env) (fun u s' => ∃ b vs H' ds, u = .ref b /\ Inv X pins σ H' s' /\ ai H H' /\ H' b = some (.tup vs) /\ af X.K W.bad H' ds vs /\ Q (.tup ds)) X.xe s
def yh (X : Cx) (t : DE) : TE := fun σ H Q => ∃ W ρ Qd, Rel X W H σ ρ /\ t ρ Qd /\ ∀ b vs H' ds, ai H H' -> H' b = some (.tup vs) -> af X.K W.bad H' ds vs -> Qd (.tup ds) -> Q (.ref b) H'
theorem PEK.pe {e : Expr} {t : DE} (h : PEK X e t) : PE X e (yh X t) := by
 intro pins s σ H Q I q
 obtain ⟨W, ρ, Qd, r, ht, k⟩ := q
 exact thn (h pins s σ H W ρ Qd I r ht) fun u s1 ⟨b, vs, H', ds, eu, I1, e1, hb, hd, qd⟩ => by
  subst eu
  exact ⟨.ref b, H', I1, rfl, k b vs H' ds e1 hb hd qd⟩
def uR (i : Nat) (tk te : DE) : DS := fun E ρ => ∃ kvs, ρ[i]? = some (some (.ob (.dt kvs))) /\ te ρ fun d => tk ρ fun k => ∃ ks : List Key, k = .tup (ks.map gB) /\ kvs.length < sizeLine /\ E.nx (ρ.set i (some (.ob (.dt (putD kvs ks d)))))
def uO (i : Nat) : DE := fun ρ Q => ∃ kvs, ρ[i]? = some (some (.ob (.dt kvs))) /\ Q (.int (kvs.length : Int))
end
theorem rO (kvs : List (List Key × D)) (r : Ro) (R : List (List Key × D) -> Prop) : (∃ ys, (some (Sl.ob (.dt kvs)) :: r)[0]? = some (some (Sl.ob (.dt ys))) /\ R ys) = R kvs := by
 apply propext
 constructor
 ·rintro ⟨ys, e, q⟩
  simp only [List.getElem?_cons_zero, Option.some.injEq, Sl.ob.injEq, OS.dt.injEq] at e
  subst e
  exact q
 ·intro q; exact ⟨kvs, rfl, q⟩
theorem rP (n : Nat) (x : Option Sl) (r : Ro) (R : List (List Key × D) -> Prop) : (∃ ys, (x :: r)[n + 1]? = some (some (Sl.ob (.dt ys))) /\ R ys) = (∃ ys, r[n]? = some (some (Sl.ob (.dt ys))) /\ R ys) := rfl
theorem u7 (ys : List D) (R : List D -> Prop) : (∃ xs, D.lst true ys = .lst true xs /\ R xs) = R ys := by
 apply propext
 constructor
 ·rintro ⟨xs, e, q⟩
  cases e
  exact q
 ·intro q; exact ⟨ys, rfl, q⟩
theorem bu {α : Type} {wi : DA} {g : DG} {tb : DS} {E : gk} {ρ : Ro} (xs : List α) (f : α -> D) (Pv : Nat -> Ro -> Prop) (hw : ∀ R : List D -> Prop, R (xs.map f) -> wi ρ R) (p0 : Pv 0 ρ)
  (turn : ∀ (j : Nat) (x : α) (ρ' : Ro), xs[j]? = some x -> Pv j ρ' -> g (f x) ρ' fun ρ2 => tb { E with nx := Pv (j + 1), ct := Pv (j + 1), bk := E.nx } ρ2) (fin : ∀ ρ', Pv xs.length ρ' -> E.nx ρ') : qc wi g tb E ρ := by
 refine hw _ ⟨Pv, p0, fun j d ρ' hd hp => ?_, fun ρ' hp => fin ρ' (by rw [List.length_map] at hp; exact hp)⟩
 rw [List.getElem?_map] at hd
 cases ex : xs[j]? with
 | none => rw [ex] at hd; cases hd
 | some x =>
  rw [ex] at hd
  cases hd
  exact turn j x ρ' ex hp
end PD
namespace PD
open PySem PySem.Spec PyProof.Rows L2
def i9 (h : Heap) (d : Addr) (us : List Value) (ep : Nat) : Prop := ∃ o es, h.get? d = some o /\ o.data = .dict es ep /\ es.toList.map (·.val) = us
theorem i9.of {h h' : Heap} {d : Addr} {us : List Value} {ep : Nat} (x : i9 h d us ep) (k : ∀ o, h.get? d = some o -> h'.get? d = some o) : i9 h' d us ep := let ⟨o, es, e, r⟩ := x; ⟨o, es, k o e, r⟩
theorem i9.lt {h : Heap} {d : Addr} {us : List Value} {ep : Nat} (x : i9 h d us ep) : d < h.objs.size := let ⟨_, _, e, _⟩ := x; Heap.lt_size e
theorem i9.size {us : List Value} {es : Array DictEntry} (e : es.toList.map (·.val) = us) : es.size = us.length := by rw [<- e]; simp
section
variable {prog : Program} {w : World} {A : Around} {E : Value -> Shared -> Prop} {s : Shared} {d v it : Addr} {us : List Value} {ep i : Nat}
end
end PD
namespace PD
open PySem PySem.Spec PyProof.Rows L2
section
variable {X : Cx} {pos : Pos}
def uU (i : Nat) : DA := fun ρ Q => ∃ kvs, ρ[i]? = some (some (.ob (.dt kvs))) /\ Q (kvs.map (·.2))
end
section
variable {X : Cx} {pos : Pos}
def uM (i : Nat) (ta : DE) : DE := fun ρ Q => ∃ kvs, ρ[i]? = some (some (.ob (.dt kvs))) /\ ta ρ fun k => ∃ ks : List Key, k = .tup (ks.map gB) /\ Q (.bl (kr kvs ks).isSome)
def rj (i : Nat) (tk te : DE) : DS := fun E ρ => ∃ kvs, ρ[i]? = some (some (.ob (.dt kvs))) /\ tk ρ fun k => ∃ (ks : List Key) (n : Int), k = .tup (ks.map gB) /\ kr kvs ks = some (.int n) /\ te ρ fun d => ∃ m, d = .int m /\ E.nx (ρ.set i (some (.ob (.dt (putD kvs ks (.int (n + m)))))))
end
end PD
namespace PD
open PySem PySem.Spec PyProof.Rows L2
inductive KPs (K : PySem.W.Frag) (P : Bool -> Addr -> Prop) (H : Hp) : List (List D × D) -> List (Value × Value) -> Prop
 | nil : KPs K P H [] []
 | cons {b : Addr} {vs : List V} {ks : List D} {d : D} {x : V} {u : Value} {ds : List (List D × D)} {ws : List (Value × Value)} (hb : H b = some (.tup vs)) (hk : af K P H ks vs) (hd : Den K P H d x) (r : RelV x u) (t : KPs K P H ds ws) : KPs K P H ((ks, d) :: ds) ((.ref b, u) :: ws)
def PPK (X : Cx) (pos : Pos) (keys : List (Option Expr)) (values : List Expr) (t : Ro -> (List (List D × D) -> Prop) -> Prop) : Prop :=
 ∀ (pins : List (Addr × Obj)) (s : Shared) (σ : St) (H : Hp) (W : Own) (ρ : Ro) (Q : List (List D × D) -> Prop), Inv X pins σ H s -> Rel X W H σ ρ -> t ρ Q →
  wpAny (model X.prog X.w) X.A (evalPairs (pairTrees keys values X.env pos)) (fun ws s' => ∃ H' ds, Inv X pins σ H' s' /\ ai H H' /\ KPs X.K W.bad H' ds ws /\ Q ds) X.xe s
section
variable {X : Cx} {pos : Pos}
def uX : Ro -> (List (List D × D) -> Prop) -> Prop := fun _ Q => Q []
def rG (tk tv : DE) (t : Ro -> (List (List D × D) -> Prop) -> Prop) : Ro -> (List (List D × D) -> Prop) -> Prop := fun ρ Q => tk ρ fun k => ∃ ks, k = .tup ks /\ tv ρ fun v => t ρ fun r => Q ((ks, v) :: r)
inductive KPi (H : Hp) : List (List Key × Int) -> List (Value × Value) -> Prop
 | nil : KPi H [] []
 | cons {b : Addr} {k : List Key} {n : Int} {u : Value} {ds : List (List Key × Int)} {ws : List (Value × Value)} (hb : H b = some (.tup (k.map kV))) (r : RelV (.int n) u) (t : KPi H ds ws) : KPi H ((k, n) :: ds) ((.ref b, u) :: ws)
theorem KPs.ints {K : PySem.W.Frag} {P : Bool -> Addr -> Prop} {H : Hp} : ∀ {kns : List (List Key × Int)} {ws : List (Value × Value)}, KPs K P H (kns.map fun kn => (kn.1.map gB, D.int kn.2)) ws -> KPi H kns ws
 | [], _, h => by rw [List.map_nil] at h; cases h; exact .nil
 | kn :: r, _, h => by
  rw [List.map_cons] at h
  cases h with
  | cons hb hk hd ru t =>
   have e := lC hk
   subst e
   have e2 := hd.int_
   subst e2
   exact .cons hb ru t.ints
theorem KPi.keep {H : Hp} {a : Addr} {kws kws' : List (List Key × V)} (ha : H a = some (.dT kws)) : ∀ {kns : List (List Key × Int)} {ws : List (Value × Value)}, KPi H kns ws -> KPi (L2.upd H a (.dT kws')) kns ws
 | _, _, .nil => .nil
 | _, _, .cons hb r t => .cons (by rw [ar (fy hb ha (fun z => nomatch z))]; exact hb) r (t.keep ha)
def oR (i : Nat) (t : Ro -> (List (List D × D) -> Prop) -> Prop) : DS := fun E ρ => t ρ fun ps => ∃ kns : List (List Key × Int), ps = kns.map (fun kn => (kn.1.map gB, D.int kn.2)) /\ kns.length <= 15 /\ (kns.map (·.1)).Nodup /\ E.nx (ρ.set i (some (.ob (.dt (kns.map fun kn => (kn.1, D.int kn.2))))))
end
section
variable {X : Cx} {pos : Pos}
theorem kK (hc : X.calm = true) : cR X (.builtin "max") (fun ds Q => (∃ i j : Int, ds = [.int i, .int j] /\ Q (.int (max i j))) ∨ ∃ (t : Bool) (ns : List Int), ds = [.lst t (ns.map D.int)] /\ 0 < ns.length /\ ∀ m, m ∈ ns -> (∀ n ∈ ns, n <= m) -> Q (.int m)) := by
 intro pins s σ H W ds vs us Q I tr r hd q
 rcases q with ⟨i, j, e, q⟩ | ⟨t, ns, e, hne, q⟩
 ·exact wG hc pins s σ H W ds vs us Q I tr r hd ⟨i, j, e, q⟩
 subst e
 obtain ⟨v, rfl, h1⟩ := jg hd
 obtain ⟨a, ws, ev, _, hq, hw⟩ := h1.lst_
 subst ev
 cases r with
 | cons r1 rr =>
  cases rr
  cases r1
  obtain ⟨its, rv, pl, _⟩ := I.list hq
  rw [bF hw] at rv
  have ia := intsAre_of rv
  obtain ⟨xs, ex⟩ := ia.allInts.items
  have hl : s.heap.IsList a (intItems xs) := by rw [<- ex]; exact pl.isList
  have hns : ns = xs.toList.map (·.1) := by rw [<- ia.numsOf, <- nums_intItems, <- ex]
  have hsz : 0 < xs.size := by rw [hns, List.length_map, Array.length_toList] at hne; exact hne
  refine max_intList (I.ok.hd hc) hl hsz fun y h' tk hy kp => ?_
  obtain ⟨tt, rfl⟩ := intItems_at hy
  obtain ⟨g1, g2⟩ := argBest_gt (numAt xs) (xs.size - 1)
  have at_ : ∀ j, j < xs.size -> xs.toList.map (·.1) ≠ [] -> numAt xs j ∈ ns := fun j hj _ => by
   rw [hns, numAt_eq]
   have : (xs.toList.map (·.1))[j]? = some ((xs.toList.map (·.1)).getD j 0) := by simp [hj]
   exact List.mem_of_getElem? this
  refine ⟨.int _, H, _, I.kept kp, ⟨_, rfl⟩, ai.refl H, Den.int _, q _ (at_ _ (by omega) (by rw [<- hns]; exact List.ne_nil_of_length_pos hne)) fun n hn => ?_⟩
  rw [hns] at hn
  obtain ⟨j, hj, ej⟩ := List.getElem_of_mem hn
  have : numAt xs j = n := by rw [numAt_eq, <- ej]; simp only [List.getD_eq_getElem?_getD, List.getElem?_eq_getElem hj, Option.getD_some]
  rw [<- this]
  rw [List.length_map, Array.length_toList] at hj
  exact g2 j (by omega)
end
end PD
namespace PD
open PySem PySem.Spec PyProof.Rows L2
section
variable {X : Cx} {pos : Pos}
end
end PD
namespace PZ
open PySem PySem.Spec PyProof.Rows
abbrev uJ (h : Heap) (T : Addr) (a b c : Value) : Prop := h.get? T = some { cls := .type "tuple", data := .seq #[a, b, c] }
structure Ap3 (z TI TO i1 i2 i3 : Addr) : Prop where
 a1 : TI ≠ z
 a2 : TO ≠ z
 a3 : i1 ≠ z
 a4 : i2 ≠ z
 a5 : i3 ≠ z
 b1 : TI ≠ TO
 b2 : TI ≠ i1
 b3 : TI ≠ i2
 b4 : TI ≠ i3
 c1 : TO ≠ i1
 c2 : TO ≠ i2
 c3 : TO ≠ i3
 d1 : i1 ≠ i2
 d2 : i1 ≠ i3
 d3 : i2 ≠ i3
structure y8 (z TO i1 i2 i3 l : Addr) : Prop where
 c1 : l ≠ z
 c2 : l ≠ TO
 c3 : l ≠ i1
 c4 : l ≠ i2
 c5 : l ≠ i3
structure y9 (z TI TO i1 i2 i3 l1 l2 l3 : Addr) (i : Nat) (h : Heap) : Prop where
 z : IsZip h z TI TO .none
 ti : uJ h TI (.ref i1) (.ref i2) (.ref i3)
 to : ∃ a b c, uJ h TO a b c
 s1 : SIt true h i1 l1 i
 s2 : SIt true h i2 l2 i
 s3 : SIt true h i3 l3 i
section
variable {prog : Program} {w : World} {A : Around} {E : Value -> Shared -> Prop} {s : Shared} {z TI TO i1 i2 i3 l1 l2 l3 : Addr} {i : Nat} {xs ys zs : Array Value}
end
section
variable {prog : Program} {w : World} {A : Around} {E : Value -> Shared -> Prop} {s : Shared} {l1 l2 l3 : Addr} {xs ys zs : Array Value}
end
end PZ
namespace PD
open PySem PySem.Spec PyProof.Rows L2 PZ
section
variable {X : Cx}
def tri (xs ys zs : List D) : List D := List.zipWith (fun f z => f z) (List.zipWith (fun x y z => D.tup [x, y, z]) xs ys) zs
def uV (ta : DA) : DA := fun ρ R => ta ρ fun ds => ∃ t1 t2 t3 xs ys zs, ds = [.lst t1 xs, .lst t2 ys, .lst t3 zs] /\ ys.length = xs.length /\ zs.length = xs.length /\ R (tri xs ys zs)
end
end PD
namespace PD
open PySem PySem.Spec PyProof.Rows L2
section
variable {X : Cx} {pos : Pos}
def liftT (X : Cx) (t : DT) : TT := fun σ H Q => ∃ W ρ Qd, Rel X W H σ ρ /\ t ρ Qd /\ ∀ k H', ai H H' -> Qd k -> Q k H'
theorem PTD.pt {e : Expr} {t : DT} (h : PTD X e t) : PT X e (liftT X t) := by
 intro pins s σ H Q I q
 obtain ⟨W, ρ, Qd, r, ht, k⟩ := q
 exact thn (h pins s σ H W ρ Qd I r ht) fun u s1 ⟨H', I1, e1, qd⟩ => ⟨H', I1, k u H' e1 qd⟩
def oP (i iw : Nat) (tt : DT) : DS := fun E ρ => ∃ ds, ρ[i]? = some (some (.own ds)) /\ ds ≠ [] /\ (∀ d ∈ ds, tt (ρ.set iw (some (.val d))) fun k => k = false) /\ ∀ d ∈ ds, E.nx (ρ.set iw (some (.val d)))
end
end PD
namespace ST
open PySem PySem.SetTable
def S : Nat -> Nat
 | 0 => 0
 | n + 1 => 5 * S n + 1
theorem jY : ∀ n, 5 ^ n = 4 * S n + 1
 | 0 => rfl
 | n + 1 => by rw [Nat.pow_succ, jY n]; show _ = 4 * (5 * S n + 1) + 1; omega
theorem pW (m : Nat) : ∀ n, S (n + m) = 5 ^ m * S n + S m
 | 0 => by simp [S]
 | n + 1 => by
  rw [show n + 1 + m = (n + m) + 1 by omega]
  show 5 * S (n + m) + 1 = 5 ^ m * (5 * S n + 1) + S m
  rw [pW m n, jY m]
  grind
theorem uK : ∀ k, ∃ o, S (2 ^ k) = 2 ^ k * (2 * o + 1)
 | 0 => ⟨0, rfl⟩
 | k + 1 => by
  obtain ⟨o, e⟩ := uK k
  refine ⟨o + (2 * o + 1) * (2 ^ k * (2 * o + 1)), ?_⟩
  rw [show 2 ^ (k + 1) = 2 ^ k + 2 ^ k by rw [Nat.pow_succ]; omega, pW, jY, e]
  grind
theorem round : ∀ (k x e : Nat), e < 2 ^ k -> ∃ n, n < 2 ^ k /\ (5 ^ n * x + S n) % 2 ^ k = e
 | 0, x, e, h => ⟨0, by decide, by omega⟩
 | k + 1, x, e, h => by
  obtain ⟨n, hn, q⟩ := round k x (e % 2 ^ k) (Nat.mod_lt _ (Nat.two_pow_pos k))
  obtain ⟨o, eo⟩ := uK k
  have hp := Nat.two_pow_pos k
  have h2 : 2 ^ (k + 1) = 2 * 2 ^ k := by rw [Nat.pow_succ]; omega
  generalize hv : 5 ^ n * x + S n = v at q
  have nxt : 5 ^ (n + 2 ^ k) * x + S (n + 2 ^ k) = v + 2 ^ k + 2 ^ (k + 1) * (o + 2 * (2 * o + 1) * v) := by
   rw [pW, Nat.pow_add, jY (2 ^ k), eo, h2, <- hv]
   grind
  generalize 2 ^ k = p at *
  rw [h2] at h ⊢
  by_cases z : v % (2 * p) = e
  ·exact ⟨n, by omega, by rw [hv]; exact z⟩
  ·refine ⟨n + p, by omega, ?_⟩
   rw [nxt, h2, Nat.add_mul_mod_self_left]
   have a1 : v % (2 * p) % p = v % p := Nat.mod_mul_left_mod v 2 p
   have l1 : v % (2 * p) < 2 * p := Nat.mod_lt _ (by omega)
   rw [Nat.add_mod, Nat.mod_eq_of_lt (show p < 2 * p by omega)]
   generalize v % (2 * p) = u at *
   have eu : u = u % p ∨ u = u % p + p := by
    by_cases c : u < p
    ·left; rw [Nat.mod_eq_of_lt c]
    ·right
     have : u % p = u - p := by rw [Nat.mod_eq_sub_mod (by omega), Nat.mod_eq_of_lt (by omega)]
     omega
   have ee : e = e % p ∨ e = e % p + p := by
    by_cases c : e < p
    ·left; rw [Nat.mod_eq_of_lt c]
    ·right
     have : e % p = e - p := by rw [Nat.mod_eq_sub_mod (by omega), Nat.mod_eq_of_lt (by omega)]
     omega
   have lt : e % p < p := Nat.mod_lt _ hp
   rcases eu with eu | eu <;> rcases ee with ee | ee
   ·omega
   ·rw [Nat.mod_eq_of_lt (by omega)]; omega
   ·rw [Nat.mod_eq_sub_mod (by omega), Nat.mod_eq_of_lt (by omega)]; omega
   ·omega
def runs (mask : Nat) : Nat -> Nat -> Nat -> List Nat
 | 0, _, _ => []
 | c + 1, i, pt => List.range' i (runEnd mask i + 1 - i) ++ runs mask c (leap mask i pt).1 (leap mask i pt).2
theorem iZ (mask c i pt : Nat) : runs mask (c + 1) i pt = List.range' i (runEnd mask i + 1 - i) ++ runs mask c (leap mask i pt).1 (leap mask i pt).2 := rfl
def cf (mask : Nat) (h : Int) : List Nat := runs mask (turns mask) (bits h % (mask + 1)) (bits h)
theorem eN {mask i : Nat} (h : i <= mask) : i <= runEnd mask i /\ runEnd mask i <= mask /\ runEnd mask i <= i + 9 := by unfold runEnd; split <;> omega
theorem ji (mask i pt : Nat) : (leap mask i pt).1 <= mask := by
 have : (leap mask i pt).1 < mask + 1 := Nat.mod_lt _ (Nat.succ_pos _)
 omega
theorem pM {mask : Nat} : ∀ {c i pt : Nat}, i <= mask -> ∀ x ∈ runs mask c i pt, x <= mask
 | 0, _, _, _, x, h => by cases h
 | c + 1, i, pt, hi, x, h => by
  rcases List.mem_append.mp h with z | z
  ·rw [List.mem_range'_1] at z
   have := eN hi
   omega
  ·exact pM (ji _ _ _) x z
theorem nZ {mask : Nat} : ∀ {c i pt : Nat}, i <= mask -> (runs mask c i pt).length <= 10 * c
 | 0, _, _, _ => Nat.le_refl _
 | c + 1, i, pt, hi => by
  have ih := nZ (c := c) (pt := (leap mask i pt).2) (ji mask i pt)
  have := eN hi
  unfold runs
  rw [List.length_append, List.length_range']
  omega
def bM (mask : Nat) : Nat -> Nat × Nat -> Nat × Nat
 | 0, p => p
 | n + 1, p => bM mask n (leap mask p.1 p.2)
theorem kA {mask : Nat} : ∀ {n c i pt : Nat}, ∀ x ∈ runs mask c (bM mask n (i, pt)).1 (bM mask n (i, pt)).2, x ∈ runs mask (n + c) i pt
 | 0, c, i, pt, x, h => by rw [Nat.zero_add]; exact h
 | n + 1, c, i, pt, x, h => by
  have := kA (n := n) (c := c) (i := (leap mask i pt).1) (pt := (leap mask i pt).2) x h
  rw [show n + 1 + c = (n + c) + 1 by omega]
  exact List.mem_append_right _ this
theorem sV {mask c i pt : Nat} (h : i <= mask) : i ∈ runs mask (c + 1) i pt := by
 refine List.mem_append_left _ ?_
 rw [List.mem_range'_1]
 have := eN h
 omega
theorem nC (mask : Nat) : ∀ (n : Nat) (p : Nat × Nat), (bM mask n p).2 = p.2 / 32 ^ n
 | 0, p => by simp [bM]
 | n + 1, p => by
  show (bM mask n (leap mask p.1 p.2)).2 = _
  rw [nC mask n]
  show p.2 / 32 / 32 ^ n = _
  rw [Nat.div_div_eq_div_mul, Nat.pow_succ, Nat.mul_comm]
theorem ko {mask k : Nat} (hk : mask + 1 = 2 ^ k) : ∀ (n i : Nat), i <= mask -> (bM mask n (i, 0)).1 = (5 ^ n * i + S n) % 2 ^ k
 | 0, i, h => by
  show i = _
  rw [Nat.pow_zero, Nat.one_mul]
  show i = (i + 0) % 2 ^ k
  rw [Nat.add_zero, Nat.mod_eq_of_lt (by omega)]
 | n + 1, i, h => by
  have e : leap mask i 0 = ((i * 5 + 1) % (mask + 1), 0) := by unfold leap; simp
  show (bM mask n (leap mask i 0)).1 = _
  rw [e, ko hk n _ (by have := Nat.mod_lt (i * 5 + 1) (show 0 < mask + 1 by omega); omega), hk]
  have a : (5 ^ n * ((i * 5 + 1) % 2 ^ k) + S n) % 2 ^ k = (5 ^ n * (i * 5 + 1) + S n) % 2 ^ k := by
   rw [Nat.add_mod, Nat.mul_mod, Nat.mod_mod, <- Nat.mul_mod, <- Nat.add_mod]
  rw [a, Nat.pow_succ]
  congr 1
  show _ = 5 ^ n * 5 * i + (5 * S n + 1)
  have := jY n
  rw [this]
  grind
theorem lR (mask : Nat) : ∀ (m n : Nat) (p : Nat × Nat), bM mask (m + n) p = bM mask n (bM mask m p)
 | 0, n, p => by rw [Nat.zero_add]; rfl
 | m + 1, n, p => by
  rw [show m + 1 + n = (m + n) + 1 by omega]
  exact lR mask m n _
theorem nB (mask : Nat) : ∀ (n : Nat) (p : Nat × Nat), p.1 <= mask -> (bM mask n p).1 <= mask
 | 0, _, h => h
 | n + 1, p, _ => nB mask n _ (ji _ _ _)
theorem cover {mask k : Nat} (hk : mask + 1 = 2 ^ k) (h : Int) {e : Nat} (he : e <= mask) : e ∈ cf mask h := by
 have hb : bits h < 2 ^ 64 := by
  unfold bits
  have := Int.emod_lt_of_pos h (show (0 : Int) < 2 ^ 64 by decide)
  have := Int.emod_nonneg h (show (2 ^ 64 : Int) ≠ 0 by decide)
  omega
 have hi : bits h % (mask + 1) <= mask := by have := Nat.mod_lt (bits h) (show 0 < mask + 1 by omega); omega
 generalize hp : (bits h % (mask + 1), bits h) = p
 have p1 : p.1 <= mask := by rw [<- hp]; exact hi
 have z : (bM mask 13 p).2 = 0 := by
  rw [nC, <- hp]
  exact Nat.div_eq_of_lt (Nat.lt_of_lt_of_le hb (by decide))
 have q1 := nB mask 13 p p1
 obtain ⟨n, hn, en⟩ := round k (bM mask 13 p).1 e (by omega)
 have ee : (bM mask (13 + n) p).1 = e := by
  rw [lR]
  have : bM mask 13 p = ((bM mask 13 p).1, 0) := Prod.ext rfl z
  rw [this, ko hk n _ q1]
  exact en
 have := kA (mask := mask) (n := 13 + n) (c := (mask - n) + 2) (i := bits h % (mask + 1)) (pt := bits h) e (by
  have hp' : (bits h % (mask + 1), bits h) = p := hp
  rw [hp', ee]
  exact sV he)
 unfold cf turns
 rw [show mask + 15 = 13 + n + (mask - n + 2) by omega]
 exact this
def fF (xs : Array Nat) : Prop := ∀ a b : Nat, a < b -> b < xs.size -> xs.getD a 0 < xs.getD b 0
theorem jD {xs : Array Nat} {j : Nat} (hr : fF xs) : ∀ (fuel lo hi : Nat), lo <= hi -> hi <= xs.size -> hi - lo <= fuel -> (∀ a, a < lo -> xs.getD a 0 < j) -> (∀ a, hi <= a -> a < xs.size -> j <= xs.getD a 0) →
  (below.go xs j fuel lo hi <= xs.size) /\ (∀ a, a < below.go xs j fuel lo hi -> xs.getD a 0 < j) /\ ∀ a, below.go xs j fuel lo hi <= a -> a < xs.size -> j <= xs.getD a 0
 | 0, lo, hi, h1, h2, h3, h4, h5 => by
  have : lo = hi := by omega
  subst this
  exact ⟨h2, h4, h5⟩
 | fuel + 1, lo, hi, h1, h2, h3, h4, h5 => by
  unfold below.go
  by_cases hlt : lo < hi
  ·rw [if_pos hlt]
   have hm : (lo + hi) / 2 < hi /\ lo <= (lo + hi) / 2 := by omega
   have hg : xs.getD ((lo + hi) / 2) j = xs.getD ((lo + hi) / 2) 0 := by
    have : (lo + hi) / 2 < xs.size := by omega
    simp [Array.getD, this]
   simp only [hg]
   split
   ·rename_i z
    refine jD hr fuel _ hi (by omega) h2 (by omega) (fun a ha => ?_) h5
    by_cases e : a = (lo + hi) / 2
    ·rw [e]; exact z
    ·exact Nat.lt_trans (hr a ((lo + hi) / 2) (by omega) (by omega)) z
   ·rename_i z
    refine jD hr fuel lo _ (by omega) (by omega) (by omega) h4 fun a ha hs => ?_
    by_cases e : a = (lo + hi) / 2
    ·rw [e]; omega
    ·have := hr ((lo + hi) / 2) a (by omega) hs
     omega
  ·rw [if_neg hlt]
   have : lo = hi := by omega
   subst this
   exact ⟨h2, h4, h5⟩
theorem fq {xs : Array Nat} (hr : fF xs) (j : Nat) : below xs j <= xs.size /\ (∀ a, a < below xs j -> xs.getD a 0 < j) /\ ∀ a, below xs j <= a -> a < xs.size -> j <= xs.getD a 0 :=
 jD hr xs.size 0 xs.size (Nat.zero_le _) (Nat.le_refl _) (by omega) (fun a h => absurd h (Nat.not_lt_zero _)) fun a h h' => by omega
theorem cG {xs : Array Nat} {a x : Nat} (h : xs[a]? = some x) : xs.getD a 0 = x /\ a < xs.size := by
 obtain ⟨l, e⟩ := Array.getElem?_eq_some_iff.mp h
 exact ⟨by simp [Array.getD, l, e], l⟩
theorem nj {xs : Array Nat} {a : Nat} (h : a < xs.size) : xs[a]? = some (xs.getD a 0) := by simp [Array.getD, h]
theorem below_at {xs : Array Nat} (hr : fF xs) {a j : Nat} (h : xs[a]? = some j) : below xs j = a := by
 obtain ⟨e, l⟩ := cG h
 obtain ⟨b1, b2, b3⟩ := fq hr j
 have h1 : ¬ a < below xs j := fun z => by have := b2 a z; omega
 have h2 : ¬ below xs j < a := fun z => by
  have := b3 (below xs j) (Nat.le_refl _) (by omega)
  have := hr _ a z l
  omega
 omega
theorem tj {t : SetTable} (hr : fF t.place) {a j : Nat} (h : t.place[a]? = some j) : t.slot j = .live a := by
 unfold SetTable.slot
 rw [below_at hr h]
 simp [h]
theorem qK {t : SetTable} (hr : fF t.place) (hd : t.dummies = #[]) {j : Nat} (h : j ∉ t.place.toList) : t.slot j = .empty := by
 have n : ¬ ((t.place[below t.place j]? == some j) = true) := fun z => by
  have e : t.place[below t.place j]? = some j := by simpa using z
  exact h (by
   obtain ⟨l, q⟩ := Array.getElem?_eq_some_iff.mp e
   rw [<- q]
   exact Array.getElem_mem_toList l)
 unfold SetTable.slot
 simp only [n, hd]
 have : has #[] j = false := by unfold has; simp
 simp [this]
def ahead (mask : Nat) (c : Nat) (p : Probe) : List Nat := List.range' p.j (p.more + 1) ++ runs mask c (leap mask p.i p.perturb).1 (leap mask p.i p.perturb).2
theorem ou (t : SetTable) (h : Int) : ∃ c, cf t.mask h = ahead t.mask c (t.probeStart h) := by
 refine ⟨t.mask + 14, ?_⟩
 unfold cf ahead turns probeStart
 show runs t.mask ((t.mask + 14) + 1) _ _ = _
 rw [iZ]
 have hi : bits h % (t.mask + 1) <= t.mask := by have := Nat.mod_lt (bits h) (show 0 < t.mask + 1 by omega); omega
 have := eN hi
 simp only
 rw [show runEnd t.mask (bits h % (t.mask + 1)) + 1 - bits h % (t.mask + 1) = runEnd t.mask (bits h % (t.mask + 1)) - bits h % (t.mask + 1) + 1 by omega]
theorem pZ (t : SetTable) {c : Nat} {p : Probe} {x : Nat} {r : List Nat} (e : ahead t.mask c p = x :: r) : p.j = x /\ (r = [] ∨ ∃ c', r = ahead t.mask c' (t.advance p)) := by
 unfold ahead at e
 rw [List.range'_succ, List.cons_append] at e
 obtain ⟨e1, e2⟩ := List.cons.inj e
 refine ⟨e1, ?_⟩
 unfold SetTable.advance
 by_cases hm : p.more > 0
 ·right
  refine ⟨c, ?_⟩
  rw [if_pos hm, <- e2]
  unfold ahead
  simp only
  rw [show p.more - 1 + 1 = p.more by omega]
 ·have m0 : p.more = 0 := by omega
  rw [m0] at e2
  simp only [List.range'_zero, List.nil_append] at e2
  cases c with
  | zero => left; rw [<- e2]; rfl
  | succ c =>
   right
   refine ⟨c, ?_⟩
   rw [if_neg hm, <- e2]
   have hl := ji t.mask p.i p.perturb
   have := eN hl
   unfold ahead
   rw [iZ]
   simp only
   rw [show runEnd t.mask (leap t.mask p.i p.perturb).1 + 1 - (leap t.mask p.i p.perturb).1 = runEnd t.mask (leap t.mask p.i p.perturb).1 - (leap t.mask p.i p.perturb).1 + 1 by omega]
theorem nU {t : SetTable} (hr : fF t.place) (hd : t.dummies = #[]) (hashAt : Nat -> Int) (h : Int) : ∀ (l : List Nat) (fuel c : Nat) (p : Probe), ahead t.mask c p = l -> l.length <= fuel -> (∃ x ∈ l, x ∉ t.place.toList) -> p.dummy = none →
  (∃ pre j post, l = pre ++ j :: post /\ (∀ x ∈ pre, ∃ a, t.place[a]? = some x /\ hashAt a ≠ h) /\ j ∉ t.place.toList /\ probe.go t hashAt h fuel p = some (.empty j none)) ∨
  ∃ pre j post a q c', l = pre ++ j :: post /\ (∀ x ∈ pre, ∃ a, t.place[a]? = some x /\ hashAt a ≠ h) /\ t.place[a]? = some j /\ hashAt a = h /\ post = ahead t.mask c' q /\ q.dummy = none /\ probe.go t hashAt h fuel p = some (.candidate j a q)
 | [], _, _, _, _, _, hx, _ => by obtain ⟨x, hx, _⟩ := hx; cases hx
 | x :: r, 0, _, _, _, hl, _, _ => by simp at hl
 | x :: r, fuel + 1, c, p, e, hl, hx, hdm => by
  obtain ⟨ej, er⟩ := pZ t e
  subst ej
  unfold probe.go
  by_cases hin : p.j ∈ t.place.toList
  ·obtain ⟨a, hla, ea⟩ := List.getElem_of_mem hin
   have ha : t.place[a]? = some p.j := by
    rw [<- Array.getElem?_toList, List.getElem?_eq_getElem hla, ea]
   rw [tj hr ha]
   have hx' : ∃ x ∈ r, x ∉ t.place.toList := by
    obtain ⟨y, hy, ny⟩ := hx
    rcases List.mem_cons.mp hy with z | z
    ·subst z; exact absurd hin ny
    ·exact ⟨y, z, ny⟩
   have er' : ∃ c', r = ahead t.mask c' (t.advance p) := by
    rcases er with z | z
    ·obtain ⟨y, hy, _⟩ := hx'; rw [z] at hy; cases hy
    ·exact z
   have hda : (t.advance p).dummy = none := by unfold SetTable.advance; split <;> exact hdm
   obtain ⟨c', ec⟩ := er'
   simp only
   by_cases hh : hashAt a = h
   ·right
    rw [if_pos (by simpa using hh)]
    exact ⟨[], p.j, r, a, t.advance p, c', rfl, by simp, ha, hh, ec, hda, rfl⟩
   ·rw [if_neg (by simpa using hh)]
    have good : ∃ a, t.place[a]? = some p.j /\ hashAt a ≠ h := ⟨a, ha, hh⟩
    rcases nU hr hd hashAt h r fuel c' (t.advance p) ec.symm (by simp at hl; omega) hx' hda with ⟨pre, j, post, e1, e2, e3, e4⟩ | ⟨pre, j, post, b, q, c2, e1, e2, e3, e4, e5, e6, e7⟩
    ·left
     refine ⟨p.j :: pre, j, post, by rw [e1]; rfl, fun y hy => ?_, e3, e4⟩
     rcases List.mem_cons.mp hy with z | z
     ·rw [z]; exact good
     ·exact e2 y z
    ·right
     refine ⟨p.j :: pre, j, post, b, q, c2, by rw [e1]; rfl, fun y hy => ?_, e3, e4, e5, e6, e7⟩
     rcases List.mem_cons.mp hy with z | z
     ·rw [z]; exact good
     ·exact e2 y z
  ·left
   rw [qK hr hd hin]
   exact ⟨[], p.j, r, rfl, by simp, hin, by simp [hdm]⟩
structure Tab (t : SetTable) (hs : List Int) : Prop where
 k : ∃ k, t.mask + 1 = 2 ^ (k + 1)
 rise : fF t.place
 le : ∀ x ∈ t.place.toList, x <= t.mask
 dum : t.dummies = #[]
 len : t.place.size = hs.length
 room : t.place.size <= t.mask
 reach : ∀ (a x : Nat) (h : Int), t.place[a]? = some x -> hs[a]? = some h -> ∃ pre post, cf t.mask h = pre ++ x :: post /\ ∀ y ∈ pre, y ∈ t.place.toList
theorem Tab.fits {t : SetTable} {hs : List Int} (T : Tab t hs) : t.fits hs.length = true := by
 unfold SetTable.fits SetTable.fill
 rw [T.dum]
 simp [T.len]
 have := T.len
 have := T.room
 omega
theorem Tab.stays {t : SetTable} {hs : List Int} (T : Tab t hs) : t.gaveWay = false := by
 obtain ⟨k, e⟩ := T.k
 unfold SetTable.gaveWay
 rw [Nat.pow_succ] at e
 have : t.mask % 2 = 1 := by omega
 rw [this]
 rfl
theorem uF {xs : Array Nat} (hr : fF xs) {a b x y : Nat} (ha : xs[a]? = some x) (hb : xs[b]? = some y) (h : x < y) : a < b := by
 obtain ⟨e1, l1⟩ := cG ha
 obtain ⟨e2, l2⟩ := cG hb
 rcases Nat.lt_trichotomy a b with z | z | z
 ·exact z
 ·subst z; omega
 ·have := hr b a z l1
  omega
theorem o8 {xs : Array Nat} {x : Nat} (h : x ∈ xs.toList) : ∃ a : Nat, xs[a]? = some x := by
 obtain ⟨a, hla, ea⟩ := List.getElem_of_mem h
 exact ⟨a, by rw [<- Array.getElem?_toList, List.getElem?_eq_getElem hla, ea]⟩
theorem get_mem {xs : Array Nat} {a x : Nat} (h : xs[a]? = some x) : x ∈ xs.toList := by
 obtain ⟨l, q⟩ := Array.getElem?_eq_some_iff.mp h
 rw [<- q]
 exact Array.getElem_mem_toList l
theorem vL {xs : Array Nat} (hr : fF xs) {mask : Nat} (hs : xs.size <= mask) : ∃ e, e <= mask /\ e ∉ xs.toList := by
 refine Classical.byContradiction fun no => ?_
 have all : ∀ e, e <= mask -> e ∈ xs.toList := fun e he => Classical.byContradiction fun n => no ⟨e, he, n⟩
 have up : ∀ j, j <= mask -> ∃ a, xs[a]? = some j /\ j <= a := by
  intro j
  induction j with
  | zero => intro h; obtain ⟨a, ha⟩ := o8 (all 0 h); exact ⟨a, ha, Nat.zero_le _⟩
  | succ j ih =>
   intro h
   obtain ⟨a, ha, hja⟩ := ih (by omega)
   obtain ⟨b, hb⟩ := o8 (all (j + 1) h)
   have := uF hr ha hb (by omega)
   exact ⟨b, hb, by omega⟩
 obtain ⟨a, ha, hm⟩ := up mask (Nat.le_refl _)
 have := (cG ha).2
 omega
theorem Tab.empty {t : SetTable} {hs : List Int} (T : Tab t hs) (h : Int) : ∃ x ∈ cf t.mask h, x ∉ t.place.toList := by
 obtain ⟨e, he, ne⟩ := vL T.rise T.room
 obtain ⟨k, hk⟩ := T.k
 exact ⟨e, cover hk h he, ne⟩
theorem qO (mask : Nat) (h : Int) : (cf mask h).length <= 10 * turns mask := nZ (by have := Nat.mod_lt (bits h) (show 0 < mask + 1 by omega); omega)
theorem i8 (mask : Nat) (h : Int) : ∀ x ∈ cf mask h, x <= mask := pM (by have := Nat.mod_lt (bits h) (show 0 < mask + 1 by omega); omega)
theorem iq {α : Type} (xs : Array α) (p : Nat) (x : α) : (insertAt xs p x).toList = xs.toList.take p ++ x :: xs.toList.drop p := by
 unfold insertAt
 simp
 exact List.take_of_length_le (by rw [List.length_drop, Array.length_toList]; exact Nat.le_refl _)
theorem get_ins {α : Type} {l : List α} {p : Nat} (hp : p <= l.length) (x : α) (a : Nat) : (l.take p ++ x :: l.drop p)[a]? = if a < p then l[a]? else if a = p then some x else l[a - 1]? := by
 by_cases h : a < p
 ·rw [if_pos h, List.getElem?_append_left (by rw [List.length_take]; omega), List.getElem?_take, if_pos h]
 ·rw [if_neg h, List.getElem?_append_right (by rw [List.length_take]; omega), List.length_take, Nat.min_eq_left hp]
  by_cases e : a = p
  ·rw [if_pos e, e, Nat.sub_self]; rfl
  ·rw [if_neg e, show a - p = (a - p - 1) + 1 by omega, List.getElem?_cons_succ, List.getElem?_drop, show p + (a - p - 1) = a - 1 by omega]
theorem Tab.put {t : SetTable} {hs : List Int} (T : Tab t hs) {h : Int} {j : Nat} {pre post : List Nat} (hj : j ∉ t.place.toList) (hv : cf t.mask h = pre ++ j :: post) (hp : ∀ y ∈ pre, y ∈ t.place.toList) (hroom : t.place.size + 1 <= t.mask) :
  Tab (t.put j).1 (hs.take (t.put j).2 ++ h :: hs.drop (t.put j).2) /\ (t.put j).2 <= hs.length /\ (t.put j).1.mask = t.mask /\ (t.put j).1.place.size = t.place.size + 1 := by
 have e1 : (t.put j).1.place = insertAt t.place (below t.place j) j := rfl
 have e2 : (t.put j).2 = below t.place j := rfl
 have e3 : (t.put j).1.mask = t.mask := rfl
 have e4 : (t.put j).1.dummies = #[] := by
  show (if has t.dummies j then _ else t.dummies) = _
  rw [T.dum]
  have : has #[] j = false := by unfold has; simp
  rw [this]
  rfl
 obtain ⟨b1, b2, b3⟩ := fq T.rise j
 have bp : below t.place j <= t.place.toList.length := by rw [Array.length_toList]; exact b1
 have bh : below t.place j <= hs.length := by rw [<- T.len]; exact b1
 have gl : ∀ a, (t.put j).1.place[a]? = if a < below t.place j then t.place[a]? else if a = below t.place j then some j else t.place[a - 1]? := fun a => by
  rw [e1, <- Array.getElem?_toList, iq, get_ins bp, Array.getElem?_toList, Array.getElem?_toList]
 have sz : (t.put j).1.place.size = t.place.size + 1 := by
  rw [e1, <- Array.length_toList, iq, List.length_append, List.length_take, List.length_cons, List.length_drop, Array.length_toList]
  omega
 have mem : ∀ x, x ∈ (t.put j).1.place.toList ↔ x = j ∨ x ∈ t.place.toList := fun x => by
  rw [e1, iq, List.mem_append, List.mem_cons]
  constructor
  ·rintro (z | z | z)
   ·exact .inr (List.mem_of_mem_take z)
   ·exact .inl z
   ·exact .inr (List.mem_of_mem_drop z)
  ·rintro (z | z)
   ·exact .inr (.inl z)
   ·rw [<- List.take_append_drop (below t.place j) t.place.toList] at z
    rcases List.mem_append.mp z with q | q
    ·exact .inl q
    ·exact .inr (.inr q)
 refine ⟨⟨T.k, ?_, ?_, e4, ?_, by rw [sz]; exact hroom, ?_⟩, bh, e3, sz⟩
 ·intro a b hab hb
  rw [sz] at hb
  have ga := nj (xs := (t.put j).1.place) (a := a) (by rw [sz]; omega)
  have gb := nj (xs := (t.put j).1.place) (a := b) (by rw [sz]; exact hb)
  rw [gl a] at ga
  rw [gl b] at gb
  have jn : ∀ c, c < t.place.size -> t.place.getD c 0 ≠ j := fun c hc e => hj (by rw [<- e]; exact get_mem (nj hc))
  by_cases a1 : a < below t.place j
  ·rw [if_pos a1] at ga
   obtain ⟨ea, la⟩ := cG ga
   have := b2 a a1
   by_cases c1 : b < below t.place j
   ·rw [if_pos c1] at gb
    obtain ⟨eb, lb⟩ := cG gb
    have := T.rise a b hab lb
    omega
   ·rw [if_neg c1] at gb
    by_cases c2 : b = below t.place j
    ·rw [if_pos c2] at gb
     have := Option.some.inj gb
     omega
    ·rw [if_neg c2] at gb
     obtain ⟨eb, lb⟩ := cG gb
     have := T.rise a (b - 1) (by omega) lb
     omega
  ·rw [if_neg a1] at ga
   have c1 : ¬ b < below t.place j := by omega
   have c2 : ¬ b = below t.place j := by omega
   rw [if_neg c1, if_neg c2] at gb
   obtain ⟨eb, lb⟩ := cG gb
   by_cases a2 : a = below t.place j
   ·rw [if_pos a2] at ga
    have := Option.some.inj ga
    have := b3 (b - 1) (by omega) lb
    have := jn (b - 1) lb
    omega
   ·rw [if_neg a2] at ga
    obtain ⟨ea, la⟩ := cG ga
    have := T.rise (a - 1) (b - 1) (by omega) lb
    omega
 ·intro x hx
  rcases (mem x).mp hx with z | z
  ·subst z
   exact i8 t.mask h x (by rw [hv]; simp)
  ·exact T.le x z
 ·rw [sz, e2, List.length_append, List.length_take, List.length_cons, List.length_drop, <- T.len]
  omega
 ·intro a x h' hx hh
  rw [gl a] at hx
  rw [e2, get_ins bh] at hh
  have up : ∀ {l : List Nat}, (∀ y ∈ l, y ∈ t.place.toList) -> ∀ y ∈ l, y ∈ (t.put j).1.place.toList := fun hl y hy => (mem y).mpr (.inr (hl y hy))
  by_cases a1 : a < below t.place j
  ·rw [if_pos a1] at hx hh
   obtain ⟨p1, p2, q1, q2⟩ := T.reach a x h' hx hh
   exact ⟨p1, p2, q1, up q2⟩
  ·rw [if_neg a1] at hx hh
   by_cases a2 : a = below t.place j
   ·rw [if_pos a2] at hx hh
    cases hx
    cases hh
    exact ⟨pre, post, hv, up hp⟩
   ·rw [if_neg a2] at hx hh
    obtain ⟨p1, p2, q1, q2⟩ := T.reach (a - 1) x h' hx hh
    exact ⟨p1, p2, q1, up q2⟩
theorem lG (mask : Nat) (owner : Array (Option Nat)) : ∀ (fuel i pt : Nat), layClean.free mask owner fuel i pt = (runs mask fuel i pt).find? fun y => (owner.getD y (some 0)).isNone
 | 0, _, _ => rfl
 | fuel + 1, i, pt => by
  rw [iZ, List.find?_append, List.range'_eq_map_range, List.find?_map]
  unfold layClean.free
  have ih := lG mask owner fuel (leap mask i pt).1 (leap mask i pt).2
  have ef : ((fun y => (owner.getD y (some 0)).isNone) ∘ fun x => i + x) = fun k => (owner.getD (i + k) (some 0)).isNone := rfl
  rw [ef]
  cases (List.range (runEnd mask i + 1 - i)).find? fun k => (owner.getD (i + k) (some 0)).isNone with
  | some k => rfl
  | none => exact ih
structure Ow (mask : Nat) (hs : List Int) (owner : Array (Option Nat)) : Prop where
 size : owner.size = mask + 1
 cnt : (owner.toList.filter Option.isSome).length = hs.length
 at_ : ∀ (i : Nat) (h : Int), hs[i]? = some h -> ∃ j : Nat, owner[j]? = some (some i) /\ ∃ pre post, cf mask h = pre ++ j :: post /\ ∀ y ∈ pre, ∃ q, owner[y]? = some (some q)
 lt : ∀ j i : Nat, owner[j]? = some (some i) -> i < hs.length
 inj : ∀ j j' i : Nat, owner[j]? = some (some i) -> owner[j']? = some (some i) -> j = j'
theorem kg {α : Type} {p : α -> Bool} : ∀ {l : List α} {x : α}, l.find? p = some x -> ∃ pre post, l = pre ++ x :: post /\ p x = true /\ ∀ y ∈ pre, p y = false
 | [], _, h => by cases h
 | a :: r, x, h => by
  rw [List.find?_cons] at h
  cases pa : p a with
  | true => rw [pa] at h; cases h; exact ⟨[], r, rfl, pa, by simp⟩
  | false =>
   rw [pa] at h
   obtain ⟨pre, post, e, q1, q2⟩ := kg h
   refine ⟨a :: pre, post, by rw [e]; rfl, q1, fun y hy => ?_⟩
   rcases List.mem_cons.mp hy with z | z
   ·rw [z]; exact pa
   ·exact q2 y z
theorem kc {α : Type} {p : α -> Bool} : ∀ {l : List α} {j : Nat} {a b : α}, l[j]? = some a -> p a = false -> p b = true -> ((l.set j b).filter p).length = (l.filter p).length + 1
 | [], _, _, _, h, _, _ => by simp at h
 | x :: r, 0, a, b, h, ha, hb => by
  simp at h
  subst h
  rw [List.set_cons_zero, List.filter_cons_of_pos hb, List.filter_cons_of_neg (by simp [ha]), List.length_cons]
 | x :: r, j + 1, a, b, h, ha, hb => by
  have ih := kc (l := r) (j := j) (by simpa using h) ha hb
  rw [List.set_cons_succ]
  by_cases c : p x = true
  ·rw [List.filter_cons_of_pos c, List.filter_cons_of_pos c, List.length_cons, List.length_cons, ih]
  ·rw [List.filter_cons_of_neg c, List.filter_cons_of_neg c, ih]
theorem Ow.step {mask k : Nat} (hk : mask + 1 = 2 ^ k) {hs : List Int} {owner : Array (Option Nat)} (O : Ow mask hs owner) (hn : hs.length <= mask) (h : Int) :
  ∃ j, layClean.free mask owner (turns mask) (bits h % (mask + 1)) (bits h) = some j /\ Ow mask (hs ++ [h]) (owner.setIfInBounds j (some hs.length)) := by
 have ex : ∃ e : Nat, e <= mask /\ owner[e]? = some none := by
  refine Classical.byContradiction fun no => ?_
  have all : ∀ x ∈ owner.toList, Option.isSome x = true := fun x hx => by
   obtain ⟨e, le, ee⟩ := List.getElem_of_mem hx
   rw [Array.length_toList, O.size] at le
   cases x with
   | some _ => rfl
   | none => exact absurd ⟨e, by omega, by rw [<- Array.getElem?_toList, List.getElem?_eq_getElem (by rw [Array.length_toList, O.size]; exact le), ee]⟩ no
  have := O.cnt
  rw [List.filter_eq_self.mpr all, Array.length_toList, O.size] at this
  omega
 have emp : ∀ y, y <= mask -> ((owner.getD y (some 0)).isNone = true ↔ owner[y]? = some none) := fun y hy => by
  have l : y < owner.size := by rw [O.size]; omega
  rw [Array.getElem?_eq_getElem l]
  simp [Array.getD, l]
 obtain ⟨e, he, ee⟩ := ex
 have fs : ((cf mask h).find? fun y => (owner.getD y (some 0)).isNone).isSome = true := by
  rw [List.find?_isSome]
  exact ⟨e, cover hk h he, (emp e he).mpr ee⟩
 obtain ⟨j, fj⟩ := Option.isSome_iff_exists.mp fs
 obtain ⟨pre, post, ev, pj, pp⟩ := kg fj
 have jm : j <= mask := i8 mask h j (by rw [ev]; simp)
 have oj := (emp j jm).mp pj
 have jl : j < owner.size := by rw [O.size]; omega
 refine ⟨j, by rw [lG]; exact fj, ?_⟩
 have gs : ∀ y : Nat, (owner.setIfInBounds j (some hs.length))[y]? = if j = y then some (some hs.length) else owner[y]? := fun y => by
  rw [Array.getElem?_setIfInBounds]
  by_cases c : j = y
  ·rw [if_pos c, if_pos c, if_pos jl]
  ·rw [if_neg c, if_neg c]
 have keep : ∀ (y q : Nat), owner[y]? = some (some q) -> (owner.setIfInBounds j (some hs.length))[y]? = some (some q) := fun y q hy => by
  rw [gs, if_neg (fun c => by subst c; rw [oj] at hy; cases hy)]
  exact hy
 refine ⟨by rw [Array.size_setIfInBounds]; exact O.size, ?_, ?_, ?_, ?_⟩
 ·rw [Array.toList_setIfInBounds, kc (a := none) (by rw [Array.getElem?_toList]; exact oj) rfl rfl, O.cnt, List.length_append]
  rfl
 ·intro i h' hi
  by_cases c : i < hs.length
  ·rw [List.getElem?_append_left c] at hi
   obtain ⟨j', o', p1, p2, q1, q2⟩ := O.at_ i h' hi
   exact ⟨j', keep _ _ o', p1, p2, q1, fun y hy => let ⟨q, z⟩ := q2 y hy; ⟨q, keep _ _ z⟩⟩
  ·rw [List.getElem?_append_right (by omega)] at hi
   have ei : i = hs.length := by
    have := (List.getElem?_eq_some_iff.mp hi).1
    simp at this
    omega
   subst ei
   simp at hi
   subst hi
   refine ⟨j, by rw [gs, if_pos rfl], pre, post, ev, fun y hy => ?_⟩
   have ym : y <= mask := i8 mask h y (by rw [ev]; simp [hy])
   have ny := pp y hy
   have yl : y < owner.size := by rw [O.size]; omega
   cases oy : owner[y] with
   | none =>
    have := (emp y ym).mpr (by rw [Array.getElem?_eq_getElem yl, oy])
    rw [this] at ny
    cases ny
   | some q => exact ⟨q, keep y q (by rw [Array.getElem?_eq_getElem yl, oy])⟩
 ·intro y i hy
  rw [gs] at hy
  rw [List.length_append]
  by_cases c : j = y
  ·rw [if_pos c] at hy
   cases hy
   simp
  ·rw [if_neg c] at hy
   have := O.lt y i hy
   simp
   omega
 ·intro y y' i hy hy'
  rw [gs] at hy hy'
  by_cases c : j = y <;> by_cases c' : j = y'
  ·omega
  ·rw [if_pos c] at hy
   rw [if_neg c'] at hy'
   cases hy
   have := O.lt y' _ hy'
   omega
  ·rw [if_neg c] at hy
   rw [if_pos c'] at hy'
   cases hy'
   have := O.lt y _ hy
   omega
  ·rw [if_neg c] at hy
   rw [if_neg c'] at hy'
   exact O.inj y y' i hy hy'
def live (mask : Nat) (owner : Array (Option Nat)) : List (Nat × Nat) := (List.range (mask + 1)).filterMap fun j => (owner.getD j none).map (j, ·)
theorem mC : ∀ (fuel size n : Nat), n < size * 2 ^ fuel -> ∃ m, sizeAbove.go n fuel size = size * 2 ^ m /\ n < size * 2 ^ m
 | 0, size, n, h => ⟨0, by simp [sizeAbove.go], h⟩
 | fuel + 1, size, n, h => by
  unfold sizeAbove.go
  by_cases c : size <= n
  ·rw [if_pos c]
   obtain ⟨m, e1, e2⟩ := mC fuel (size * 2) n (by rw [Nat.pow_succ] at h; rw [Nat.mul_assoc, Nat.mul_comm 2]; exact h)
   refine ⟨m + 1, ?_, ?_⟩
   ·rw [e1, Nat.pow_succ, Nat.mul_assoc, Nat.mul_comm 2]
   ·rw [Nat.pow_succ, Nat.mul_comm (2 ^ m), <- Nat.mul_assoc]; exact e2
  ·rw [if_neg c]
   exact ⟨0, by simp, by simp; omega⟩
theorem above {n : Nat} (h : n < 2 ^ 60) : ∃ k, sizeAbove n - 1 + 1 = 2 ^ (k + 1) /\ n <= sizeAbove n - 1 := by
 obtain ⟨m, e1, e2⟩ := mC 64 8 n (Nat.lt_of_lt_of_le h (by decide))
 have e : sizeAbove n = 8 * 2 ^ m := e1
 have hp := Nat.two_pow_pos m
 refine ⟨m + 2, ?_, by omega⟩
 rw [e, show 2 ^ (m + 2 + 1) = 8 * 2 ^ m by rw [Nat.pow_succ, Nat.pow_succ, Nat.pow_succ]; omega]
 omega
end ST
namespace SW
open PySem PySem.SetTable ST
section
variable {prog : Program} {w : World} {A : Around} {E : Value -> Shared -> Prop} {s : Shared}
abbrev TK (prog : Program) (w : World) : HeapKind prog w (List Int) := tupleKind (intKind prog w)
theorem items_int : ∀ {ks : List Int} {vs : List Value}, ItemsAre (intKind prog w) ks vs -> ∀ v ∈ vs, ∃ n t, v = Value.int n t
 | _, _, .nil, v, h => by cases h
 | _, _, .cons h t, v, hv => by
  rcases List.mem_cons.mp hv with z | z
  ·subst z
   obtain ⟨t, e⟩ := Value.isInt_shape h
   exact ⟨_, t, e⟩
  ·exact items_int t v z
theorem vQ (d : Nat) (n : Int) (t : Tok) : hashByValue d (.int n t) = pure true := by cases d <;> rfl
structure pX (prog : Program) (w : World) (h : Heap) (a : Addr) (xs : List (List Int × Addr)) : Prop where
 ex : ∃ o es ep t, h.get? a = some o /\ o.ExactSet /\ o.data = .set es ep t /\ es.toList = xs.map (fun x => ((TK prog w).hash x.1, Value.ref x.2)) /\ Tab t (xs.map fun x => (TK prog w).hash x.1) /\ (t.plain = true /\ t.led = !w.params.followText "set-order") /\ t.place.size * 5 < t.mask * 3 /\ t.mask <= 8191
 is_ : ∀ x ∈ xs, (TK prog w).is h x.1 x.2
 nd : (xs.map (·.1)).Nodup
end
end SW
namespace SW
open PySem PySem.SetTable ST
theorem lE : entryFor table "set.update.loop" = some Builtin.«set.update.loop» := entryFor_of_tree (by kernel_rfl)
theorem iY : plainId "set.update.loop" = true := by decide +kernel
section
variable {prog : Program} {w : World} {A : Around} {E : Value -> Shared -> Prop} {s : Shared}
theorem pX.ext {h h' : Heap} {a : Addr} {xs : List (List Int × Addr)} (S : pX prog w h a xs) (e : ∀ o, h.get? a = some o -> h'.get? a = some o) (hk : ∀ x ∈ xs, (TK prog w).is h' x.1 x.2) : pX prog w h' a xs := by
 obtain ⟨⟨o, es, ep, t, ho, r⟩, _, nd⟩ := S
 exact ⟨⟨o, es, ep, t, e o ho, r⟩, hk, nd⟩
end
end SW
namespace SW
open PySem PySem.SetTable ST
theorem ml (a : Value) : checkTypeCall "set" ⟨[a], []⟩ = pure () := by kernel_rfl
theorem nJ (a : Value) : checkBuiltinCall "set.__new__" ⟨[.type "set", a], []⟩ = pure () := by kernel_rfl
section
variable {prog : Program} {w : World} {A : Around} {E : Value -> Shared -> Prop} {s : Shared}
theorem l7 (a : Value) {Q₁ : Value -> Shared -> Prop}
  (h : ∀ led : Bool, led = (!w.params.followText "set-order") -> Q₁ (.ref s.heap.objs.size) { s with heap := s.heap.push { cls := .type "set", dict := none, data := .set #[] 0 (.fresh 0 0 led) } }) :
  codeAny (model prog w) A (.call (.builtin "set.__new__") ⟨[.type "set", a], []⟩) (wants Q₁ E) s := by
 refine codeAny_of_tree ?_
 show wpAny _ A.in1 (do checkBuiltinCall "set.__new__" ⟨[.type "set", a], []⟩; again (.builtin "set.__new__" ⟨[.type "set", a], []⟩)) _ _ s
 refine wpAny_bind (wpAny_of_eq (nJ a) (wpAny_pure ⟨plainId_quiet F.plain_set_new _, codeAny_builtin F.entry_set_new ?_⟩)); rw [Around.under_plainId F.plain_set_new _]
 unfold Builtin.«set.__new__» Builtin.Frozenset.newClass; have hsub := sub_set_self; obtain ⟨hp, g, d, tk, os⟩ := s
 dsimp only; wp_walk; refine wpAny_askSetting (wpAny_pure ?_); dsimp only; simp only [newObj]; refine wpAny_bind (wpAny_alloc (wpAny_pure ?_))
 exact wpAny_pure (h _ rfl)
theorem ow {M : Model} {self x : Value} {Q : Unit -> Shared -> Prop} (hT : s.TypeIs self "set") (hQ : Q () s) : wpAny M A (checkBuiltinCall "set.__init__" ⟨[self, x], []⟩) Q E s := by
 simp only [checkBuiltinCall, kind_set_init, split_set_init, sig_set_init]; refine wpAny_bind (wpAny_isInstance hT sub_set_self ?_)
 simp only [Bool.not_true, Bool.false_eq_true, if_false]; unfold Bind.checkArgs; dsimp only
 refine wpAny_bind (m := Bind.printed "set" true _ _) (PyProof.Rows.printed_name (by decide) ?_); refine wpAny_bind (m := Bind.printed "*" false _ _) (PyProof.Rows.printed_star (self := self) rfl hT fun short => ?_)
 have hrn : (Manifest.Receiver.self == Manifest.Receiver.none) = false := by decide
 rw [show (if (Manifest.Receiver.self == Manifest.Receiver.none) = true then [self, x].length else [self, x].length - 1) = 1 by simp [hrn]]
 simp only [List.map_nil]
 rw [show Bind.check ⟨.positional, "set", "*", .self, [⟨"iterable", .posOnly, false⟩]⟩ "set" short 1 [] = pure () by (simp [Bind.check, Bind.checkCount, Bind.isPositional]; intro z; exact absurd z (by decide))]
 exact wpAny_pure hQ
set_option maxHeartbeats 1000000 in
theorem qW {x : Value} {Q : Value -> Shared -> Prop} (h : ∀ led : Bool, led = (!w.params.followText "set-order") -> wpAny (model prog w) A.in1.in1 (Builtin.«set.__init__» ⟨[.ref s.heap.objs.size, x], []⟩)
   (fun fin s' => match fin with | .done f => wants (fun r s₂ => r = .none /\ Q (.ref s.heap.objs.size) s₂) E (.ok f) s' | .again c' => c'.quiet = true /\ codeAny (model prog w) A.in1 c' (wants (fun r s₂ => r = .none /\ Q (.ref s.heap.objs.size) s₂) E) s')
   (fun e s' => wants (fun r s₂ => r = .none /\ Q (.ref s.heap.objs.size) s₂) E (.error e) s') { s with heap := s.heap.push { cls := .type "set", dict := none, data := .set #[] 0 (.fresh 0 0 led) } }) :
  wpAny (model prog w) A (call (.type "set") [x]) Q E s := by
 obtain ⟨c, tl, hmro⟩ := F.called_set.mro; have hmade := F.called_set.made; have hsub := F.called_set.sub
 refine wpAny_call (codeAny_of_tree ?_); show wpAny _ _ (callAny (.type "set") _) _ _ _
 refine wpAny_pure ⟨Code.quiet_builtin _ (by decide +kernel), codeAny_builtin F.entry_type_call ?_⟩; rw [Around.under_plain (weight_type_call_type "set" [x] []) rfl]
 have h1 := F.called_set.notType; have h2 := F.called_set.canCreate; have hct := ml x
 repeat (any_goals (first | assumption | wp_step))
 refine codeAny_mono (l7 (E := E) x (Q₁ := fun obj s₁ => ∃ led : Bool, led = (!w.params.followText "set-order") /\ obj = .ref s.heap.objs.size /\ s₁ = { s with heap := s.heap.push { cls := .type "set", dict := none, data := .set #[] 0 (.fresh 0 0 led) } }) fun led hle => ⟨led, hle, rfl, rfl⟩) fun r s₁ hr => ?_
 cases r with
 | error e => exact hr
 | ok fl =>
  cases fl with
  | ret obj =>
   obtain ⟨led, hle, rfl, rfl⟩ := hr
   have hT : Shared.TypeIs { s with heap := s.heap.push { cls := .type "set", dict := none, data := .set #[] 0 (.fresh 0 0 led) } } (.ref s.heap.objs.size) "set" := ⟨_, Heap.get?_push_size _ rfl, rfl⟩
   have hli := F.called_set.init.lookup; have hbi := F.called_set.init.bind (.ref s.heap.objs.size)
   repeat (any_goals (first | assumption | wp_step))
   refine codeAny_mono (codeAny_call_builtin (R := wants (fun r s₂ => r = .none /\ Q (.ref s.heap.objs.size) s₂) E) F.called_set.init.plain F.entry_set_init (ow hT (h led hle))) fun r₂ s₂ hr₂ => ?_
   cases r₂ with
   | error e => exact hr₂
   | ok fl₂ =>
    cases fl₂ with
    | ret r =>
     obtain ⟨rfl, hq⟩ := hr₂
     repeat (any_goals (first | assumption | wp_step))
    | _ => exact hr₂.elim
  | _ => exact hr.elim
theorem vN (led : Bool) (hle : led = !w.params.followText "set-order") : pX prog w (s.heap.push { cls := .type "set", dict := none, data := .set #[] 0 (.fresh 0 0 led) }) s.heap.objs.size [] := by
 refine ⟨⟨_, #[], 0, _, Heap.get?_push_size _ rfl, ⟨rfl, rfl, rfl⟩, rfl, rfl, ?_, ⟨rfl, hle⟩, by show 0 * 5 < 7 * 3; decide, by show 7 <= 8191; decide⟩, by simp, by simp⟩
 refine ⟨⟨2, rfl⟩, fun a b _ hb => absurd hb (Nat.not_lt_zero _), (fun x hx => by cases hx), rfl, rfl, Nat.zero_le _, fun a x h hx => ?_⟩
 have : (#[] : Array Nat)[a]? = some x := hx
 simp at this
theorem xO : isSubtype (.type "list") (.type "set") = pure false := by rw [isSubtype_type]; kernel_rfl
theorem xN : isSubtype (.type "list") (.type "frozenset") = pure false := by rw [isSubtype_type]; kernel_rfl
end
end SW
namespace SW
open PySem PySem.SetTable ST
theorem ka {α : Type} : ∀ (l : List α) (i : Nat) (h : i < l.length), (l[i] :: l.eraseIdx i).Perm l
 | [], _, h => absurd h (Nat.not_lt_zero _)
 | x :: l, 0, _ => List.Perm.refl _
 | x :: l, i + 1, h => by
  have r := ka l i (by simpa using h)
  show (l[i]'(by simpa using h) :: x :: l.eraseIdx i).Perm (x :: l)
  exact (List.Perm.swap x _ _).trans (List.Perm.cons x r)
theorem pF {α : Type} (next : Nat -> Nat) : ∀ (fuel k : Nat) (left : List α) (out : Array α), left.length = fuel -> (pickOrder.go next fuel k left out).toList.Perm (out.toList ++ left)
 | 0, k, left, out, e => by
  have : left = [] := List.length_eq_zero_iff.mp e
  subst this
  simp [pickOrder.go]
 | fuel + 1, k, left, out, e => by
  have hp : 0 < left.length := by omega
  have hm : next k % left.length < left.length := Nat.mod_lt _ hp
  unfold pickOrder.go
  rw [List.getElem?_eq_getElem hm]
  dsimp only
  have r := pF next fuel (k + 1) (left.eraseIdx (next k % left.length)) (out.push left[next k % left.length]) (by rw [List.length_eraseIdx, if_pos hm]; omega)
  refine r.trans ?_
  rw [Array.toList_push, List.append_assoc]
  exact (List.perm_append_left_iff _).mpr (ka left _ hm)
theorem sR {α : Type} (next : Nat -> Nat) (xs : Array α) : (pickOrder next xs).toList.Perm xs.toList := by
 have := pF next xs.size 0 xs.toList #[] (by simp)
 simpa [pickOrder] using this
theorem p6 {xs : Array Nat} (hr : fF xs) : below xs 0 = 0 := by
 obtain ⟨h1, h2, h3⟩ := fq hr 0
 rcases Nat.eq_zero_or_pos (below xs 0) with z | z
 ·exact z
 ·have := h2 0 z; omega
theorem p5 {xs : Array Nat} (hr : fF xs) {a j : Nat} (h : xs[a]? = some j) : below xs (j + 1) = a + 1 := by
 obtain ⟨h1, h2, h3⟩ := fq hr (j + 1)
 obtain ⟨la, ea⟩ := Array.getElem?_eq_some_iff.mp h
 have ga : xs.getD a 0 = j := by simp [Array.getD, la, ea]
 rcases Nat.lt_trichotomy (below xs (j + 1)) (a + 1) with z | z | z
 ·have := h3 a (by omega) la
  omega
 ·exact z
 ·have q := h2 (a + 1) z
  have lb : a + 1 < xs.size := by omega
  have := hr a (a + 1) (by omega) lb
  omega
theorem nS : Manifest.owners.lookup (String.ofList ['r', 'o', 't', 'a', 'r', 'e', 't', 'i', '_', 't', 'e', 's'].reverse) = some Manifest.sig_set_iterator := by kernel_rfl
theorem b6 : Slot "set_iterator" "__next__" "set_iterator.__next__" :=
 .of (owner := "set_iterator") (n := "__next__") (by rw [typeLookup_type, builtinLookup_eq_fast]; kernel_rfl) (by decide +kernel) (by decide +kernel) (by decide +kernel) (.inl (by decide +kernel)) (by rw [isSubtype_type]; kernel_rfl)
theorem i5 : Slot "set_iterator" "__iter__" "set_iterator.__iter__" :=
 .of (owner := "set_iterator") (n := "__iter__") (by rw [typeLookup_type, builtinLookup_eq_fast]; kernel_rfl) (by decide +kernel) (by decide +kernel) (by decide +kernel) (.inl (by decide +kernel)) (by rw [isSubtype_type]; kernel_rfl)
theorem iH : entryFor table "set_iterator.__next__" = some Builtin.«set_iterator.__next__» := entryFor_of_tree (by kernel_rfl)
theorem l8 : entryFor table "set_iterator.__iter__" = some Builtin.«dict_keyiterator.__iter__» := entryFor_alias (id' := "dict_keyiterator.__iter__") (by kernel_rfl) rfl (by decide +kernel) (by kernel_rfl)
theorem m6 : entryFor table "set.__iter__" = some Builtin.«frozenset.__iter__» := entryFor_alias (id' := "frozenset.__iter__") (by kernel_rfl) rfl (by decide +kernel) (by kernel_rfl)
theorem iL (a : Value) : argsOk "set_iterator.__next__" ⟨[a], []⟩ := by
 unfold argsOk; rw [signature?_of (id := "set_iterator.__next__") (n := ['_', '_', 't', 'x', 'e', 'n', '_', '_']) (o := ['r', 'o', 't', 'a', 'r', 'e', 't', 'i', '_', 't', 'e', 's']) (by kernel_rfl) nS]; kernel_rfl
theorem mG (a : Value) : argsOk "set_iterator.__iter__" ⟨[a], []⟩ := by
 unfold argsOk; rw [signature?_of (id := "set_iterator.__iter__") (n := ['_', '_', 'r', 'e', 't', 'i', '_', '_']) (o := ['r', 'o', 't', 'a', 'r', 'e', 't', 'i', '_', 't', 'e', 's']) (by kernel_rfl) nS]; kernel_rfl
def cE (w : World) (a : Addr) (es : Array (Int × Value)) (ep : Nat) : Array (Int × Value) := if w.params.followText "set-order" = true then pickOrder (w.params.setOrder a ep) es else es
theorem jB (w : World) (a : Addr) (es : Array (Int × Value)) (ep : Nat) : (cE w a es ep).toList.Perm es.toList := by
 unfold cE
 split
 ·exact sR _ _
 ·exact List.Perm.refl _
theorem gK (w : World) (a : Addr) (es : Array (Int × Value)) (ep : Nat) : (cE w a es ep).size = es.size := by
 have := (jB w a es ep).length_eq
 simpa using this
def kI (w : World) (h : Heap) (I a : Addr) (t : SetTable) (n ep i : Nat) : Prop :=
 ∃ o slot, h.get? I = some o /\ o.cls = .type "set_iterator" /\ o.data = .fields #[.int (slot : Nat) 0, .int (i : Nat) 0, .ref a, .int (n : Nat) 0, .int (ep : Nat) 0] /\ (w.params.followText "set-order" = false -> below t.place slot = i)
section
variable {prog : Program} {w : World} {A : Around} {E : Value -> Shared -> Prop} {s : Shared}
theorem k9 {I a : Addr} {t : SetTable} {n ep i : Nat} (x : kI w s.heap I a t n ep i) : s.TypeIs (.ref I) "set_iterator" := by
 obtain ⟨o, _, ho, hc, _⟩ := x
 exact ⟨o, ho, hc⟩
theorem kC {a : Addr} {o : Obj} {es : Array (Int × Value)} {ep slot i : Nat} {t : SetTable} {hs : List Int} {Q : Option (Value × Nat) -> Shared -> Prop} (ho : s.heap.get? a = some o) (hd : o.data = .set es ep t) (T : Tab t hs) (he : hs.length = es.size)
  (hpl : t.plain = true /\ t.led = !w.params.followText "set-order") (hb : w.params.followText "set-order" = false -> below t.place slot = i)
  (hQ : ∀ z, (cE w a es ep)[i]?.map (·.2) = z.map (·.1) -> (∀ p, z = some p -> w.params.followText "set-order" = false -> below t.place p.2 = i + 1) -> Q z s) : wpAny (model prog w) A (setNext a slot i ep) Q E s := by
 have fits : t.fits es.size = true := by rw [<- he]; exact T.fits
 unfold setNext
 refine wpAny_bind (wpAny_setState_of ho hd fits ?_)
 dsimp only
 unfold setsByText
 refine wpAny_bind (wpAny_bind (wpAny_askSetting (wpAny_pure ?_)))
 show wpAny _ _ (if w.params.followText "set-order" = true then _ else _) _ _ _
 by_cases hf : w.params.followText "set-order" = true
 ·rw [if_pos hf]
  simp only [bne_self_eq_false, Bool.false_eq_true, if_false]
  unfold setWalk setsByText
  refine wpAny_bind (wpAny_bind (wpAny_setState_of ho hd fits ?_))
  dsimp only
  refine wpAny_bind (wpAny_bind (wpAny_askSetting (wpAny_pure ?_)))
  show wpAny _ _ (if w.params.followText "set-order" = true then _ else _) _ _ _
  rw [if_pos hf]
  refine wpAny_bind (wpAny_askSetting (wpAny_pure ?_))
  show wpAny _ _ (pure _) _ _ _
  refine wpAny_pure (hQ _ ?_ ?_)
  ·unfold cE
   rw [if_pos hf]
   show _ = Option.map _ (Option.map _ (pickOrder (w.params.setOrder a ep) es)[i]?)
   cases (pickOrder (w.params.setOrder a ep) es)[i]? <;> rfl
  ·intro p _ h
   rw [hf] at h
   cases h
 ·have hf' : w.params.followText "set-order" = false := by simpa using hf
  rw [if_neg hf]
  split
  ·rename_i h
   have h' : (!t.plain && decide (es.size > 1)) = true := h
   rw [hpl.1] at h'
   simp at h'
  ·refine wpAny_bind ?_
   show wpAny _ _ (if (!t.led && !es.isEmpty) = true then unsupported "set:maker-not-led" else pure ()) _ _ _
   rw [if_neg (by rw [hpl.2, hf']; simp)]
   refine wpAny_pure (wpAny_pure (hQ _ ?_ ?_))
   ·unfold cE
    rw [if_neg hf, hb hf']
    cases e : es[i]? with
    | none => rfl
    | some z =>
     have li : i < es.size := (Array.getElem?_eq_some_iff.mp e).1
     have e2 : t.place[i]? = some (t.place[i]'(by rw [T.len, he]; exact li)) := Array.getElem?_eq_getElem _
     rw [e2]
     rfl
   ·intro p hp _
    rw [hb hf'] at hp
    split at hp
    ·rename_i j e
     cases hp
     exact p5 T.rise e
    ·cases hp
theorem wk {I a : Addr} {o : Obj} {es : Array (Int × Value)} {ep i : Nat} {t : SetTable} {hs : List Int} {x : Int × Value} {Q : Option Value -> Shared -> Prop} (ho : s.heap.get? a = some o) (hd : o.data = .set es ep t) (T : Tab t hs) (he : hs.length = es.size)
  (hpl : t.plain = true /\ t.led = !w.params.followText "set-order") (st : kI w s.heap I a t es.size ep i) (hx : (cE w a es ep)[i]? = some x)
  (hQ : ∀ h', kI w h' I a t es.size ep (i + 1) -> Heap.SameBut I s.heap h' -> Q (some x.2) { s with heap := h' }) : wpAny (model prog w) A (pyNext (.ref I)) Q E s := by
 obtain ⟨oi, slot, hoi, hci, hdi, hb⟩ := id st
 have hT := k9 st
 have fits : t.fits es.size = true := by rw [<- he]; exact T.fits
 unfold pyNext
 refine wpAny_bind (wpAny_attempt (wpAny_callSpecial?_slot (name := Str.ofString "__next__") hT b6 (wpAny_call_entry b6 hT iH ?_ (iL _))))
 unfold Builtin.«set_iterator.__next__»
 refine wpAny_bind (m := slotArgs "__next__" 0 ⟨[.ref I], []⟩) (wpAny_pure ?_)
 dsimp only
 refine wpAny_bind (wpAny_fieldsOf hoi hdi ?_)
 dsimp only
 unfold setEntries
 refine wpAny_bind (wpAny_bind (wpAny_setState_of ho hd fits (wpAny_pure ?_)))
 dsimp only
 rw [if_neg (by simp)]
 simp only [Int.toNat_natCast]
 refine wpAny_bind (kC ho hd T he hpl hb fun z hz hn => ?_)
 rw [hx] at hz
 cases z with
 | none => cases hz
 | some p =>
  obtain ⟨v, nx⟩ := p
  have ev : x.2 = v := Option.some.inj hz
  subst ev
  dsimp only
  refine wpAny_bind (wpAny_setField hoi hdi (by simp) ?_)
  have h1 := Heap.get?_update_self (Obj.mapFields (·.setIfInBounds 0 (rawInt (nx : Nat)))) hoi (Obj.isFreed_of_fields (Obj.data_mapFields hdi _))
  have d1 := Obj.data_mapFields hdi (·.setIfInBounds 0 (rawInt (nx : Nat)))
  refine wpAny_bind (wpAny_setField h1 d1 (by simp) ?_)
  refine wpAny_pure ⟨_, rfl, wpAny_pure (hQ _ ⟨_, nx, Heap.get?_update_self _ h1 (Obj.isFreed_of_fields (Obj.data_mapFields d1 _)), (Obj.cls_mapFields ..).trans ((Obj.cls_mapFields ..).trans hci), ?_, hn _ rfl⟩ ((Heap.SameBut.update ..).trans (Heap.SameBut.update ..)))⟩
  rw [Obj.data_mapFields d1]
  simp [rawInt]
theorem xK {I a : Addr} {o : Obj} {es : Array (Int × Value)} {ep i : Nat} {t : SetTable} {hs : List Int} {Q : Option Value -> Shared -> Prop} (hh : A.handled = none) (ho : s.heap.get? a = some o) (hd : o.data = .set es ep t) (T : Tab t hs) (he : hs.length = es.size)
  (hpl : t.plain = true /\ t.led = !w.params.followText "set-order") (st : kI w s.heap I a t es.size ep i) (hx : (cE w a es ep)[i]? = none)
  (hQ : ∀ h', Heap.ExtBut I s.heap h' -> Q none { s with heap := h' }) : wpAny (model prog w) A (pyNext (.ref I)) Q E s := by
 obtain ⟨oi, slot, hoi, hci, hdi, hb⟩ := id st
 have hT := k9 st
 have fits : t.fits es.size = true := by rw [<- he]; exact T.fits
 unfold pyNext
 refine wpAny_bind (wpAny_attempt (wpAny_callSpecial?_slot (name := Str.ofString "__next__") hT b6 (wpAny_call_entry b6 hT iH ?_ (iL _))))
 unfold Builtin.«set_iterator.__next__»
 refine wpAny_bind (m := slotArgs "__next__" 0 ⟨[.ref I], []⟩) (wpAny_pure ?_)
 dsimp only
 refine wpAny_bind (wpAny_fieldsOf hoi hdi ?_)
 dsimp only
 unfold setEntries
 refine wpAny_bind (wpAny_bind (wpAny_setState_of ho hd fits (wpAny_pure ?_)))
 dsimp only
 rw [if_neg (by simp)]
 simp only [Int.toNat_natCast]
 refine wpAny_bind (kC ho hd T he hpl hb fun z hz hn => ?_)
 rw [hx] at hz
 cases z with
 | some p => cases hz
 | none =>
  dsimp only
  refine wpAny_bind (wpAny_setField hoi hdi (by simp) ?_)
  show wpAny _ _ (newExc (.type "StopIteration") [] >>= _) _ _ _
  refine wpAny_bind ?_
  simp only [newExc, newTuple]
  refine wpAny_bind (wpAny_newObj_type ?_ (by size_fits))
  refine wpAny_bind (m := firstArgMember _ _) (wpAny_of_eq (a := Value.none) (by first | rfl | (simp only [firstArgMember]; rfl)) ?_)
  refine wpAny_newObj_type ?_ (by size_fits)
  simp only [raiseNew]
  refine wpAny_bind (wpAny_handled ?_)
  rw [show A.in1.handled = none from hh]
  refine wpAny_bind (wpAny_pure (wpAny_throw ?_))
  refine wpAny_bind (wpAny_isInstance (T := "StopIteration") (b := true) ⟨_, Heap.get?_push_size _ rfl, rfl⟩ isSubtype_stop ?_)
  exact wpAny_pure (hQ _ (((Heap.SameBut.update ..).extBut.push _).push _))
theorem wm {I a : Addr} {t : SetTable} {n ep i : Nat} {Q : Value -> Shared -> Prop} (st : kI w s.heap I a t n ep i) (h : Q (.ref I) s) : wpAny (model prog w) A (pyIter (.ref I)) Q E s := by
 have hT := k9 st
 refine wpAny_pyIter_slot hT i5 (wpAny_call_entry i5 hT l8 ?_ (mG _))
 show wpAny _ _ (ret (.ref I)) _ _ s
 exact wpAny_pure ⟨_, rfl, "set_iterator", _, hT, b6.lookup, h⟩
theorem tu (hh : A.handled = none) (I a : Addr) (hne : a ≠ I) {o : Obj} {es : Array (Int × Value)} {ep : Nat} {t : SetTable} {hs : List Int} (hd : o.data = .set es ep t) (T : Tab t hs) (he : hs.length = es.size) (hpl : t.plain = true /\ t.led = !w.params.followText "set-order") :
  Walks prog w A I [I, a] [I] es.size (fun i v => ∃ x, (cE w a es ep)[i]? = some x /\ x.2 = v) (fun i h => kI w h I a t es.size ep i /\ h.get? a = some o) where
 sub := fun b hb => by simp at hb; simp [hb]
 frame := fun _ _ _ st hk => ⟨by obtain ⟨⟨o, sl, ho, r⟩, _⟩ := st; exact ⟨o, sl, hk I (by simp) o ho, r⟩, hk a (by simp) o st.2⟩
 item := fun i s Q E hi st hQ => by
  have lw : i < (cE w a es ep).size := by rw [gK]; exact hi
  refine wk st.2 hd T he hpl st.1 (Array.getElem?_eq_getElem lw) fun h' st' sb => ?_
  exact hQ _ h' s.toks ⟨_, Array.getElem?_eq_getElem lw, rfl⟩ ⟨st', sb.extBut a o hne st.2⟩ fun b o hb e => sb.extBut b o (fun h => hb (by simp [h])) e
 done := fun s Q E st hQ => xK hh st.2 hd T he hpl st.1 (by rw [Array.getElem?_eq_none]; rw [gK]; exact Nat.le_refl _) fun h' sb => hQ h' s.toks fun b o hb e => sb b o (fun h => hb (by simp [h])) e
 self := fun _ _ _ _ st hQ => wm st.1 hQ
theorem ui {a : Addr} {o : Obj} {es : Array (Int × Value)} {ep : Nat} {t : SetTable} {hs : List Int} {Q : Value -> Shared -> Prop} (ho : s.heap.get? a = some o) (hc : o.cls = .type "set") (hd : o.data = .set es ep t) (T : Tab t hs) (he : hs.length = es.size) (hpl : t.plain = true)
  (hQ : Q (.ref s.heap.objs.size) { s with heap := s.heap.push { cls := .type "set_iterator", data := .fields #[.int 0 0, .int 0 0, .ref a, .int (es.size : Nat) 0, .int (ep : Nat) 0] } }) : wpAny (model prog w) A (pyIter (.ref a)) Q E s := by
 have hT : s.TypeIs (.ref a) "set" := ⟨o, ho, hc⟩
 have fits : t.fits es.size = true := by rw [<- he]; exact T.fits
 refine wpAny_pyIter_slot hT F.slot_set_iter (wpAny_call_entry F.slot_set_iter hT m6 ?_ (F.args_set_iter_1 _))
 unfold Builtin.«frozenset.__iter__»
 refine wpAny_bind (m := Builtin.Frozenset.slot0 "__iter__" ⟨[.ref a], []⟩) (wpAny_pure ?_)
 unfold Builtin.Frozenset.sizeOf setEntries setDrawn setEpoch setsByText
 refine wpAny_bind (wpAny_bind (wpAny_bind (wpAny_setState_of ho hd fits (wpAny_pure (wpAny_pure ?_)))))
 refine wpAny_bind (wpAny_bind (wpAny_setState_of ho hd fits ?_))
 dsimp only
 refine wpAny_bind (wpAny_bind (wpAny_askSetting (wpAny_pure (wpAny_pure ?_))))
 split
 ·rename_i h
  have h' : (!(w.params.followText "set-order") && (!t.plain && decide (es.size > 1))) = true := h
  rw [hpl] at h'
  simp at h'
 ·refine wpAny_bind (wpAny_pure ?_)
  refine wpAny_bind (wpAny_bind (wpAny_setState_of ho hd fits (wpAny_pure ?_)))
  unfold newFields
  refine wpAny_bind (wpAny_newObj_type ?_ (by size_fits))
  exact wpAny_pure ⟨_, rfl, "set_iterator", _, ⟨_, Heap.get?_push_size _ rfl, rfl⟩, b6.lookup, hQ⟩
theorem oz {a : Addr} {o : Obj} {es : Array (Int × Value)} {ep : Nat} {t : SetTable} {hs : List Int} {Q : List Value -> Shared -> Prop} (hh : A.handled = none) (ho : s.heap.get? a = some o) (hc : o.cls = .type "set") (hd : o.data = .set es ep t) (T : Tab t hs) (he : hs.length = es.size) (hpl : t.plain = true /\ t.led = !w.params.followText "set-order") (hn : es.size <= 1000)
  (hQ : ∀ s' (acc : List Value), (∀ b o, s.heap.get? b = some o -> s'.heap.get? b = some o) -> s'.gens = s.gens -> s'.drawn = s.drawn -> s'.os = s.os -> s.heap.objs.size <= s'.heap.objs.size -> acc = (cE w a es ep).toList.map (·.2) -> Q acc s') : wpAny (model prog w) A (collect (.ref a)) Q E s := by
 unfold collect
 have la : a < s.heap.objs.size := Heap.lt_size ho
 refine wpAny_bind (wpAny_runValue (codeAny_builtin F.entry_proto_collect ?_))
 rw [Around.under_plainId F.plain_proto_collect _]
 show wpAny _ A.in1 (newList [] >>= fun l => again (.builtin "list.__iadd__" ⟨[l, .ref a], []⟩)) _ _ s
 refine wpAny_bind (wpAny_newObj_type ?_)
 refine wpAny_pure ⟨plainId_quiet F.plain_list_iadd _, codeAny_builtin F.entry_list_iadd ?_⟩
 rw [Around.under_plainId F.plain_list_iadd _]
 show wpAny _ A.in1 (Builtin.List.listExtendWith (.ref s.heap.objs.size) (.ref a) (.ref s.heap.objs.size)) _ _ _
 generalize hH : s.heap.push { cls := .type "list", data := .seq ([] : List Value).toArray } = H
 have hHs : H.objs.size = s.heap.objs.size + 1 := by rw [<- hH, Heap.size_push]
 have ho1 : H.get? a = some o := hH ▸ Heap.get?_push_of_some _ ho
 have hT : Shared.TypeIs { s with heap := H } (.ref a) "set" := ⟨o, ho1, hc⟩
 unfold Builtin.List.listExtendWith
 refine wpAny_bind (wpAny_typeOf hT ?_)
 have h1 : Builtin.List.listSameRef (.ref s.heap.objs.size) (.ref a) = false := by have : s.heap.objs.size ≠ a := Nat.ne_of_gt la; simp [Builtin.List.listSameRef, this]
 have h2 : (Value.type "set" == Value.type "list") = false := by decide
 have h3 : (Value.type "set" == Value.type "tuple") = false := by decide
 simp only [h1, h2, h3, Bool.or_false, Bool.false_eq_true, if_false]
 refine wpAny_bind (ui ho1 hc hd T he hpl.1 ?_)
 generalize hH2 : H.push { cls := .type "set_iterator", data := .fields #[.int 0 0, .int 0 0, .ref a, .int (es.size : Nat) 0, .int (ep : Nat) 0] } = H2
 have hT2 : Shared.TypeIs { s with heap := H2 } (.ref a) "set" := ⟨o, hH2 ▸ Heap.get?_push_of_some _ ho1, hc⟩
 refine wpAny_bind (wpAny_holding ?_)
 unfold Builtin.List.listLengthHint
 refine wpAny_bind (wpAny_specialOf hT2 F.slot_set_len.lookup ?_)
 wp_delta
 refine wpAny_bind (wpAny_isInstance (T := "set") (b := true) hT2 (by rw [isSubtype_type]; kernel_rfl) ?_)
 show wpAny _ A.in1 (typeOf (Value.ref a) >>= _) _ _ _
 refine wpAny_bind (wpAny_typeOf hT2 ?_)
 refine wpAny_pure ?_
 rw [if_pos (by decide)]
 show wpAny _ A.in1 (rule "list.extend.makes-room" >>= fun _ => Builtin.List.listTouch (.ref s.heap.objs.size) >>= fun _ =>
  again (.builtin "list.extend.loop" ⟨[.ref s.heap.objs.size, .ref H.objs.size, .ref s.heap.objs.size], []⟩)) _ _ _
 refine wpAny_bind (wpAny_rule ?_)
 refine wpAny_bind ?_
 show wpAny _ A.in1 (updateSeq s.heap.objs.size (·.push .none) >>= fun _ => updateSeq s.heap.objs.size (·.pop)) _ _ _
 have hS : H2.get? s.heap.objs.size = some { cls := .type "list", data := .seq ([] : List Value).toArray } := hH2 ▸ Heap.get?_push_of_some _ (hH ▸ Heap.get?_push_size _ rfl)
 refine wpAny_bind (wpAny_updateSeq hS rfl ?_)
 have hS₂ := Heap.get?_update_self (Obj.mapSeq (·.push Value.none)) hS rfl
 refine wpAny_updateSeq (hz := by seq_fits) hS₂ rfl ?_
 have hS₃ := Heap.get?_update_self (Obj.mapSeq (·.pop)) hS₂ rfl
 have oth : ∀ b o, b ≠ s.heap.objs.size -> H2.get? b = some o -> ((H2.update s.heap.objs.size (Obj.mapSeq (·.push Value.none))).update s.heap.objs.size (Obj.mapSeq (·.pop))).get? b = some o :=
  fun b o hb e => (Heap.get?_update_other _ _ (Ne.symm hb)).trans ((Heap.get?_update_other _ _ (Ne.symm hb)).trans e)
 have hI : H2.get? H.objs.size = some { cls := .type "set_iterator", data := .fields #[.int 0 0, .int 0 0, .ref a, .int (es.size : Nat) 0, .int (ep : Nat) 0] } := hH2 ▸ Heap.get?_push_size _ rfl
 have nSI : H.objs.size ≠ s.heap.objs.size := by omega
 have naI : a ≠ H.objs.size := Nat.ne_of_lt (by rw [hHs]; exact Nat.lt_succ_of_lt la)
 have hSf : s.heap.objs.size ∉ [H.objs.size, a] := fun hm => by
  rcases List.mem_cons.mp hm with z | z
  ·exact nSI z.symm
  ·exact absurd (List.mem_singleton.mp z) (Nat.ne_of_gt la)
 have W := tu (prog := prog) (w := w) (A := A.in1) hh H.objs.size a naI hd T he hpl
 refine wpAny_pure ⟨plainId_quiet F.plain_extend_loop _, codeAny_extend_loopS W.toS (by rw [sizeLine_eq]; omega) _ hSf _ es.size 0 _ _ _ rfl (Nat.zero_le _)
  ⟨⟨_, 0, oth _ _ nSI hI, rfl, rfl, fun _ => p6 T.rise⟩, oth _ _ (Nat.ne_of_lt la) (hH2 ▸ Heap.get?_push_of_some _ ho1)⟩ hS₃ (ItemsOf.nil _) fun s' acc' c' hm hS' hacc => ?_⟩
 show wpAny _ A (load s.heap.objs.size >>= _) _ _ s'
 refine wpAny_bind (wpAny_load hS' ?_)
 have big : ∀ b o, s.heap.get? b = some o -> s'.heap.get? b = some o := fun b ob e => by
  have lb := Heap.lt_size e
  refine hm.heap b ob (fun hb => ?_) (oth _ _ (Nat.ne_of_lt lb) (hH2 ▸ Heap.get?_push_of_some _ (hH ▸ Heap.get?_push_of_some _ e)))
  rcases List.mem_cons.mp hb with z | z
  ·exact absurd lb (z ▸ Nat.lt_irrefl _)
  ·rw [List.mem_singleton.mp z, hHs] at lb; exact absurd lb (Nat.not_lt.mpr (Nat.le_succ _))
 refine wpAny_pure (hQ s' acc'.toList big hm.gens hm.drawn hm.os (Nat.le_of_lt (Heap.lt_size hS')) ?_)
 obtain ⟨q1, q2⟩ := hacc
 apply List.ext_getElem?
 intro j
 rw [Array.getElem?_toList, List.getElem?_map, Array.getElem?_toList]
 by_cases lj : j < es.size
 ·have l1 : j < acc'.size := by omega
  obtain ⟨x, ex, ev⟩ := q2 j _ (Array.getElem?_eq_getElem l1)
  rw [Array.getElem?_eq_getElem l1, ex]
  simp [ev]
 ·rw [Array.getElem?_eq_none (by omega), Array.getElem?_eq_none (by rw [gK]; omega)]
  rfl
end
end SW
namespace SS
open PySem PySem.W PyProof.Rows
def good {α : Type} (r : Nat -> Nat) (n : Nat) (G : α -> Prop) : KasT α -> Prop
 | .ret a => G a
 | .ask i j k => i < n /\ j < n /\ good r n G (k (decide (r i < r j)))
section
variable {r : Nat -> Nat} {n : Nat}
def v (r : Nat -> Nat) (p : Array Nat) (k : Nat) : Nat := r (p.getD k 0)
def S (r : Nat -> Nat) (p : Array Nat) (k : Nat) : Prop := ∀ i j, i <= j -> j < k -> v r p i <= v r p j
def D (r : Nat -> Nat) (p : Array Nat) (k : Nat) : Prop := ∀ i j, i <= j -> j < k -> v r p j <= v r p i
structure Ok (n : Nat) (p : Array Nat) : Prop where
 perm : p.Perm (List.toArray (List.range n))
theorem Ok.size {p : Array Nat} (h : Ok n p) : p.size = n := by have := h.perm.size_eq; simpa using this
theorem Ok.lt {p : Array Nat} (h : Ok n p) {k : Nat} (hk : k < n) : p.getD k 0 < n := by
 have hs := h.size
 have e : p.getD k 0 = p[k]'(by omega) := by simp [Array.getD, hs, hk]
 have m : p[k]'(by omega) ∈ p.toList := by simp
 have := (Array.perm_iff_toList_perm.mp h.perm).mem_iff.mp m
 rw [e]
 simpa using this
end
end SS
namespace SW
open PySem PySem.SetTable ST PySem.W PyProof.Rows
section
variable {prog : Program} {w : World} {A : Around} {E : Value -> Shared -> Prop} {s : Shared}
theorem uz {α β : Type} {f : α -> β} {l m : List β} (h : l.Perm m) : ∀ xs : List α, m = xs.map f -> ∃ zs : List α, zs.Perm xs /\ l = zs.map f := by
 induction h with
 | nil => intro xs e; exact ⟨xs, List.Perm.refl _, e⟩
 | cons a _ ih =>
  intro xs e
  cases xs with
  | nil => cases e
  | cons x xs =>
   rw [List.map_cons] at e
   injection e with e1 e2
   obtain ⟨zs, p, q⟩ := ih xs e2
   exact ⟨x :: zs, p.cons x, by rw [List.map_cons, q, e1]⟩
 | swap a b l =>
  intro xs e
  match xs, e with
  | [], e => cases e
  | [_], e => simp at e
  | x :: y :: xs, e =>
   simp only [List.map_cons, List.cons.injEq] at e
   obtain ⟨e1, e2, e3⟩ := e
   exact ⟨y :: x :: xs, List.Perm.swap x y xs, by simp only [List.map_cons]; rw [e1, e2, e3]⟩
 | trans _ _ ih1 ih2 =>
  intro xs e
  obtain ⟨zs, p, q⟩ := ih2 xs e
  obtain ⟨zs', p', q'⟩ := ih1 zs q
  exact ⟨zs', p'.trans p, q'⟩
end
end SW
namespace PD
open PySem PySem.Spec PyProof.Rows L2
section
variable {X : Cx} {pos : Pos}
theorem boot_sorted : bootBuiltins "sorted" = some (.builtin "sorted") := by kernel_rfl
theorem boot_set : bootBuiltins "set" = some (.type "set") := by kernel_rfl
end
end PD
namespace HT
open PySem PyProof.Rows
section
open PySem.SeqAt
open PySem.AutoSeq1 (wpAny_loadPart')
open PySem.MeetsSeq PySem.MeetsSeq2 PySem.MeetsSeq3
end
section
variable {prog : Program} {w : World} {A : Around} {E : Value -> Shared -> Prop} {s : Shared}
end
end HT
namespace SW
open PySem PySem.SetTable ST PySem.W PyProof.Rows
section
variable {prog : Program} {w : World} {A : Around} {E : Value -> Shared -> Prop} {s : Shared}
end
end SW
namespace SW
open PySem PySem.SetTable ST PySem.W PyProof.Rows
section
variable {prog : Program} {w : World} {A : Around} {E : Value -> Shared -> Prop} {s : Shared}
end
end SW
namespace SW
open PySem PySem.SetTable ST PySem.W PyProof.Rows
section
variable {prog : Program} {w : World} {A : Around} {E : Value -> Shared -> Prop} {s : Shared}
end
end SW
namespace PD
open PySem PySem.Spec PyProof.Rows L2
section
variable {X : Cx} {pos : Pos}
end
end PD
namespace PD
open PySem PySem.Spec PyProof.Rows L2
section
variable {X : Cx} {pos : Pos}
theorem jb (hc : X.calm = true) : cR X (.builtin "min") (fun ds Q => ∃ (t : Bool) (ns : List Int), ds = [.lst t (ns.map D.int)] /\ 0 < ns.length /\ ∀ m, m ∈ ns -> (∀ n ∈ ns, m <= n) -> Q (.int m)) := by
 intro pins s σ H W ds vs us Q I tr r hd q
 obtain ⟨t, ns, e, hne, q⟩ := q
 subst e
 obtain ⟨v, rfl, h1⟩ := jg hd
 obtain ⟨a, ws, ev, _, hq, hw⟩ := h1.lst_
 subst ev
 cases r with
 | cons r1 rr =>
  cases rr
  cases r1
  obtain ⟨its, rv, pl, _⟩ := I.list hq
  rw [bF hw] at rv
  have ia := intsAre_of rv
  obtain ⟨xs, ex⟩ := ia.allInts.items
  have hl : s.heap.IsList a (intItems xs) := by rw [<- ex]; exact pl.isList
  have hns : ns = xs.toList.map (·.1) := by rw [<- ia.numsOf, <- nums_intItems, <- ex]
  have hsz : 0 < xs.size := by rw [hns, List.length_map, Array.length_toList] at hne; exact hne
  refine min_intList (I.ok.hd hc) hl hsz fun y h' tk hy kp => ?_
  obtain ⟨tt, rfl⟩ := intItems_at hy
  obtain ⟨g1, g2⟩ := argBest_lt (numAt xs) (xs.size - 1)
  have at_ : ∀ j, j < xs.size -> xs.toList.map (·.1) ≠ [] -> numAt xs j ∈ ns := fun j hj _ => by
   rw [hns, numAt_eq]
   have : (xs.toList.map (·.1))[j]? = some ((xs.toList.map (·.1)).getD j 0) := by simp [hj]
   exact List.mem_of_getElem? this
  refine ⟨.int _, H, _, I.kept kp, ⟨_, rfl⟩, ai.refl H, Den.int _, q _ (at_ _ (by omega) (by rw [<- hns]; exact List.ne_nil_of_length_pos hne)) fun n hn => ?_⟩
  rw [hns] at hn
  obtain ⟨j, hj, ej⟩ := List.getElem_of_mem hn
  have : numAt xs j = n := by rw [numAt_eq, <- ej]; simp only [List.getD_eq_getElem?_getD, List.getElem?_eq_getElem hj, Option.getD_some]
  rw [<- this]
  rw [List.length_map, Array.length_toList] at hj
  exact g2 j (by omega)
end
theorem w5 (g1 g2 g3 : DG) (a b c : D) (ρ : Ro) (Q : Ro -> Prop) : cT 3 (aW g1 (aW g2 (aW g3 dX))) (.tup [a, b, c]) ρ Q = g1 a ρ fun ρ1 => g2 b ρ1 fun ρ2 => g3 c ρ2 Q := by
 rw [kT 3 _ _ rfl]
 simp only [gdc, gdn]
theorem w7 (g1 g2 g3 g4 g5 g6 : DG) (a b c d e f : D) (ρ : Ro) (Q : Ro -> Prop) : cT 6 (aW g1 (aW g2 (aW g3 (aW g4 (aW g5 (aW g6 dX)))))) (.tup [a, b, c, d, e, f]) ρ Q = g1 a ρ fun ρ1 => g2 b ρ1 fun ρ2 => g3 c ρ2 fun ρ3 => g4 d ρ3 fun ρ4 => g5 e ρ4 fun ρ5 => g6 f ρ5 Q := by
 rw [kT 6 _ _ rfl]
 simp only [gdc, gdn]
end PD
namespace SW
open PySem PySem.SetTable ST PySem.W PyProof.Rows
section
variable {prog : Program} {w : World} {A : Around} {E : Value -> Shared -> Prop} {s : Shared}
structure fG (prog : Program) (w : World) (h : Heap) (a : Addr) (xs : List (Int × Tok)) : Prop where
 ex : ∃ o es ep t, h.get? a = some o /\ o.ExactSet /\ o.data = .set es ep t /\ es.toList = xs.map (fun x => ((intKind prog w).hash x.1, Value.int x.1 x.2)) /\ Tab t (xs.map fun x => (intKind prog w).hash x.1) /\ (t.plain = true /\ t.led = !w.params.followText "set-order") /\ 7 <= t.mask
 nd : (xs.map (·.1)).Nodup
theorem rV {t : SetTable} {hs : List Int} (T : Tab t hs) (h : Int) : ∃ j pre post, t.freeSlot h = some (j, false) /\ cf t.mask h = pre ++ j :: post /\ (∀ y ∈ pre, y ∈ t.place.toList) /\ j ∉ t.place.toList := by
 obtain ⟨c, ec⟩ := ou t h
 have vl := qO t.mask h
 rcases nU T.rise T.dum (fun _ => h + 1) h (cf t.mask h) (10 * turns t.mask) c _ ec.symm vl (T.empty h) rfl with ⟨pre, j, post, q1, q2, q3, q4⟩ | ⟨pre, j, post, i, q, c', q1, q2, q3, q4, _⟩
 ·refine ⟨j, pre, post, ?_, q1, fun y hy => ?_, q3⟩
  ·unfold SetTable.freeSlot SetTable.probe
   rw [q4]
   rfl
  ·obtain ⟨i, h1, _⟩ := q2 y hy
   exact get_mem h1
 ·omega
theorem vt {a : Addr} {k : Int} {tk : Tok} {xs : List (Int × Tok)} {Q : Bool -> Shared -> Prop} (S : fG prog w s.heap a xs) (hl : xs.length < 4)
  (hQ : ∀ h' ys b', Heap.SameBut a s.heap h' -> fG prog w h' a ys -> ys.length <= xs.length + 1 -> (∀ k', k' ∈ ys.map (·.1) ↔ k' ∈ xs.map (·.1) ∨ k' = k) -> Q b' { s with heap := h', toks := s.toks + 1 }) :
  wpAny (model prog w) A (setAdd a (.int k tk)) Q E s := by
 unfold setAdd
 refine wpAny_holding (wpAny_bind ((intKind prog w).pyHash (k := k) (intKind_is _ _ _ _) ?_))
 obtain ⟨⟨o, es, ep, t, ho, hex, hd, he, T, hpl, hma⟩, nd⟩ := S
 have sz : es.size = xs.length := by rw [<- Array.length_toList, he, List.length_map]
 have fits : t.fits es.size = true := by have := T.fits; rw [List.length_map] at this; rw [sz]; exact this
 have psz : t.place.size = xs.length := by have := T.len; rw [List.length_map] at this; exact this
 have hb : es.size < scanBound := by rw [sz]; unfold scanBound; omega
 have hel : ElemsOf (intKind prog w) es.toList := fun e hem => by
  rw [he] at hem
  obtain ⟨x, _, rfl⟩ := List.mem_map.mp hem
  exact ⟨⟨x.1, intKind_is _ _ _ _, rfl⟩, rfl⟩
 unfold setAddHashed setAddHashedIn
 refine wpAny_holding (wpAny_bind (wpAny_setState_of (s := { s with toks := s.toks + 1 }) ho hd fits ?_))
 dsimp only
 rw [byScan_of (knd := intKind prog w) rfl hb hel]
 simp only [↓reduceIte]
 unfold setAddByScan
 refine wpAny_bind ?_
 refine wpAny_bind (wpAny_rule ?_)
 refine wpAny_bind (wpAny_setScan_of (intKind_is _ _ _ _) ho hd fits hel ?_)
 cases hr : List.findIdx? (fun e => (intKind prog w).is k e.2) es.toList with
 | some j =>
  dsimp only
  obtain ⟨hj, hpj, _⟩ := List.findIdx?_eq_some_iff_getElem.mp hr
  have hin : k ∈ xs.map (·.1) := by
   have hm := List.getElem_mem hj
   generalize es.toList[j] = e0 at hm hpj
   rw [he] at hm
   obtain ⟨x, hx, e⟩ := List.mem_map.mp hm
   have : (intKind prog w).is k (Value.int x.1 x.2) = true := by
    rw [<- e] at hpj
    exact hpj
   have this' : Value.isInt k (Value.int x.1 x.2) = true := this
   obtain ⟨t', et⟩ := Value.isInt_shape this'
   injection et with e1 e2
   exact List.mem_map.mpr ⟨x, hx, e1⟩
  refine wpAny_pure (wpAny_pure ?_)
  exact hQ s.heap xs _ (Heap.SameBut.refl a s.heap) ⟨⟨o, es, ep, t, ho, hex, hd, he, T, hpl, hma⟩, nd⟩ (by omega) fun k' => ⟨.inl, fun z => z.elim id fun z => by rw [z]; exact hin⟩
 | none =>
  dsimp only
  have hno : k ∉ xs.map (·.1) := fun hin => by
   obtain ⟨x, hx, e⟩ := List.mem_map.mp hin
   have hm : ((intKind prog w).hash x.1, Value.int x.1 x.2) ∈ es.toList := by rw [he]; exact List.mem_map.mpr ⟨x, hx, rfl⟩
   have := List.findIdx?_eq_none_iff.mp hr _ hm
   rw [<- e, intKind_is] at this
   cases this
  obtain ⟨j, pre, post, hfree, hv, hp, hj⟩ := rV T ((intKind prog w).hash k)
  obtain ⟨T', pl, pm, ps⟩ := T.put hj hv hp (by omega)
  rw [List.length_map] at pl
  have hpq : (t.put j).1.plain = true /\ (t.put j).1.led = !w.params.followText "set-order" := hpl
  generalize hp2 : (t.put j).2 = p at *
  generalize ht2 : (t.put j).1 = t2 at *
  have isz : (insertAt es p ((intKind prog w).hash k, Value.int k tk)).toList = (xs.take p ++ (k, tk) :: xs.drop p).map fun x => ((intKind prog w).hash x.1, Value.int x.1 x.2) := by
   rw [iq, he, List.map_append, List.map_cons, List.map_take, List.map_drop]
  have hlen : (xs.take p ++ (k, tk) :: xs.drop p).length = xs.length + 1 := by
   rw [List.length_append, List.length_take, List.length_cons, List.length_drop]
   omega
  have isz2 : (insertAt es p ((intKind prog w).hash k, Value.int k tk)).size = xs.length + 1 := by rw [<- Array.length_toList, isz, List.length_map, hlen]
  have T2 : Tab t2 ((xs.take p ++ (k, tk) :: xs.drop p).map fun x => (intKind prog w).hash x.1) := by
   rw [List.map_append, List.map_cons, List.map_take, List.map_drop]
   exact T'
  have fits2 : t2.fits (insertAt es p ((intKind prog w).hash k, Value.int k tk)).size = true := by
   have := T2.fits
   rw [List.length_map, hlen] at this
   rw [isz2]; exact this
  have hL : layNew t es ((intKind prog w).hash k) (Value.int k tk) = (insertAt es p ((intKind prog w).hash k, Value.int k tk), t2, false, false) := by
   unfold layNew
   rw [hfree]
   have e1 : t.put j = (t2, p) := Prod.ext ht2 hp2
   dsimp only
   rw [e1]
   dsimp only
   unfold SetTable.orStandIn
   rw [if_pos fits2, fits2]
   rfl
  rw [hL]
  dsimp only
  have hgw : ∀ (b : Bool) {s₁ : Shared} {Q' : Unit -> Shared -> Prop}, Q' () s₁ -> wpAny (model prog w) A (match b with | true => rule "set.scan.the-table-gave-way" | false => pure ()) Q' E s₁ :=
   fun b s₁ Q' hq => by cases b <;> first | exact wpAny_pure hq | exact wpAny_rule hq
  refine wpAny_bind (hgw false ?_)
  rw [hpq.1]
  simp only [if_true]
  refine wpAny_bind ?_
  rw [vQ]
  refine wpAny_pure ?_
  simp only [if_true]
  refine wpAny_bind (wpAny_storeSet_of ho hd ?_ (by rw [isz2, sizeLine_eq]; omega))
  have hg : (s.heap.update a (Obj.putSet (insertAt es p ((intKind prog w).hash k, Value.int k tk)) t2)).get? a = some { o with data := .set (insertAt es p ((intKind prog w).hash k, Value.int k tk)) (ep + 1) t2 } := by
   have := Heap.get?_update_self (Obj.putSet (insertAt es p ((intKind prog w).hash k, Value.int k tk)) t2) ho (by rw [putSet_of _ _ hd]; rfl)
   rw [putSet_of _ _ hd] at this
   exact this
  have sb := Heap.SameBut.update s.heap a (Obj.putSet (insertAt es p ((intKind prog w).hash k, Value.int k tk)) t2)
  have tf : t2.tooFull = false := by
   unfold SetTable.tooFull SetTable.fill
   rw [T2.dum]
   simp
   omega
  rw [tf]
  simp only [Bool.and_false, Bool.false_eq_true, if_false]
  have mem : ∀ y, y ∈ xs.take p ++ (k, tk) :: xs.drop p ↔ y = (k, tk) ∨ y ∈ xs := fun y => by
   rw [List.mem_append, List.mem_cons]
   constructor
   ·rintro (z | z | z)
    ·exact .inr (List.mem_of_mem_take z)
    ·exact .inl z
    ·exact .inr (List.mem_of_mem_drop z)
   ·rintro (z | z)
    ·exact .inr (.inl z)
    ·rw [<- List.take_append_drop p xs] at z
     rcases List.mem_append.mp z with q | q
     ·exact .inl q
     ·exact .inr (.inr q)
  have nd2 : ((xs.take p ++ (k, tk) :: xs.drop p).map (·.1)).Nodup := by
   rw [List.map_append, List.map_cons]
   have n0 := nd
   have h0 := hno
   rw [<- List.take_append_drop p xs, List.map_append] at n0 h0
   rw [List.nodup_append] at n0 ⊢
   obtain ⟨n1, n2, n3⟩ := n0
   rw [List.mem_append, not_or] at h0
   refine ⟨n1, List.nodup_cons.mpr ⟨h0.2, n2⟩, fun x hx y hy => ?_⟩
   rcases List.mem_cons.mp hy with z | z
   ·intro e; subst e; subst z; exact h0.1 hx
   ·exact n3 x hx y z
  refine wpAny_pure (wpAny_pure ?_)
  refine hQ _ (xs.take p ++ (k, tk) :: xs.drop p) true sb ⟨⟨_, _, ep + 1, t2, hg, hex, rfl, isz, T2, hpq, by rw [pm]; exact hma⟩, nd2⟩ (by omega) fun k' => ?_
  constructor
  ·intro h1
   obtain ⟨y, hy, e⟩ := List.mem_map.mp h1
   rcases (mem y).mp hy with q | q
   ·subst q; exact .inr e.symm
   ·exact .inl (List.mem_map.mpr ⟨y, q, e⟩)
  ·rintro (h1 | h1)
   ·obtain ⟨y, hy, e⟩ := List.mem_map.mp h1
    exact List.mem_map.mpr ⟨y, (mem y).mpr (.inr hy), e⟩
   ·subst h1
    exact List.mem_map.mpr ⟨(k', tk), (mem _).mpr (.inl rfl), rfl⟩
end
end SW
namespace SW
open PySem PySem.SetTable ST PySem.W PyProof.Rows
section
variable {prog : Program} {w : World} {A : Around} {E : Value -> Shared -> Prop} {s : Shared}
theorem fG.ext {h h' : Heap} {a : Addr} {xs : List (Int × Tok)} (S : fG prog w h a xs) (e : ∀ o, h.get? a = some o -> h'.get? a = some o) : fG prog w h' a xs := by
 obtain ⟨⟨o, es, ep, t, ho, r⟩, nd⟩ := S
 exact ⟨⟨o, es, ep, t, e o ho, r⟩, nd⟩
theorem uo {a I l : Addr} {items : Array Value} {R : Result -> Shared -> Prop} (hh : A.handled = none) (haI : a ≠ I) (hal : a ≠ l) (hlI : l ≠ I) (hn : items.size <= 4) (ks : Nat -> Int) (hk : ∀ (j : Nat) (v : Value), items[j]? = some v -> ∃ t, v = .int (ks j) t) :
  ∀ (m i : Nat) (s : Shared) (xs : List (Int × Tok)), items.size - i = m -> i <= items.size -> (s.heap.IsListIter I l i /\ s.heap.IsList l items) -> fG prog w s.heap a xs -> xs.length <= i -> (∀ k, k ∈ xs.map (·.1) ↔ ∃ j, j < i /\ k = ks j) →
   (∀ h' tk ys, (∀ b o, b ≠ a -> b ≠ I -> s.heap.get? b = some o -> h'.get? b = some o) -> fG prog w h' a ys -> ys.length <= items.size -> (∀ k, k ∈ ys.map (·.1) ↔ ∃ j, j < items.size /\ k = ks j) →
    R (.ok (.ret .none)) { s with heap := h', toks := tk }) -> codeAny (model prog w) A (.builtin "set.update.loop" ⟨[.ref a, .ref I], []⟩) R s := by
 have W := Walks.list (prog := prog) (w := w) (A := A.in1) (show A.in1.handled = none from hh) I l hlI items
 intro m
 induction m with
 | zero =>
  intro i s xs hm hi st S hx hks hR
  have e : i = items.size := by omega
  subst e
  refine codeAny_builtin lE ?_
  rw [Around.under_plainId iY _]
  show wpAny _ A.in1 (pyNext (.ref I) >>= _) _ _ s
  refine wpAny_bind (W.done s _ _ st fun h' tk kp => ?_)
  have kp' : ∀ b o, b ≠ I -> s.heap.get? b = some o -> h'.get? b = some o := fun b o hb e => kp b o (by simpa using hb) e
  exact wpAny_pure (hR h' tk xs (fun b o _ hb e => kp' b o hb e) (S.ext fun o e => kp' a o haI e) hx hks)
 | succ m ih =>
  intro i s xs hm hi st S hx hks hR
  have hlt : i < items.size := by omega
  refine codeAny_builtin lE ?_
  rw [Around.under_plainId iY _]
  show wpAny _ A.in1 (pyNext (.ref I) >>= _) _ _ s
  refine wpAny_bind (W.item i s _ _ hlt st fun v h' tk hv st' kp => ?_)
  have kp' : ∀ b o, b ≠ I -> s.heap.get? b = some o -> h'.get? b = some o := fun b o hb e => kp b o (by simpa using hb) e
  have S' : fG prog w h' a xs := S.ext fun o e => kp' a o haI e
  obtain ⟨c, rfl⟩ := hk i v hv
  show wpAny _ A.in1 (holding [.int (ks i) c] (setAdd a (.int (ks i) c)) >>= _) _ _ _
  refine wpAny_bind (wpAny_holding (vt (s := { s with heap := h', toks := tk }) S' (by omega) fun h2 ys b' sb S2 yl km => ?_))
  have st2 : h2.IsListIter I l (i + 1) /\ h2.IsList l items := W.frame _ _ _ st' fun b hb o e => by
   refine sb.extBut b o (fun q => ?_) e
   subst q
   simp only [List.mem_cons, List.not_mem_nil, or_false] at hb
   rcases hb with z | z
   ·exact haI z
   ·exact hal z
  refine wpAny_pure ⟨plainId_quiet iY _, ih (i + 1) _ ys (by omega) hlt st2 S2 (by omega) (fun k => ?_) fun h3 tk3 zs kp3 S3 zl zk => ?_⟩
  ·rw [km k, hks k]
   constructor
   ·rintro (⟨j, hj, e⟩ | e)
    ·exact ⟨j, by omega, e⟩
    ·exact ⟨i, by omega, e⟩
   ·rintro ⟨j, hj, e⟩
    by_cases z : j < i
    ·exact .inl ⟨j, z, e⟩
    ·have : j = i := by omega
     subst this
     exact .inr e
  ·exact hR h3 tk3 zs (fun b o h1 h2' e => kp3 b o h1 h2' (sb.extBut b o h1 (kp' b o h2' e))) S3 zl zk
theorem vM (led : Bool) (hle : led = !w.params.followText "set-order") : fG prog w (s.heap.push { cls := .type "set", dict := none, data := .set #[] 0 (.fresh 0 0 led) }) s.heap.objs.size [] := by
 obtain ⟨⟨o, es, ep, t, ho, hex, hd, he, T, hpl, _, _⟩, _, _⟩ := vN (prog := prog) (w := w) (s := s) led hle
 refine ⟨⟨_, #[], 0, _, Heap.get?_push_size _ rfl, ⟨rfl, rfl, rfl⟩, rfl, rfl, ?_, ⟨rfl, hle⟩, by show 7 <= 7; decide⟩, by simp⟩
 refine ⟨⟨2, rfl⟩, fun a b _ hb => absurd hb (Nat.not_lt_zero _), (fun x hx => by cases hx), rfl, rfl, Nat.zero_le _, fun a x h hx => ?_⟩
 have : (#[] : Array Nat)[a]? = some x := hx
 simp at this
theorem l6 {l : Addr} {items : Array Value} {Q : Value -> Shared -> Prop} (hh : A.handled = none) (hl : s.heap.IsList l items) (hn : items.size <= 4) (ks : Nat -> Int)
  (hk : ∀ (j : Nat) (v : Value), items[j]? = some v -> ∃ t, v = .int (ks j) t)
  (hQ : ∀ h' tk ys, (∀ b o, s.heap.get? b = some o -> h'.get? b = some o) -> fG prog w h' s.heap.objs.size ys -> ys.length <= items.size -> (∀ k, k ∈ ys.map (·.1) ↔ ∃ j, j < items.size /\ k = ks j) →
   Q (.ref s.heap.objs.size) { s with heap := h', toks := tk }) : wpAny (model prog w) A (call (.type "set") [.ref l]) Q E s := by
 refine qW fun led hle => ?_
 have hS : (s.heap.push { cls := .type "set", dict := none, data := .set #[] 0 (.fresh 0 0 led) }).get? s.heap.objs.size = some { cls := .type "set", dict := none, data := .set #[] 0 (.fresh 0 0 led) } := Heap.get?_push_size _ rfl
 have hT : Shared.TypeIs { s with heap := s.heap.push { cls := .type "set", dict := none, data := .set #[] 0 (.fresh 0 0 led) } } (.ref s.heap.objs.size) "set" := ⟨_, hS, rfl⟩
 have ll : l < s.heap.objs.size := by obtain ⟨o, ho, _⟩ := hl; exact Heap.lt_size ho
 have hT2 : Shared.TypeIs { s with heap := s.heap.push { cls := .type "set", dict := none, data := .set #[] 0 (.fresh 0 0 led) } } (.ref l) "list" := by
  obtain ⟨o, ho, hc, _⟩ := hl
  exact ⟨o, Heap.get?_push_of_some _ ho, hc⟩
 have S0 := vM (prog := prog) (w := w) (s := s) led hle
 have hl1 : (s.heap.push { cls := .type "set", dict := none, data := .set #[] 0 (.fresh 0 0 led) }).IsList l items := hl.push _
 have sz1 : (s.heap.push { cls := .type "set", dict := none, data := .set #[] 0 (.fresh 0 0 led) }).objs.size = s.heap.objs.size + 1 := Heap.size_push ..
 have kp1 : ∀ b o, s.heap.get? b = some o -> (s.heap.push { cls := .type "set", dict := none, data := .set #[] 0 (.fresh 0 0 led) }).get? b = some o := fun b o e => Heap.get?_push_of_some _ e
 unfold Builtin.«set.__init__» noKeywords
 wp_walk
 refine wpAny_of_eq xO ?_
 show wpAny _ _ (isInstance (.ref l) (.type "frozenset")) _ _ _
 refine wpAny_isInstance hT2 xN ?_
 simp only [Bool.false_eq_true, if_false]
 refine wpAny_bind (wpAny_typeOf hT2 ?_)
 rw [if_neg (by decide)]
 generalize s.heap.push { cls := .type "set", dict := none, data := .set #[] 0 (.fresh 0 0 led) } = h1 at *
 refine wpAny_bind (wpAny_pyIter_list hl1 ?_)
 refine wpAny_bind (wpAny_runValue ?_)
 have ne1 : s.heap.objs.size ≠ h1.objs.size := by omega
 refine uo (A := A.in1.in1) (I := h1.objs.size) (l := l) (items := items) hh ne1 (Nat.ne_of_gt ll) (Nat.ne_of_lt (by rw [sz1]; exact Nat.lt_succ_of_lt ll)) hn ks hk items.size 0 { s with heap := h1.push { cls := .type "list_iterator", data := .fields #[.ref l, .int 0 0] } } [] (by omega) (Nat.zero_le _) ⟨⟨_, Heap.get?_push_size _ rfl, rfl, rfl⟩, hl1.push _⟩ (S0.ext fun o e => Heap.get?_push_of_some _ e) (Nat.le_refl _) (by simp) fun h' tk ys kp S yl yk => ?_
 refine wpAny_pure (wpAny_pure ⟨rfl, hQ h' tk ys (fun b o e => ?_) S yl yk⟩)
 have lb : b < s.heap.objs.size := Heap.lt_size e
 exact kp b o (Nat.ne_of_lt lb) (Nat.ne_of_lt (by rw [sz1]; exact Nat.lt_succ_of_lt lb)) (Heap.get?_push_of_some _ (kp1 b o e))
end
end SW
namespace SW
open PySem PySem.SetTable ST PySem.W PyProof.Rows
section
variable {prog : Program} {w : World} {A : Around} {E : Value -> Shared -> Prop} {s : Shared}
theorem ir : ∀ ps : List (Int × Value), (∀ p ∈ ps, ∃ t, p.2 = Value.int p.1 t) -> IntsAre (ps.map (·.2)) (ps.map (·.1))
 | [], _ => .nil
 | (k, v) :: r, h => by
  obtain ⟨t, e⟩ := h (k, v) List.mem_cons_self
  have e' : v = Value.int k t := e
  subst e'
  exact .cons _ _ (ir r fun p hp => h p (List.mem_cons_of_mem _ hp))
theorem nk : ∀ {vs : List Value} {ns : List Int}, IntsAre vs ns -> ∀ p ∈ ns.zip vs, ∃ t, p.2 = Value.int p.1 t
 | _, _, .nil, p, h => by cases h
 | _, _, .cons _ _ r, p, h => by
  rcases List.mem_cons.mp h with z | z
  ·exact ⟨_, by rw [z]⟩
  ·exact nk r p z
theorem qx {a : Addr} {vs : List Value} {ns : List Int} {n : Nat} {P : PySem.Fin -> Shared -> Prop} (ho : s.heap.get? a = some (seqObj "list" vs.toArray n)) (hi : IntsAre vs ns) (h64 : vs.length < 64)
  (hP : ∀ h' (out : List Value) (ms : List Int) c2, IntsAre out ms -> ms.Perm ns -> ms.Pairwise (· <= ·) -> (∀ b o, b ≠ a -> s.heap.get? b = some o -> h'.get? b = some o) -> h'.get? a = some (seqObj "list" out.toArray c2) -> P (.done (.ret .none)) { s with heap := h' }) : wpAny (model prog w) A (Builtin.«list.sort» ⟨[.ref a], []⟩) P E s := by
 have lv : ns.length = vs.length := hi.length.symm
 obtain ⟨e1, ho1⟩ : ∃ e1, (s.heap.update a (Obj.mapSeq fun _ => (#[] : Array Value))).get? a = some (seqObj "list" #[] e1) := ⟨_, get?_update_seq ho fun _ => #[]⟩
 rw [list_sort_plain]
 refine wpAny_bind (listItems_at ho rfl ?_)
 refine wpAny_bind (listUpdate_at ho rfl ?_ (by rw [List.size_toArray, sizeLine_eq]; omega) (Nat.zero_le _))
 refine wpAny_bind (seqEpoch_at ho1 rfl ?_)
 refine wpAny_bind (wpAny_newTuple ?_ (by show vs.length <= _; rw [sizeLine_eq]; omega))
 refine wpAny_bind (wpAny_newList ?_ (Nat.zero_le _))
 refine wpAny_holding ?_
 show wpAny (model prog w) A _ P E { s with heap := ((s.heap.update a (Obj.mapSeq fun _ => (#[] : Array Value))).push (seqObj "tuple" vs.toArray 0)).push (seqObj "list" #[] 0) }
 have ho2 : (((s.heap.update a (Obj.mapSeq fun _ => (#[] : Array Value))).push (seqObj "tuple" vs.toArray 0)).push (seqObj "list" #[] 0)).get? a = some (seqObj "list" #[] e1) := Heap.get?_push_of_some _ (Heap.get?_push_of_some _ ho1)
 have oth : ∀ b o, b ≠ a -> s.heap.get? b = some o -> (((s.heap.update a (Obj.mapSeq fun _ => (#[] : Array Value))).push (seqObj "tuple" vs.toArray 0)).push (seqObj "list" #[] 0)).get? b = some o := fun b o hb e =>
  Heap.get?_push_of_some _ (Heap.get?_push_of_some _ ((Heap.get?_update_other _ _ (Ne.symm hb)).trans e))
 generalize ((s.heap.update a (Obj.mapSeq fun _ => (#[] : Array Value))).push (seqObj "tuple" vs.toArray 0)).push (seqObj "list" #[] 0) = H at ho2 oth ⊢
 have fin : ∀ xs : Array Keyed, xs.Perm (vs.toArray.zip vs.toArray) -> SortedTo xs xs.size -> P (.done (.ret .none)) { s with heap := H.update a (Obj.mapSeq fun _ => xs.map (·.2)) } := fun xs hp hs => by
  obtain ⟨ps, q1, q2, q3⟩ := ksk_out (b := false) (keys := vs.toArray) (vs := vs) (kz := ns) hi hp hs
  have q2' : xs.map (·.2) = List.toArray (ps.map Prod.snd) := by
   have : (xs.map (·.2)).toList = ps.map Prod.snd := q2
   rw [<- this, Array.toArray_toList]
  have zi := nk hi
  rw [q2']
  obtain ⟨c2, hc2⟩ : ∃ c2, (H.update a (Obj.mapSeq fun _ => List.toArray (ps.map Prod.snd))).get? a = some (seqObj "list" (List.toArray (ps.map Prod.snd)) c2) := ⟨_, get?_update_seq ho2 fun _ => List.toArray (ps.map Prod.snd)⟩
  refine hP _ (ps.map Prod.snd) (ps.map Prod.fst) c2 (ir ps fun p hp' => zi p (q1.mem_iff.mp hp')) ?_ (List.pairwise_map.mpr q3) (fun b o hb e => (Heap.get?_update_other _ _ (Ne.symm hb)).trans (oth b o hb e)) hc2
  have := q1.map Prod.fst
  rw [List.map_fst_zip (Nat.le_of_eq lv)] at this
  exact this
 dsimp only
 have zz : (vs.toArray.zip vs.toArray).size = vs.length := by rw [Array.size_zip, List.size_toArray, Nat.min_self]
 by_cases hn : vs.toArray.size < 2
 ·rw [if_pos hn, if_pos hn]
  refine wpAny_bind (wpAny_pure ?_)
  rw [StateT.run_pure]
  refine wpAny_bind (wpAny_pure ?_)
  dsimp only
  refine wpAny_bind (seqEpoch_at ho2 rfl ?_)
  refine wpAny_bind (listUpdate_at ho2 rfl ?_ (hsz2 := by rw [Array.size_map]; show (vs.toArray.zip vs.toArray).size <= _; rw [zz, sizeLine_eq]; omega))
  simp only [bne_self_eq_false, Bool.false_eq_true, if_false]
  refine wpAny_pure (fin (vs.toArray.zip vs.toArray) (Array.Perm.refl _) fun i j hij hj => ?_)
  rw [zz] at hj
  rw [List.size_toArray] at hn
  have : i = j := by omega
  subst this
  exact Int.le_refl _
 ·rw [if_neg hn, if_neg hn]
  rw [List.size_toArray] at hn
  rw [ksk_kind (keys := vs.toArray) hi (by rw [List.size_toArray]; omega)]
  refine wpAny_bind (wpAny_pure ?_)
  refine wpAny_bind (wpAny_mono (wpS_sortRuns (a₀ := vs.toArray.zip vs.toArray) (st := SortSt.mk' oneType' (vs.toArray.zip vs.toArray) #[] 7 none)
   (Q := fun _ st' => (arrOf st').Perm (vs.toArray.zip vs.toArray) /\ failedOf st' = none /\ SortedTo (arrOf st') (vs.toArray.zip vs.toArray).size)
   (ksk_intKeys (keys := vs.toArray) hi) ⟨Array.Perm.refl _, rfl, rfl, rfl⟩ (by rw [zz]; omega) (by rw [zz]; exact h64) fun st' a1 a2 a3 => ⟨a1, a2, a3⟩) ?_ fun _ _ e => e)
  rintro ⟨⟨⟩, st'⟩ s' ⟨rfl, hp, hf, hs⟩
  dsimp only
  refine wpAny_bind (seqEpoch_at ho2 rfl ?_)
  refine wpAny_bind (listUpdate_at ho2 rfl ?_ (Nat.zero_le _) (by rw [Array.size_map, hp.size_eq, zz, sizeLine_eq]; omega))
  rw [hf]
  simp only [bne_self_eq_false, Bool.false_eq_true, if_false]
  exact wpAny_pure (fin (arrOf st') hp (by rw [hp.size_eq]; exact hs))
theorem oI {a : Addr} {xs : List (Int × Tok)} {Q : Value -> Shared -> Prop} (hh : A.handled = none) (X : fG prog w s.heap a xs) (h64 : xs.length < 64)
  (hQ : ∀ s' (D : Addr) (out : List Value) (ms : List Int) c, (∀ b o, s.heap.get? b = some o -> s'.heap.get? b = some o) -> s'.gens = s.gens -> s'.drawn = s.drawn -> s'.os = s.os -> s.heap.objs.size <= D -> IntsAre out ms -> ms.Perm (xs.map (·.1)) -> ms.Pairwise (· < ·) →
   s'.heap.get? D = some (seqObj "list" out.toArray c) -> Q (.ref D) s') : wpAny (model prog w) A (call (.builtin "sorted") [.ref a]) Q E s := by
 obtain ⟨⟨o, es, ep, t, ho, hex, hd, he, T, hpl, _⟩, nd⟩ := X
 have sz : es.size = xs.length := by rw [<- Array.length_toList, he, List.length_map]
 refine Calls.call_function_entry kind_sorted plain_sorted entry_sorted (args_sorted1 _) ?_
 unfold Builtin.«sorted»
 refine wpAny_bind (m := checkCount "sorted" 1 1 _) (wpAny_pure ?_)
 refine wpAny_bind (oz (show A.in1.handled = none from hh) ho hex.1 hd T (by rw [List.length_map, sz]) hpl (by omega) fun s1 acc kp g1 g2 g3 le ea => ?_)
 obtain ⟨zs, pz, ez⟩ := uz (jB w a es ep) xs he
 have ea' : acc = zs.map fun z => Value.int z.1 z.2 := by rw [ea, ez, List.map_map]; rfl
 have lz : zs.length = xs.length := pz.length_eq
 have hi : IntsAre acc (zs.map (·.1)) := by
  rw [ea']
  have := ir (zs.map fun z => (z.1, Value.int z.1 z.2)) fun p hp => by
   obtain ⟨z, _, rfl⟩ := List.mem_map.mp hp
   exact ⟨z.2, rfl⟩
  rw [List.map_map, List.map_map] at this
  exact this
 have la : acc.length = xs.length := by rw [ea', List.length_map, lz]
 refine wpAny_bind (wpAny_newList ?_ (by rw [la, sizeLine_eq]; omega))
 have hoL : (s1.heap.push (seqObj "list" acc.toArray 0)).get? s1.heap.objs.size = some (seqObj "list" acc.toArray 0) := Heap.get?_push_size _ rfl
 have kp2 : ∀ b o, s.heap.get? b = some o -> (s1.heap.push (seqObj "list" acc.toArray 0)).get? b = some o := fun b o e => Heap.get?_push_of_some _ (kp b o e)
 show wpAny _ _ _ _ _ { s1 with heap := s1.heap.push (seqObj "list" acc.toArray 0) }
 refine wpAny_bind (wpAny_holding (wpAny_call_entry slot_list_sort ⟨_, hoL, rfl⟩ entry_list_sort ?body (args_list_sort _)))
 case body =>
  refine qx (s := { s1 with heap := s1.heap.push (seqObj "list" acc.toArray 0) }) hoL hi (by omega) fun h' out ms c2 hio hpm hsm oth hD => ?_
  have pm : ms.Perm (xs.map (·.1)) := hpm.trans (pz.map (·.1))
  refine ⟨_, rfl, wpAny_pure ⟨_, rfl, hQ _ s1.heap.objs.size out ms c2 (fun b o e => ?_) g1 g2 g3 le hio pm ?_ hD⟩⟩
  ·exact oth b o (Nat.ne_of_lt (Nat.lt_of_lt_of_le (Heap.lt_size e) le)) (kp2 b o e)
  ·have n2 : ms.Nodup := pm.nodup_iff.mpr nd
   exact (hsm.and n2).imp fun {x y} q => by have := q.1; have := q.2; omega
end
end SW
namespace PD
open PySem PySem.Spec PyProof.Rows L2
section
variable {X : Cx} {pos : Pos}
def ly (te : DE) : DA := fun ρ Q => te ρ fun d => ∃ (t : Bool) (ns : List Int), d = .lst t (ns.map D.int) /\ ns.length <= 4 /\ ∀ ms : List Int, ms.Pairwise (· < ·) -> (∀ k, k ∈ ms ↔ k ∈ ns) -> Q (ms.map D.int)
theorem eQ : ∀ {out : List Value} {ms : List Int}, IntsAre out ms -> Vals (ms.map V.int) out
 | _, _, .nil => .nil
 | _, _, .cons n t r => .cons ⟨t, rfl⟩ (eQ r)
theorem fu {K : PySem.W.Frag} {P : Bool -> Addr -> Prop} {H : Hp} : ∀ ms : List Int, af K P H (ms.map D.int) (ms.map V.int)
 | [] => rfl
 | n :: ms => af.cons (Den.int n) (fu ms)
theorem oA {e : Expr} {te : DE} {p p2 pos2 : Pos} (hc : X.calm = true) (hg : Gl X "sorted") (hm : X.mg "sorted" = none) (hg2 : Gl X "set") (hm2 : X.mg "set" = none) (he : PED X e te)
  (hst : starEach [.Call (.Name "set" p2) [e] [] pos2] X.env = (false, eval (.Call (.Name "set" p2) [e] [] pos2) X.env) :: starEach [] X.env := by rfl) (hpl : (backTo pos (starEach [] X.env)).any (·.1) = false := by rfl)
  (hst2 : starEach [e] X.env = (false, eval e X.env) :: starEach [] X.env := by rfl) (hpl2 : (backTo pos2 (starEach [] X.env)).any (·.1) = false := by rfl) :
  PEF X (.Call (.Name "sorted" p) [.Call (.Name "set" p2) [e] [] pos2] [] pos) (ly te) := by
 intro pins s σ H W ρ Q I r h
 refine wpAny_Call_Name_kw (cN I hg hm boot_sorted ?_ (by decide) (by decide))
 refine PyProof.Rows.callWith_builtin1 ?_ hst hpl
 rw [hst]
 show wpAny _ _ (spliced ((false, eval (.Call (.Name "set" p2) [e] [] pos2) X.env) :: backTo pos (starEach [] X.env))) _ _ s
 refine Calls.spliced_cons ?_
 refine wpAny_Call_Name_kw (cN I hg2 hm2 boot_set ?_ (by decide) (by decide))
 refine PyProof.Rows.callWith_type1 ?_ hst2 hpl2
 rw [hst2]
 show wpAny _ _ (spliced ((false, eval e X.env) :: backTo pos2 (starEach [] X.env))) _ _ s
 refine Calls.spliced_cons (thn (he pins s σ H W ρ _ I r h) fun u s1 ⟨v, H1, d, I1, rv, e1, hd, t, ns, ed, lk, q⟩ => ?_)
 subst ed
 obtain ⟨l, vs, ev, _, hq, hw⟩ := hd.lst_
 subst ev
 cases rv
 refine wpAny_pure ?_
 obtain ⟨its, rv, pl, _⟩ := I1.list hq
 have hh := I1.ok.hd hc
 rw [bF hw] at rv
 have ia := intsAre_of rv
 have lit : its.length = ns.length := ia.length
 refine SW.l6 hh pl.isList (by rw [List.size_toArray]; omega) (fun j => ns.getD j 0) (fun j v hj => IntsAre.int_at ia j v (by simpa using hj)) fun h2 tk2 ys kp S yl yk => ?_
 have I2 : L2.Inv X pins σ H1 { s1 with heap := h2, toks := tk2 } := I1.kept kp
 refine wpAny_pure ?_
 rw [List.size_toArray] at yl yk
 have memk : ∀ k, k ∈ ys.map (·.1) ↔ k ∈ ns := fun k => by
  rw [yk k]
  constructor
  ·rintro ⟨j, lj, e⟩
   rw [lit] at lj
   rw [e, show ns.getD j 0 = ns[j] by simp [lj]]
   exact List.getElem_mem lj
  ·intro hk
   obtain ⟨j, lj, e⟩ := List.getElem_of_mem hk
   exact ⟨j, by rw [lit]; exact lj, by rw [<- e]; simp [lj]⟩
 refine SW.oI (s := { s1 with heap := h2, toks := tk2 }) hh S (by omega) fun s' D out ms c kp' g1 g2 g3 le hio pm sm hD => ?_
 have es : s' = { s1 with heap := s'.heap, toks := s'.toks } := by cases s'; dsimp only at g1 g2 g3 ⊢; subst g1 g2 g3; rfl
 have hz : s1.heap.objs.size <= D := by
  obtain ⟨_, _, _, _, ho, _⟩ := S.ex
  exact Nat.le_of_lt (Nat.lt_of_lt_of_le (Heap.lt_size ho) le)
 have nD : H1 D = none := I1.hok.fresh hz
 have lm : ms.length <= 4 := by
  have h1 := pm.length_eq
  rw [List.length_map] at h1
  omega
 have I3 : L2.Inv X pins σ (L2.upd H1 D (.lst (ms.map V.int))) s' := by
  rw [es]
  exact I1.laid (fun b u e => kp' b u (kp b u e)) hz ⟨by rw [List.length_map, sizeLine_eq]; omega, out, c, eQ hio, hD⟩
 have kn := Inv.kno I3 aA
 exact ⟨D, _, _, _, rfl, I3, e1.trans (ai.upd nD), e1.free nD, kn, aA, af.apart nD kn (fu ms), q ms sm fun k => by rw [pm.mem_iff]; exact memk k⟩
end
end PD
namespace PD
open PySem PySem.Spec PyProof.Rows L2
section
variable {X : Cx}
def BDP (X : Cx) (pins : List (Addr × Obj)) (W : Own) (Q : D -> Prop) (f : Flow) (s1 : Shared) : Prop :=
 ∃ u v d σ' H', f = .ret u /\ Inv X pins σ' H' s1 /\ RelV v u /\ ai X.H₀ H' /\ Den X.K (fun t a => W.B a ∨ (t = true /\ W.S a)) H' d v /\ Q d
abbrev DB := (D -> Prop) -> Ro -> Prop
def PBd (X : Cx) (ss : List Stmt) (t : DB) : Prop :=
 ∀ (pins : List (Addr × Obj)) (s : Shared) (σ : St) (H : Hp) (W : Own) (ρ : Ro) (Q : D -> Prop), Inv X pins σ H s -> Rel X W H σ ρ -> (∀ a o, X.H₀ a = some o -> W.S a) -> t Q ρ →
  wpAny (model X.prog X.w) X.A (execs ss X.env) (BDP X pins W Q) X.xe s
theorem Fwd.ent {W W' : Own} {H H' : Hp} {σ : St} {ρ : Ro} (f : Fwd W H W' H') (r : Rel X W H σ ρ) : ai X.H₀ H' where
 kp := fun b o e n => f.kp b o (fun i z => by have := r.ke i b z; rw [e] at this; cases this) (r.ent.kp b o e n) n
 tb := fun b ps e => by
  obtain ⟨m1, h1⟩ := r.ent.tb b ps e
  obtain ⟨m2, h2⟩ := f.tb b _ h1
  exact ⟨m1 ++ m2, by rw [h2, Array.append_assoc]⟩
 ok := fun k => f.ok (r.ent.ok k)
theorem mX {K : PySem.W.Frag} {W W' : Own} {H H' : Hp} {d : D} {v : V} (f : Fwd W H W' H') (h : Den K W'.bad H' d v) : Den K (fun t a => W.B a ∨ (t = true /\ W.S a)) H' d v := h.fewer fun t a z => by
 rcases z with z | z
 ·exact .inl (by rw [f.B]; exact z)
 ·exact .inr (.inr ⟨z.1, by rw [f.S]; exact z.2⟩)
def j8 (t : DS) (u : DB) : DB := fun Q ρ => t { nx := u Q, rt := Q } ρ
theorem bX {st : Stmt} {rest : List Stmt} {t : DS} {u : DB} (h1 : PSD X st t) (h2 : PBd X rest u) : PBd X (st :: rest) (j8 t u) := by
 intro pins s σ H W ρ Q I r s0 h
 refine wpAny_execs_cons (thn (h1 pins s σ H W ρ _ I r h) fun f s1 ⟨W', σ', H', I', fw, q⟩ => ?_)
 cases f with
 | next =>
  obtain ⟨ρ', r', q⟩ := q
  refine thn (h2 pins s1 σ' H' W' ρ' Q I' r' (by rw [fw.S]; exact s0) q) fun f2 s2 ⟨w, v, d, σ2, H2, e, I2, rv, sm, hd, qd⟩ => ⟨w, v, d, σ2, H2, e, I2, rv, sm, ?_, qd⟩
  rw [fw.B, fw.S] at hd
  exact hd
 | ret w =>
  obtain ⟨v, d, rv, hd, qd⟩ := q
  exact ⟨w, v, d, σ', H', rfl, I', rv, fw.ent r, mX fw hd, qd⟩
 | brk => obtain ⟨_, _, q⟩ := q; exact q.elim
 | cont => obtain ⟨_, _, q⟩ := q; exact q.elim
def qp (t : DS) : DB := fun Q ρ => t { nx := fun _ => False, rt := Q } ρ
theorem wF {st : Stmt} {t : DS} (h1 : PSD X st t) : PBd X [st] (qp t) := by
 intro pins s σ H W ρ Q I r s0 h
 refine wpAny_execs_cons (thn (h1 pins s σ H W ρ _ I r h) fun f s1 ⟨W', σ', H', I', fw, q⟩ => ?_)
 cases f with
 | next => obtain ⟨_, _, q⟩ := q; exact q.elim
 | ret w =>
  obtain ⟨v, d, rv, hd, qd⟩ := q
  exact ⟨w, v, d, σ', H', rfl, I', rv, fw.ent r, mX fw hd, qd⟩
 | brk => obtain ⟨_, _, q⟩ := q; exact q.elim
 | cont => obtain ⟨_, _, q⟩ := q; exact q.elim
def yf (X : Cx) (t : DB) : TS := fun D σ H => ∃ W ρ Q, Rel X W H σ ρ /\ (∀ a o, X.H₀ a = some o -> W.S a) /\ t Q ρ /\ ∀ H' v d, ai X.H₀ H' -> Den X.K (fun t a => W.B a ∨ (t = true /\ W.S a)) H' d v -> Q d -> D.rt v H'
theorem PBd.ps {ss : List Stmt} {t : DB} (h : PBd X ss t) : PSs X ss (yf X t) := by
 intro pins s σ H D I q
 obtain ⟨W, ρ, Q, r, s0, ht, k⟩ := q
 refine thn (h pins s σ H W ρ Q I r s0 ht) fun f s1 ⟨u, v, d, σ', H', e, I1, rv, sm, hd, qd⟩ => ?_
 subst e
 exact ⟨v, σ', H', I1, rv, k H' v d sm hd qd⟩
theorem PBd.nox {ss : List Stmt} {t : DB} (h : PBd X.nox ss t) : PBd X ss t := fun pins s σ H W ρ Q I r s0 hw =>
 wpAny_mono (h pins s σ H W ρ Q (I.wish _) (r.wish _) s0 hw) (fun _ _ ⟨u, v, d, σ', H', e, I1, q⟩ => ⟨u, v, d, σ', H', e, I1.unwish, q⟩) fun _ _ z => False.elim z
end
section
variable {P : Program} {w : World} {K : PySem.W.Frag} {mg : Str -> Option Value} {base : Heap}
theorem ay.okB {x qual : Str} {st : Stmt} {f : Addr} {fd : FuncData} {N ps : List Str} {k : Nat} {sp : DSp} (F : ay K x qual st f fd) (S : aB N ps (ak st)) (len : ∀ ds Q E, sp ds Q E -> ds.length = ps.length)
  (hbody : ∀ (cdv : Value) (A : Around) (outer : List Env) (s : Shared) (H : Hp) (E : XK), aZ k (A.deeper (envOfC qual (ak st) s.heap.objs.size f cdv)) →
   ∃ t, PBd (bS (CX1 P w) P w K mg base N qual (ak st) f cdv A outer s H E).nox (bc st) t /\ ∀ ds Q Ed, sp ds Q Ed -> t Q (aE N ds)) : aG P w K mg base (CX1 P w) (k + 1) f fd ps (aO K sp) := by
 obtain ⟨oc, od, dV, kV, doc, pm, an, cdv, ct, osl, rfl, lk, hcd⟩ := F.ex
 refine qr lk hcd S (fun vs H Q E h => ?_) fun A outer s H vs Q E hr h => ?_
 ·obtain ⟨_, ds, _, _, _, _, hd, hs, _⟩ := h
  rw [hd.len]
  exact len ds _ _ hs
 ·obtain ⟨Pb, ds, Qd, Ed, hT, hP, hd, hs, kq, ke⟩ := h
  obtain ⟨t, ht, k⟩ := hbody cdv A outer s H E hr
  refine ⟨_, ht.nox.ps, ⟨Pb, fun _ => none, fun a => ∃ o, H a = some o⟩, _, Qd, Rel.start hP hd rfl hT, fun a o e => ⟨o, e⟩, k ds Qd Ed hs, fun H' v d sm hd' q => ?_⟩
  exact kq d v H' sm hd' q
end
end PD
namespace PD
open PySem PySem.Spec PyProof.Rows L2
section
variable {X : Cx}
theorem Rel.forget {W : Own} {H : Hp} {σ : St} {ρ : Ro} (r : Rel X W H σ ρ) (i : Nat) : Rel X W H σ (ρ.set i none) where
 val := fun j d h => by
  by_cases e : j = i
  ·subst e
   by_cases l : j < ρ.length
   ·rw [List.getElem?_set_self l] at h; cases h
   ·rw [List.getElem?_eq_none (by rw [List.length_set]; omega)] at h; cases h
  ·rw [List.getElem?_set_ne (Ne.symm e)] at h; exact r.val j d h
 own := fun j d h => by
  by_cases e : j = i
  ·subst e
   by_cases l : j < ρ.length
   ·rw [List.getElem?_set_self l] at h; cases h
   ·rw [List.getElem?_eq_none (by rw [List.length_set]; omega)] at h; cases h
  ·rw [List.getElem?_set_ne (Ne.symm e)] at h; exact r.own j d h
 inj := r.inj
 kn := r.kn
 ke := r.ke
 bt := r.bt
 st := r.st
 ent := r.ent
 tab := r.tab
theorem Rel.apart {W : Own} {H H' : Hp} {σ : St} {ρ : Ro} {Z : Addr -> Prop} (r : Rel X W H σ ρ) (ag : ∀ a, ¬ Z a -> H' a = H a) (ls : ∀ a, Z a -> ∃ us us', H a = some (.lst us) /\ H' a = some (.lst us')) (nO : ∀ i a, W.O i = some a -> ¬ Z a)
  (hv : ∀ (j : Nat) (d : D) (v : V), ρ[j]? = some (some (Sl.val d)) -> σ[j]? = some (some v) -> Den X.K W.bad H d v -> Den X.K (fun t a => W.bad t a ∨ Z a) H d v)
  (ho : ∀ (j : Nat) (x : OS), ρ[j]? = some (some (Sl.ob x)) -> ∃ zs, x = OS.lst zs /\ cH zs = true) (ent : ai X.H₀ H') (tab : dj X.K H') : Rel X W H' σ ρ := by
 have noT : ∀ c ws, SqT X.K H c ws -> SqT X.K H' c ws := fun c ws q => by
  have ne : ∀ o, H c = some o -> (∀ us, o ≠ .lst us) -> H' c = some o := fun o q n => by
   rw [ag c fun z => by obtain ⟨us, _, h1, _⟩ := ls c z; rw [h1] at q; cases q; exact n us rfl]; exact q
  rcases q with (q | ⟨u, q⟩) | q
  ·exact .inl (.inl (ne _ q fun us z => by cases z))
  ·exact .inl (.inr ⟨u, ne _ q fun us z => by cases z⟩)
  ·exact .inr q
 have noX : ∀ c φ, H c = some (.ext φ) -> H' c = some (.ext φ) := fun c φ q => by
  rw [ag c fun z => by obtain ⟨us, _, h1, _⟩ := ls c z; rw [h1] at q; cases q]; exact q
 have noL : ∀ t c ws, ¬ (W.bad t c ∨ Z c) -> SqG X.K H t c ws -> ¬ W.bad t c /\ SqG X.K H' t c ws := fun t c ws n q => by
  have e := ag c fun z => n (.inr z)
  refine ⟨fun z => n (.inl z), ?_, fun z => ⟨by rw [e]; exact (q.2 z).1, (q.2 z).2⟩⟩
  rcases q.1 with (q | ⟨u, q⟩) | q
  ·exact .inl (.inl (by rw [e]; exact q))
  ·exact .inl (.inr ⟨u, by rw [e]; exact q⟩)
  ·exact .inr q
 have tr : ∀ c u, H c = some u -> ∃ u', H' c = some u' := fun c u q => by
  by_cases z : Z c
  ·obtain ⟨_, us', _, h2⟩ := ls c z; exact ⟨_, h2⟩
  ·exact ⟨u, by rw [ag c z]; exact q⟩
 refine ⟨fun j d h => ?_, fun j x h => ?_, r.inj, fun j a h => ?_, r.ke, fun a h => let ⟨u, q⟩ := r.bt a h; tr a u q, fun a h => let ⟨u, q⟩ := r.st a h; tr a u q, ent, tab⟩
 ·obtain ⟨v, h1, h2⟩ := r.val j d h
  exact ⟨v, h1, Den.map noT noL noX d v (hv j d v h h1 h2)⟩
 ·obtain ⟨zs, rfl, hz⟩ := ho j x h
  obtain ⟨a, vs, h1, h2, h3, h4⟩ := r.ownL j zs h
  refine ⟨a, .lst vs, h1, h2, by rw [ag a (nO j a h1)]; exact h3, .lst ?_⟩
  exact af.map noT noL noX zs vs (af.nol zs vs hz h4)
 ·obtain ⟨k1, k2, o, k3, k4⟩ := r.kn j a h
  exact ⟨k1, k2, o, by rw [ag a (nO j a h)]; exact k3, k4⟩
def qq (d : D) : Prop := iX d = true ∨ ∃ t x zs, d = .lst t (.tup x :: zs) /\ cH (.tup x :: zs) = true
theorem vK {K : PySem.W.Frag} {P : Bool -> Addr -> Prop} {H : Hp} {Z : Addr -> Prop} {d : D} {v : V} (hZ : ∀ a, Z a -> K.lookup a = none /\ ∃ (n : Int) (us : List V), H a = some (.lst (.int n :: us))) (h : qq d) (hd : Den K P H d v) : Den K (fun t a => P t a ∨ Z a) H d v := by
 rcases h with h | ⟨t, x, zs, rfl, h⟩
 ·exact Den.nol d v h hd
 ·obtain ⟨a, vs, e, n, q, hds⟩ := hd.lstG_
  subst e
  have hds' := hds
  obtain ⟨u, r, ev, hu, _⟩ := hds'
  obtain ⟨b, ws, eu, _, _⟩ := hu.tup_
  subst eu
  subst ev
  have nz : ¬ Z a := fun z => by
   obtain ⟨k0, m, us, h1⟩ := hZ a z
   rcases q.1 with (q1 | ⟨w, q1⟩) | ⟨o, its, n', q1, _⟩
   ·rw [h1] at q1; cases q1
   ·rw [h1] at q1; cases q1
   ·rw [k0] at q1; cases q1
  exact Den.lst (fun z => z.elim n nz) q (af.nol _ _ h hds)
end
end PD
namespace PD
open PySem PySem.Spec PyProof.Rows L2
section
variable {X : Cx}
def rLs (K : PySem.W.Frag) : List V -> Hp -> VK -> Prop := fun xs H Q => ∃ p ys, xs = [.ref p] /\ (SqL K H p ys ∨ SqT K H p ys) /\ ∀ l, H l = none -> Q (.ref l) (L2.upd H l (.lst ys))
def tLi (K : PySem.W.Frag) (i : Nat) (k : Int) : TE := tCB (rLs K) (d6 (tOp (uB K) (qL i) (tC (.int k))) lg)
theorem vh {x : Str} {k : Int} {p px pk ps pos : Pos} {j : Nat} (i : Nat) (hg : Gl X "list") (hm : X.mg "list" = none) (hi : X.N[i]? = some x := by rfl) (hv : Vis X.env.scope x := by first | exact Or.inl rfl | exact Or.inr (Or.inl rfl) | exact Or.inr (Or.inr rfl)) (hd : (x == ("__debug__" : Str)) = false := by decide) (hcd : (x == ("__classdict__" : Str)) = false := by decide)
  (hst : starEach [.Subscript (.Name x px) (.Constant (.int k) j pk) ps] X.env = (false, eval (.Subscript (.Name x px) (.Constant (.int k) j pk) ps) X.env) :: starEach [] X.env := by rfl) (hpl : (backTo pos (starEach [] X.env)).any (·.1) = false := by rfl) :
  PE X (.Call (.Name "list" p) [.Subscript (.Name x px) (.Constant (.int k) j pk) ps] [] pos) (tLi X.K i k) :=
 lU iN hg hm boot_list (bK (vg nA (gW hi hv hd hcd) kx (by intro _ _; rfl)) eM hst) (by decide) (by decide) hst hpl
def tAp (K : PySem.W.Frag) (i : Nat) (k c : Int) : TS := vq (tBM K "list" pG (tOp (uB K) (qL i) (tC (.int k))) (d6 (tC (.int c)) lg))
theorem vj {x : Str} {k c : Int} {px pk ps apos pc cpos pos : Pos} {j j' : Nat} (i : Nat) (hi : X.N[i]? = some x := by rfl) (hv : Vis X.env.scope x := by first | exact Or.inl rfl | exact Or.inr (Or.inl rfl) | exact Or.inr (Or.inr rfl)) (hd : (x == ("__debug__" : Str)) = false := by decide) (hcd : (x == ("__classdict__" : Str)) = false := by decide)
  (hbase : attributeBase (.Subscript (.Name x px) (.Constant (.int k) j pk) ps) "append" X.env (eval (.Subscript (.Name x px) (.Constant (.int k) j pk) ps) X.env) = eval (.Subscript (.Name x px) (.Constant (.int k) j pk) ps) X.env := by rfl)
  (hfew : ((backTo cpos (starEach [.Constant (.int c) j' pc] X.env)).all (fun x => !x.1) && (backToKw cpos (keywordEach [] X.env)).all (fun x => x.1.isSome) && decide ([Expr.Constant (.int c) j' pc].length + ([] : List Keyword).length + (if ([] : List Keyword).isEmpty then 0 else 1) < 30)) = true := by rfl)
  (hline : (apos.endLine == cpos.line) = true := by rfl) (hst : starEach [.Constant (.int c) j' pc] X.env = (false, eval (.Constant (.int c) j' pc) X.env) :: starEach [] X.env := by rfl) (hplain : (backTo cpos (starEach [] X.env)).any (·.1) = false := by rfl)
  (hs : swapsWith (.Call (.Attribute (.Subscript (.Name x px) (.Constant (.int k) j pk) ps) "append" apos) [.Constant (.int c) j' pc] [] cpos) none pos.line X.env = pure false := by rfl) :
  PS X (.Expr (.Call (.Attribute (.Subscript (.Name x px) (.Constant (.int k) j pk) ps) "append" apos) [.Constant (.int c) j' pc] [] cpos) pos) (tAp X.K i k c) :=
 kY (pos := pos) (qG PySem.F.plainAttrs_list PySem.F.slot_list_append PySem.F.type_list_append iW (vg nA (gW hi hv hd hcd) kx (by intro _ _; rfl)) (bK kx eM hst) hbase hfew hline hst hplain) hs
def mS (ix iy : Nat) (c : Str) (t : DB) : DB := fun Q ρ => ∃ (d0 : D) (k0 n0 : Int) (ks ns : List Int), ρ[ix]? = some (some (Sl.val (.tup [d0, .lst true ((k0 :: ks).map D.int), .lst true ((n0 :: ns).map D.int)]))) /\ (k0 :: ks).length < 1000 /\ (n0 :: ns).length < 1000 ∧
 (∀ (j : Nat) (d : D), j ≠ ix -> j ≠ iy -> ρ[j]? = some (some (Sl.val d)) -> qq d) /\ (∀ (j : Nat) (x : OS), j ≠ ix -> j ≠ iy -> ρ[j]? = some (some (Sl.ob x)) -> ∃ zs, x = OS.lst zs /\ cH zs = true) ∧
 t Q ((ρ.set ix none).set iy (some (.val (.tup [.str c, .lst true ((k0 :: ks).map D.int), .lst true ((n0 :: ns).map D.int)]))))
theorem tL {s1 s2 s3 : Stmt} {rest : List Stmt} {t3 : DB} {c y : Str} {ix iy : Nat} (hy : X.N[iy]? = some y) (hne : ix ≠ iy) (P1 : PS X s1 (xP (xQ (d6 (tC (.str c)) (d6 (tLi X.K ix 1) (d6 (tLi X.K ix 2) lg)))) (u9 iy))) (P2 : PS X s2 (tAp X.K ix 1 0)) (P3 : PS X s3 (tAp X.K ix 2 0)) (h3 : PBd X rest t3) :
  PBd X (s1 :: s2 :: s3 :: rest) (mS ix iy c t3) := by
 intro pins s σ H W ρ Q I r s0 ht
 obtain ⟨d0, k0, n0, ks, ns, ex, lk, ln, hfar, hown, ht⟩ := ht
 obtain ⟨v, sx, hd⟩ := r.val ix _ ex
 obtain ⟨tA, vs, rfl, qT, hds⟩ := hd.tup_
 obtain ⟨v0, r0, e0, hd0, v1, r1, e1, hd1, v2, r2, e2, hd2, e3⟩ := hds
 obtain ⟨b1, us1, rfl, nb1, q1, hu1⟩ := hd1.lstG_
 obtain ⟨b2, us2, rfl, nb2, q2, hu2⟩ := hd2.lstG_
 have eu1 := bF hu1
 have eu2 := bF hu2
 subst eu1 eu2
 have h1 := (q1.2 rfl).1
 have h2 := (q2.2 rfl).1
 have ev : vs = [v0, .ref b1, .ref b2] := by rw [e0, e1, e2, e3]
 subst ev
 have il : iy < σ.length := Inv.ilt I hy
 have la1 : ((k0 :: ks).map V.int).length < 1000 := by rw [List.length_map]; exact lk
 have la2 : ((n0 :: ns).map V.int).length < 1000 := by rw [List.length_map]; exact ln
 generalize eU1 : (k0 :: ks).map V.int = U1 at *
 generalize eU2 : (n0 :: ns).map V.int = U2 at *
 refine wpAny_execs_cons (thn (P1 pins s σ H { nx := fun σ' H' => ∃ b3 b4 t', H b3 = none /\ L2.upd H b3 (.lst U1) b4 = none /\ L2.upd (L2.upd H b3 (.lst U1)) b4 (.lst U2) t' = none /\ σ' = σ.set iy (some (.ref t')) /\ H' = L2.upd (L2.upd (L2.upd H b3 (.lst U1)) b4 (.lst U2)) t' (.tup [.str c, .ref b3, .ref b4]), rt := fun _ _ => False } I ?_) fun f s1' q => ?_)
 ·refine ⟨.ref tA, sx, tA, _, 1, .ref b1, rfl, rfl, qT, rfl, b1, U1, rfl, .inl q1.1, fun b3 hb3 => ?_⟩
  have sm1 := ai.upd (o := .lst U1) hb3
  refine ⟨.ref tA, sx, tA, _, 2, .ref b2, rfl, rfl, SqT.same sm1 qT, rfl, b2, U2, rfl, .inl (SqG.same sm1 q2).1, fun b4 hb4 => ⟨by rw [sizeLine_eq]; show 3 <= _; omega, fun t' ht' => ?_⟩⟩
  exact ⟨b3, b4, t', hb3, hb4, ht', rfl, rfl⟩
 cases f with
 | ret w => obtain ⟨_, _, _, _, _, z⟩ := q; exact z.elim
 | brk => obtain ⟨_, _, _, z⟩ := q; exact z.elim
 | cont => obtain ⟨_, _, _, z⟩ := q; exact z.elim
 | next =>
 obtain ⟨σ1, H3, I3, b3, b4, t', hb3, hb4, ht', rfl, eH3⟩ := q
 have sm1 := ai.upd (o := .lst U1) hb3
 have sm2 := ai.upd (o := .lst U2) hb4
 have sm3 := ai.upd (o := .tup [.str c, .ref b3, .ref b4]) ht'
 have sm : ai H H3 := by rw [eH3]; exact (sm1.trans sm2).trans sm3
 have g3 : H3 b3 = some (.lst U1) := by rw [eH3]; exact sm3 _ _ (sm2 _ _ aA)
 have g4 : H3 b4 = some (.lst U2) := by rw [eH3]; exact sm3 _ _ aA
 have gt : H3 t' = some (.tup [.str c, .ref b3, .ref b4]) := by rw [eH3]; exact aA
 have g1 : H3 b1 = some (.lst U1) := sm _ _ h1
 have g2 : H3 b2 = some (.lst U2) := sm _ _ h2
 have n31 : b3 ≠ b1 := fun e => by rw [e, h1] at hb3; cases hb3
 have n32 : b3 ≠ b2 := fun e => by rw [e, h2] at hb3; cases hb3
 have hb4' : H b4 = none := sm1.free hb4
 have n41 : b4 ≠ b1 := fun e => by rw [e, h1] at hb4'; cases hb4'
 have n42 : b4 ≠ b2 := fun e => by rw [e, h2] at hb4'; cases hb4'
 clear eH3
 have sx1 : (σ.set iy (some (.ref t')))[ix]? = some (some (V.ref tA)) := by rw [List.getElem?_set_ne (Ne.symm hne)]; exact sx
 have qT3 : SqT X.K H3 tA [v0, .ref b1, .ref b2] := SqT.same sm qT
 refine wpAny_execs_cons (thn (P2 pins s1' _ H3 { nx := fun σ' H' => σ' = σ.set iy (some (.ref t')) /\ H' = L2.upd H3 b1 (.lst (U1 ++ [.int 0])), rt := fun _ _ => False } I3 ?_) fun f s2' q => ?_)
 ·exact ⟨.ref tA, sx1, tA, _, 1, .ref b1, rfl, rfl, qT3, rfl, .inl ⟨rfl, U1, SqL.of g1⟩, b1, U1, .int 0, rfl, rfl, g1, by rw [sizeLine_eq]; omega, rfl, rfl⟩
 cases f with
 | ret w => obtain ⟨_, _, _, _, _, z⟩ := q; exact z.elim
 | brk => obtain ⟨_, _, _, z⟩ := q; exact z.elim
 | cont => obtain ⟨_, _, _, z⟩ := q; exact z.elim
 | next =>
 obtain ⟨σ2, H4, I4, rfl, eH4⟩ := q
 have noT4 : SqT X.K H4 tA [v0, .ref b1, .ref b2] := by
  rw [eH4]
  rcases qT3 with (q | ⟨u, q⟩) | q
  ·exact .inl (.inl (by rw [ar (fy q g1 (by intro z; cases z))]; exact q))
  ·exact .inl (.inr ⟨u, by rw [ar (fy q g1 (by intro z; cases z))]; exact q⟩)
  ·exact .inr q
 obtain ⟨U2', g42, lU2⟩ : ∃ U2', H4 b2 = some (.lst U2') /\ U2'.length < 2000 := by
  by_cases e : b2 = b1
  ·exact ⟨U1 ++ [.int 0], by rw [eH4, e]; exact aA, by rw [List.length_append]; simp; omega⟩
  ·exact ⟨U2, by rw [eH4, ar e]; exact g2, by omega⟩
 refine wpAny_execs_cons (thn (P3 pins s2' _ H4 { nx := fun σ' H' => σ' = σ.set iy (some (.ref t')) /\ H' = L2.upd H4 b2 (.lst (U2' ++ [.int 0])), rt := fun _ _ => False } I4 ?_) fun f s3' q => ?_)
 ·exact ⟨.ref tA, sx1, tA, _, 2, .ref b2, rfl, rfl, noT4, rfl, .inl ⟨rfl, U2', SqL.of g42⟩, b2, U2', .int 0, rfl, rfl, g42, by rw [sizeLine_eq]; omega, rfl, rfl⟩
 cases f with
 | ret w => obtain ⟨_, _, _, _, _, z⟩ := q; exact z.elim
 | brk => obtain ⟨_, _, _, z⟩ := q; exact z.elim
 | cont => obtain ⟨_, _, _, z⟩ := q; exact z.elim
 | next =>
 obtain ⟨σ3, H5, I5, rfl, eH5⟩ := q
 have k3 := Inv.kno I3 g3
 have k4 := Inv.kno I3 g4
 have k1 := Inv.kno I3 g1
 have k2 := Inv.kno I3 g2
 have nbad : ∀ b, H b = none -> ¬ W.bad true b := fun b hb z => by
  obtain ⟨o, q⟩ := r.tracked true b z
  rw [hb] at q
  cases q
 have den1 : ∀ P : Bool -> Addr -> Prop, af X.K P H3 ((k0 :: ks).map D.int) U1 := fun P => by rw [<- eU1]; exact fu _
 have den2 : ∀ P : Bool -> Addr -> Prop, af X.K P H3 ((n0 :: ns).map D.int) U2 := fun P => by rw [<- eU2]; exact fu _
 have held : ∀ P : Bool -> Addr -> Prop, ¬ P true b3 -> ¬ P true b4 -> Den X.K P H3 (.tup [.str c, .lst true ((k0 :: ks).map D.int), .lst true ((n0 :: ns).map D.int)]) (.ref t') := fun P p3 p4 =>
  Den.tup (SqT.of gt) (af.cons (Den.str c) (af.cons (Den.lst p3 (SqG.new g3 k3) (den1 P)) (af.cons (Den.lst p4 (SqG.new g4 k4) (den2 P)) rfl)))
 have r3 := ((r.same sm).forget ix).put il (held W.bad (nbad b3 hb3) (nbad b4 hb4'))
 have z1 : X.H₀ b1 = none := by
  cases e : X.H₀ b1 with
  | none => rfl
  | some o => exact absurd (.inr (.inr ⟨rfl, s0 b1 o e⟩)) nb1
 have z2 : X.H₀ b2 = none := by
  cases e : X.H₀ b2 with
  | none => rfl
  | some o => exact absurd (.inr (.inr ⟨rfl, s0 b2 o e⟩)) nb2
 have hZ : ∀ a, (a = b1 ∨ a = b2) -> X.K.lookup a = none /\ ∃ (n : Int) (us : List V), H3 a = some (.lst (.int n :: us)) := fun a ha => by
  rcases ha with rfl | rfl
  ·exact ⟨k1, k0, ks.map V.int, by rw [g1, <- eU1]; rfl⟩
  ·exact ⟨k2, n0, ns.map V.int, by rw [g2, <- eU2]; rfl⟩
 have ent5 : ai X.H₀ H5 := by
  rw [eH5]
  refine ai.ins ?_ z2 g42 True.intro True.intro
  rw [eH4]
  exact ai.ins (r.ent.trans sm) z1 g1 True.intro True.intro
 have tab5 : dj X.K H5 := by
  rw [eH5]
  refine dj.upd ?_ True.intro (.inr ⟨_, g42, (fun _ z => by cases z), True.intro⟩)
  rw [eH4]
  exact dj.upd (r.tab.same sm) True.intro (.inr ⟨_, g1, (fun _ z => by cases z), True.intro⟩)
 have r5 : Rel X (W.drop iy) H5 (σ.set iy (some (.ref t'))) ((ρ.set ix none).set iy (some (.val (.tup [.str c, .lst true ((k0 :: ks).map D.int), .lst true ((n0 :: ns).map D.int)])))) := by
  refine r3.apart (Z := fun a => a = b1 ∨ a = b2) (fun a ha => ?_) (fun a ha => ?_) (fun i a ho hz => ?_) (fun j d v hj hs hdv => ?_) (fun j x hj => ?_) ent5 tab5
  ·rw [eH5, ar (fun e => ha (.inr e)), eH4, ar (fun e => ha (.inl e))]
  ·by_cases e2 : a = b2
   ·subst e2
    exact ⟨U2, _, g2, by rw [eH5]; exact aA⟩
   ·have e1 : a = b1 := ha.resolve_right e2
    subst e1
    exact ⟨U1, _, g1, by rw [eH5, ar e2, eH4]; exact aA⟩
  ·have ho' : W.O i = some a := by
    have z : (if i = iy then none else W.O i) = some a := ho
    split at z
    ·cases z
    ·exact z
   rcases hz with rfl | rfl
   ·exact nb1 (.inr (.inl ⟨i, ho'⟩))
   ·exact nb2 (.inr (.inl ⟨i, ho'⟩))
  ·by_cases ey : j = iy
   ·subst ey
    have lρ : j < (ρ.set ix none).length := by
     by_cases l : j < (ρ.set ix none).length
     ·exact l
     ·rw [List.getElem?_eq_none (by rw [List.length_set]; omega)] at hj; cases hj
    rw [List.getElem?_set_self lρ] at hj
    rw [List.getElem?_set_self il] at hs
    cases hj
    cases hs
    refine held _ (fun z => ?_) fun z => ?_
    ·rcases z with z | z | z
     ·exact nbad b3 hb3 (Own.drop_bad z)
     ·exact n31 z
     ·exact n32 z
    ·rcases z with z | z | z
     ·exact nbad b4 hb4' (Own.drop_bad z)
     ·exact n41 z
     ·exact n42 z
   ·rw [List.getElem?_set_ne (Ne.symm ey)] at hj
    by_cases ex' : j = ix
    ·subst ex'
     have lρ : j < ρ.length := (List.getElem?_eq_some_iff.mp ex).1
     rw [List.getElem?_set_self lρ] at hj
     cases hj
    ·rw [List.getElem?_set_ne (Ne.symm ex')] at hj
     exact vK hZ (hfar j d ex' ey hj) hdv
  ·by_cases ey : j = iy
   ·subst ey
    have lρ : j < (ρ.set ix none).length := by
     by_cases l : j < (ρ.set ix none).length
     ·exact l
     ·rw [List.getElem?_eq_none (by rw [List.length_set]; omega)] at hj; cases hj
    rw [List.getElem?_set_self lρ] at hj
    cases hj
   ·rw [List.getElem?_set_ne (Ne.symm ey)] at hj
    by_cases ex' : j = ix
    ·subst ex'
     have lρ : j < ρ.length := (List.getElem?_eq_some_iff.mp ex).1
     rw [List.getElem?_set_self lρ] at hj
     cases hj
    ·rw [List.getElem?_set_ne (Ne.symm ex')] at hj
     exact hown j x ex' ey hj
 exact h3 pins s3' _ H5 (W.drop iy) _ Q I5 r5 s0 ht
end
end PD
namespace PD
open PySem PySem.Spec PyProof.Rows L2
def FL (K : PySem.W.Frag) (x : Str) (st : Stmt) : Prop := ∃ (f : Addr) (oc : Value) (od : Option Addr) (kV dc pm : Value) (an : Option Addr) (cd ct : Value) (sl : Array (Option Value)),
 PySem.W.nsIn K mainGlobals x = some (some (.ref f)) /\ K.lookup f = some ⟨oc, od, .func (PySem.W.fnOf x x (bJ st) (bc st) (ak st) .none kV dc pm an cd ct), sl⟩ /\ PySem.W.codeIn K cd x = true /\ PySem.W.keepIn K (.ref f) = true
theorem FL.mk {K : PySem.W.Frag} {x : Str} {st : Stmt} {f : Addr} {oc : Value} {od : Option Addr} {kV dc pm : Value} {an : Option Addr} {cd ct : Value} {sl : Array (Option Value)} (a : PySem.W.nsIn K mainGlobals x = some (some (.ref f)))
  (b : K.lookup f = some ⟨oc, od, .func (PySem.W.fnOf x x (bJ st) (bc st) (ak st) .none kV dc pm an cd ct), sl⟩) (c : PySem.W.codeIn K cd x = true) (d : PySem.W.keepIn K (.ref f) = true) : FL K x st := ⟨f, oc, od, kV, dc, pm, an, cd, ct, sl, a, b, c, d⟩
theorem yO {α : Type} : ∀ {us : List α}, us.length = 1 -> ∃ a, us = [a]
 | [a], _ => ⟨a, rfl⟩
theorem yP {α : Type} : ∀ {us : List α}, us.length = 2 -> ∃ a b, us = [a, b]
 | [a, b], _ => ⟨a, b, rfl⟩
theorem yQ {α : Type} : ∀ {us : List α}, us.length = 3 -> ∃ a b c, us = [a, b, c]
 | [a, b, c], _ => ⟨a, b, c, rfl⟩
theorem yR {α : Type} : ∀ {us : List α}, us.length = 4 -> ∃ a b c d, us = [a, b, c, d]
 | [a, b, c, d], _ => ⟨a, b, c, d, rfl⟩
theorem yS {α : Type} : ∀ {us : List α}, us.length = 5 -> ∃ a b c d e, us = [a, b, c, d, e]
 | [a, b, c, d, e], _ => ⟨a, b, c, d, e, rfl⟩
theorem FL.has {K : PySem.W.Frag} {x : Str} {st : Stmt} {h : Heap} {mg : Str -> Option Value} {k : Nat} {ps : List Str} {sp : DSp} (e : FL K x st) (P : Program) (w : World) (base : Heap) (X : K.In h) (G : h.Ns mainGlobals mg)
  (ok : ∀ {f : Addr} {fd : FuncData}, ay K x x st f fd -> aG P w K mg base (CX1 P w) k f fd ps (aO K sp))
  (hb : ∀ (kV dc pm : Value) (an : Option Addr) (cd ct : Value) (us : List Value), us.length = ps.length -> bindArgs (PySem.W.fnOf x x (bJ st) (bc st) (ak st) .none kV dc pm an cd ct) ⟨us, []⟩ = pure (ps.zip us) := by
   intro _ _ _ _ _ _ us hl
   first
    | (obtain ⟨a, e⟩ := yO hl; subst e; rfl)
    | (obtain ⟨a, b, e⟩ := yP hl; subst e; rfl)
    | (obtain ⟨a, b, c, e⟩ := yQ hl; subst e; rfl)
    | (obtain ⟨a, b, c, d, e⟩ := yR hl; subst e; rfl)
    | (obtain ⟨a, b, c, d, e', e⟩ := yS hl; subst e; rfl)) : Has P w K mg base x k ps sp := by
 obtain ⟨f, oc, od, kV, dc, pm, an, cd, ct, sl, a, b, c, d⟩ := e
 exact ⟨f, _, ok (oZ b c d), PySem.W.mg_of X G a, d, .all fun us hl => hb kV dc pm an cd ct us hl⟩
section
variable {X : Cx}
def jF (i : Nat) (t : DB) : DB := fun Q ρ => t Q (ρ.set i none)
theorem iM {ss : List Stmt} {t : DB} (i : Nat) (h : PBd X ss t) : PBd X ss (jF i t) := fun pins s σ H W ρ Q I r s0 ht => h pins s σ H W _ Q I (r.forget i) s0 ht
end
end PD
namespace LW
open PySem PySem.Spec PyProof.Rows L2 PD
seal PD.bR PD.PSD PD.PED PD.PTD PD.PWD PD.PAD PD.PID PD.PGD PD.kJ PD.TsD PD.PEF PD.PKD PD.PPD PD.PDO PD.PFL PD.PPK PD.PEK
def top (i : Nat) : Stmt := PySem.Challenge.pw_halvecut_k32_the_shortest_mixture.main.body.getD i (.Pass ⟨0, 0, 0, 0⟩)
abbrev c8 : Stmt := top 7
abbrev iD : Stmt := top 8
abbrev jo : Stmt := top 9
abbrev iE : Stmt := top 16
abbrev k6 : Stmt := top 18
abbrev n5 : Stmt := top 19
abbrev jM : Stmt := top 28
abbrev dQ : Stmt := top 29
abbrev c7 : Stmt := top 30
abbrev bN : Stmt := top 31
abbrev i0 : Stmt := top 32
abbrev eO : Stmt := top 34
abbrev gG : Stmt := top 36
abbrev eS : Stmt := top 37
abbrev fU : Stmt := top 38
abbrev iC : Stmt := top 39
abbrev eT : Stmt := top 40
abbrev fT : Stmt := top 41
abbrev cO : Stmt := top 42
abbrev iA : Stmt := top 43
abbrev gF : Stmt := top 44
abbrev fB : Stmt := top 45
abbrev dY : Stmt := top 47
abbrev iB : Stmt := top 48
abbrev cU : Stmt := top 49
abbrev fO : Stmt := top 46
abbrev fP : Stmt := top 46
abbrev fQ : Stmt := top 46
abbrev fR : Stmt := top 46
theorem bV : aB ["one", "other", "rest"] ["one", "other"] (ak c8) := ⟨rfl, rfl, rfl, by decide +kernel, rfl, by decide +kernel, by decide +kernel⟩
theorem gu : aB ["numbers", "divisor", "number"] ["numbers"] (ak iD) := ⟨rfl, rfl, rfl, by decide +kernel, rfl, by decide +kernel, by decide +kernel⟩
theorem c9 : aB ["count", "size", "found", "length", "longer", "pick", "first"] ["count", "size"] (ak jo) := ⟨rfl, rfl, rfl, by decide +kernel, rfl, by decide +kernel, by decide +kernel⟩
theorem oH : aB ["spot"] ["spot"] (ak iE) := ⟨rfl, rfl, rfl, by decide +kernel, rfl, by decide +kernel, by decide +kernel⟩
theorem uG : aB ["one", "other"] ["one", "other"] (ak k6) := ⟨rfl, rfl, rfl, by decide +kernel, rfl, by decide +kernel, by decide +kernel⟩
theorem wj : aB ["one", "other"] ["one", "other"] (ak n5) := ⟨rfl, rfl, rfl, by decide +kernel, rfl, by decide +kernel, by decide +kernel⟩
theorem sW : aB ["way"] ["way"] (ak jM) := ⟨rfl, rfl, rfl, by decide +kernel, rfl, by decide +kernel, by decide +kernel⟩
theorem kB : aB ["one", "other"] ["one", "other"] (ak dQ) := ⟨rfl, rfl, rfl, by decide +kernel, rfl, by decide +kernel, by decide +kernel⟩
theorem jx : aB ["one", "other"] ["one", "other"] (ak c7) := ⟨rfl, rfl, rfl, by decide +kernel, rfl, by decide +kernel, by decide +kernel⟩
theorem cz : aB ["one", "two", "three", "turns"] ["one", "two", "three"] (ak bN) := ⟨rfl, rfl, rfl, by decide +kernel, rfl, by decide +kernel, by decide +kernel⟩
theorem qJ : aB ["ways"] ["ways"] (ak i0) := ⟨rfl, rfl, rfl, by decide +kernel, rfl, by decide +kernel, by decide +kernel⟩
theorem dw : aB ["spots", "place", "ways", "size", "numbers", "shares"] ["spots", "place"] (ak eO) := ⟨rfl, rfl, rfl, by decide +kernel, rfl, by decide +kernel, by decide +kernel⟩
theorem n6 : aB ["_law_found"] ["_law_found"] (ak gG) := ⟨rfl, rfl, rfl, by decide +kernel, rfl, by decide +kernel, by decide +kernel⟩
theorem k7 : aB ["_law_script", "_law_k"] ["_law_script", "_law_k"] (ak eS) := ⟨rfl, rfl, rfl, by decide +kernel, rfl, by decide +kernel, by decide +kernel⟩
theorem cw : aB ["_law_cell", "_law_many", "_law_found", "_law_number", "_law_k"] ["_law_cell", "_law_many"] (ak fU) := ⟨rfl, rfl, rfl, by decide +kernel, rfl, by decide +kernel, by decide +kernel⟩
theorem jz : aB ["_law_kind", "_law_cell", "_law_x"] ["_law_kind", "_law_cell"] (ak iC) := ⟨rfl, rfl, rfl, by decide +kernel, rfl, by decide +kernel, by decide +kernel⟩
theorem gY : aB ["_law_one", "_law_other"] ["_law_one", "_law_other"] (ak eT) := ⟨rfl, rfl, rfl, by decide +kernel, rfl, by decide +kernel, by decide +kernel⟩
theorem iJ : aB ["_law_by", "_law_x", "_law_y", "_law_share"] ["_law_by", "_law_x", "_law_y"] (ak fT) := ⟨rfl, rfl, rfl, by decide +kernel, rfl, by decide +kernel, by decide +kernel⟩
theorem fW : aB ["_law_spots", "_law_shares", "_law_by", "_law_x"] ["_law_spots", "_law_shares"] (ak cO) := ⟨rfl, rfl, rfl, by decide +kernel, rfl, by decide +kernel, by decide +kernel⟩
theorem df : aB ["_law_found", "_law_spots", "_law_point", "_law_row", "_law_by", "_law_share", "_law_number"] ["_law_found", "_law_spots", "_law_point"] (ak iA) := ⟨rfl, rfl, rfl, by decide +kernel, rfl, by decide +kernel, by decide +kernel⟩
theorem i4 : aB ["_law_one", "_law_two", "_law_point", "_law_ahead"] ["_law_one", "_law_two", "_law_point"] (ak gF) := ⟨rfl, rfl, rfl, by decide +kernel, rfl, by decide +kernel, by decide +kernel⟩
theorem cP : aB ["_law_some", "_law_point", "_law_here", "_law_hands", "_law_one", "_law_two"] ["_law_some", "_law_point"] (ak fB) := ⟨rfl, rfl, rfl, by decide +kernel, rfl, by decide +kernel, by decide +kernel⟩
theorem fV : aB ["_law_numbers", "_law_spots", "_law_point", "_law_long", "_law_row"] ["_law_numbers", "_law_spots", "_law_point"] (ak dY) := ⟨rfl, rfl, rfl, by decide +kernel, rfl, by decide +kernel, by decide +kernel⟩
theorem dZ : aB ["_law_point", "_law_caught", "error"] ["_law_point"] (ak iB) := ⟨rfl, rfl, rfl, by decide +kernel, rfl, by decide +kernel, by decide +kernel⟩
theorem cu : aB ["_law_script", "_law_kind", "_law_most", "_law_spots", "_law_xs", "_law_many", "_law_some", "_law_point", "_law_handed", "_law_found", "_law_held"] ["_law_script"] (ak cU) := ⟨rfl, rfl, rfl, by decide +kernel, rfl, by decide +kernel, by decide +kernel⟩
theorem iI : aB ["_law_many", "_law_long", "_law_found", "_law_row", "_law_k"] ["_law_many", "_law_long"] (ak fO) := ⟨rfl, rfl, rfl, by decide +kernel, rfl, by decide +kernel, by decide +kernel⟩
theorem cV : aB ["_law_many", "_law_long", "_law_found", "_law_row", "_law_k"] ["_law_many", "_law_long"] (ak fP) := ⟨rfl, rfl, rfl, by decide +kernel, rfl, by decide +kernel, by decide +kernel⟩
theorem cW : aB ["_law_many", "_law_long", "_law_found", "_law_row", "_law_k"] ["_law_many", "_law_long"] (ak fQ) := ⟨rfl, rfl, rfl, by decide +kernel, rfl, by decide +kernel, by decide +kernel⟩
theorem cX : aB ["_law_many", "_law_long", "_law_found", "_law_row", "_law_k"] ["_law_many", "_law_long"] (ak fR) := ⟨rfl, rfl, rfl, by decide +kernel, rfl, by decide +kernel, by decide +kernel⟩
structure Cls where
 PlaneError : Addr
 NoPlace : Addr
 TooFew : Addr
 TooMany : Addr
structure COk (K : PySem.W.Frag) (mg : Str -> Option Value) (κ : Cls) : Prop where
 mg_PlaneError : mg "PlaneError" = some (.ref κ.PlaneError)
 mg_NoPlace : mg "NoPlace" = some (.ref κ.NoPlace)
 mg_TooFew : mg "TooFew" = some (.ref κ.TooFew)
 mg_TooMany : mg "TooMany" = some (.ref κ.TooMany)
 exc_TooFew : PySem.W.excIn K κ.TooFew qN "ValueError.__new__" = true
 xk_TooFew : PX.cY K κ.TooFew
 kit_TooFew_PlaneError : PySem.W.kitOne K (.ref κ.TooFew) (.ref κ.PlaneError) = some true
 kit_TooFew_NoPlace : PySem.W.kitOne K (.ref κ.TooFew) (.ref κ.NoPlace) = some false
 kit_TooFew_TooFew : PySem.W.kitOne K (.ref κ.TooFew) (.ref κ.TooFew) = some true
 kit_TooFew_TooMany : PySem.W.kitOne K (.ref κ.TooFew) (.ref κ.TooMany) = some false
 kit_TooFew_ValueError : PySem.W.kitOne K (.ref κ.TooFew) (.type "ValueError") = some true
 exm_TooFew_PlaneError : PySem.W.exmOne K (.ref κ.TooFew) (.ref κ.PlaneError) = some true
 exm_TooFew_TooFew : PySem.W.exmOne K (.ref κ.TooFew) (.ref κ.TooFew) = some true
def sg (n : Int) : Int := if 0 < n then 1 else if n < 0 then -1 else 0
def sw (a0 a1 a2 b0 b1 b2 c0 c1 c2 : Int) : Int := a0 * (b1 * c2 - c1 * b2) + b0 * (c1 * a2 - a1 * c2) + c0 * (a1 * b2 - b1 * a2)
structure Pl (n : Nat) (a b c : Int) : Prop where
 pos : 0 < a
 low : PM.g3 a b c = 1
 b0 : Bd n a
 b1 : Bd n b
 b2 : Bd n c
theorem Pl.mono {m n : Nat} {a b c : Int} (h : Pl m a b c) (l : m <= n) : Pl n a b c := ⟨h.pos, h.low, h.b0.mono l, h.b1.mono l, h.b2.mono l⟩
abbrev Sp := Int × Int
def spD (p : Sp) : D := .tup [.int p.1, .int p.2]
theorem bD {p q : Sp} (h : spD p = spD q) : p = q := by
 unfold spD at h
 simp only [D.tup.injEq, List.cons.injEq, D.int.injEq, and_true] at h
 exact Prod.ext h.1 h.2
theorem lY {α : Type} {f : α -> D} (hf : ∀ {p q}, f p = f q -> p = q) : ∀ {ps qs : List α}, ps.map f = qs.map f -> ps = qs
 | [], [], _ => rfl
 | [], _ :: _, h => by simp at h
 | _ :: _, [], h => by simp at h
 | p :: ps, q :: qs, h => by
  simp only [List.map_cons, List.cons.injEq] at h
  rw [hf h.1, lY hf h.2]
theorem fD {ps qs : List Sp} (h : ps.map spD = qs.map spD) : ps = qs := lY bD h
theorem jR (p : Sp) : aI (spD p) = spD p := by unfold spD; simp only [dh, bA, cJ, cj]
theorem dI (ps : List Sp) : aP (ps.map spD) = ps.map spD := cn spD jR ps
def plS (p : Sp) : D := .tup [.int 1, .int p.1, .int p.2]
theorem jQ (p : Sp) : aI (plS p) = plS p := by unfold plS; simp only [dh, bA, cJ, cj]
theorem kG (ps : List Sp) : aP (ps.map plS) = ps.map plS := cn plS jQ ps
def cr (a b e : Sp) : Int := sw 1 a.1 a.2 1 b.1 b.2 1 e.1 e.2
def xC : List Sp -> Sp -> List Sp
 | b :: a :: r, e => if cr a b e <= 0 then xC (a :: r) e else b :: a :: r
 | l, _ => l
def qY : List Sp -> List Sp -> List Sp
 | acc, [] => acc
 | acc, e :: es => qY (e :: xC acc e) es
theorem fm {a b : Int} (hb : 0 < b) : 0 <= a.fmod b /\ a.fmod b < b := ⟨Int.fmod_nonneg_of_pos a hb, Int.fmod_lt_of_pos a hb⟩
theorem bdl {n : Nat} {x : Int} (m : Nat) (h : x.natAbs < m) (hm : m <= 2 ^ n) : Bd n x := Nat.lt_of_lt_of_le h hm
theorem p12 : ((10 : Int) ^ (12 : Int).toNat) = 1000000000000 := by decide
theorem mO : pS 10 12 := ⟨by decide, by decide, by decide⟩
def xX (ys ps : List Sp) : Prop := ys.Pairwise (fun p q => p.1 < q.1 ∨ (p.1 = q.1 /\ p.2 < q.2)) /\ ∀ p, p ∈ ys ↔ p ∈ ps
def qX (ys : List Sp) : List Sp := (qY [] ys).reverse
def yb (ys : List Sp) : List Sp := if ys.length < 2 then ys else (qX ys).dropLast ++ (qX ys.reverse).dropLast
theorem iO {α : Type} {wi : DA} {js : List Nat} {te : DE} {ρ : Ro} {Q : D -> Prop} (xs : List α) (f : α -> D) {β : Type} (g : β -> D) (P : β -> Prop) (hw : ∀ R : List D -> Prop, R (xs.map f) -> wi ρ R) (hz : xs.length <= sizeLine)
  (he : ∀ x ∈ xs, ∀ K : D -> Prop, (∀ y, P y -> K (g y)) -> te (some (.val (f x)) :: js.map (bf ρ)) K) (q : ∀ ys : List β, ys.length = xs.length -> (∀ y ∈ ys, P y) -> Q (.lst true (ys.map g))) : jc wi js mP te ρ Q := by
 refine hw _ ⟨by rw [List.length_map]; exact hz, fun j out => ∃ ys : List β, out = ys.map g /\ ys.length = j /\ ∀ y ∈ ys, P y, ⟨[], rfl, rfl, by simp⟩, fun j d out hd ho => ?_, fun out ho => ?_⟩
 ·rw [List.getElem?_map] at hd
  cases ex : xs[j]? with
  | none => rw [ex] at hd; cases hd
  | some x =>
   rw [ex] at hd
   cases hd
   obtain ⟨ys, rfl, hl, hP⟩ := ho
   show te _ _
   refine he x (List.mem_of_getElem? ex) _ fun y hy => ⟨ys ++ [y], by simp, by simp [hl], fun z hz => ?_⟩
   rcases List.mem_append.mp hz with c | c
   ·exact hP z c
   ·rw [List.mem_singleton.mp c]; exact hy
 ·obtain ⟨ys, rfl, hl, hP⟩ := ho
  exact q ys (by rw [hl, List.length_map]) hP
structure SB (p : Sp) : Prop where
 x : Bd 60 p.1
 y : Bd 60 p.2
def xh (p q : Sp) : Prop := p.1 < q.1 ∨ (p.1 = q.1 /\ p.2 < q.2)
def fA (A B : Int) (p : Sp) : Int := A * p.1 + B * p.2
theorem yU {x y : Int} (h : 0 < x * y) (hy : 0 < y) : 0 < x := by
 by_cases c : 0 < x
 ·exact c
 ·have := Int.mul_nonneg (show 0 <= -x by omega) (Int.le_of_lt hy)
  rw [Int.neg_mul] at this
  omega
structure ChI (A B : Int) (st done : List Sp) : Prop where
 e2 : ∀ b a r, (b :: a :: r) <:+ st -> ∀ p ∈ done, 0 <= cr a b p
 e3 : ∀ c b a r, (c :: b :: a :: r) <:+ st -> 0 < cr a b c
 ord : st.Pairwise fun b a => fA A B a < fA A B b
 mem : ∀ p ∈ st, p ∈ done
 top : ∀ b r, st = b :: r -> ∀ p ∈ done, fA A B p <= fA A B b
 bot : done ≠ [] -> ∃ pre a, st = pre ++ [a] /\ ∀ p ∈ done, fA A B a <= fA A B p
structure Way (A B : Int) (ps : List Sp) (n : Nat) (l : Nat -> Sp) : Prop where
 two : 2 <= n
 edge : ∀ i, i + 1 < n -> ∀ p ∈ ps, 0 <= cr (l i) (l (i + 1)) p
 bend : ∀ i, i + 2 < n -> 0 < cr (l i) (l (i + 1)) (l (i + 2))
 rise : ∀ i j, i < j -> j < n -> fA A B (l i) < fA A B (l j)
 mem : ∀ i, i < n -> l i ∈ ps
 lo : ∀ p ∈ ps, fA A B (l 0) <= fA A B p
 hi : ∀ p ∈ ps, fA A B p <= fA A B (l (n - 1))
theorem Way.to {A B : Int} {ps qs : List Sp} {n : Nat} {l : Nat -> Sp} (h : ∀ p, p ∈ qs ↔ p ∈ ps) (W : Way A B ps n l) : Way A B qs n l :=
 ⟨W.two, fun i hi p hp => W.edge i hi p ((h p).mp hp), W.bend, W.rise, fun i hi => (h _).mpr (W.mem i hi), fun p hp => W.lo p ((h p).mp hp), fun p hp => W.hi p ((h p).mp hp)⟩
def vi (hs : List Sp) (k : Nat) : Sp := hs.getD ((k + hs.length - 1) % hs.length) (0, 0)
structure y3 (hs ps : List Sp) : Prop where
 mem : ∀ p ∈ hs, p ∈ ps
 len : hs.length <= 2 * ps.length
 some_ : ps ≠ [] -> ∃ a r, hs = a :: r /\ ∀ p ∈ ps, ¬ xh p a
 one : ∀ a, hs = [a] -> ∀ p ∈ ps, p = a
 two : ∀ a b, hs = [a, b] -> a ≠ b /\ ∀ p ∈ ps, cr a b p = 0 /\ ¬ xh b p
 edge : 2 < hs.length -> ∀ k, k < hs.length -> ∀ p ∈ ps, 0 <= cr (vi hs k) (hs.getD k (0, 0)) p
 bend : 2 < hs.length -> 0 < cr (hs.getD 0 (0, 0)) (hs.getD 1 (0, 0)) (hs.getD 2 (0, 0))
theorem vm (lo hi : Int) : cK lo hi 1 = (hi - lo).toNat := by
 unfold cK Builtin.Range.rangeSize
 rw [if_pos (by decide)]
 by_cases h : lo < hi
 ·rw [if_pos h, Int.ediv_one]
  omega
 ·rw [if_neg h]
  omega
theorem kZ (n : Nat) : c6 0 1 (cK 0 (n : Int) 1) = (List.range' 0 n).map fun (k : Nat) => D.int (k : Int) := by
 unfold c6
 rw [vm, show ((n : Int) - 0).toNat = n by omega, List.range'_eq_map_range, List.map_map]
 apply List.map_congr_left
 intro k _
 simp
theorem xp (p : Sp) : OkN 1 (spD p) := OkN.tup (.cons (.int _ _) (.cons (.int _ _) (.nil _)))
theorem yT {B X Y : Int} {Q : D -> Prop} (hb : 0 < B) (bb : Bd 4000 B) (h : Q (cq B X Y)) : CD B (Int.gcd (Int.gcd B X : Int) Y : Int) /\ CD X (Int.gcd (Int.gcd B X : Int) Y : Int) /\ CD Y (Int.gcd (Int.gcd B X : Int) Y : Int) /\ ([D.int (B.fdiv (Int.gcd (Int.gcd B X : Int) Y : Int)), D.int (X.fdiv (Int.gcd (Int.gcd B X : Int) Y : Int)), D.int (Y.fdiv (Int.gcd (Int.gcd B X : Int) Y : Int))] : List D).length <= sizeLine /\ Q (D.tup [D.int (B.fdiv (Int.gcd (Int.gcd B X : Int) Y : Int)), D.int (X.fdiv (Int.gcd (Int.gcd B X : Int) Y : Int)), D.int (Y.fdiv (Int.gcd (Int.gcd B X : Int) Y : Int))]) := by
 have eg : (Int.gcd (Int.gcd B X : Int) Y : Int) = PM.dv3 B X Y B := by
  unfold PM.dv3 PM.g3
  rw [if_neg (by omega)]
 have hz : ¬ (B = 0 /\ X = 0 /\ Y = 0) := fun z => by omega
 have hb' : Bd 8000 (PM.dv3 B X Y B) := by
  have d := PM.gN (l := B) (PM.m8 B X Y)
  exact Nat.lt_of_le_of_lt (Nat.le_of_dvd (by omega) (Int.natAbs_dvd_natAbs.mpr d)) (bb.mono (n := 8000) (by decide))
 rw [eg]
 exact ⟨⟨PM.eI hz, hb'⟩, ⟨PM.eI hz, hb'⟩, ⟨PM.eI hz, hb'⟩, sz3 _ _ _, h⟩
def ax (pk : List Nat) : Nat := match pk.getLast? with
 | none => 0
 | some l => l + 1
def nxt (n : Nat) (pk : List Nat) : List (List Nat) := (List.range' (ax pk) (n - ax pk)).map fun k => pk ++ [k]
def lev (n : Nat) : Nat -> List (List Nat)
 | 0 => [[]]
 | j + 1 => (lev n j).flatMap (nxt n)
def pkD (pk : List Nat) : D := .lst true (pk.map fun (k : Nat) => D.int (k : Int))
theorem bZ {n : Nat} : ∀ {j : Nat} {pk : List Nat}, pk ∈ lev n j -> pk.length = j /\ ∀ k ∈ pk, k < n
 | 0, pk, h => by
  simp only [lev, List.mem_singleton] at h
  subst h
  simp
 | j + 1, pk, h => by
  simp only [lev, List.mem_flatMap] at h
  obtain ⟨q, hq, h⟩ := h
  obtain ⟨h1, h2⟩ := bZ hq
  unfold nxt at h
  obtain ⟨k, hk, rfl⟩ := List.mem_map.mp h
  rw [List.mem_range'_1] at hk
  refine ⟨by simp [h1], fun x hx => ?_⟩
  rcases List.mem_append.mp hx with z | z
  ·exact h2 x z
  ·simp at z; subst z; omega
theorem gR (n : Nat) : ∀ j : Nat, (lev n j).length <= n ^ j
 | 0 => by simp [lev]
 | j + 1 => by
  have ih := gR n j
  simp only [lev]
  have : ∀ l : List (List Nat), (l.flatMap (nxt n)).length <= l.length * n := by
   intro l
   induction l with
   | nil => simp
   | cons a r ih =>
    rw [List.flatMap_cons, List.length_append, List.length_cons, Nat.add_mul]
    have : (nxt n a).length <= n := by unfold nxt; rw [List.length_map, List.length_range']; omega
    omega
  refine Nat.le_trans (this _) ?_
  rw [Nat.pow_succ]
  exact Nat.mul_le_mul_right _ ih
theorem pL (a b : Nat) : c6 (a : Int) 1 (cK a b 1) = (List.range' a (b - a)).map fun (k : Nat) => D.int (k : Int) := by
 unfold c6
 rw [vm, show ((b : Int) - (a : Int)).toNat = b - a by omega, List.range'_eq_map_range, List.map_map]
 apply List.map_congr_left
 intro k _
 simp
theorem fL (n : Nat) : ∀ l : List (List Nat), (l.flatMap (nxt n)).length <= l.length * n
 | [] => by simp
 | a :: r => by
  rw [List.flatMap_cons, List.length_append, List.length_cons, Nat.add_mul]
  have := fL n r
  have : (nxt n a).length <= n := by unfold nxt; rw [List.length_map, List.length_range']; omega
  omega
theorem ja {pk : List Nat} (h : pk ≠ []) {Q : D -> Prop} (q : Q (.int ((ax pk : Nat) - 1 : Int))) : ∃ d, atI (pk.map fun (k : Nat) => D.int (k : Int)) (-1) = some d /\ Q d := by
 obtain ⟨r, l, rfl⟩ : ∃ r l, pk = r ++ [l] := ⟨pk.dropLast, pk.getLast h, (List.dropLast_concat_getLast h).symm⟩
 refine ⟨.int l, ?_, ?_⟩
 ·unfold atI ixN
  rw [List.length_map, List.length_append]
  have e : (-1 + ((r.length : Int) + 1)).toNat = r.length := by omega
  have l : (1 : Int) <= (r.length : Int) + 1 := by omega
  simp [e, l]
 ·have : ((ax (r ++ [l]) : Nat) : Int) - 1 = l := by
   unfold ax
   simp
  rw [<- this]
  exact q
abbrev Tr := Int × Int × Int
def tn (a b : Sp) : Int := a.1 * b.2 - b.1 * a.2
def dt2 (a b : Sp) : Int := a.1 * b.1 + a.2 * b.2
def arS (h : Tr) (p : Sp) : Sp := (h.1 * p.1 - 1 * h.2.1, h.1 * p.2 - 1 * h.2.2)
def gvS (g h : Tr) : Int := g.1 * h.1 + g.2.1 * h.2.1 + g.2.2 * h.2.2
def wH (a b : Sp) : Tr := (a.1 * b.2 - b.1 * a.2, a.2 * 1 - b.2 * 1, 1 * b.1 - 1 * a.1)
def my (a w : Sp) : Tr := (-(w.1 * a.1 + w.2 * a.2), w.1 * 1, w.2 * 1)
def bkW (a : Sp) : Sp := (-a.1, -a.2)
def lfW (a : Sp) : Sp := (-a.2, a.1)
def jZ (a b : Sp) : Sp := if a = b then (1, 0) else (1 * b.1 - 1 * a.1, 1 * b.2 - 1 * a.2)
def yB (a b : Sp) : List Tr := [my a (jZ a b), my b (bkW (jZ a b)), my a (lfW (jZ a b)), my a (bkW (lfW (jZ a b)))]
def vA (hs : List Sp) : List Tr := if hs.length < 3 then yB (hs.getD 0 (0, 0)) (hs.getD (hs.length - 1) (0, 0)) else (List.range' 0 hs.length).map fun k => wH (vi hs k) (hs.getD k (0, 0))
def tF (a : Sp) : Prop := a = (0, 0)
def hU (a b : Sp) : Prop := tn a b = 0 /\ dt2 a b < 0
def dJ (a b e : Sp) : Prop := (0 < tn b e /\ 0 < tn e a /\ 0 < tn a b) ∨ (tn b e < 0 /\ tn e a < 0 /\ tn a b < 0)
theorem hJ (a b : Sp) : tn a b = - tn b a := by unfold tn; grind
theorem wo (a : Sp) : tn a a = 0 := by unfold tn; grind
theorem ud (a b : Sp) : dt2 a b = dt2 b a := by unfold dt2; grind
theorem hU.symm {a b : Sp} (h : hU a b) : hU b a := ⟨by have := hJ a b; have := h.1; omega, by rw [ud]; exact h.2⟩
theorem dJ.rot {a b e : Sp} (h : dJ a b e) : dJ b e a := by unfold dJ at h ⊢; omega
theorem dJ.swap {a b e : Sp} (h : dJ a b e) : dJ b a e := by
 unfold dJ at h ⊢
 have := hJ a b
 have := hJ b e
 have := hJ e a
 omega
theorem sqn (a : Int) : 0 <= a * a := by
 rcases Int.le_total 0 a with h | h
 ·exact Int.mul_nonneg h h
 ·have := Int.mul_nonneg (show 0 <= -a by omega) (show 0 <= -a by omega)
  have e : -a * -a = a * a := by grind
  omega
theorem kQ {w : Sp} (h : w ≠ (0, 0)) : 0 < dt2 w w := by
 obtain ⟨a, b⟩ := w
 unfold dt2
 dsimp only
 have h1 := sqn a
 have h2 := sqn b
 by_cases ha : a = 0
 ·by_cases hb : b = 0
  ·subst ha hb; exact absurd rfl h
  ·have : b * b ≠ 0 := Int.mul_ne_zero hb hb
   omega
 ·have : a * a ≠ 0 := Int.mul_ne_zero ha ha
  omega
theorem vz {b c : Sp} {y z : Int} (hy : 0 < y) (hz : 0 < z) (e1 : y * b.1 + z * c.1 = 0) (e2 : y * b.2 + z * c.2 = 0) : tF b ∨ hU b c := by
 by_cases hb : b = (0, 0)
 ·exact .inl hb
 ·right
  have p := kQ hb
  have t : z * tn b c = 0 := by
   have : z * tn b c = b.1 * (y * b.2 + z * c.2) - b.2 * (y * b.1 + z * c.1) := by unfold tn; grind
   rw [this, e1, e2]; simp
  have d : z * dt2 b c = - (y * dt2 b b) := by
   have : z * dt2 b c + y * dt2 b b = b.1 * (y * b.1 + z * c.1) + b.2 * (y * b.2 + z * c.2) := by unfold dt2; grind
   rw [e1, e2] at this
   simp at this
   omega
  have yy := Int.mul_pos hy p
  refine ⟨?_, ?_⟩
  ·rcases Int.mul_eq_zero.mp t with q | q <;> omega
  ·by_cases q : dt2 b c < 0
   ·exact q
   ·have := Int.mul_nonneg (Int.le_of_lt hz) (show 0 <= dt2 b c by omega)
    omega
theorem yJ (a b c : Sp) : tn b c * a.1 + tn c a * b.1 + tn a b * c.1 = 0 /\ tn b c * a.2 + tn c a * b.2 + tn a b * c.2 = 0 := by
 unfold tn
 constructor <;> grind
theorem ux {c : Sp} {z : Int} (hz : 0 < z) (e1 : z * c.1 = 0) (e2 : z * c.2 = 0) : tF c := by
 rcases Int.mul_eq_zero.mp e1 with q | q
 ·omega
 ·rcases Int.mul_eq_zero.mp e2 with r | r
  ·omega
  ·exact Prod.ext q r
def tG (h : Tr) (ps : List Sp) : Prop := (∃ p ∈ ps, tF (arS h p)) ∨ (∃ p ∈ ps, ∃ q ∈ ps, hU (arS h p) (arS h q)) ∨ ∃ p ∈ ps, ∃ q ∈ ps, ∃ r ∈ ps, dJ (arS h p) (arS h q) (arS h r)
def aT (w : Sp) : Int := ((w.1.natAbs : Nat) : Int) + ((w.2.natAbs : Nat) : Int)
def aU : Int -> List Int -> Int
 | d, [] => d
 | d, x :: xs => aU ((Int.gcd d x : Nat) : Int) xs
def bT (xs : List Int) : List Int := xs.map fun x => x.fdiv (aU 0 xs)
def fJ (a : Sp) : Option (List Int) := if aT a = 0 then some [1] else none
def dM (a b : Sp) : Option (List Int) := if tn a b = 0 /\ dt2 a b < 0 then some (bT [aT b, aT a]) else none
def dN (a b e : Sp) : Option (List Int) :=
 if 0 < tn b e /\ 0 < tn e a /\ 0 < tn a b then some (bT [tn b e, tn e a, tn a b])
 else if tn b e < 0 /\ tn e a < 0 /\ tn a b < 0 then some (bT [-tn b e, -tn e a, -tn a b]) else none
def cy : List Sp -> Option (List Int)
 | [] => none
 | [a] => fJ a
 | [a, b] => dM a b
 | a :: b :: e :: _ => dN a b e
def pkW (ws : List Sp) (pk : List Nat) : List Sp := pk.map fun k => ws.getD k (0, 0)
def bg (ws : List Sp) : List (List Nat) -> Option (List Nat × List Int)
 | [] => none
 | pk :: r => match cy (pkW ws pk) with
  | some sh => some (pk, sh)
  | none => bg ws r
def bL (n : Nat) : List (List Nat) := lev n 1 ++ (lev n 2 ++ lev n 3)
theorem eL {a : Sp} : aT a = 0 ↔ a = (0, 0) := by
 unfold aT
 obtain ⟨x, y⟩ := a
 simp only [Prod.mk.injEq]
 omega
theorem lT {ws : List Sp} : ∀ {pks : List (List Nat)}, bg ws pks = none -> ∀ pk ∈ pks, cy (pkW ws pk) = none
 | [], _, pk, h => by cases h
 | a :: r, e, pk, h => by
  unfold bg at e
  cases hb : cy (pkW ws a) with
  | some s => rw [hb] at e; cases e
  | none =>
   rw [hb] at e
   rcases List.mem_cons.mp h with q | q
   ·rw [q]; exact hb
   ·exact lT e pk q
theorem nH {n i : Nat} (h : i < n) : [i] ∈ lev n 1 := by
 simp only [lev, List.flatMap_cons, List.flatMap_nil, List.append_nil]
 exact List.mem_map.mpr ⟨i, List.mem_range'_1.mpr ⟨Nat.zero_le _, by simp [ax]; exact h⟩, rfl⟩
theorem nI {n i j : Nat} (h : i < j) (hj : j < n) : [i, j] ∈ lev n 2 := by
 have := nH (n := n) (i := i) (by omega)
 refine List.mem_flatMap.mpr ⟨[i], this, List.mem_map.mpr ⟨j, List.mem_range'_1.mpr ?_, rfl⟩⟩
 simp [ax]
 omega
theorem uq {n i j k : Nat} (h : i < j) (hj : j < k) (hk : k < n) : [i, j, k] ∈ lev n 3 := by
 have := nI (n := n) h (by omega)
 refine List.mem_flatMap.mpr ⟨[i, j], this, List.mem_map.mpr ⟨k, List.mem_range'_1.mpr ?_, rfl⟩⟩
 simp [ax]
 omega
theorem vx {a b : Sp} (h : hU a b) : dM a b ≠ none := by
 unfold dM
 have h' : tn a b = 0 /\ dt2 a b < 0 := h
 rw [if_pos h']
 simp
theorem vy {a b e : Sp} (h : dJ a b e) : dN a b e ≠ none := by
 unfold dN
 rcases h with h | h
 ·rw [if_pos h]; simp
 ·rw [if_neg (by omega), if_pos h]; simp
theorem tK {h : Tr} {ps : List Sp} (hb : tG h ps) : bg (ps.map (arS h)) (bL ps.length) ≠ none := by
 intro e
 have N := lT e
 have gd : ∀ {i : Nat} {p : Sp}, ps[i]? = some p -> (ps.map (arS h)).getD i (0, 0) = arS h p := fun {i p} q => by
  rw [List.getD_eq_getElem?_getD, List.getElem?_map, q]; rfl
 have lt : ∀ {i : Nat} {p : Sp}, ps[i]? = some p -> i < ps.length := fun {i p} q => (List.getElem?_eq_some_iff.mp q).1
 have two : ∀ i j p q, ps[i]? = some p -> ps[j]? = some q -> i < j -> hU (arS h p) (arS h q) -> False := fun i j p q hi hj hij b => by
  have := N [i, j] (List.mem_append_right _ (List.mem_append_left _ (nI hij (lt hj))))
  unfold pkW at this
  simp only [List.map_cons, List.map_nil, gd hi, gd hj] at this
  exact vx b this
 have three : ∀ i j k p q r, ps[i]? = some p -> ps[j]? = some q -> ps[k]? = some r -> i < j -> j < k -> dJ (arS h p) (arS h q) (arS h r) -> False := fun i j k p q r hi hj hk hij hjk b => by
  have := N [i, j, k] (List.mem_append_right _ (List.mem_append_right _ (uq hij hjk (lt hk))))
  unfold pkW at this
  simp only [List.map_cons, List.map_nil, gd hi, gd hj, gd hk] at this
  exact vy b this
 rcases hb with ⟨p, hp, b⟩ | ⟨p, hp, q, hq, b⟩ | ⟨p, hp, q, hq, r, hr, b⟩
 ·obtain ⟨i, hi⟩ := List.mem_iff_getElem?.mp hp
  have := N [i] (List.mem_append_left _ (nH (lt hi)))
  unfold pkW at this
  simp only [List.map_cons, List.map_nil, gd hi] at this
  have this' : fJ (arS h p) = none := this
  unfold fJ at this'
  rw [if_pos (eL.mpr b)] at this'
  cases this'
 ·obtain ⟨i, hi⟩ := List.mem_iff_getElem?.mp hp
  obtain ⟨j, hj⟩ := List.mem_iff_getElem?.mp hq
  rcases Nat.lt_trichotomy i j with c | c | c
  ·exact two i j p q hi hj c b
  ·subst c
   rw [hi] at hj
   cases hj
   have p0 := b.2
   unfold dt2 at p0
   have := sqn (arS h p).1
   have := sqn (arS h p).2
   omega
  ·exact two j i q p hj hi c b.symm
 ·obtain ⟨i, hi⟩ := List.mem_iff_getElem?.mp hp
  obtain ⟨j, hj⟩ := List.mem_iff_getElem?.mp hq
  obtain ⟨k, hk⟩ := List.mem_iff_getElem?.mp hr
  have ne : ∀ {i j : Nat} {p q r : Sp}, ps[i]? = some p -> ps[j]? = some q -> dJ (arS h p) (arS h q) r -> i ≠ j := fun {i j p q r} hi hj b c => by
   subst c
   rw [hi] at hj
   cases hj
   unfold dJ at b
   rw [wo] at b
   omega
  have n1 := ne hi hj b
  have n2 := ne hj hk b.rot
  have n3 := ne hk hi b.rot.rot
  rcases Nat.lt_or_gt_of_ne n1 with c1 | c1
  ·rcases Nat.lt_or_gt_of_ne n2 with c2 | c2
   ·exact three i j k p q r hi hj hk c1 c2 b
   ·rcases Nat.lt_or_gt_of_ne n3 with c3 | c3
    ·exact three k i j r p q hk hi hj c3 c1 b.rot.rot
    ·exact three i k j p r q hi hk hj c3 c2 b.rot.rot.swap
  ·rcases Nat.lt_or_gt_of_ne n2 with c2 | c2
   ·rcases Nat.lt_or_gt_of_ne n3 with c3 | c3
    ·exact three j k i q r p hj hk hi c2 c3 b.rot
    ·exact three j i k q p r hj hi hk c1 c3 b.swap
   ·exact three k j i r q p hk hj hi c2 c1 b.rot.swap
theorem m9 (k : Int) (hk : 0 <= k) : ∀ (xs : List Int) (d : Int), aU (k * d) (xs.map (k * ·)) = k * aU d xs
 | [], d => rfl
 | x :: xs, d => by
  show aU ((Int.gcd (k * d) (k * x) : Nat) : Int) (xs.map (k * ·)) = _
  rw [Int.gcd_mul_left, Int.natCast_mul, Int.natAbs_of_nonneg hk, m9 k hk xs]
  rfl
structure Snt (A B C E g : Int) (w v : Sp) : Prop where
 x : g * v.1 = A * w.1 + B * w.2
 y : g * v.2 = C * w.1 + E * w.2
theorem xx {a b : Sp} (h : tn a b = 0) : dt2 b b * a.1 + (-(dt2 a b)) * b.1 = 0 /\ dt2 b b * a.2 + (-(dt2 a b)) * b.2 = 0 := by
 have e1 : dt2 b b * a.1 + (-(dt2 a b)) * b.1 = b.2 * tn a b := by unfold dt2 tn; grind
 have e2 : dt2 b b * a.2 + (-(dt2 a b)) * b.2 = - (b.1 * tn a b) := by unfold dt2 tn; grind
 rw [e1, e2, h]
 simp
theorem fM {a : Sp} (h : a ≠ (0, 0)) : 0 < aT a := by
 have : aT a ≠ 0 := fun e => h (eL.mp e)
 unfold aT at this ⊢
 omega
def trD (g : Tr) : D := T3 g.1 g.2.1 g.2.2
theorem jS (p : Tr) : aI (trD p) = trD p := by unfold trD T3; simp only [dh, bA, cJ, cj]
theorem kH (ps : List Tr) : aP (ps.map trD) = ps.map trD := cn trD jS ps
def oL : Option (List Int) -> D
 | none => .non
 | some xs => .lst true (xs.map D.int)
structure WB (n : Nat) (w : Sp) : Prop where
 x : Bd n w.1
 y : Bd n w.2
structure PB (n : Nat) (h : Tr) : Prop where
 b0 : 0 < h.1
 b : Bd 60 h.1
 x : Bd n h.2.1
 y : Bd n h.2.2
theorem WB.mono {n m : Nat} {w : Sp} (h : WB n w) (hn : n <= m) : WB m w := ⟨h.x.mono hn, h.y.mono hn⟩
theorem WB.sb {w : Sp} (h : WB 60 w) : SB w := ⟨h.x, h.y⟩
theorem cmB {x y : Int} {n m : Nat} (hx : Bd n x) (hy : Bd m y) (hn : n <= 1000 := by decide) (hm : m <= 1000 := by decide) : CM x y := .inr (.inr ⟨hx.mono (Nat.le_trans hn (by decide)), hy.mono (Nat.le_trans hm (by decide))⟩)
theorem iT (x : Int) : ∀ (d : Int) (xs : List Int), aU d (xs ++ [x]) = ((Int.gcd (aU d xs) x : Nat) : Int)
 | d, [] => rfl
 | d, y :: ys => iT x _ ys
theorem jj {n : Nat} {w : Sp} (h : WB n w) : Bd (n + 2) (aT w) := by
 have hx := h.x
 have hy := h.y
 unfold Bd aT at *
 have : (2 : Nat) ^ (n + 2) = 2 ^ n * 4 := Nat.pow_add 2 n 2
 omega
theorem vP {d x : Int} (h : x ≠ 0) : 0 < Int.gcd ((Int.gcd 0 d : Nat) : Int) x := Int.gcd_pos_iff.mpr (.inr h)
theorem rW {n : Nat} {d x : Int} (hx : Bd n x) (h : x ≠ 0) : Bd n ((Int.gcd d x : Nat) : Int) := by
 unfold Bd at *
 have := Nat.le_of_dvd (by omega) (Int.gcd_dvd_natAbs_right d x)
 omega
theorem j5 {n : Nat} {x : Int} (h : Bd n x) : Bd n (-x) := by unfold Bd at *; omega
structure GB (g : Tr) : Prop where
 a : Bd 200 g.1
 b : Bd 200 g.2.1
 c : Bd 200 g.2.2
def gE (n : Nat) : Nat -> List (List Nat)
 | 0 => lev n 1 ++ (lev n 2 ++ (lev n 3 ++ []))
 | 1 => lev n 2 ++ (lev n 3 ++ [])
 | 2 => lev n 3 ++ []
 | _ => []
theorem lX (n : Nat) {j : Nat} (h : j < 3) : gE n j = lev n (j + 1) ++ gE n (j + 1) := by
 rcases j with _ | _ | _ | j
 ·rfl
 ·rfl
 ·rfl
 ·omega
theorem nX (n : Nat) : bL n = gE n 0 := by
 show lev n 1 ++ (lev n 2 ++ lev n 3) = lev n 1 ++ (lev n 2 ++ (lev n 3 ++ []))
 rw [List.append_nil]
theorem lS (ws : List Sp) (pk : List Nat) (r : List (List Nat)) : bg ws (pk :: r) = match cy (pkW ws pk) with
  | some sh => some (pk, sh)
  | none => bg ws r := rfl
theorem gj {M : Nat} : ∀ l : List Int, (∀ x ∈ l, x.natAbs <= M) -> l.sum.natAbs <= l.length * M
 | [], _ => by simp
 | x :: l, h => by
  have a := gj l fun y hy => h y (List.mem_cons_of_mem _ hy)
  have b := h x List.mem_cons_self
  rw [List.sum_cons, List.length_cons, Nat.add_mul, Nat.one_mul]
  omega
theorem jr : ∀ l : List Int, 0 < l.length -> (∀ x ∈ l, 0 < x) -> 0 < l.sum
 | [], h, _ => by simp at h
 | [x], _, h => by have := h x (by simp); simp; omega
 | x :: y :: l, _, h => by
  have a := jr (y :: l) (by simp) fun z hz => h z (List.mem_cons_of_mem _ hz)
  have b := h x List.mem_cons_self
  rw [List.sum_cons]
  omega
theorem mx {n : Nat} {g p b : Int} (hg : 0 < g) (e : g * p = b) (h : Bd n b) : Bd n p := by
 unfold Bd at *
 rw [<- e, Int.natAbs_mul] at h
 have : 1 * p.natAbs <= g.natAbs * p.natAbs := Nat.mul_le_mul_right _ (by omega)
 omega
theorem wU {g p b : Int} (hg : 0 < g) (e : g * p = b) (h : 0 < b) : 0 < p := by
 by_cases c : 0 < p
 ·exact c
 ·have := Int.mul_nonpos_of_nonneg_of_nonpos (Int.le_of_lt hg) (show p <= 0 by omega); omega
theorem jT {α β : Type} : ∀ {ps : List α} {ws : List β}, ps.length = ws.length -> ∃ zs : List (α × β), ps = zs.map (·.1) /\ ws = zs.map (·.2)
 | [], [], _ => ⟨[], rfl, rfl⟩
 | [], _ :: _, h => by simp at h
 | _ :: _, [], h => by simp at h
 | p :: ps, w :: ws, h => by
  obtain ⟨zs, a, b⟩ := jT (ps := ps) (ws := ws) (by simpa using h)
  exact ⟨(p, w) :: zs, by rw [a]; rfl, by rw [b]; rfl⟩
theorem p4 : ((10 : Int) ^ (4 : Int).toNat) = 10000 := by decide
theorem p8 : ((10 : Int) ^ (8 : Int).toNat) = 100000000 := by decide
theorem p9 : ((10 : Int) ^ (9 : Int).toNat) = 1000000000 := by decide
theorem cp9 : pS 10 9 := ⟨by decide, by decide, by decide⟩
theorem jk (n : Nat) (x : Str) (hx : PyData.strOk x = true) : OkN n (.str x) := ⟨by rw [plD] <;> (intros; contradiction), by rw [pyD, PyData.canLay0]; exact hx, by rw [pyD, PyData.depth]; exact Nat.zero_le _⟩
theorem ug {a b : Int} (hb : Bd 402 b) (h : b ≠ 0) : Bd 1000 (aU 0 [a, b]) := (rW hb h).mono (by decide)
def okX (x : Int) : Prop := 0 <= x /\ x < 2147483647
def xW (ps : List Sp) (h g : Tr) : Prop := ∃ ys, xX ys ps /\ (vA (yb ys)).find? (fun b => decide (gvS b h < 0)) = some g
def wsum (sh : List Int) (ws : List Sp) : Sp := ((List.zipWith (fun s (w : Sp) => s * w.1) sh ws).sum, (List.zipWith (fun s (w : Sp) => s * w.2) sh ws).sum)
theorem ik : ∀ (d : Int) (xs : List Int), aU d xs ∣ d /\ ∀ x ∈ xs, aU d xs ∣ x
 | d, [] => ⟨Int.dvd_refl _, by simp⟩
 | d, x :: xs => by
  obtain ⟨a, b⟩ := ik ((Int.gcd d x : Nat) : Int) xs
  refine ⟨Int.dvd_trans a (Int.gcd_dvd_left _ _), fun y hy => ?_⟩
  rcases List.mem_cons.mp hy with z | z
  ·rw [z]; exact Int.dvd_trans a (Int.gcd_dvd_right _ _)
  ·exact b y z
theorem nc : ∀ (d : Int) (xs : List Int), 0 <= d -> 0 <= aU d xs
 | d, [], h => h
 | d, x :: xs, _ => nc _ xs (Int.natCast_nonneg _)
structure pV (xs : List Int) : Prop where
 pos : ∀ s ∈ bT xs, 0 < s
 one : aU 0 (bT xs) = 1
 back : ∃ g : Int, 0 < g /\ (bT xs).map (g * ·) = xs
theorem gS {xs : List Int} (hn : xs ≠ []) (h : ∀ x ∈ xs, 0 < x) : pV xs := by
 obtain ⟨x0, hx0⟩ := List.exists_mem_of_ne_nil xs hn
 have gp : 0 < aU 0 xs := by
  have a := nc 0 xs (Int.le_refl _)
  have : aU 0 xs ≠ 0 := fun e => by
   have := (ik 0 xs).2 x0 hx0
   rw [e] at this
   have := Int.zero_dvd.mp this
   have := h x0 hx0
   omega
  omega
 have bk : (bT xs).map (aU 0 xs * ·) = xs := by
  unfold bT
  rw [List.map_map]
  have : ∀ x ∈ xs, ((aU 0 xs * ·) ∘ fun x => x.fdiv (aU 0 xs)) x = x := fun x hx => by
   show aU 0 xs * x.fdiv (aU 0 xs) = x
   rw [Int.fdiv_eq_ediv_of_dvd ((ik 0 xs).2 x hx)]
   exact Int.mul_ediv_cancel' ((ik 0 xs).2 x hx)
  rw [List.map_congr_left this, List.map_id']
 refine ⟨fun s hs => ?_, ?_, _, gp, bk⟩
 ·have hm : aU 0 xs * s ∈ xs := by
   have : aU 0 xs * s ∈ (bT xs).map (aU 0 xs * ·) := List.mem_map.mpr ⟨s, hs, rfl⟩
   rw [bk] at this
   exact this
  have := h _ hm
  exact yU (y := aU 0 xs) (by rw [Int.mul_comm]; exact this) gp
 ·have := m9 (aU 0 xs) (Int.le_of_lt gp) (bT xs) 0
  rw [bk, Int.mul_zero] at this
  have h2 : aU 0 xs * 1 = aU 0 xs * aU 0 (bT xs) := by rw [Int.mul_one]; exact this
  exact (Int.eq_of_mul_eq_mul_left (by omega) h2).symm
structure xV (ws : List Sp) (sh : List Int) : Prop where
 len : sh.length = ws.length
 pos : ∀ s ∈ sh, 0 < s
 one : aU 0 sh = 1
 sum : wsum sh ws = (0, 0)
theorem wq {a b : Sp} (h : hU a b) : aT b * a.1 + aT a * b.1 = 0 /\ aT b * a.2 + aT a * b.2 = 0 := by
 have hb : b ≠ (0, 0) := fun e => by have := h.2; rw [e] at this; unfold dt2 at this; simp at this
 obtain ⟨e1, e2⟩ := xx h.1
 have px := kQ hb
 have py : 0 < -(dt2 a b) := by have := h.2; omega
 generalize dt2 b b = x at e1 e2 px
 generalize -(dt2 a b) = y at e1 e2 py
 have l : x * aT a = y * aT b := by
  have n1 : x.natAbs * a.1.natAbs = y.natAbs * b.1.natAbs := by rw [<- Int.natAbs_mul, <- Int.natAbs_mul]; omega
  have n2 : x.natAbs * a.2.natAbs = y.natAbs * b.2.natAbs := by rw [<- Int.natAbs_mul, <- Int.natAbs_mul]; omega
  have c1 := congrArg (fun n : Nat => (n : Int)) n1
  have c2 := congrArg (fun n : Nat => (n : Int)) n2
  simp only [Int.natCast_mul, Int.natAbs_of_nonneg (Int.le_of_lt px), Int.natAbs_of_nonneg (Int.le_of_lt py)] at c1 c2
  unfold aT
  rw [Int.mul_add, Int.mul_add, c1, c2]
 have z : ∀ u v : Int, x * u + y * v = 0 -> aT b * u + aT a * v = 0 := fun u v e => by
  have : x * (aT b * u + aT a * v) = aT b * (x * u + y * v) + v * (x * aT a - y * aT b) := by grind
  rw [e, l, Int.sub_self, Int.mul_zero, Int.mul_zero, Int.add_zero] at this
  exact (Int.mul_eq_zero.mp this).resolve_left (by omega)
 exact ⟨z _ _ e1, z _ _ e2⟩
theorem jW {xs : List Int} {ws : List Sp} (L : pV xs) (h : wsum xs ws = (0, 0)) : wsum (bT xs) ws = (0, 0) := by
 obtain ⟨g, gp, bk⟩ := L.back
 have key : ∀ (f : Sp -> Int) (l : List Int) (us : List Sp), (List.zipWith (fun s w => s * f w) (l.map (g * ·)) us).sum = g * (List.zipWith (fun s w => s * f w) l us).sum := fun f l => by
  induction l with
  | nil => intro us; simp
  | cons s l ih =>
   intro us
   cases us with
   | nil => simp
   | cons u us =>
    simp only [List.map_cons, List.zipWith_cons_cons, List.sum_cons]
    rw [ih us, Int.mul_add, Int.mul_assoc]
 unfold wsum at h ⊢
 rw [<- bk] at h
 rw [Prod.mk.injEq] at h ⊢
 rw [key (fun w => w.1), key (fun w => w.2)] at h
 have z : ∀ t : Int, g * t = 0 -> t = 0 := fun t e => (Int.mul_eq_zero.mp e).resolve_left (by omega)
 exact ⟨z _ h.1, z _ h.2⟩
theorem wD {ws : List Sp} {sh : List Int} (h3 : ws.length <= 3) (h : cy ws = some sh) : xV ws sh := by
 rcases ws with _ | ⟨a, _ | ⟨b, _ | ⟨e, _ | ⟨z, r⟩⟩⟩⟩
 ·cases h
 ·have h' : fJ a = some sh := h
  unfold fJ at h'
  split at h'
  ·rename_i c
   cases h'
   have := eL.mp c
   subst this
   exact ⟨rfl, by simp, rfl, by unfold wsum; simp⟩
  ·cases h'
 ·have h' : dM a b = some sh := h
  unfold dM at h'
  split at h'
  ·rename_i c
   cases h'
   have c' : hU a b := c
   have na : a ≠ (0, 0) := fun e => by have := c.2; rw [e] at this; unfold dt2 at this; simp at this
   have nb : b ≠ (0, 0) := fun e => by have := c.2; rw [e] at this; unfold dt2 at this; simp at this
   have L := gS (xs := [aT b, aT a]) (by simp) fun x hx => by
    simp only [List.mem_cons, List.not_mem_nil, or_false] at hx
    rcases hx with rfl | rfl
    ·exact fM nb
    ·exact fM na
   obtain ⟨t1, t2⟩ := wq c'
   refine ⟨by unfold bT; simp, L.pos, L.one, jW L ?_⟩
   unfold wsum
   simp only [List.zipWith_cons_cons, List.zipWith_nil_left, List.sum_cons, List.sum_nil, Int.add_zero, t1, t2]
  ·cases h'
 ·have h' : dN a b e = some sh := h
  obtain ⟨b1, b2⟩ := yJ a b e
  unfold dN at h'
  split at h'
  ·rename_i c
   cases h'
   have L := gS (xs := [tn b e, tn e a, tn a b]) (by simp) fun x hx => by
    simp only [List.mem_cons, List.not_mem_nil, or_false] at hx
    rcases hx with rfl | rfl | rfl
    ·exact c.1
    ·exact c.2.1
    ·exact c.2.2
   refine ⟨by unfold bT; simp, L.pos, L.one, jW L ?_⟩
   unfold wsum
   simp only [List.zipWith_cons_cons, List.zipWith_nil_left, List.sum_cons, List.sum_nil, Int.add_zero]
   rw [<- Int.add_assoc, <- Int.add_assoc, b1, b2]
  ·split at h'
   ·rename_i c
    cases h'
    have L := gS (xs := [-tn b e, -tn e a, -tn a b]) (by simp) fun x hx => by
     simp only [List.mem_cons, List.not_mem_nil, or_false] at hx
     rcases hx with rfl | rfl | rfl <;> omega
    refine ⟨by unfold bT; simp, L.pos, L.one, jW L ?_⟩
    unfold wsum
    simp only [List.zipWith_cons_cons, List.zipWith_nil_left, List.sum_cons, List.sum_nil, Int.add_zero, Int.neg_mul]
    rw [Prod.mk.injEq]
    omega
   ·cases h'
 ·exact absurd h3 (by simp)
theorem iV {ws : List Sp} : ∀ {pks : List (List Nat)} {pk : List Nat} {sh : List Int}, bg ws pks = some (pk, sh) -> pk ∈ pks /\ cy (pkW ws pk) = some sh
 | [], _, _, h => by cases h
 | p :: q, pk, sh, h => by
  rw [show bg ws (p :: q) = (match cy (pkW ws p) with | some sh => some (p, sh) | none => bg ws q) from rfl] at h
  cases hb : cy (pkW ws p) with
  | none =>
   rw [hb] at h
   obtain ⟨a, b⟩ := iV h
   exact ⟨List.mem_cons_of_mem _ a, b⟩
  | some s =>
   rw [hb] at h
   cases h
   exact ⟨List.mem_cons_self, hb⟩
theorem nE {n : Nat} : ∀ {j : Nat} {pk : List Nat}, pk ∈ lev n j -> pk.Pairwise (· < ·)
 | 0, pk, h => by
  simp only [lev, List.mem_singleton] at h
  subst h
  exact .nil
 | j + 1, pk, h => by
  simp only [lev, List.mem_flatMap] at h
  obtain ⟨q, hq, h⟩ := h
  have ih := nE hq
  unfold nxt at h
  obtain ⟨k, hk, rfl⟩ := List.mem_map.mp h
  rw [List.mem_range'_1] at hk
  refine List.pairwise_append.mpr ⟨ih, List.pairwise_singleton _ _, fun x hx y hy => ?_⟩
  rw [List.mem_singleton.mp hy]
  have hf : x < ax q := by
   unfold ax
   cases e : q.getLast? with
   | none => rw [List.getLast?_eq_none_iff.mp e] at hx; cases hx
   | some l =>
    obtain ⟨q', rfl⟩ := List.getLast?_eq_some_iff.mp e
    rcases List.mem_append.mp hx with z | z
    ·have := (List.pairwise_append.mp ih).2.2 x z l (by simp)
     show x < l + 1
     omega
    ·rw [List.mem_singleton.mp z]; exact Nat.lt_succ_self _
  omega
theorem pf : ∀ ps : List Sp, cH (ps.map spD) = true
 | [] => by rw [List.map_nil, cH]
 | p :: r => by
  rw [List.map_cons, cH, pf r]
  unfold spD
  simp only [iX, cH, Bool.and_true]
def sX (ps : List Sp) (ws : List Int) : Int := (List.zipWith (fun (p : Sp) w => p.1 * w) ps ws).sum
def sY (ps : List Sp) (ws : List Int) : Int := (List.zipWith (fun (p : Sp) w => p.2 * w) ps ws).sum
def Prm (h : Tr) : Prop := 0 < h.1 /\ PM.g3 h.1 h.2.1 h.2.2 = 1
theorem sT {h : Tr} (p : Prm h) : cq h.1 h.2.1 h.2.2 = trD h := by
 have e : PM.dv3 h.1 h.2.1 h.2.2 h.1 = 1 := by
  unfold PM.dv3
  rw [if_neg (by have := p.1; omega), p.2]
  rfl
 unfold cq trD
 rw [e, Int.fdiv_one, Int.fdiv_one, Int.fdiv_one]
structure tH (ps : List Sp) (h : Tr) (pk : List Nat) (sh : List Int) : Prop where
 l0 : 0 < pk.length
 l3 : pk.length <= 3
 ls : sh.length = pk.length
 rise : pk.Pairwise (· < ·)
 lt : ∀ k ∈ pk, k < ps.length
 pos : ∀ s ∈ sh, 0 < s
 bd : ∀ s ∈ sh, Bd 900 s
 one : aU 0 sh = 1
 x : sh.sum * h.2.1 = h.1 * sX (pk.map fun k => ps.getD k (0, 0)) sh
 y : sh.sum * h.2.2 = h.1 * sY (pk.map fun k => ps.getD k (0, 0)) sh
theorem ot (h : Tr) : ∀ (qs : List Sp) (sh : List Int), sh.length = qs.length -> (wsum sh (qs.map (arS h))).1 = h.1 * sX qs sh - sh.sum * h.2.1 /\ (wsum sh (qs.map (arS h))).2 = h.1 * sY qs sh - sh.sum * h.2.2
 | [], [], _ => by unfold wsum sX sY; simp
 | [], _ :: _, h => by simp at h
 | _ :: _, [], h => by simp at h
 | q :: qs, s :: sh, hl => by
  obtain ⟨a, b⟩ := ot h qs sh (by simpa using hl)
  unfold wsum sX at a
  unfold wsum sY at b
  unfold wsum sX sY
  simp only [List.map_cons, List.zipWith_cons_cons, List.sum_cons] at a b ⊢
  rw [a, b]
  unfold arS
  constructor <;> grind
theorem nG {n : Nat} {xs : List Int} (L : pV xs) (h : ∀ x ∈ xs, Bd n x) : ∀ s ∈ bT xs, Bd n s := fun s hs => by
 obtain ⟨g, gp, bk⟩ := L.back
 have : g * s ∈ (bT xs).map (g * ·) := List.mem_map.mpr ⟨s, hs, rfl⟩
 rw [bk] at this
 exact mx gp rfl (h _ this)
theorem wC {ws : List Sp} {sh : List Int} (hw : ∀ w ∈ ws, WB 400 w) (h3 : ws.length <= 3) (h : cy ws = some sh) : ∀ s ∈ sh, Bd 900 s := by
 rcases ws with _ | ⟨a, _ | ⟨b, _ | ⟨e, _ | ⟨z, r⟩⟩⟩⟩
 ·cases h
 ·have h' : fJ a = some sh := h
  unfold fJ at h'
  split at h'
  ·cases h'
   intro s hs
   rw [List.mem_singleton.mp hs]
   unfold Bd
   exact Nat.lt_of_lt_of_le (show 1 < 2 ^ 1 by decide) (Nat.pow_le_pow_right (by decide) (by decide))
  ·cases h'
 ·have h' : dM a b = some sh := h
  unfold dM at h'
  split at h'
  ·rename_i c
   cases h'
   have na : a ≠ (0, 0) := fun e => by have := c.2; rw [e] at this; unfold dt2 at this; simp at this
   have nb : b ≠ (0, 0) := fun e => by have := c.2; rw [e] at this; unfold dt2 at this; simp at this
   have L := gS (xs := [aT b, aT a]) (by simp) fun x hx => by
    simp only [List.mem_cons, List.not_mem_nil, or_false] at hx
    rcases hx with rfl | rfl
    ·exact fM nb
    ·exact fM na
   refine nG L fun x hx => ?_
   simp only [List.mem_cons, List.not_mem_nil, or_false] at hx
   rcases hx with rfl | rfl
   ·exact (jj (hw b (by simp))).mono (by decide)
   ·exact (jj (hw a (by simp))).mono (by decide)
  ·cases h'
 ·have h' : dN a b e = some sh := h
  have ha := hw a (by simp)
  have hb := hw b (by simp)
  have he := hw e (by simp)
  have b1 : Bd 900 (tn b e) := Bd.mono (m := 801) ((hb.x.mul he.y).sub (he.x.mul hb.y)) (by decide)
  have b2 : Bd 900 (tn e a) := Bd.mono (m := 801) ((he.x.mul ha.y).sub (ha.x.mul he.y)) (by decide)
  have b3 : Bd 900 (tn a b) := Bd.mono (m := 801) ((ha.x.mul hb.y).sub (hb.x.mul ha.y)) (by decide)
  unfold dN at h'
  split at h'
  ·rename_i c
   cases h'
   have L := gS (xs := [tn b e, tn e a, tn a b]) (by simp) fun x hx => by
    simp only [List.mem_cons, List.not_mem_nil, or_false] at hx
    rcases hx with rfl | rfl | rfl
    ·exact c.1
    ·exact c.2.1
    ·exact c.2.2
   refine nG L fun x hx => ?_
   simp only [List.mem_cons, List.not_mem_nil, or_false] at hx
   rcases hx with rfl | rfl | rfl
   ·exact b1
   ·exact b2
   ·exact b3
  ·split at h'
   ·rename_i c
    cases h'
    have L := gS (xs := [-tn b e, -tn e a, -tn a b]) (by simp) fun x hx => by
     simp only [List.mem_cons, List.not_mem_nil, or_false] at hx
     rcases hx with rfl | rfl | rfl <;> omega
    refine nG L fun x hx => ?_
    simp only [List.mem_cons, List.not_mem_nil, or_false] at hx
    rcases hx with rfl | rfl | rfl
    ·exact j5 b1
    ·exact j5 b2
    ·exact j5 b3
   ·cases h'
 ·exact absurd h3 (by simp)
theorem ye {ps : List Sp} {h : Tr} {pk : List Nat} {sh : List Int} (hb : ∀ p ∈ ps, WB 40 p) (hP : PB 120 h) (e : bg (ps.map (arS h)) (bL ps.length) = some (pk, sh)) : tH ps h pk sh := by
 obtain ⟨hm, hbl⟩ := iV e
 have hlev : ∃ j, 0 < j /\ j <= 3 /\ pk ∈ lev ps.length j := by
  unfold bL at hm
  rcases List.mem_append.mp hm with q | q
  ·exact ⟨1, by decide, by decide, q⟩
  ·rcases List.mem_append.mp q with q | q
   ·exact ⟨2, by decide, by decide, q⟩
   ·exact ⟨3, by decide, by decide, q⟩
 obtain ⟨j, j0, j3, hj⟩ := hlev
 obtain ⟨hl, hlt⟩ := bZ hj
 have ep : pkW (ps.map (arS h)) pk = (pk.map fun k => ps.getD k (0, 0)).map (arS h) := by
  unfold pkW
  rw [List.map_map]
  apply List.map_congr_left
  intro k hk
  have := hlt k hk
  simp only [Function.comp, List.getD_eq_getElem?_getD, List.getElem?_map, List.getElem?_eq_getElem this, Option.map_some, Option.getD_some]
 have lw : (pkW (ps.map (arS h)) pk).length = j := by unfold pkW; rw [List.length_map, hl]
 have wB : ∀ w ∈ pkW (ps.map (arS h)) pk, WB 400 w := fun w hw => by
  rw [ep] at hw
  obtain ⟨p, hp, rfl⟩ := List.mem_map.mp hw
  obtain ⟨k, hk, rfl⟩ := List.mem_map.mp hp
  have lk := hlt k hk
  have B := hb (ps.getD k (0, 0)) (by rw [List.getD_eq_getElem?_getD, List.getElem?_eq_getElem lk]; exact List.getElem_mem lk)
  refine ⟨?_, ?_⟩
  ·show Bd 400 (h.1 * _ - 1 * h.2.1); rw [Int.one_mul]; exact Bd.mono (m := 121) (((hP.b.mul B.x).mono (by decide)).sub hP.x) (by decide)
  ·show Bd 400 (h.1 * _ - 1 * h.2.2); rw [Int.one_mul]; exact Bd.mono (m := 121) (((hP.b.mul B.y).mono (by decide)).sub hP.y) (by decide)
 have B := wD (by omega) hbl
 have bd := wC wB (by omega) hbl
 have s := B.sum
 have ls : sh.length = pk.length := by rw [B.len, lw, hl]
 rw [ep] at s
 obtain ⟨x1, x2⟩ := ot h (pk.map fun k => ps.getD k (0, 0)) sh (by rw [ls, List.length_map])
 rw [s] at x1 x2
 have x1' : 0 = h.1 * sX (pk.map fun k => ps.getD k (0, 0)) sh - sh.sum * h.2.1 := x1
 have x2' : 0 = h.1 * sY (pk.map fun k => ps.getD k (0, 0)) sh - sh.sum * h.2.2 := x2
 exact ⟨by omega, by omega, ls, nE hj, hlt, B.pos, bd, B.one, by omega, by omega⟩
theorem mH : ∀ (xs ys : List Int), xs.Pairwise (· < ·) -> ys.Pairwise (· < ·) -> (∀ k, k ∈ xs ↔ k ∈ ys) -> xs = ys
 | [], [], _, _, _ => rfl
 | [], y :: _, _, _, h => by have := (h y).mpr List.mem_cons_self; cases this
 | x :: _, [], _, _, h => by have := (h x).mp List.mem_cons_self; cases this
 | x :: xs, y :: ys, ox, oy, h => by
  obtain ⟨x1, x2⟩ := List.pairwise_cons.mp ox
  obtain ⟨y1, y2⟩ := List.pairwise_cons.mp oy
  have e : x = y := by
   rcases List.mem_cons.mp ((h x).mp List.mem_cons_self) with e | e
   ·exact e
   ·rcases List.mem_cons.mp ((h y).mpr List.mem_cons_self) with e' | e'
    ·exact e'.symm
    ·have := y1 x e; have := x1 y e'; omega
  subst e
  rw [mH xs ys x2 y2 fun k => ⟨fun hk => ?_, fun hk => ?_⟩]
  ·rcases List.mem_cons.mp ((h k).mp (List.mem_cons_of_mem _ hk)) with e | e
   ·have := x1 k hk; omega
   ·exact e
  ·rcases List.mem_cons.mp ((h k).mpr (List.mem_cons_of_mem _ hk)) with e | e
   ·have := y1 k hk; omega
   ·exact e
theorem qH {w x y : Int} {h : Tr} (hw : 0 < w) (h0 : 0 < h.1) (e1 : w * h.2.1 = h.1 * x) (e2 : w * h.2.2 = h.1 * y) : cq w x y = cq h.1 h.2.1 h.2.2 := by
 rw [<- lV x y (Int.ne_of_gt hw) h0, <- lV h.2.1 h.2.2 (Int.ne_of_gt h0) hw, Int.mul_comm x, Int.mul_comm y, <- e1, <- e2, Int.mul_comm h.1 w, Int.mul_comm h.2.1 w, Int.mul_comm h.2.2 w]
def mn (ps : List Sp) (h : Tr) (d : D) : Prop := (∃ pk sh, bg (ps.map (arS h)) (bL ps.length) = some (pk, sh) /\ d = .tup [.str "in", pkD pk, .lst true (sh.map D.int)]) ∨ (bg (ps.map (arS h)) (bL ps.length) = none /\ ∃ g, xW ps h g /\ d = .tup [.str "out", trD g])
theorem mn.non {ps : List Sp} {h : Tr} {d : D} (x : mn ps h d) : dq d = false := by
 rcases x with ⟨_, _, _, rfl⟩ | ⟨_, _, _, rfl⟩ <;> rfl
theorem mn.ok {ps : List Sp} {h : Tr} {d : D} (x : mn ps h d) : okD d := by
 have sI : PyData.strOk "in" = true := by decide +kernel
 have sO : PyData.strOk "out" = true := by decide +kernel
 rcases x with ⟨a, b, e, rfl⟩ | ⟨e, g, o1, rfl⟩
 ·have ep : pkD a = .lst true ((a.map fun (k : Nat) => (k : Int)).map D.int) := by unfold pkD; rw [List.map_map]; rfl
  exact (OkN.tup (.cons (jk 1 _ sI) (.cons (by rw [ep]; exact OkN.map (OkN.int 0)) (.cons (OkN.map (OkN.int 0)) (.nil _))))).ok
 ·exact (OkN.tup (.cons (jk 1 _ sO) (.cons (OkN.tup (.cons (.int _ _) (.cons (.int _ _) (.cons (.int _ _) (.nil _))))) (.nil _)))).ok
theorem sE {ps : List Sp} {h : Tr} : ∀ {zs : List (Sp × Int)}, zs ≠ [] -> zs.length <= 3 -> (∀ z ∈ zs, z.1 ∈ ps /\ 0 < z.2) -> (zs.map (·.2)).sum * h.2.1 = h.1 * (zs.map fun z => z.1.1 * z.2).sum -> (zs.map (·.2)).sum * h.2.2 = h.1 * (zs.map fun z => z.1.2 * z.2).sum -> tG h ps
 | [], n, _, _, _, _ => absurd rfl n
 | [(a, x)], _, _, hm, e1, e2 => by
  have ha := hm (a, x) (by simp)
  simp only [List.map_cons, List.map_nil, List.sum_cons, List.sum_nil] at e1 e2
  exact .inl ⟨a, ha.1, ux (z := x) ha.2 (by unfold arS; grind) (by unfold arS; grind)⟩
 | [(a, x), (b, y)], _, _, hm, e1, e2 => by
  have ha := hm (a, x) (by simp)
  have hb := hm (b, y) (by simp)
  simp only [List.map_cons, List.map_nil, List.sum_cons, List.sum_nil] at e1 e2
  rcases vz (b := arS h a) (c := arS h b) (y := x) (z := y) ha.2 hb.2 (by unfold arS; grind) (by unfold arS; grind) with q | q
  ·exact .inl ⟨a, ha.1, q⟩
  ·exact .inr (.inl ⟨a, ha.1, b, hb.1, q⟩)
 | [(a, x), (b, y), (c, z)], _, _, hm, e1, e2 => by
  have ha := hm (a, x) (by simp)
  have hb := hm (b, y) (by simp)
  have hc := hm (c, z) (by simp)
  simp only [List.map_cons, List.map_nil, List.sum_cons, List.sum_nil] at e1 e2
  have f1 : x * (arS h a).1 + y * (arS h b).1 + z * (arS h c).1 = 0 := by unfold arS; grind
  have f2 : x * (arS h a).2 + y * (arS h b).2 + z * (arS h c).2 = 0 := by unfold arS; grind
  have x0 : 0 < x := ha.2
  have y0 : 0 < y := hb.2
  have z0 : 0 < z := hc.2
  have ma : a ∈ ps := ha.1
  have mb : b ∈ ps := hb.1
  have mc : c ∈ ps := hc.1
  clear e1 e2 hm ha hb hc
  generalize eA : arS h a = A at *
  generalize eB : arS h b = B at *
  generalize eC : arS h c = C at *
  have t1 : y * tn A B = z * tn C A := by
   have : y * tn A B - z * tn C A = A.1 * (x * A.2 + y * B.2 + z * C.2) - A.2 * (x * A.1 + y * B.1 + z * C.1) := by unfold tn; grind
   rw [f1, f2] at this
   simp at this
   omega
  have t2 : z * tn B C = x * tn A B := by
   have : z * tn B C - x * tn A B = B.1 * (x * A.2 + y * B.2 + z * C.2) - B.2 * (x * A.1 + y * B.1 + z * C.1) := by unfold tn; grind
   rw [f1, f2] at this
   simp at this
   omega
  have sg : ∀ {p q u v : Int}, 0 < p -> 0 < q -> p * u = q * v -> 0 < v -> 0 < u := fun {p q u v} hp hq e hv => by
   by_cases c : 0 < u
   ·exact c
   ·have := Int.mul_pos hq hv
    have := Int.mul_nonneg (Int.le_of_lt hp) (show 0 <= -u by omega)
    rw [Int.mul_neg] at this
    omega
  have ng : ∀ {p q u v : Int}, 0 < p -> 0 < q -> p * u = q * v -> v < 0 -> u < 0 := fun {p q u v} hp hq e hv => by
   have := sg (u := -u) (v := -v) hp hq (by rw [Int.mul_neg, Int.mul_neg, e]) (by omega)
   omega
  rcases Int.lt_trichotomy (tn A B) 0 with k | k | k
  ·exact .inr (.inr ⟨a, ma, b, mb, c, mc, by rw [eA, eB, eC]; exact .inr ⟨ng z0 x0 t2 k, ng z0 y0 t1.symm k, k⟩⟩)
  ·rw [k, Int.mul_zero] at t1 t2
   have k1 : tn C A = 0 := by
    rcases Int.mul_eq_zero.mp t1.symm with q | q
    ·omega
    ·exact q
   by_cases na : A = (0, 0)
   ·exact .inl ⟨a, ma, by rw [eA]; exact na⟩
   ·have dp := kQ na
    have d : x * dt2 A A + y * dt2 A B + z * dt2 A C = 0 := by
     have : x * dt2 A A + y * dt2 A B + z * dt2 A C = A.1 * (x * A.1 + y * B.1 + z * C.1) + A.2 * (x * A.2 + y * B.2 + z * C.2) := by unfold dt2; grind
     rw [this, f1, f2]
     simp
    have dx := Int.mul_pos x0 dp
    by_cases n1 : dt2 A B < 0
    ·exact .inr (.inl ⟨a, ma, b, mb, by rw [eA, eB]; exact ⟨k, n1⟩⟩)
    ·have := Int.mul_nonneg (Int.le_of_lt y0) (Int.not_lt.mp n1)
     by_cases n2 : dt2 A C < 0
     ·exact .inr (.inl ⟨a, ma, c, mc, by rw [eA, eC]; exact ⟨by rw [hJ, k1]; rfl, n2⟩⟩)
     ·have := Int.mul_nonneg (Int.le_of_lt z0) (Int.not_lt.mp n2)
      omega
  ·exact .inr (.inr ⟨a, ma, b, mb, c, mc, by rw [eA, eB, eC]; exact .inl ⟨sg z0 x0 t2 k, sg z0 y0 t1.symm k, k⟩⟩)
 | _ :: _ :: _ :: _ :: _, _, l, _, _, _ => by simp at l
def crF (a b : Sp) (h : Tr) : Int := (b.1 - a.1) * (h.2.2 - a.2 * h.1) - (b.2 - a.2) * (h.2.1 - a.1 * h.1)
theorem j7 (a b : Sp) (h : Tr) : tn (arS h a) (arS h b) = h.1 * crF a b h := by unfold tn arS crF; grind
theorem sgn_mul {p u : Int} (hp : 0 < p) : (0 < p * u ↔ 0 < u) /\ (p * u < 0 ↔ u < 0) /\ (p * u = 0 ↔ u = 0) := by
 rcases Int.lt_trichotomy u 0 with k | k | k
 ·have := Int.mul_neg_of_pos_of_neg hp k
  omega
 ·subst k; simp
 ·have := Int.mul_pos hp k
  omega
theorem qR (a : Sp) : (cy [a]).isSome = decide (a = (0, 0)) := by
 show (fJ a).isSome = _
 unfold fJ
 by_cases c : a = (0, 0)
 ·rw [if_pos (eL.mpr c), decide_eq_true c]; rfl
 ·rw [if_neg (fun e => c (eL.mp e)), decide_eq_false c]; rfl
theorem qS (a b : Sp) : (cy [a, b]).isSome = decide (tn a b = 0 /\ dt2 a b < 0) := by
 show (dM a b).isSome = _
 unfold dM
 by_cases c : tn a b = 0 /\ dt2 a b < 0
 ·rw [if_pos c, decide_eq_true c]; rfl
 ·rw [if_neg c, decide_eq_false c]; rfl
theorem qU (a b e : Sp) : (cy [a, b, e]).isSome = decide ((0 < tn b e /\ 0 < tn e a /\ 0 < tn a b) ∨ (tn b e < 0 /\ tn e a < 0 /\ tn a b < 0)) := by
 show (dN a b e).isSome = _
 unfold dN
 by_cases c : 0 < tn b e /\ 0 < tn e a /\ 0 < tn a b
 ·rw [if_pos c, decide_eq_true (Or.inl c)]; rfl
 ·rw [if_neg c]
  by_cases d : tn b e < 0 /\ tn e a < 0 /\ tn a b < 0
  ·rw [if_pos d, decide_eq_true (Or.inr d)]; rfl
  ·rw [if_neg d, decide_eq_false (fun z => z.elim c d)]; rfl
theorem wc {h0 h1 h2 : Int} (hp : Prm (h0, h1, h2)) (d1 : h0 ∣ h1) (d2 : h0 ∣ h2) : h0 = 1 := by
 have h0p : 0 < h0 := hp.1
 have g : PM.g3 h0 h1 h2 = 1 := hp.2
 unfold PM.g3 at g
 have e1 : Int.gcd h0 h1 = h0.natAbs := by
  unfold Int.gcd
  exact Nat.gcd_eq_left (Int.natAbs_dvd_natAbs.mpr d1)
 rw [e1] at g
 have e2 : Int.gcd ((h0.natAbs : Nat) : Int) h2 = h0.natAbs := by
  unfold Int.gcd
  rw [Int.natAbs_natCast]
  exact Nat.gcd_eq_left (Int.natAbs_dvd_natAbs.mpr d2)
 rw [e2] at g
 omega
theorem yz (n : Nat) : c6 1 1 (cK 1 ((n : Int) + 1) 1) = (List.range' 1 n).map fun (k : Nat) => D.int (k : Int) := by
 have := pL 1 (n + 1)
 rw [Nat.add_sub_cancel] at this
 exact this
theorem bY {s1 : DS} {s2 : DB} {Q : D -> Prop} {ρ : Ro} (P : Ro -> Prop) (h2 : ∀ ρ', P ρ' -> s2 Q ρ') (h1 : ∀ K : Ro -> Prop, (∀ ρ', P ρ' -> K ρ') -> s1 { nx := K, rt := Q } ρ) : j8 s1 s2 Q ρ := h1 _ h2
theorem xY {α : Type} (f : α -> D) (xs : List α) {mo : Int} (h0 : 0 <= mo) (h1 : mo <= 14) : ∃ ys : List α, PD.cutD (xs.map f) (some 3) (some (3 + mo)) = ys.map f /\ ys.length <= 14 := by
 unfold PD.cutD
 obtain ⟨n, rfl⟩ : ∃ n : Nat, mo = n := ⟨mo.toNat, by omega⟩
 have e1 : HT.sIx (xs.map f).length 0 (some 3) = min 3 (xs.map f).length := HT.pN _ _ 3
 have e2 : HT.sIx (xs.map f).length (xs.map f).length (some (3 + (n : Int))) = min (3 + n) (xs.map f).length := HT.pN _ _ (3 + n)
 rw [e1, e2]
 refine ⟨(xs.drop (min 3 (xs.map f).length)).take (min (3 + n) (xs.map f).length - min 3 (xs.map f).length), by rw [List.map_take, List.map_drop], ?_⟩
 rw [List.length_take]
 omega
theorem iS (a m : Nat) (h : a <= m) : (List.range' 0 m).filter (fun k => decide (a <= k)) = List.range' a (m - a) := by
 have e : List.range' 0 m = List.range' 0 a ++ List.range' a (m - a) := by
  have := List.range'_append_1 (s := 0) (m := a) (n := m - a)
  rw [Nat.zero_add] at this
  rw [this]
  congr 1
  omega
 rw [e, List.filter_append, List.filter_eq_nil_iff.mpr (fun k hk => by have := List.mem_range'_1.mp hk; simp; omega), List.filter_eq_self.mpr (fun k hk => by have := List.mem_range'_1.mp hk; simp; omega), List.nil_append]
theorem uE {n : Nat} : ∀ {j : Nat} {pk : List Nat}, pk ∈ gE n j -> j < pk.length
 | 0, pk, h => by
  have h' : pk ∈ lev n 1 ++ (lev n 2 ++ (lev n 3 ++ [])) := h
  simp only [List.mem_append, List.not_mem_nil, or_false] at h'
  rcases h' with q | q | q <;> (have := (bZ q).1; omega)
 | 1, pk, h => by
  have h' : pk ∈ lev n 2 ++ (lev n 3 ++ []) := h
  simp only [List.mem_append, List.not_mem_nil, or_false] at h'
  rcases h' with q | q <;> (have := (bZ q).1; omega)
 | 2, pk, h => by
  have h' : pk ∈ lev n 3 ++ [] := h
  simp only [List.mem_append, List.not_mem_nil, or_false] at h'
  have := (bZ h').1; omega
 | _ + 3, pk, h => by cases h
def cM (κ : Cls) : DSp := fun ds Q Ed => ∃ (a : Int) (b : Int), ds = [.int a, .int b] /\ (Q (.int (Int.gcd a b : Int)))
theorem dD (κ : Cls) (a : Int) (b : Int) (Q : D -> Prop) (Ed : Value -> Prop) : cM κ [.int a, .int b] Q Ed = (Q (.int (Int.gcd a b : Int))) := by
 apply propext
 constructor
 ·rintro ⟨x0, x1, e, q⟩
  simp only [T3, List.cons.injEq, D.int.injEq, D.tup.injEq, D.lst.injEq, and_true, true_and] at e
  obtain ⟨rfl, rfl⟩ := e
  exact q
 ·intro q; exact ⟨_, _, rfl, q⟩
def dg (κ : Cls) : DSp := fun ds Q Ed => ∃ (ns : List Int), ds = [.lst false (ns.map D.int)] /\ (ns.length < 100 /\ aU 0 ns ≠ 0 /\ Bd 1000 (aU 0 ns) /\ Q (.lst true ((bT ns).map D.int)))
theorem dH (κ : Cls) (ns : List Int) (Q : D -> Prop) (Ed : Value -> Prop) : dg κ [.lst false (ns.map D.int)] Q Ed = (ns.length < 100 /\ aU 0 ns ≠ 0 /\ Bd 1000 (aU 0 ns) /\ Q (.lst true ((bT ns).map D.int))) := by
 apply propext
 constructor
 ·rintro ⟨x0, e, q⟩
  simp only [T3, List.cons.injEq, D.int.injEq, D.tup.injEq, D.lst.injEq, and_true, true_and] at e
  have e_ns := e
  have f_ns := gC e_ns
  subst f_ns
  exact q
 ·intro q; exact ⟨_, rfl, q⟩
def jO (κ : Cls) : DSp := fun ds Q Ed => ∃ (n : Int) (s : Int), ds = [.int n, .int s] /\ (∃ m t : Nat, n = (m : Int) /\ s = (t : Int) /\ m <= 60 /\ t <= 3 /\ Q (.lst true ((lev m t).map pkD)))
theorem jA (κ : Cls) (n : Int) (s : Int) (Q : D -> Prop) (Ed : Value -> Prop) : jO κ [.int n, .int s] Q Ed = (∃ m t : Nat, n = (m : Int) /\ s = (t : Int) /\ m <= 60 /\ t <= 3 /\ Q (.lst true ((lev m t).map pkD))) := by
 apply propext
 constructor
 ·rintro ⟨x0, x1, e, q⟩
  simp only [T3, List.cons.injEq, D.int.injEq, D.tup.injEq, D.lst.injEq, and_true, true_and] at e
  obtain ⟨rfl, rfl⟩ := e
  exact q
 ·intro q; exact ⟨_, _, rfl, q⟩
def gJ (κ : Cls) : DSp := fun ds Q Ed => ∃ (d : D), ds = [d] /\ (∃ p : Sp, d = spD p /\ Q (plS p))
theorem hG (κ : Cls) (d : D) (Q : D -> Prop) (Ed : Value -> Prop) : gJ κ [d] Q Ed = (∃ p : Sp, d = spD p /\ Q (plS p)) := by
 apply propext
 constructor
 ·rintro ⟨x0, e, q⟩
  simp only [T3, List.cons.injEq, D.int.injEq, D.tup.injEq, D.lst.injEq, and_true, true_and] at e
  obtain rfl := e
  exact q
 ·intro q; exact ⟨_, rfl, q⟩
def iF (κ : Cls) : DSp := fun ds Q Ed => ∃ (a0 a1 a2 : Int) (b0 b1 b2 : Int), ds = [T3 a0 a1 a2, T3 b0 b1 b2] /\ (Bd 200 a0 /\ Bd 200 a1 /\ Bd 200 a2 /\ Bd 200 b0 /\ Bd 200 b1 /\ Bd 200 b2 /\ Q (.tup [.int (a0 * b1 - b0 * a1), .int (a0 * b2 - b0 * a2)]))
theorem gH (κ : Cls) (a0 a1 a2 : Int) (b0 b1 b2 : Int) (Q : D -> Prop) (Ed : Value -> Prop) : iF κ [T3 a0 a1 a2, T3 b0 b1 b2] Q Ed = (Bd 200 a0 /\ Bd 200 a1 /\ Bd 200 a2 /\ Bd 200 b0 /\ Bd 200 b1 /\ Bd 200 b2 /\ Q (.tup [.int (a0 * b1 - b0 * a1), .int (a0 * b2 - b0 * a2)])) := by
 apply propext
 constructor
 ·rintro ⟨x0, x1, x2, x3, x4, x5, e, q⟩
  simp only [T3, List.cons.injEq, D.int.injEq, D.tup.injEq, D.lst.injEq, and_true, true_and] at e
  obtain ⟨⟨rfl, rfl, rfl⟩, ⟨rfl, rfl, rfl⟩⟩ := e
  exact q
 ·intro q; exact ⟨_, _, _, _, _, _, rfl, q⟩
def jq (κ : Cls) : DSp := fun ds Q Ed => ∃ (a : Sp) (b : Sp), ds = [spD a, spD b] /\ (WB 400 a /\ WB 400 b /\ Q (.int (tn a b)))
theorem kF (κ : Cls) (a : Sp) (b : Sp) (Q : D -> Prop) (Ed : Value -> Prop) : jq κ [spD a, spD b] Q Ed = (WB 400 a /\ WB 400 b /\ Q (.int (tn a b))) := by
 apply propext
 constructor
 ·rintro ⟨x0, x1, e, q⟩
  simp only [T3, List.cons.injEq, D.int.injEq, D.tup.injEq, D.lst.injEq, and_true, true_and] at e
  obtain ⟨e_a, e_b⟩ := e
  have f_a := bD e_a
  subst f_a
  have f_b := bD e_b
  subst f_b
  exact q
 ·intro q; exact ⟨_, _, rfl, q⟩
def gx (κ : Cls) : DSp := fun ds Q Ed => ∃ (w : Sp), ds = [spD w] /\ (Q (.int (aT w)))
theorem i6 (κ : Cls) (w : Sp) (Q : D -> Prop) (Ed : Value -> Prop) : gx κ [spD w] Q Ed = (Q (.int (aT w))) := by
 apply propext
 constructor
 ·rintro ⟨x0, e, q⟩
  simp only [T3, List.cons.injEq, D.int.injEq, D.tup.injEq, D.lst.injEq, and_true, true_and] at e
  have e_w := e
  have f_w := bD e_w
  subst f_w
  exact q
 ·intro q; exact ⟨_, rfl, q⟩
def dz (κ : Cls) : DSp := fun ds Q Ed => ∃ (a : Sp) (b : Sp), ds = [spD a, spD b] /\ (WB 400 a /\ WB 400 b /\ Q (.bl (decide (tn a b = 0 /\ dt2 a b < 0))))
theorem eP (κ : Cls) (a : Sp) (b : Sp) (Q : D -> Prop) (Ed : Value -> Prop) : dz κ [spD a, spD b] Q Ed = (WB 400 a /\ WB 400 b /\ Q (.bl (decide (tn a b = 0 /\ dt2 a b < 0)))) := by
 apply propext
 constructor
 ·rintro ⟨x0, x1, e, q⟩
  simp only [T3, List.cons.injEq, D.int.injEq, D.tup.injEq, D.lst.injEq, and_true, true_and] at e
  obtain ⟨e_a, e_b⟩ := e
  have f_a := bD e_a
  subst f_a
  have f_b := bD e_b
  subst f_b
  exact q
 ·intro q; exact ⟨_, _, rfl, q⟩
def cL (κ : Cls) : DSp := fun ds Q Ed => ∃ (a : Sp) (b : Sp), ds = [spD a, spD b] /\ (WB 400 a /\ WB 400 b /\ Q (oL (dM a b)))
theorem dA (κ : Cls) (a : Sp) (b : Sp) (Q : D -> Prop) (Ed : Value -> Prop) : cL κ [spD a, spD b] Q Ed = (WB 400 a /\ WB 400 b /\ Q (oL (dM a b))) := by
 apply propext
 constructor
 ·rintro ⟨x0, x1, e, q⟩
  simp only [T3, List.cons.injEq, D.int.injEq, D.tup.injEq, D.lst.injEq, and_true, true_and] at e
  obtain ⟨e_a, e_b⟩ := e
  have f_a := bD e_a
  subst f_a
  have f_b := bD e_b
  subst f_b
  exact q
 ·intro q; exact ⟨_, _, rfl, q⟩
def cA (κ : Cls) : DSp := fun ds Q Ed => ∃ (a : Sp) (b : Sp) (e : Sp), ds = [spD a, spD b, spD e] /\ (WB 400 a /\ WB 400 b /\ WB 400 e /\ Q (oL (dN a b e)))
theorem cQ (κ : Cls) (a : Sp) (b : Sp) (e : Sp) (Q : D -> Prop) (Ed : Value -> Prop) : cA κ [spD a, spD b, spD e] Q Ed = (WB 400 a /\ WB 400 b /\ WB 400 e /\ Q (oL (dN a b e))) := by
 apply propext
 constructor
 ·rintro ⟨x0, x1, x2, e, q⟩
  simp only [T3, List.cons.injEq, D.int.injEq, D.tup.injEq, D.lst.injEq, and_true, true_and] at e
  obtain ⟨e_a, e_b, e_e⟩ := e
  have f_a := bD e_a
  subst f_a
  have f_b := bD e_b
  subst f_b
  have f_e := bD e_e
  subst f_e
  exact q
 ·intro q; exact ⟨_, _, _, rfl, q⟩
def iG (κ : Cls) : DSp := fun ds Q Ed => ∃ (ws : List Sp), ds = [.lst false (ws.map spD)] /\ (0 < ws.length /\ ws.length < 4 /\ (∀ w ∈ ws, WB 400 w) /\ Q (oL (cy ws)))
theorem eU (κ : Cls) (ws : List Sp) (Q : D -> Prop) (Ed : Value -> Prop) : iG κ [.lst false (ws.map spD)] Q Ed = (0 < ws.length /\ ws.length < 4 /\ (∀ w ∈ ws, WB 400 w) /\ Q (oL (cy ws))) := by
 apply propext
 constructor
 ·rintro ⟨x0, e, q⟩
  simp only [T3, List.cons.injEq, D.int.injEq, D.tup.injEq, D.lst.injEq, and_true, true_and] at e
  have e_ws := e
  have f_ws := fD e_ws
  subst f_ws
  exact q
 ·intro q; exact ⟨_, rfl, q⟩
def bP (κ : Cls) : DSp := fun ds Q Ed => ∃ (ps : List Sp) (h0 h1 h2 : Int), ds = [.lst false (ps.map spD), T3 h0 h1 h2] /\ ((ps = [] /\ Ed (.ref κ.TooFew)) ∨ (0 < ps.length /\ ps.length <= 30 /\ (∀ p ∈ ps, SB p) /\ PB 120 (h0, h1, h2) /\ ∃ r, bg (ps.map (arS (h0, h1, h2))) (bL ps.length) = some r /\ Q (.tup [.str "in", pkD r.1, .lst true (r.2.map D.int)])))
theorem cx (κ : Cls) (ps : List Sp) (h0 h1 h2 : Int) (Q : D -> Prop) (Ed : Value -> Prop) : bP κ [.lst false (ps.map spD), T3 h0 h1 h2] Q Ed = ((ps = [] /\ Ed (.ref κ.TooFew)) ∨ (0 < ps.length /\ ps.length <= 30 /\ (∀ p ∈ ps, SB p) /\ PB 120 (h0, h1, h2) /\ ∃ r, bg (ps.map (arS (h0, h1, h2))) (bL ps.length) = some r /\ Q (.tup [.str "in", pkD r.1, .lst true (r.2.map D.int)]))) := by
 apply propext
 constructor
 ·rintro ⟨x0, x1, x2, x3, e, q⟩
  simp only [T3, List.cons.injEq, D.int.injEq, D.tup.injEq, D.lst.injEq, and_true, true_and] at e
  obtain ⟨e_ps, ⟨rfl, rfl, rfl⟩⟩ := e
  have f_ps := fD e_ps
  subst f_ps
  exact q
 ·intro q; exact ⟨_, _, _, _, rfl, q⟩
def gi (κ : Cls) : DSp := fun ds Q Ed => ∃ (a : Int), ds = [.int a] /\ (Q (.bl true))
theorem gw (κ : Cls) (a : Int) (Q : D -> Prop) (Ed : Value -> Prop) : gi κ [.int a] Q Ed = (Q (.bl true)) := by
 apply propext
 constructor
 ·rintro ⟨x0, e, q⟩
  simp only [T3, List.cons.injEq, D.int.injEq, D.tup.injEq, D.lst.injEq, and_true, true_and] at e
  obtain rfl := e
  exact q
 ·intro q; exact ⟨_, rfl, q⟩
def dS (κ : Cls) : DSp := fun ds Q Ed => ∃ (ns : List Int) (k : Int), ds = [.lst false (ns.map D.int), .int k] /\ (0 <= k /\ ns.length <= 63 /\ ∀ v : Int, Q (.int v))
theorem fh (κ : Cls) (ns : List Int) (k : Int) (Q : D -> Prop) (Ed : Value -> Prop) : dS κ [.lst false (ns.map D.int), .int k] Q Ed = (0 <= k /\ ns.length <= 63 /\ ∀ v : Int, Q (.int v)) := by
 apply propext
 constructor
 ·rintro ⟨x0, x1, e, q⟩
  simp only [T3, List.cons.injEq, D.int.injEq, D.tup.injEq, D.lst.injEq, and_true, true_and] at e
  obtain ⟨e_ns, rfl⟩ := e
  have f_ns := gC e_ns
  subst f_ns
  exact q
 ·intro q; exact ⟨_, _, rfl, q⟩
def fe (κ : Cls) : DSp := fun ds Q Ed => ∃ (c : Int) (m : Int), ds = [.int c, .int m] /\ (0 <= m /\ m < 1000 /\ ∀ xs : List Int, xs.length = m.toNat -> (∀ x ∈ xs, 0 <= x /\ x < 2147483647) -> Q (.lst true (xs.map D.int)))
theorem gh (κ : Cls) (c : Int) (m : Int) (Q : D -> Prop) (Ed : Value -> Prop) : fe κ [.int c, .int m] Q Ed = (0 <= m /\ m < 1000 /\ ∀ xs : List Int, xs.length = m.toNat -> (∀ x ∈ xs, 0 <= x /\ x < 2147483647) -> Q (.lst true (xs.map D.int))) := by
 apply propext
 constructor
 ·rintro ⟨x0, x1, e, q⟩
  simp only [T3, List.cons.injEq, D.int.injEq, D.tup.injEq, D.lst.injEq, and_true, true_and] at e
  obtain ⟨rfl, rfl⟩ := e
  exact q
 ·intro q; exact ⟨_, _, rfl, q⟩
def gI (κ : Cls) : DSp := fun ds Q Ed => ∃ (k : Int) (c : Int), ds = [.int k, .int c] /\ (∀ p : Sp, WB 40 p -> Q (spD p))
theorem gZ (κ : Cls) (k : Int) (c : Int) (Q : D -> Prop) (Ed : Value -> Prop) : gI κ [.int k, .int c] Q Ed = (∀ p : Sp, WB 40 p -> Q (spD p)) := by
 apply propext
 constructor
 ·rintro ⟨x0, x1, e, q⟩
  simp only [T3, List.cons.injEq, D.int.injEq, D.tup.injEq, D.lst.injEq, and_true, true_and] at e
  obtain ⟨rfl, rfl⟩ := e
  exact q
 ·intro q; exact ⟨_, _, rfl, q⟩
def cI (κ : Cls) : DSp := fun ds Q Ed => ∃ (a : Int) (b : Int), ds = [.int a, .int b] /\ (Q (.int (Int.gcd a b : Int)))
theorem fk (κ : Cls) (a : Int) (b : Int) (Q : D -> Prop) (Ed : Value -> Prop) : cI κ [.int a, .int b] Q Ed = (Q (.int (Int.gcd a b : Int))) := by
 apply propext
 constructor
 ·rintro ⟨x0, x1, e, q⟩
  simp only [T3, List.cons.injEq, D.int.injEq, D.tup.injEq, D.lst.injEq, and_true, true_and] at e
  obtain ⟨rfl, rfl⟩ := e
  exact q
 ·intro q; exact ⟨_, _, rfl, q⟩
def fc (κ : Cls) : DSp := fun ds Q Ed => ∃ (b : Int) (x : Int) (y : Int), ds = [.int b, .int x, .int y] /\ (0 < b /\ Bd 2000 b /\ Bd 2000 x /\ Bd 2000 y /\ ∀ g p q r : Int, 0 < g -> g * p = b -> g * q = x -> g * r = y -> PM.g3 p q r = 1 -> cq b x y = T3 p q r -> Q (T3 p q r))
theorem gg (κ : Cls) (b : Int) (x : Int) (y : Int) (Q : D -> Prop) (Ed : Value -> Prop) : fc κ [.int b, .int x, .int y] Q Ed = (0 < b /\ Bd 2000 b /\ Bd 2000 x /\ Bd 2000 y /\ ∀ g p q r : Int, 0 < g -> g * p = b -> g * q = x -> g * r = y -> PM.g3 p q r = 1 -> cq b x y = T3 p q r -> Q (T3 p q r)) := by
 apply propext
 constructor
 ·rintro ⟨x0, x1, x2, e, q⟩
  simp only [T3, List.cons.injEq, D.int.injEq, D.tup.injEq, D.lst.injEq, and_true, true_and] at e
  obtain ⟨rfl, rfl, rfl⟩ := e
  exact q
 ·intro q; exact ⟨_, _, _, rfl, q⟩
def dG (κ : Cls) : DSp := fun ds Q Ed => ∃ (ps : List Sp) (ws : List Int), ds = [.lst false (ps.map spD), .lst false (ws.map D.int)] /\ (ps.length = ws.length /\ 0 < ps.length /\ ps.length <= 30 /\ (∀ p ∈ ps, WB 40 p) /\ (∀ w ∈ ws, 0 < w /\ Bd 900 w) /\ ∀ g p q r : Int, 0 < g -> g * p = ws.sum -> g * q = sX ps ws -> g * r = sY ps ws -> PM.g3 p q r = 1 -> cq ws.sum (sX ps ws) (sY ps ws) = T3 p q r -> Q (T3 p q r))
theorem cC (κ : Cls) (ps : List Sp) (ws : List Int) (Q : D -> Prop) (Ed : Value -> Prop) : dG κ [.lst false (ps.map spD), .lst false (ws.map D.int)] Q Ed = (ps.length = ws.length /\ 0 < ps.length /\ ps.length <= 30 /\ (∀ p ∈ ps, WB 40 p) /\ (∀ w ∈ ws, 0 < w /\ Bd 900 w) /\ ∀ g p q r : Int, 0 < g -> g * p = ws.sum -> g * q = sX ps ws -> g * r = sY ps ws -> PM.g3 p q r = 1 -> cq ws.sum (sX ps ws) (sY ps ws) = T3 p q r -> Q (T3 p q r)) := by
 apply propext
 constructor
 ·rintro ⟨x0, x1, e, q⟩
  simp only [T3, List.cons.injEq, D.int.injEq, D.tup.injEq, D.lst.injEq, and_true, true_and] at e
  obtain ⟨e_ps, e_ws⟩ := e
  have f_ps := fD e_ps
  subst f_ps
  have f_ws := gC e_ws
  subst f_ws
  exact q
 ·intro q; exact ⟨_, _, rfl, q⟩
def gv (κ : Cls) : DSp := fun ds Q Ed => ∃ (d : D) (ps : List Sp) (h0 h1 h2 : Int), ds = [d, .lst false (ps.map spD), T3 h0 h1 h2] /\ (ps.length <= 30 /\ (∀ p ∈ ps, WB 40 p) /\ Prm (h0, h1, h2) /\ ((∃ (pk : List Nat) (sh : List Int), d = .tup [.str "in", .lst false (pk.map fun (k : Nat) => D.int (k : Int)), .lst false (sh.map D.int)] /\ tH ps (h0, h1, h2) pk sh /\ Q (.bl true)) ∨ ∃ g : Tr, d = .tup [.str "out", trD g] /\ Q (.bl false)))
theorem fX (κ : Cls) (d : D) (ps : List Sp) (h0 h1 h2 : Int) (Q : D -> Prop) (Ed : Value -> Prop) : gv κ [d, .lst false (ps.map spD), T3 h0 h1 h2] Q Ed = (ps.length <= 30 /\ (∀ p ∈ ps, WB 40 p) /\ Prm (h0, h1, h2) /\ ((∃ (pk : List Nat) (sh : List Int), d = .tup [.str "in", .lst false (pk.map fun (k : Nat) => D.int (k : Int)), .lst false (sh.map D.int)] /\ tH ps (h0, h1, h2) pk sh /\ Q (.bl true)) ∨ ∃ g : Tr, d = .tup [.str "out", trD g] /\ Q (.bl false))) := by
 apply propext
 constructor
 ·rintro ⟨x0, x1, x2, x3, x4, e, q⟩
  simp only [T3, List.cons.injEq, D.int.injEq, D.tup.injEq, D.lst.injEq, and_true, true_and] at e
  obtain ⟨rfl, e_ps, ⟨rfl, rfl, rfl⟩⟩ := e
  have f_ps := fD e_ps
  subst f_ps
  exact q
 ·intro q; exact ⟨_, _, _, _, _, rfl, q⟩
def cb (κ : Cls) : DSp := fun ds Q Ed => ∃ (a : Sp) (b : Sp) (h0 h1 h2 : Int), ds = [spD a, spD b, T3 h0 h1 h2] /\ (WB 40 a /\ WB 40 b /\ PB 100 (h0, h1, h2) /\ Q (.int (crF a b (h0, h1, h2))))
theorem bO (κ : Cls) (a : Sp) (b : Sp) (h0 h1 h2 : Int) (Q : D -> Prop) (Ed : Value -> Prop) : cb κ [spD a, spD b, T3 h0 h1 h2] Q Ed = (WB 40 a /\ WB 40 b /\ PB 100 (h0, h1, h2) /\ Q (.int (crF a b (h0, h1, h2)))) := by
 apply propext
 constructor
 ·rintro ⟨x0, x1, x2, x3, x4, e, q⟩
  simp only [T3, List.cons.injEq, D.int.injEq, D.tup.injEq, D.lst.injEq, and_true, true_and] at e
  obtain ⟨e_a, e_b, ⟨rfl, rfl, rfl⟩⟩ := e
  have f_a := bD e_a
  subst f_a
  have f_b := bD e_b
  subst f_b
  exact q
 ·intro q; exact ⟨_, _, _, _, _, rfl, q⟩
def d4 (κ : Cls) : DSp := fun ds Q Ed => ∃ (qs : List Sp) (h0 h1 h2 : Int), ds = [.lst false (qs.map spD), T3 h0 h1 h2] /\ (0 < qs.length /\ qs.length <= 3 /\ (∀ p ∈ qs, WB 40 p) /\ PB 100 (h0, h1, h2) /\ Prm (h0, h1, h2) /\ Q (.bl (cy (qs.map (arS (h0, h1, h2)))).isSome))
theorem dR (κ : Cls) (qs : List Sp) (h0 h1 h2 : Int) (Q : D -> Prop) (Ed : Value -> Prop) : d4 κ [.lst false (qs.map spD), T3 h0 h1 h2] Q Ed = (0 < qs.length /\ qs.length <= 3 /\ (∀ p ∈ qs, WB 40 p) /\ PB 100 (h0, h1, h2) /\ Prm (h0, h1, h2) /\ Q (.bl (cy (qs.map (arS (h0, h1, h2)))).isSome)) := by
 apply propext
 constructor
 ·rintro ⟨x0, x1, x2, x3, e, q⟩
  simp only [T3, List.cons.injEq, D.int.injEq, D.tup.injEq, D.lst.injEq, and_true, true_and] at e
  obtain ⟨e_qs, ⟨rfl, rfl, rfl⟩⟩ := e
  have f_qs := fD e_qs
  subst f_qs
  exact q
 ·intro q; exact ⟨_, _, _, _, rfl, q⟩
def eV (κ : Cls) : DSp := fun ds Q Ed => ∃ (n : Int) (s : Int), ds = [.int n, .int s] /\ (∃ m t : Nat, n = (m : Int) /\ s = (t : Int) /\ m <= 60 /\ t <= 0 /\ Q (.lst true ((lev m t).map pkD)))
theorem fY (κ : Cls) (n : Int) (s : Int) (Q : D -> Prop) (Ed : Value -> Prop) : eV κ [.int n, .int s] Q Ed = (∃ m t : Nat, n = (m : Int) /\ s = (t : Int) /\ m <= 60 /\ t <= 0 /\ Q (.lst true ((lev m t).map pkD))) := by
 apply propext
 constructor
 ·rintro ⟨x0, x1, e, q⟩
  simp only [T3, List.cons.injEq, D.int.injEq, D.tup.injEq, D.lst.injEq, and_true, true_and] at e
  obtain ⟨rfl, rfl⟩ := e
  exact q
 ·intro q; exact ⟨_, _, rfl, q⟩
def eW (κ : Cls) : DSp := fun ds Q Ed => ∃ (n : Int) (s : Int), ds = [.int n, .int s] /\ (∃ m t : Nat, n = (m : Int) /\ s = (t : Int) /\ m <= 60 /\ t <= 1 /\ Q (.lst true ((lev m t).map pkD)))
theorem fZ (κ : Cls) (n : Int) (s : Int) (Q : D -> Prop) (Ed : Value -> Prop) : eW κ [.int n, .int s] Q Ed = (∃ m t : Nat, n = (m : Int) /\ s = (t : Int) /\ m <= 60 /\ t <= 1 /\ Q (.lst true ((lev m t).map pkD))) := by
 apply propext
 constructor
 ·rintro ⟨x0, x1, e, q⟩
  simp only [T3, List.cons.injEq, D.int.injEq, D.tup.injEq, D.lst.injEq, and_true, true_and] at e
  obtain ⟨rfl, rfl⟩ := e
  exact q
 ·intro q; exact ⟨_, _, rfl, q⟩
def eZ (κ : Cls) : DSp := fun ds Q Ed => ∃ (n : Int) (s : Int), ds = [.int n, .int s] /\ (∃ m t : Nat, n = (m : Int) /\ s = (t : Int) /\ m <= 60 /\ t <= 2 /\ Q (.lst true ((lev m t).map pkD)))
theorem gc (κ : Cls) (n : Int) (s : Int) (Q : D -> Prop) (Ed : Value -> Prop) : eZ κ [.int n, .int s] Q Ed = (∃ m t : Nat, n = (m : Int) /\ s = (t : Int) /\ m <= 60 /\ t <= 2 /\ Q (.lst true ((lev m t).map pkD))) := by
 apply propext
 constructor
 ·rintro ⟨x0, x1, e, q⟩
  simp only [T3, List.cons.injEq, D.int.injEq, D.tup.injEq, D.lst.injEq, and_true, true_and] at e
  obtain ⟨rfl, rfl⟩ := e
  exact q
 ·intro q; exact ⟨_, _, rfl, q⟩
def fb (κ : Cls) : DSp := fun ds Q Ed => ∃ (n : Int) (s : Int), ds = [.int n, .int s] /\ (∃ m t : Nat, n = (m : Int) /\ s = (t : Int) /\ m <= 60 /\ t <= 3 /\ Q (.lst true ((lev m t).map pkD)))
theorem gf (κ : Cls) (n : Int) (s : Int) (Q : D -> Prop) (Ed : Value -> Prop) : fb κ [.int n, .int s] Q Ed = (∃ m t : Nat, n = (m : Int) /\ s = (t : Int) /\ m <= 60 /\ t <= 3 /\ Q (.lst true ((lev m t).map pkD))) := by
 apply propext
 constructor
 ·rintro ⟨x0, x1, e, q⟩
  simp only [T3, List.cons.injEq, D.int.injEq, D.tup.injEq, D.lst.injEq, and_true, true_and] at e
  obtain ⟨rfl, rfl⟩ := e
  exact q
 ·intro q; exact ⟨_, _, rfl, q⟩
def dE (κ : Cls) : DSp := fun ds Q Ed => ∃ (d : D) (ps : List Sp) (h0 h1 h2 : Int), ds = [d, .lst false (ps.map spD), T3 h0 h1 h2] /\ (ps.length <= 30 /\ (∀ p ∈ ps, WB 40 p) /\ PB 100 (h0, h1, h2) /\ Prm (h0, h1, h2) /\ (∃ (pk : List Nat) (sh : List Int), d = .lst false (pk.map fun (k : Nat) => D.int (k : Int)) /\ pk.length <= 3 /\ bg (ps.map (arS (h0, h1, h2))) (bL ps.length) = some (pk, sh)) /\ Q (.bl true))
theorem dF (κ : Cls) (d : D) (ps : List Sp) (h0 h1 h2 : Int) (Q : D -> Prop) (Ed : Value -> Prop) : dE κ [d, .lst false (ps.map spD), T3 h0 h1 h2] Q Ed = (ps.length <= 30 /\ (∀ p ∈ ps, WB 40 p) /\ PB 100 (h0, h1, h2) /\ Prm (h0, h1, h2) /\ (∃ (pk : List Nat) (sh : List Int), d = .lst false (pk.map fun (k : Nat) => D.int (k : Int)) /\ pk.length <= 3 /\ bg (ps.map (arS (h0, h1, h2))) (bL ps.length) = some (pk, sh)) /\ Q (.bl true)) := by
 apply propext
 constructor
 ·rintro ⟨x0, x1, x2, x3, x4, e, q⟩
  simp only [T3, List.cons.injEq, D.int.injEq, D.tup.injEq, D.lst.injEq, and_true, true_and] at e
  obtain ⟨rfl, e_ps, ⟨rfl, rfl, rfl⟩⟩ := e
  have f_ps := fD e_ps
  subst f_ps
  exact q
 ·intro q; exact ⟨_, _, _, _, _, rfl, q⟩
def d5 (κ : Cls) : DSp := fun ds Q Ed => ∃ (h0 h1 h2 : Int), ds = [T3 h0 h1 h2] /\ (Q (.bl true))
theorem dU (κ : Cls) (h0 h1 h2 : Int) (Q : D -> Prop) (Ed : Value -> Prop) : d5 κ [T3 h0 h1 h2] Q Ed = (Q (.bl true)) := by
 apply propext
 constructor
 ·rintro ⟨x0, x1, x2, e, q⟩
  simp only [T3, List.cons.injEq, D.int.injEq, D.tup.injEq, D.lst.injEq, and_true, true_and] at e
  obtain ⟨rfl, rfl, rfl⟩ := e
  exact q
 ·intro q; exact ⟨_, _, _, rfl, q⟩
section
variable {P : Program} {w : World} {K : PySem.W.Frag} {mg : Str -> Option Value} {base : Heap} {κ : Cls}
local macro_rules | `(tactic| walk_at "rd") => `(tactic| try simp only [tX, qg, qm, tW, uN, tO, dOp, dB, wJ, dOr, tS, qb, tT, qh, dIf, tQ, dC, jd, mR, t6, qf, mr, dCB, dIs, rC, rD, vn, vo, pH, nV, uC, uD, sv, nL, ph, nM, pB, kR, m7, rK, sC, qe, tU, kL, kN, oX, oY, jc, mP, rY, r9, rZ, List.map_cons, List.map_nil, gd3, w4, w6, cj, oh, l5, i7, l4, dh, bQ, cJ, bA, d9, nW, dP, u0, rM, oW, at0, at1, at2, at3, List.append_nil, List.cons_append, List.nil_append, o6, o7, sP, o5, lQ, o4, lP, o3, kl, lN, lO, lM, lL, true_and, tP, qo, rg, q5, pQ, lK, false_and, and_false, false_or, or_false, exists_false, qc, uS, mv, qj, pK, pJ, pI, gP, tN, tV, gd2, Bool.false_eq_true, Bool.true_eq_false, if_false, if_true, decide_eq_true_eq, Bool.not_eq_eq_eq_not, Bool.not_true, Bool.not_false, decide_eq_false_iff_not, ite_not, mD, qQ, qP, sq, sr, pC, pD, rf, rN, wK, uL, rk, rH, uY, uT, rB, rz, tR, tY, wL, qk, qi, dO, q9, uP, uQ, ro, rS, rT, pO, pP, tw, tD, tB, tE, oM, mE, mF, t8, rh, mQ, sD, tZ, rn, rF, uW, rA, oS, rq, oQ, rQ, rR, se, si, mB, vc, vd, xi, xj, List.set_cons_zero, List.set_cons_succ, kM, rm, uR, uO, rO, rP, u7, uM, rj, uU, oR, rG, uX, uV, oP, dD, dH, jA, hG, gH, kF, i6, eP, dA, cQ, eU, cx, gw, fh, gh, gZ, fk, gg, cC, fX, bO, dR, fY, fZ, gc, gf, dF, dU, eh, w5, w7, jR, dI, jQ, kG, jS, kH, j8, qp, mS, jF])
local macro_rules | `(tactic| walk_at "rx") => `(tactic| try simp only [tX, qg, qm, tW, uN, tO, dOp, dB, wJ, dOr, tS, qb, tT, qh, dIf, tQ, dC, jd, mR, t6, qf, mr, dCB, dIs, rC, rD, vn, vo, pH, nV, uC, uD, sv, nL, ph, nM, pB, kR, m7, rK, sC, qe, tU, kL, kN, oX, oY, mP, rY, r9, rZ, List.map_cons, List.map_nil, gd3, w4, w6, cj, oh, l5, i7, l4, dh, bQ, cJ, bA, d9, nW, dP, u0, rM, oW, at0, at1, at2, at3, List.append_nil, List.cons_append, List.nil_append, o6, o7, sP, o5, lQ, o4, lP, o3, kl, lN, lO, lM, lL, true_and, tP, qo, rg, q5, pQ, lK, false_and, and_false, false_or, or_false, exists_false, uS, mv, qj, pK, pJ, pI, gP, tN, tV, gd2, Bool.false_eq_true, Bool.true_eq_false, if_false, if_true, decide_eq_true_eq, Bool.not_eq_eq_eq_not, Bool.not_true, Bool.not_false, decide_eq_false_iff_not, ite_not, mD, qQ, qP, sq, sr, pC, pD, rf, rN, wK, uL, rk, rH, uY, uT, rB, rz, tR, tY, wL, qk, qi, dO, q9, uP, uQ, ro, rS, rT, pO, pP, tw, tD, tB, tE, oM, mE, mF, t8, rh, mQ, sD, tZ, rn, rF, uW, rA, oS, rq, oQ, rQ, rR, se, si, mB, vc, vd, xi, xj, List.set_cons_zero, List.set_cons_succ, kM, rm, uR, uO, rO, rP, u7, uM, rj, uU, oR, rG, uX, uV, oP, dD, dH, jA, hG, gH, kF, i6, eP, dA, cQ, eU, cx, gw, fh, gh, gZ, fk, gg, cC, fX, bO, dR, fY, fZ, gc, gf, dF, dU, eh, w5, w7, jR, dI, jQ, kG, jS, kH, j8, qp, mS, jF])
theorem jw {f : Addr} {fd : FuncData} (F : ay K "common_divisor" "common_divisor" c8 f fd) (C : COk K mg κ)  (z_abs : mg "abs" = none) : aG P w K mg base (CX1 P w) 1 f fd ["one", "other"] (aO K (cM κ)) := by
 refine ay.okN F bV (fun ds Q E h => by obtain ⟨_, _, rfl, _⟩ := h; rfl) fun cdv A outer s H E hr => ⟨_, (aq (m5 PassesOwn.never (az gT (dv 1) ae) (aq (aJ 2 bV.nd (aj aR (dv 0) (dv 1))) (aq (aJ 0 bV.nd (dv 1)) (ao (aJ 1 bV.nd (dv 2)))))) (ao (av (aD j6 (by rfl) z_abs boot_abs (aa (dv 0) ah))))), ?_⟩
 rintro ds Q Ed ⟨a, b, rfl, h⟩
 have e0 : aE ["one", "other", "rest"] [.int a, .int b] = ([some (.val (.int a)), some (.val (.int b)), none] : Ro) := rfl
 rw [e0]; clear e0
 refine ⟨fun m ρ => ∃ (x y : Int) (r : Option Sl), ρ = [some (.val (.int x)), some (.val (.int y)), r] /\ Int.gcd x y = Int.gcd a b /\ m = y.natAbs, ⟨_, a, b, none, rfl, rfl, rfl⟩, ?_⟩
 rintro m ρ ⟨x, y, r, rfl, hg, rfl⟩
 walk_at "rd"
 by_cases hy : y = 0
 ·subst hy
  rw [PM.lH] at hg
  rw [if_pos rfl, hg]
  exact h
 ·rw [if_neg hy]
  exact ⟨hy, _, PM.lF x hy, y, x.fmod y, _, rfl, (PM.nh x y).trans hg, rfl⟩
theorem sN {f : Addr} {fd : FuncData} (F : ay K "lowest" "lowest" iD f fd) (C : COk K mg κ) (h_common_divisor : Has P w K mg base "common_divisor" 1 ["one", "other"] (cM κ))  : aG P w K mg base (CX1 P w) 2 f fd ["numbers"] (aO K (dg κ)) := by
 refine ay.okN F gu (fun ds Q E h => by obtain ⟨_, rfl, _⟩ := h; rfl) fun cdv A outer s H E hr => ⟨_, (aq (aJ 1 gu.nd ae) (aq (br PassesOwn.never rfl (bj (dv 0)) (aV 2 gu.nd) (ao (aJ 1 gu.nd (aw h_common_divisor (hr.mono (by decide)) (aa (dv 1) (aa (dv 2) ah)))))) (ao (av (de (by rfl) (by exact bB (osc := ak iD) (xs := ["number"]) (ns := ["divisor"]) (by decide +kernel)) (aY.cons 1 aY.nil) (bj (dv 0)) (fun _ _ _ _ _ => cc) (fun _ _ _ _ _ => (aj bC (dv 0) (dv 1)))))))), ?_⟩
 rintro ds Q Ed ⟨ns, rfl, h⟩
 have e0 : aE ["numbers", "divisor", "number"] [.lst false (ns.map D.int)] = ([some (.val (.lst false (ns.map D.int))), none, none] : Ro) := rfl
 rw [e0]; clear e0
 obtain ⟨hl, hz, hb, h⟩ := h
 walk_at "rx"
 refine PD.bu ns D.int (fun j ρ => ∃ v2 : Option Sl, ρ = [some (.val (.lst false (ns.map D.int))), some (.val (.int (aU 0 (ns.take j)))), v2]) (fun R q => ?_) ⟨none, rfl⟩ ?_ ?_
 ·walk_at "rd"
  exact q
 ·rintro j x ρ' hx ⟨v2, rfl⟩
  walk_at "rd"
  refine ⟨some (.val (.int x)), ?_⟩
  rw [List.take_succ, hx]
  show _ = [_, some (Sl.val (D.int (aU 0 (ns.take j ++ [x])))), _]
  rw [iT]
 ·rintro ρ' ⟨v2, rfl⟩
  rw [List.take_length]
  walk_at "rx"
  refine PD.comp_map ns D.int (fun _ => true) (fun x => .int (x.fdiv (aU 0 ns))) (fun R q => ?_) (by rw [sizeLine_eq]; omega) (fun x hx K hK => ?_) (fun x hx _ K hK => ?_) ?_
  ·walk_at "rd"
   exact q
  ·walk_at "rd"
   exact hK
  ·walk_at "rd"
   exact ⟨⟨hz, hb.mono (by decide)⟩, hK⟩
  ·rw [List.filter_eq_self.mpr (fun _ _ => rfl)]
   unfold bT at h
   rw [List.map_map] at h
   exact h
theorem uw {f : Addr} {fd : FuncData} (F : ay K "picks" "picks" jo f fd) (C : COk K mg κ)  (z_range : mg "range" = none) : aG P w K mg base (CX1 P w) 1 f fd ["count", "size"] (aO K (jO κ)) := by
 refine ay.okN F c9 (fun ds Q E h => by obtain ⟨_, _, rfl, _⟩ := h; rfl) fun cdv A outer s H E hr => ⟨_, (aq (aJ 2 c9.nd (aS (aa (aS ah) ah))) (aq (br PassesOwn.never rfl (cg (by rfl) z_range (aa (dv 1) ah)) (aV 3 c9.nd) (aq (gM 4 c9.nd ah) (aq (br PassesOwn.never rfl (bj (dv 2)) (aV 5 c9.nd) (aq (aJ 6 c9.nd (mU (az iu (dv 3) ae) (aj aX (au (dv 5) (fK ae)) ae) ae)) (ao (rJ 4 (de (by rfl) (by exact bB (osc := ak jo) (xs := ["number"]) (ns := ["pick"]) (by decide +kernel)) (aY.cons 5 aY.nil) (lJ (by rfl) z_range (aa (dv 6) (aa (dv 0) ah))) (fun _ _ _ _ _ => cc) (fun _ _ _ _ _ => (aj aX (dv 1) (aS (aa (dv 0) ah))))))))) (cF 4 (ao (aJ 2 c9.nd (dv 4))))))) (ao (av (dv 2))))), ?_⟩
 rintro ds Q Ed ⟨n, s, rfl, h⟩
 have e0 : aE ["count", "size", "found", "length", "longer", "pick", "first"] [.int n, .int s] = ([some (.val (.int n)), some (.val (.int s)), none, none, none, none, none] : Ro) := rfl
 rw [e0]; clear e0
 obtain ⟨m, t, rfl, rfl, hm, ht, h⟩ := h
 have sz : ∀ j, j <= 3 -> (lev m j).length <= 216000 := fun j hj => Nat.le_trans (gR m j) (Nat.le_trans (Nat.pow_le_pow_left hm j) (Nat.le_trans (Nat.pow_le_pow_right (by decide) hj) (by decide)))
 walk_at "rx"
 refine ⟨Nat.zero_le _, by rw [sizeLine_eq]; decide, ?_⟩
 refine PD.bu (List.range' 0 t) (fun (k : Nat) => D.int (k : Int)) (fun j ρ => ∃ v3 v4 v5 v6 : Option Sl, ρ = [some (.val (.int m)), some (.val (.int t)), some (.val (.lst true ((lev m j).map pkD))), v3, v4, v5, v6]) (fun R q => ?_) ⟨none, none, none, none, rfl⟩ ?_ ?_
 ·walk_at "rd"
  rw [kZ]
  exact ⟨⟨by omega, by omega⟩, q⟩
 ·rintro j x ρ' hx ⟨v3, v4, v5, v6, rfl⟩
  obtain ⟨hj, ex⟩ := List.getElem?_eq_some_iff.mp hx
  rw [List.length_range'] at hj
  rw [List.getElem_range'] at ex
  have ex' : x = j := by omega
  subst ex'
  walk_at "rx"
  refine ⟨Nat.zero_le _, ?_⟩
  refine PD.jh (lev m x) pkD (fun done ρ => ∃ v5 v6 : Option Sl, ρ = [some (.val (.int m)), some (.val (.int t)), some (.val (.lst true ((lev m x).map pkD))), some (.val (.int x)), some (.own ((done.flatMap (nxt m)).map pkD)), v5, v6]) (fun R q => ?_) ⟨_, _, rfl⟩ ?_ ?_
  ·walk_at "rd"
   exact q
  ·rintro done pk ρ2 hpk hlt ⟨v5, v6, rfl⟩
   obtain ⟨hlen, hlt'⟩ := bZ hpk
   have hf : ax pk <= m := by
    unfold ax
    cases e : pk.getLast? with
    | none => exact Nat.zero_le _
    | some l => have := hlt' l (List.mem_of_getLast? e); exact this
   have dl : done.length * m <= 216000 * 60 := Nat.mul_le_mul (Nat.le_trans (Nat.le_of_lt hlt) (sz x (by omega))) hm
   have fl := fL m done
   have nl : (nxt m pk).length <= 60 := by unfold nxt; rw [List.length_map, List.length_range']; omega
   have rest : ∀ (v : D) (Qd : D -> Prop), v = .int (ax pk) -> Qd (.lst true ((nxt m pk).map pkD)) -> jc (mv (jd (iQ 6) (jd (iQ 0) mR))) [5] mP (dOp cB (iQ 1) (qf (jd (iQ 0) mR))) [some (.val (.int m)), some (.val (.int t)), some (.val (.lst true ((lev m x).map pkD))), some (.val (.int x)), some (.own ((done.flatMap (nxt m)).map pkD)), some (.val (pkD pk)), some (.val v)] Qd := by
    rintro v Qd rfl hQ
    refine PD.comp_map (List.range' (ax pk) (m - ax pk)) (fun (k : Nat) => D.int (k : Int)) (fun _ => true) (fun k => pkD (pk ++ [k])) (fun R q => ?_) (by rw [List.length_range', sizeLine_eq]; omega) (fun k hk K hK => ?_) (fun k hk _ K hK => ?_) ?_
    ·walk_at "rd"
     rw [pL]
     exact ⟨⟨by omega, by omega⟩, ⟨by omega, by omega⟩, q⟩
    ·walk_at "rd"
     exact hK
    ·unfold pkD at hK ⊢
     walk_at "rd"
     rw [List.map_append] at hK
     refine ⟨sz1 _, ?_, hK⟩
     rw [List.length_map, sizeLine_eq, hlen]
     show x + 1 <= _
     omega
    ·rw [List.filter_eq_self.mpr (fun _ _ => rfl)]
     unfold nxt at hQ
     rw [List.map_map] at hQ
     exact hQ
   have end_ : ∀ v : D, ∃ xs, D.lst true ((nxt m pk).map pkD) = D.lst true xs /\ (List.map pkD (List.flatMap (nxt m) done)).length + xs.length <= sizeLine /\ ∃ v5 v6 : Option Sl, ([some (Sl.val (D.int m)), some (Sl.val (D.int t)), some (Sl.val (D.lst true (List.map pkD (lev m x)))), some (Sl.val (D.int x)), some (Sl.own (List.map pkD (List.flatMap (nxt m) done) ++ xs)), some (Sl.val (pkD pk)), some (Sl.val v)] : Ro) = [some (Sl.val (D.int m)), some (Sl.val (D.int t)), some (Sl.val (D.lst true (List.map pkD (lev m x)))), some (Sl.val (D.int x)), some (Sl.own (List.map pkD (List.flatMap (nxt m) (done ++ [pk])))), v5, v6] := fun v =>
    ⟨_, rfl, by rw [List.length_map, List.length_map, sizeLine_eq]; omega, _, _, by rw [List.flatMap_append, List.map_append, List.flatMap_singleton]⟩
   walk_at "rx"
   by_cases hx0 : x = 0
   ·subst hx0
    have : pk = [] := List.eq_nil_of_length_eq_zero hlen
    subst this
    rw [if_neg (by omega)]
    exact rest _ _ rfl (end_ _)
   ·rw [if_pos (by omega)]
    have hne : pk ≠ [] := fun e => hx0 (by rw [<- hlen, e]; rfl)
    show jK (.lst true (pk.map fun (k : Nat) => D.int (k : Int))) _ _
    rw [dP]
    refine ja hne ?_
    rw [mD]
    exact rest _ _ (by congr 1; omega) (end_ _)
  ·rintro ρ2 ⟨v5, v6, rfl⟩
   walk_at "rd"
   exact ⟨_, _, _, _, rfl⟩
 ·rintro ρ' ⟨v3, v4, v5, v6, rfl⟩
  walk_at "rd"
  rw [List.length_range']
  exact h
theorem oG {f : Addr} {fd : FuncData} (F : ay K "place_of" "place_of" iE f fd) (C : COk K mg κ)   : aG P w K mg base (CX1 P w) 1 f fd ["spot"] (aO K (gJ κ)) := by
 refine ay.okN F oH (fun ds Q E h => by obtain ⟨_, rfl, _⟩ := h; rfl) fun cdv A outer s H E hr => ⟨_, (ao (av (bE (aa ae (aa (au (dv 0) ae) (aa (au (dv 0) ae) ah)))))), ?_⟩
 rintro ds Q Ed ⟨d, rfl, h⟩
 have e0 : aE ["spot"] [d] = ([some (.val (d))] : Ro) := rfl
 rw [e0]; clear e0
 obtain ⟨p, rfl, q⟩ := h
 unfold spD
 walk_at "rd"
 exact ⟨sz3 _ _ _, q⟩
theorem uv {f : Addr} {fd : FuncData} (F : ay K "arrow" "arrow" k6 f fd) (C : COk K mg κ)   : aG P w K mg base (CX1 P w) 1 f fd ["one", "other"] (aO K (iF κ)) := by
 refine ay.okN F uG (fun ds Q E h => by obtain ⟨_, _, _, _, _, _, rfl, _⟩ := h; rfl) fun cdv A outer s H E hr => ⟨_, (ao (av (bE (aa (aj aL (aj aN (au (dv 0) ae) (au (dv 1) ae)) (aj aN (au (dv 1) ae) (au (dv 0) ae))) (aa (aj aL (aj aN (au (dv 0) ae) (au (dv 1) ae)) (aj aN (au (dv 1) ae) (au (dv 0) ae))) ah))))), ?_⟩
 rintro ds Q Ed ⟨a0, a1, a2, b0, b1, b2, rfl, h⟩
 have e0 : aE ["one", "other"] [T3 a0 a1 a2, T3 b0 b1 b2] = ([some (.val (T3 a0 a1 a2)), some (.val (T3 b0 b1 b2))] : Ro) := rfl
 rw [e0]; clear e0
 obtain ⟨h0, h1, h2, k0, k1, k2, h⟩ := h
 walk_at "rd"
 exact ⟨cmB h0 k1, cmB k0 h1, cmB h0 k2, cmB k0 h2, sz2 _ _, h⟩
theorem vX {f : Addr} {fd : FuncData} (F : ay K "turn" "turn" n5 f fd) (C : COk K mg κ)   : aG P w K mg base (CX1 P w) 1 f fd ["one", "other"] (aO K (jq κ)) := by
 refine ay.okN F wj (fun ds Q E h => by obtain ⟨_, _, rfl, _⟩ := h; rfl) fun cdv A outer s H E hr => ⟨_, (ao (av (aj aL (aj aN (au (dv 0) ae) (au (dv 1) ae)) (aj aN (au (dv 1) ae) (au (dv 0) ae))))), ?_⟩
 rintro ds Q Ed ⟨a, b, rfl, h⟩
 have e0 : aE ["one", "other"] [spD a, spD b] = ([some (.val (spD a)), some (.val (spD b))] : Ro) := rfl
 rw [e0]; clear e0
 obtain ⟨ha, hb, h⟩ := h
 unfold spD
 walk_at "rd"
 exact ⟨cmB ha.x hb.y, cmB hb.x ha.y, h⟩
theorem sM {f : Addr} {fd : FuncData} (F : ay K "length" "length" jM f fd) (C : COk K mg κ)  (z_abs : mg "abs" = none) : aG P w K mg base (CX1 P w) 1 f fd ["way"] (aO K (gx κ)) := by
 refine ay.okN F sW (fun ds Q E h => by obtain ⟨_, rfl, _⟩ := h; rfl) fun cdv A outer s H E hr => ⟨_, (ao (av (aj aX (aD j6 (by rfl) z_abs boot_abs (aa (au (dv 0) ae) ah)) (aD j6 (by rfl) z_abs boot_abs (aa (au (dv 0) ae) ah))))), ?_⟩
 rintro ds Q Ed ⟨w, rfl, h⟩
 have e0 : aE ["way"] [spD w] = ([some (.val (spD w))] : Ro) := rfl
 rw [e0]; clear e0
 unfold spD
 walk_at "rd"
 exact h
theorem ku {f : Addr} {fd : FuncData} (F : ay K "are_opposite" "are_opposite" dQ f fd) (C : COk K mg κ) (h_turn : Has P w K mg base "turn" 1 ["one", "other"] (jq κ))  : aG P w K mg base (CX1 P w) 2 f fd ["one", "other"] (aO K (dz κ)) := by
 refine ay.okN F kB (fun ds Q E h => by obtain ⟨_, _, rfl, _⟩ := h; rfl) fun cdv A outer s H E hr => ⟨_, (ao (av (j9 (eE bo (aw h_turn (hr.mono (by decide)) (aa (dv 0) (aa (dv 1) ah))) ae) (iR (eE iv (aj aX (aj aN (au (dv 0) ae) (au (dv 1) ae)) (aj aN (au (dv 0) ae) (au (dv 1) ae))) ae))))), ?_⟩
 rintro ds Q Ed ⟨a, b, rfl, h⟩
 have e0 : aE ["one", "other"] [spD a, spD b] = ([some (.val (spD a)), some (.val (spD b))] : Ro) := rfl
 rw [e0]; clear e0
 obtain ⟨ha, hb, h⟩ := h
 walk_at "rx"
 refine ⟨ha, hb, ?_⟩
 by_cases c : tn a b = 0
 ·rw [if_pos c]
  unfold spD
  walk_at "rd"
  refine ⟨cmB ha.x hb.x, cmB ha.y hb.y, ?_⟩
  have e : decide (tn a b = 0 /\ dt2 a b < 0) = decide (a.1 * b.1 + a.2 * b.2 < 0) := by
   rw [decide_eq_decide]
   exact ⟨fun q => q.2, fun q => ⟨c, q⟩⟩
  rw [e] at h
  exact h
 ·rw [if_neg c]
  rw [decide_eq_false (fun q => c q.1)] at h
  exact h
theorem jv {f : Addr} {fd : FuncData} (F : ay K "balance_of_two" "balance_of_two" c7 f fd) (C : COk K mg κ) (h_are_opposite : Has P w K mg base "are_opposite" 2 ["one", "other"] (dz κ)) (h_length : Has P w K mg base "length" 1 ["way"] (gx κ)) (h_lowest : Has P w K mg base "lowest" 2 ["numbers"] (dg κ))  : aG P w K mg base (CX1 P w) 3 f fd ["one", "other"] (aO K (cL κ)) := by
 refine ay.okN F jx (fun ds Q E h => by obtain ⟨_, _, rfl, _⟩ := h; rfl) fun cdv A outer s H E hr => ⟨_, (aq (aM (eG (dn (aw h_are_opposite (hr.mono (by decide)) (aa (dv 0) (aa (dv 1) ah))))) (ao (av gL)) aC) (ao (av (aw h_lowest (hr.mono (by decide)) (aa (aS (aa (aw h_length (hr.mono (by decide)) (aa (dv 1) ah)) (aa (aw h_length (hr.mono (by decide)) (aa (dv 0) ah)) ah))) ah))))), ?_⟩
 rintro ds Q Ed ⟨a, b, rfl, h⟩
 have e0 : aE ["one", "other"] [spD a, spD b] = ([some (.val (spD a)), some (.val (spD b))] : Ro) := rfl
 rw [e0]; clear e0
 obtain ⟨ha, hb, h⟩ := h
 walk_at "rx"
 refine ⟨ha, hb, ?_⟩
 unfold dM at h
 split
 ·rename_i c
  rw [if_pos c] at h
  have na : a ≠ (0, 0) := fun e => by have := c.2; rw [e] at this; unfold dt2 at this; simp at this
  have la := fM na
  have ba : Bd 402 (aT a) := jj ha
  have bb : Bd 402 (aT b) := jj hb
  refine ⟨sz2 _ _, ?_⟩
  show dg κ [D.lst false ([aT b, aT a].map D.int)] _ _
  rw [dH]
  have g := vP (d := aT b) (x := aT a) (by omega)
  exact ⟨by simp, by show ((Int.gcd ((Int.gcd 0 (aT b) : Nat) : Int) (aT a) : Nat) : Int) ≠ 0; omega, ug ba (by omega), h⟩
 ·rename_i c
  rw [if_neg c] at h
  exact h
theorem iK {f : Addr} {fd : FuncData} (F : ay K "balance_of_three" "balance_of_three" bN f fd) (C : COk K mg κ) (h_lowest : Has P w K mg base "lowest" 2 ["numbers"] (dg κ)) (h_turn : Has P w K mg base "turn" 1 ["one", "other"] (jq κ)) (z_max : mg "max" = none) (z_min : mg "min" = none) : aG P w K mg base (CX1 P w) 3 f fd ["one", "two", "three"] (aO K (cA κ)) := by
 refine ay.okN F cz (fun ds Q E h => by obtain ⟨_, _, _, rfl, _⟩ := h; rfl) fun cdv A outer s H E hr => ⟨_, (aq (aJ 3 cz.nd (aS (aa (aw h_turn (hr.mono (by decide)) (aa (dv 1) (aa (dv 2) ah))) (aa (aw h_turn (hr.mono (by decide)) (aa (dv 2) (aa (dv 0) ah))) (aa (aw h_turn (hr.mono (by decide)) (aa (dv 0) (aa (dv 1) ah))) ah))))) (aq (aM (az iv (aD (kK rfl) (by rfl) z_max boot_max (aa (dv 3) ah)) ae) (ao (ig 3 cz.nd (by rfl) (by exact bB (osc := ak bN) (xs := ["each"]) (ns := []) (by decide +kernel)) aY.nil (bj (dv 3)) (fun _ _ _ _ _ => cc) (fun _ _ _ _ _ => (fK (dv 0))))) aC) (aq (aM (az yo (aD (jb rfl) (by rfl) z_min boot_min (aa (dv 3) ah)) ae) (ao (av gL)) aC) (ao (av (aw h_lowest (hr.mono (by decide)) (aa (dv 3) ah))))))), ?_⟩
 rintro ds Q Ed ⟨a, b, e, rfl, h⟩
 have e0 : aE ["one", "two", "three", "turns"] [spD a, spD b, spD e] = ([some (.val (spD a)), some (.val (spD b)), some (.val (spD e)), none] : Ro) := rfl
 rw [e0]; clear e0
 obtain ⟨ha, hb, he, h⟩ := h
 have b1 : Bd 801 (tn b e) := (hb.x.mul he.y).sub (he.x.mul hb.y)
 have b2 : Bd 801 (tn e a) := (he.x.mul ha.y).sub (ha.x.mul he.y)
 have b3 : Bd 801 (tn a b) := (ha.x.mul hb.y).sub (hb.x.mul ha.y)
 unfold dN at h
 generalize e1 : tn b e = x at *
 generalize e2 : tn e a = y at *
 generalize e3 : tn a b = z at *
 have low : ∀ u v w : Int, Bd 801 w -> 0 < w -> Q (.lst true ((bT [u, v, w]).map D.int)) -> dg κ [D.lst false ([u, v, w].map D.int)] Q fun _ => False := fun u v w bw pw q => by
  rw [dH]
  have hne : w ≠ 0 := by omega
  have gp : 0 < Int.gcd ((Int.gcd ((Int.gcd 0 u : Nat) : Int) v : Nat) : Int) w := Int.gcd_pos_iff.mpr (.inr hne)
  exact ⟨by simp, by show ((Int.gcd ((Int.gcd ((Int.gcd 0 u : Nat) : Int) v : Nat) : Int) w : Nat) : Int) ≠ 0; omega, (rW bw hne).mono (by decide), q⟩
 walk_at "rx"
 refine ⟨hb, he, he, ha, ha, hb, ?_⟩
 rw [e1, e2, e3]
 refine ⟨sz3 _ _ _, .inr ⟨true, [x, y, z], rfl, by simp, fun m hm hmx => ?_⟩⟩
 have m1 := hmx x (by simp)
 have m2 := hmx y (by simp)
 have m3 := hmx z (by simp)
 have mm : m = x ∨ m = y ∨ m = z := by simpa using hm
 split
 ·rename_i c
  refine PD.comp_map [x, y, z] D.int (fun _ => true) (fun k => .int (-k)) (fun R q => ?_) (by rw [sizeLine_eq]; simp) (fun k hk K hK => ?_) (fun k hk _ K hK => ?_) ?_
  ·walk_at "rd"
   exact q
  ·walk_at "rd"
   exact hK
  ·walk_at "rd"
   exact hK
  ·refine ⟨true, [-x, -y, -z], rfl, by simp, fun n hn hmn => ?_⟩
   have nn : n = -x ∨ n = -y ∨ n = -z := by simpa using hn
   rw [if_neg (by omega)] at h ⊢
   rw [if_pos (by omega)] at h
   exact low _ _ _ (j5 b3) (by omega) h
 ·rename_i c
  refine ⟨true, [x, y, z], rfl, by simp, fun n hn hmn => ?_⟩
  have nn : n = x ∨ n = y ∨ n = z := by simpa using hn
  have n1 := hmn x (by simp)
  have n2 := hmn y (by simp)
  have n3 := hmn z (by simp)
  split
  ·rename_i d
   rw [if_neg (by omega), if_neg (by omega)] at h
   exact h
  ·rename_i d
   rw [if_pos (by omega)] at h
   exact low _ _ _ b3 (by omega) h
theorem qD {f : Addr} {fd : FuncData} (F : ay K "balance" "balance" i0 f fd) (C : COk K mg κ) (h_balance_of_three : Has P w K mg base "balance_of_three" 3 ["one", "two", "three"] (cA κ)) (h_balance_of_two : Has P w K mg base "balance_of_two" 3 ["one", "other"] (cL κ)) (h_length : Has P w K mg base "length" 1 ["way"] (gx κ)) (z_len : mg "len" = none) : aG P w K mg base (CX1 P w) 4 f fd ["ways"] (aO K (iG κ)) := by
 refine ay.okN F qJ (fun ds Q E h => by obtain ⟨_, rfl, _⟩ := h; rfl) fun cdv A outer s H E hr => ⟨_, (aq (aM (az bo (aD bz (by rfl) z_len boot_len (aa (dv 0) ah)) ae) (ao (av (mU (az bo (aw h_length (hr.mono (by decide)) (aa (au (dv 0) ae) ah)) ae) (aS (aa ae ah)) gL))) aC) (aq (aM (az bo (aD bz (by rfl) z_len boot_len (aa (dv 0) ah)) ae) (ao (av (aw h_balance_of_two (hr.mono (by decide)) (aa (au (dv 0) ae) (aa (au (dv 0) ae) ah))))) aC) (ao (av (aw h_balance_of_three (hr.mono (by decide)) (aa (au (dv 0) ae) (aa (au (dv 0) ae) (aa (au (dv 0) ae) ah)))))))), ?_⟩
 rintro ds Q Ed ⟨ws, rfl, h⟩
 have e0 : aE ["ways"] [.lst false (ws.map spD)] = ([some (.val (.lst false (ws.map spD)))] : Ro) := rfl
 rw [e0]; clear e0
 obtain ⟨h0, h3, hw, h⟩ := h
 rcases ws with _ | ⟨a, _ | ⟨b, _ | ⟨e, _ | ⟨z, r⟩⟩⟩⟩
 ·simp at h0
 ·have h' : Q (oL (fJ a)) := h
  unfold fJ at h'
  walk_at "rx"
  rw [if_pos (by simp)]
  by_cases c : aT a = 0
  ·rw [if_pos c] at h' ⊢
   exact ⟨sz1 _, h'⟩
  ·rw [if_neg c] at h' ⊢
   exact h'
 ·have h' : Q (oL (dM a b)) := h
  have a0 : atI [spD a, spD b] 0 = some (spD a) := bI (j := 0) rfl
  have a1 : atI [spD a, spD b] 1 = some (spD b) := bI (j := 1) rfl
  walk_at "rx"
  rw [if_neg (by simp), if_pos (by simp)]
  exact ⟨hw a (by simp), hw b (by simp), h'⟩
 ·have h' : Q (oL (dN a b e)) := h
  walk_at "rx"
  rw [if_neg (by simp), if_neg (by simp)]
  exact ⟨hw a (by simp), hw b (by simp), hw e (by simp), h'⟩
 ·simp at h3
  omega
theorem qE {f : Addr} {fd : FuncData} (F : ay K "mixture" "mixture" eO f fd) (C : COk K mg κ) (h_arrow : Has P w K mg base "arrow" 1 ["one", "other"] (iF κ)) (h_balance : Has P w K mg base "balance" 4 ["ways"] (iG κ)) (h_picks : Has P w K mg base "picks" 1 ["count", "size"] (jO κ)) (h_place_of : Has P w K mg base "place_of" 1 ["spot"] (gJ κ)) (z_len : mg "len" = none) : aG P w K mg base (CX1 P w) 5 f fd ["spots", "place"] (aO K (bP κ)) := by
 refine ay.okX F dw (fun ds Q E h => by obtain ⟨_, _, _, _, rfl, _⟩ := h; rfl) fun cdv A outer s H E Ed hr pm px hx => ⟨_, (aq (aM (az bo (aD bz (by rfl) z_len boot_len (aa (dv 0) ah)) ae) (ao (uc pm (by rfl) C.mg_TooFew C.exc_TooFew rfl (aa mW ah))) aC) (aq (aJ 2 dw.nd (de (by rfl) (by exact bB (osc := ak eO) (xs := ["spot"]) (ns := ["place"]) (by decide +kernel)) (aY.cons 1 aY.nil) (bj (dv 0)) (fun _ _ _ _ _ => cc) (fun _ _ _ _ _ => (aw h_arrow (hr.mono (by decide)) (aa (dv 1) (aa (aw h_place_of (hr.mono (by decide)) (aa (dv 0) ah)) ah)))))) (aq (PSD.nox (br PassesOwn.never rfl (sj (bE (aa ae (aa ae (aa ae ah))))) (aV 3 dw.nd) (ao (br PassesOwn.never rfl (bj (aw h_picks (hr.mono (by decide)) (aa (aD bz (by rfl) z_len boot_len (aa (dv 0) ah)) (aa (dv 3) ah)))) (aV 4 dw.nd) (aq (aJ 5 dw.nd (aw h_balance (hr.mono (by decide)) (aa (de (by rfl) (by exact bB (osc := ak eO) (xs := ["number"]) (ns := ["ways"]) (by decide +kernel)) (aY.cons 2 aY.nil) (bj (dv 4)) (fun _ _ _ _ _ => cc) (fun _ _ _ _ _ => (au (dv 1) (dv 0)))) ah))) (ao (aM (az vV (dv 5) gL) (ao (av (bE (aa mW (aa (dv 4) (aa (dv 5) ah)))))) aC))))))) (ao mZ)))), ?_⟩
 rintro ds Q ⟨ps, h0, h1, h2, rfl, h⟩
 have e0 : aE ["spots", "place", "ways", "size", "numbers", "shares"] [.lst false (ps.map spD), T3 h0 h1 h2] = ([some (.val (.lst false (ps.map spD))), some (.val (T3 h0 h1 h2)), none, none, none, none] : Ro) := rfl
 rw [e0]; clear e0
 rcases h with ⟨he, h⟩ | ⟨hz, hl, hb, hP, res, hres, h⟩
 ·subst he
  walk_at "rx"
  exact ⟨sz1 _, h⟩
 have o1 : Bd 200 1 := by unfold Bd; decide
 have hmx : bg (ps.map (arS (h0, h1, h2))) (bL ps.length) = bg (ps.map (arS (h0, h1, h2))) (gE ps.length 0) := by rw [nX]
 have wB : ∀ w ∈ ps.map (arS (h0, h1, h2)), WB 400 w := fun w hw => by
  obtain ⟨p, hp, rfl⟩ := List.mem_map.mp hw
  have B := hb p hp
  refine ⟨?_, ?_⟩
  ·show Bd 400 (h0 * p.1 - 1 * h1); rw [Int.one_mul]; exact Bd.mono (m := 121) ((hP.b.mul B.x).sub hP.x) (by decide)
  ·show Bd 400 (h0 * p.2 - 1 * h2); rw [Int.one_mul]; exact Bd.mono (m := 121) ((hP.b.mul B.y).sub hP.y) (by decide)
 walk_at "rx"
 rw [List.length_map, if_neg (by omega)]
 refine PD.comp_map ps spD (fun _ => true) (fun p => spD (arS (h0, h1, h2) p)) (fun R q => ?_) (by rw [sizeLine_eq]; omega) (fun p hp K hK => ?_) (fun p hp _ K hK => ?_) ?_
 ·walk_at "rd"
  exact q
 ·walk_at "rd"
  exact hK
 ·have B := hb p hp
  walk_at "rx"
  refine ⟨p, rfl, ?_⟩
  show iF κ [T3 h0 h1 h2, T3 1 p.1 p.2] _ _
  rw [gH]
  exact ⟨hP.b.mono (by decide), hP.x.mono (by decide), hP.y.mono (by decide), o1, B.x.mono (by decide), B.y.mono (by decide), hK⟩
 rw [List.filter_eq_self.mpr (fun _ _ => rfl)]
 have em : ps.map (fun p => spD (arS (h0, h1, h2) p)) = (ps.map (arS (h0, h1, h2))).map spD := by rw [List.map_map]; rfl
 rw [em]
 have wl : (ps.map (arS (h0, h1, h2))).length = ps.length := List.length_map _
 generalize ps.map (arS (h0, h1, h2)) = ws at *
 refine PD.bu [1, 2, 3] (fun (k : Nat) => D.int (k : Int)) (fun j ρ => ∃ v3 v4 v5 : Option Sl, ρ = [some (.val (.lst false (ps.map spD))), some (.val (T3 h0 h1 h2)), some (.val (.lst true (ws.map spD))), v3, v4, v5] /\ bg ws (bL ps.length) = bg ws (gE ps.length j)) (fun R q => ?_) ⟨none, none, none, rfl, hmx⟩ ?_ ?_
 ·walk_at "rd"
  exact ⟨sz3 _ _ _, q⟩
 ·rintro j s ρ' hj ⟨v3, v4, v5, rfl, hm⟩
  have hj3 : j < 3 /\ s = j + 1 := by
   rcases j with _ | _ | _ | j
   ·simp at hj; omega
   ·simp at hj; omega
   ·simp at hj; omega
   ·simp at hj
  obtain ⟨hj3, rfl⟩ := hj3
  rw [lX _ hj3] at hm
  walk_at "rx"
  refine PD.bu (lev ps.length (j + 1)) pkD (fun i ρ => ∃ v4 v5 : Option Sl, ρ = [some (.val (.lst false (ps.map spD))), some (.val (T3 h0 h1 h2)), some (.val (.lst true (ws.map spD))), some (.val (.int ((j + 1 : Nat) : Int))), v4, v5] /\ bg ws (bL ps.length) = bg ws ((lev ps.length (j + 1)).drop i ++ gE ps.length (j + 1))) (fun R q => ?_) ⟨v4, v5, rfl, hm⟩ ?_ ?_
  ·walk_at "rx"
   exact ⟨ps.length, j + 1, by rw [List.length_map], rfl, by omega, by omega, q⟩
  ·rintro i pk ρ' hi ⟨v4, v5, rfl, hm⟩
   obtain ⟨hi', ei⟩ := List.getElem?_eq_some_iff.mp hi
   rw [List.drop_eq_getElem_cons hi', ei, List.cons_append, lS] at hm
   obtain ⟨pl, pb⟩ := bZ (List.mem_of_getElem? hi)
   have gt : ∀ k, k < ws.length -> ws[k]? = some (ws.getD k (0, 0)) := fun k hk => by
    rw [List.getD_eq_getElem?_getD, List.getElem?_eq_getElem hk]; rfl
   walk_at "rx"
   refine PD.comp_map pk (fun (k : Nat) => D.int (k : Int)) (fun _ => true) (fun k => spD (ws.getD k (0, 0))) (fun R q => ?_) (by rw [sizeLine_eq]; omega) (fun k hk K hK => ?_) (fun k hk _ K hK => ?_) ?_
   ·unfold pkD
    walk_at "rd"
    exact q
   ·walk_at "rd"
    exact hK
   ·walk_at "rd"
    exact ⟨_, bI (by rw [List.getElem?_map, gt k (by have := pb k hk; omega)]; rfl), hK⟩
   rw [List.filter_eq_self.mpr (fun _ _ => rfl)]
   have ep : pk.map (fun k => spD (ws.getD k (0, 0))) = (pkW ws pk).map spD := by unfold pkW; rw [List.map_map]; rfl
   have lp : (pkW ws pk).length = j + 1 := by unfold pkW; rw [List.length_map, pl]
   rw [ep, bQ, dI, eU]
   refine ⟨by omega, by omega, fun w hw => ?_, ?_⟩
   ·unfold pkW at hw
    obtain ⟨k, hk, rfl⟩ := List.mem_map.mp hw
    exact wB _ (List.mem_of_getElem? (gt k (by have := pb k hk; omega)))
   ·cases hb2 : cy (pkW ws pk) with
    | none =>
     rw [hb2] at hm
     rw [if_neg (show ¬ dq (oL none) = false by decide)]
     exact ⟨_, _, rfl, hm⟩
    | some sh =>
     rw [hb2] at hm
     have hm' : bg ws (bL ps.length) = some (pk, sh) := hm
     rw [hres] at hm'
     cases hm'
     rw [if_pos (show dq (oL (some sh)) = false from rfl)]
     exact ⟨sz3 _ _ _, h⟩
  ·rintro ρ' ⟨v4, v5, rfl, hm⟩
   rw [List.drop_length, List.nil_append] at hm
   exact ⟨_, _, _, rfl, hm⟩
 ·rintro ρ' ⟨v3, v4, v5, rfl, hm⟩
  have hm' : bg ws (bL ps.length) = none := hm
  rw [hres] at hm'
  cases hm'
theorem nR {f : Addr} {fd : FuncData} (F : ay K "_law_whole" "_law_whole" gG f fd) (C : COk K mg κ)  (z_bool : mg "bool" = none) (z_int : mg "int" = none) (z_isinstance : mg "isinstance" = none) : aG P w K mg base (CX1 P w) 1 f fd ["_law_found"] (aO K (gi κ)) := by
 refine ay.okN F n6 (fun ds Q E h => by obtain ⟨_, rfl, _⟩ := h; rfl) fun cdv A outer s H E hr => ⟨_, (ao (av (j9 (gm (by rfl) z_isinstance (by rfl) z_int boot_int (.inl rfl) (dv 0)) (iR (mV (gm (by rfl) z_isinstance (by rfl) z_bool boot_bool (.inr (.inl rfl)) (dv 0))))))), ?_⟩
 rintro ds Q Ed ⟨a, rfl, h⟩
 have e0 : aE ["_law_found"] [.int a] = ([some (.val (.int a))] : Ro) := rfl
 rw [e0]; clear e0
 walk_at "rd"
 exact h
theorem kU {f : Addr} {fd : FuncData} (F : ay K "_law_cell_at" "_law_cell_at" eS f fd) (C : COk K mg κ)  (z_len : mg "len" = none) : aG P w K mg base (CX1 P w) 1 f fd ["_law_script", "_law_k"] (aO K (dS κ)) := by
 refine ay.okN F k7 (fun ds Q E h => by obtain ⟨_, _, rfl, _⟩ := h; rfl) fun cdv A outer s H E hr => ⟨_, (aq (aM (az iv (dv 1) (aD bz (by rfl) z_len boot_len (aa (dv 0) ah))) (ao (av (au (dv 0) (dv 1)))) aC) (ao (av ae))), ?_⟩
 rintro ds Q Ed ⟨ns, k, rfl, h⟩
 have e0 : aE ["_law_script", "_law_k"] [.lst false (ns.map D.int), .int k] = ([some (.val (.lst false (ns.map D.int))), some (.val (.int k))] : Ro) := rfl
 rw [e0]; clear e0
 obtain ⟨hk, hn, h⟩ := h
 walk_at "rd"
 by_cases hl : k < ((ns.map D.int).length : Int)
 ·rw [if_pos (by simpa using hl)]
  rw [List.length_map] at hl
  exact ⟨_, tJ hk hl, h _⟩
 ·rw [if_neg (by simpa using hl)]
  exact h 0
theorem mi {f : Addr} {fd : FuncData} (F : ay K "_law_stream" "_law_stream" fU f fd) (C : COk K mg κ)  (z_range : mg "range" = none) : aG P w K mg base (CX1 P w) 1 f fd ["_law_cell", "_law_many"] (aO K (fe κ)) := by
 refine ay.okN F cw (fun ds Q E h => by obtain ⟨_, _, rfl, _⟩ := h; rfl) fun cdv A outer s H E hr => ⟨_, (aq (gM 2 cw.nd ah) (aq (aJ 3 cw.nd (aj aX (aj aR (dv 0) ae) ae)) (aq (br PassesOwn.never rfl (cg (by rfl) z_range (aa (dv 1) ah)) (aV 4 cw.nd) (aq (aJ 3 cw.nd (aj aR (aj aX (aj aX (aj aN (dv 3) ae) (aj aN (dv 4) (dv 4))) ae) ae)) (ao (gn 2 (aj bC (dv 3) ae))))) (cF 2 (ao (av (dv 2))))))), ?_⟩
 rintro ds Q Ed ⟨c, m, rfl, h⟩
 have e0 : aE ["_law_cell", "_law_many", "_law_found", "_law_number", "_law_k"] [.int c, .int m] = ([some (.val (.int c)), some (.val (.int m)), none, none, none] : Ro) := rfl
 rw [e0]; clear e0
 obtain ⟨h0, h1, h⟩ := h
 walk_at "rd"
 refine ⟨Nat.zero_le _, by decide, ⟨by omega, by omega⟩, fun j ρ => ∃ (xs : List Int) (n : Int) (v : Option Sl), ρ = [some (.val (.int c)), some (.val (.int m)), some (.own (xs.map D.int)), some (.val (.int n)), v] /\ xs.length = j /\ (∀ x ∈ xs, 0 <= x /\ x < 2147483647) /\ 0 <= n /\ n < 2147531918, ⟨[], _, none, rfl, rfl, by simp, ?_, ?_⟩, ?_, ?_⟩
 ·have := fm (a := c) (b := 2147483647) (by decide); omega
 ·have := fm (a := c) (b := 2147483647) (by decide); omega
 ·rintro j x ρ' hx ⟨xs, n, v, rfl, hlen, hb, n0, n1⟩
  obtain ⟨hj, rfl⟩ := sU hx
  have hm : j < 1000 := by
   have := wg (by decide) hj
   omega
  walk_at "rd"
  refine ⟨.inr (.inl (by unfold Bd; decide)), .inl (by unfold Bd; omega), by decide, CD.lit, by rw [List.length_map, sizeLine_eq]; omega, ?_⟩
  have hf := fm (a := n * 48271 + (0 + (j : Int) * 1) * (0 + (j : Int) * 1) + 11) (b := 2147483647) (by decide)
  generalize (n * 48271 + (0 + (j : Int) * 1) * (0 + (j : Int) * 1) + 11).fmod 2147483647 = y at hf ⊢
  refine ⟨xs ++ [y.fdiv 7], y, some (.val (.int (0 + (j : Int) * 1))), by simp, by simp [hlen], ?_, by omega, by omega⟩
  intro z hz
  rcases List.mem_append.mp hz with q | q
  ·exact hb z q
  ·simp at q
   subst q
   have e := Int.fdiv_eq_ediv_of_nonneg y (show (0 : Int) <= 7 by decide)
   rw [e]
   omega
 ·rintro ρ' ⟨xs, n, v, rfl, hlen, hb, n0, n1⟩
  walk_at "rd"
  refine h xs ?_ hb
  rw [hlen, jL]
  unfold cK Builtin.Range.rangeSize
  rw [if_pos (by decide)]
  split <;> omega
theorem oF {f : Addr} {fd : FuncData} (F : ay K "_law_spot" "_law_spot" iC f fd) (C : COk K mg κ)   : aG P w K mg base (CX1 P w) 1 f fd ["_law_kind", "_law_cell"] (aO K (gI κ)) := by
 refine ay.okN F jz (fun ds Q E h => by obtain ⟨_, _, rfl, _⟩ := h; rfl) fun cdv A outer s H E hr => ⟨_, (aq (aM (az bo (dv 0) ae) (ao (av (bE (aa (aj aR (dv 1) ae) (aa (aj aR (aj bC (dv 1) ae) ae) ah))))) aC) (aq (aM (az bo (dv 0) ae) (ao (av (bE (aa (aj aL (aj aR (dv 1) ae) ae) (aa (aj aL (aj aR (aj bC (dv 1) ae) ae) ae) ah))))) aC) (aq (aM (az bo (dv 0) ae) (aq (aJ 2 jz.nd (aj aX (aj aL (aj aR (dv 1) (aj aL (aj aN ae (aj gU ae ae)) ae)) (aj gU ae ae)) ae)) (ao (av (bE (aa (dv 2) (aa (aj aX (aj aL (aj aR (aj aN (dv 1) ae) (aj aL (aj aN ae (aj gU ae ae)) ae)) (aj gU ae ae)) ae) ah)))))) aC) (aq (aM (az bo (dv 0) ae) (ao (av (bE (aa (aj aL (aj aN ae (aj aR (dv 1) ae)) ae) (aa (aj aL ae (aj aN ae (aj aR (dv 1) ae))) ah))))) aC) (aq (aM (az bo (dv 0) ae) (ao (av (au (aS (aa (bE (aa (aj aL (aj aR (dv 1) ae) ae) (aa ae ah))) (aa (bE (aa (fK ae) (aa (aj aL (aj aR (dv 1) ae) ae) ah))) ah))) (aj bC (aj aR (aj bC (dv 1) ae) ae) ae)))) aC) (aq (aM (az bo (dv 0) ae) (ao (av (bE (aa (aj aL (aj aR (dv 1) ae) ae) (aa (aj aN (aj aL (aj aR (dv 1) ae) ae) (aj aL (aj aR (dv 1) ae) ae)) ah))))) aC) (aq (aM (az bo (aj aR (dv 1) ae) ae) (ao (av (bE (aa (aj aL (aj aR (aj bC (dv 1) ae) ae) ae) (aa (aj aL (aj aR (aj bC (dv 1) ae) ae) ae) ah))))) aC) (ao (av (bE (aa ae (aa (aj aX (fK (aj gU ae ae)) ae) ah)))))))))))), ?_⟩
 rintro ds Q Ed ⟨k, c, rfl, h⟩
 have e0 : aE ["_law_kind", "_law_cell", "_law_x"] [.int k, .int c] = ([some (.val (.int k)), some (.val (.int c)), none] : Ro) := rfl
 rw [e0]; clear e0
 walk_at "rd"
 have fin : ∀ a b : Int, Bd 40 a -> Bd 40 b -> Q (.tup [.int a, .int b]) := fun a b ha hb => h (a, b) ⟨ha, hb⟩
 have f3 := fun n : Int => fm (a := n) (b := 3) (by decide)
 have f5 := fun n : Int => fm (a := n) (b := 5) (by decide)
 have f7 := fun n : Int => fm (a := n) (b := 7) (by decide)
 have f9 := fun n : Int => fm (a := n) (b := 9) (by decide)
 have f11 := fun n : Int => fm (a := n) (b := 11) (by decide)
 have f41 := fun n : Int => fm (a := n) (b := 41) (by decide)
 have ff := fun n : Int => fm (a := n) (b := 2 * 1000000000000 - 1) (by decide)
 split
 ·exact ⟨by decide, CD.lit, by decide, sz2 _ _, fin _ _ (bdl 10 (by have := f3 c; omega) (by decide)) (bdl 10 (by have := f3 (c.fdiv 3); omega) (by decide))⟩
 ·split
  ·exact ⟨by decide, CD.lit, by decide, sz2 _ _, fin _ _ (bdl 10 (by have := f5 c; omega) (by decide)) (bdl 10 (by have := f5 (c.fdiv 5); omega) (by decide))⟩
  ·split
   ·rw [p12]
    exact ⟨mO, .inl (by unfold Bd; decide), by decide, mO, .inr (.inl (by unfold Bd; decide)), mO, .inl (by unfold Bd; decide), by decide, mO, sz2 _ _, fin _ _ (bdl 1000000000001 (by have := ff c; omega) (by decide)) (bdl 1000000000001 (by have := ff (c * 982451653); omega) (by decide))⟩
   ·split
    ·exact ⟨by decide, .inl (by unfold Bd; decide), by decide, .inl (by unfold Bd; decide), sz2 _ _, fin _ _ (bdl 100 (by have := f11 c; omega) (by decide)) (bdl 100 (by have := f11 c; omega) (by decide))⟩
    ·split
     ·have f16 := fm (a := c.fdiv 9) (b := 16) (by decide)
      refine ⟨by decide, sz2 _ _, by decide, sz2 _ _, sz2 _ _, CD.lit, by decide, CD.lit, ?_⟩
      generalize (c.fdiv 9).fmod 16 = n at f16 ⊢
      have e : n.fdiv 15 = n / 15 := Int.fdiv_eq_ediv_of_nonneg n (by decide)
      rw [e]
      refine j4 (by omega) (by show n / 15 < 2; omega) fun d hd => ?_
      have b9 := f9 c
      simp only [List.mem_cons, List.not_mem_nil, or_false] at hd
      rcases hd with rfl | rfl
      ·exact fin _ _ (bdl 10 (by omega) (by decide)) (by unfold Bd; decide)
      ·exact fin _ _ (by unfold Bd; decide) (bdl 10 (by omega) (by decide))
     ·split
      ·have s := f41 c
       have bs : Bd 8 (c.fmod 41 - 20) := bdl 30 (by omega) (by decide)
       generalize c.fmod 41 - 20 = t at bs ⊢
       exact ⟨by decide, by decide, by decide, .inl (bs.mono (by decide)), sz2 _ _, fin _ _ (bs.mono (by decide)) ((bs.mul bs).mono (by decide))⟩
      ·refine ⟨by decide, ?_⟩
       split
       ·exact ⟨CD.lit, by decide, CD.lit, by decide, sz2 _ _, fin _ _ (bdl 10 (by have := f7 (c.fdiv 5); omega) (by decide)) (bdl 10 (by have := f7 (c.fdiv 35); omega) (by decide))⟩
       ·rw [p12]
        exact ⟨mO, sz2 _ _, fin _ _ (by unfold Bd; decide) (by unfold Bd; decide)⟩
theorem kW {f : Addr} {fd : FuncData} (F : ay K "_law_divisor" "_law_divisor" eT f fd) (C : COk K mg κ)  (z_abs : mg "abs" = none) : aG P w K mg base (CX1 P w) 1 f fd ["_law_one", "_law_other"] (aO K (cI κ)) := by
 refine ay.okN F gY (fun ds Q E h => by obtain ⟨_, _, rfl, _⟩ := h; rfl) fun cdv A outer s H E hr => ⟨_, (aq (m5 PassesOwn.never (az gT (dv 1) ae) (ao (wQ 0 1 rfl gY.nd (by decide) (aa (dv 1) (aa (aj aR (dv 0) (dv 1)) ah))))) (ao (av (aD j6 (by rfl) z_abs boot_abs (aa (dv 0) ah))))), ?_⟩
 rintro ds Q Ed ⟨a, b, rfl, h⟩
 have e0 : aE ["_law_one", "_law_other"] [.int a, .int b] = ([some (.val (.int a)), some (.val (.int b))] : Ro) := rfl
 rw [e0]; clear e0
 walk_at "rx"
 refine ⟨fun m ρ => ∃ (x y : Int), ρ = [some (.val (.int x)), some (.val (.int y))] /\ Int.gcd x y = Int.gcd a b /\ m = y.natAbs, ⟨_, _, _, rfl, rfl, rfl⟩, ?_⟩
 rintro m ρ ⟨x, y, rfl, hg, rfl⟩
 walk_at "rd"
 by_cases hy : y = 0
 ·subst hy
  rw [PM.lH] at hg
  rw [if_pos rfl, hg]
  exact h
 ·rw [if_neg hy]
  refine ⟨hy, ?_⟩
  exact ⟨_, PM.lF x hy, y, x.fmod y, rfl, (PM.nh x y).trans hg, rfl⟩
theorem mh {f : Addr} {fd : FuncData} (F : ay K "_law_lowest" "_law_lowest" fT f fd) (C : COk K mg κ) (h_law_divisor : Has P w K mg base "_law_divisor" 1 ["_law_one", "_law_other"] (cI κ))  : aG P w K mg base (CX1 P w) 2 f fd ["_law_by", "_law_x", "_law_y"] (aO K (fc κ)) := by
 refine ay.okN F iJ (fun ds Q E h => by obtain ⟨_, _, _, rfl, _⟩ := h; rfl) fun cdv A outer s H E hr => ⟨_, (aq (aJ 3 iJ.nd (aw h_law_divisor (hr.mono (by decide)) (aa (aw h_law_divisor (hr.mono (by decide)) (aa (dv 0) (aa (dv 1) ah))) (aa (dv 2) ah)))) (ao (av (bE (aa (aj bC (dv 0) (dv 3)) (aa (aj bC (dv 1) (dv 3)) (aa (aj bC (dv 2) (dv 3)) ah))))))), ?_⟩
 rintro ds Q Ed ⟨b, x, y, rfl, h⟩
 have e0 : aE ["_law_by", "_law_x", "_law_y", "_law_share"] [.int b, .int x, .int y] = ([some (.val (.int b)), some (.val (.int x)), some (.val (.int y)), none] : Ro) := rfl
 rw [e0]; clear e0
 obtain ⟨hb, bb, bx, by_, h⟩ := h
 walk_at "rd"
 refine yT hb (bb.mono (by decide)) ?_
 have hz : ¬ (b = 0 /\ x = 0 /\ y = 0) := fun z => by omega
 have gp : 0 < PM.dv3 b x y b := by
  have := PM.eI (l := b) hz
  unfold PM.dv3 PM.g3 at this ⊢
  rw [if_neg (by omega)] at this ⊢
  omega
 exact h (PM.dv3 b x y b) _ _ _ gp (by rw [Int.mul_comm]; exact PM.fC (PM.m8 b x y)) (by rw [Int.mul_comm]; exact PM.fC (PM.qt b x y)) (by rw [Int.mul_comm]; exact PM.fC (PM.qu b x y)) (PM.xG hz) rfl
theorem nQ {f : Addr} {fd : FuncData} (F : ay K "_law_mixed" "_law_mixed" cO f fd) (C : COk K mg κ) (h_law_lowest : Has P w K mg base "_law_lowest" 2 ["_law_by", "_law_x", "_law_y"] (fc κ)) (z_sum : mg "sum" = none) (z_zip : mg "zip" = none) : aG P w K mg base (CX1 P w) 3 f fd ["_law_spots", "_law_shares"] (aO K (dG κ)) := by
 refine ay.okN F fW (fun ds Q E h => by obtain ⟨_, _, rfl, _⟩ := h; rfl) fun cdv A outer s H E hr => ⟨_, (aq (aJ 2 fW.nd (aD (mK rfl) (by rfl) z_sum boot_sum (aa (dv 1) ah))) (aq (aJ 3 fW.nd (aD (mK rfl) (by rfl) z_sum boot_sum (aa (mT (by rfl) (by exact bB (osc := ak cO) (xs := ["_law_spot_here", "_law_share"]) (ns := []) (by decide +kernel)) aY.nil (.cons (.cons .nil)) (sk (by rfl) z_zip (aa (dv 0) (aa (dv 1) ah))) (fun _ _ _ _ _ => cc) (fun _ _ _ _ _ => (aj aN (au (dv 0) ae) (dv 1)))) ah))) (ao (av (aw h_law_lowest (hr.mono (by decide)) (aa (dv 2) (aa (dv 3) (aa (aD (mK rfl) (by rfl) z_sum boot_sum (aa (mT (by rfl) (by exact bB (osc := ak cO) (xs := ["_law_spot_here", "_law_share"]) (ns := []) (by decide +kernel)) aY.nil (.cons (.cons .nil)) (sk (by rfl) z_zip (aa (dv 0) (aa (dv 1) ah))) (fun _ _ _ _ _ => cc) (fun _ _ _ _ _ => (aj aN (au (dv 0) ae) (dv 1)))) ah)) ah)))))))), ?_⟩
 rintro ds Q Ed ⟨ps, ws, rfl, h⟩
 have e0 : aE ["_law_spots", "_law_shares", "_law_by", "_law_x"] [.lst false (ps.map spD), .lst false (ws.map D.int)] = ([some (.val (.lst false (ps.map spD))), some (.val (.lst false (ws.map D.int))), none, none] : Ro) := rfl
 rw [e0]; clear e0
 obtain ⟨hlw, hz, hl, hb, hw, h⟩ := h
 obtain ⟨zs, rfl, rfl⟩ := jT hlw
 rw [List.length_map] at hz hl
 have eX : sX (zs.map (·.1)) (zs.map (·.2)) = (zs.map fun z => z.1.1 * z.2).sum := by unfold sX; rw [List.zipWith_map, List.zipWith_self]
 have eY : sY (zs.map (·.1)) (zs.map (·.2)) = (zs.map fun z => z.1.2 * z.2).sum := by unfold sY; rw [List.zipWith_map, List.zipWith_self]
 rw [eX, eY] at h
 have P70 : ∀ z ∈ zs, z.1.1.natAbs * z.2.natAbs <= 2 ^ 940 /\ z.1.2.natAbs * z.2.natAbs <= 2 ^ 940 := fun z hzm => by
  have B := hb z.1 (List.mem_map.mpr ⟨z, hzm, rfl⟩)
  have w9 := Nat.le_of_lt (hw z.2 (List.mem_map.mpr ⟨z, hzm, rfl⟩)).2
  rw [show (2 : Nat) ^ 940 = 2 ^ 40 * 2 ^ 900 from Nat.pow_add 2 40 900]
  exact ⟨Nat.mul_le_mul (Nat.le_of_lt B.x) w9, Nat.mul_le_mul (Nat.le_of_lt B.y) w9⟩
 have hz3 : ∀ M : Nat, zs.length * M <= 30 * M := fun M => Nat.mul_le_mul_right _ hl
 have up : ∀ n : Nat, 30 * 2 ^ n < 2 ^ (n + 5) := fun n => by rw [Nat.pow_add]; have := Nat.pow_pos (n := n) (show 0 < 2 by decide); omega
 have sx : Bd 945 (zs.map fun z => z.1.1 * z.2).sum := by
  have := gj (M := 2 ^ 940) (zs.map fun z => z.1.1 * z.2) fun x hx => by
   obtain ⟨z, hzm, rfl⟩ := List.mem_map.mp hx
   rw [Int.natAbs_mul]; exact (P70 z hzm).1
  rw [List.length_map] at this
  exact Nat.lt_of_le_of_lt (Nat.le_trans this (hz3 _)) (up 940)
 have sy : Bd 945 (zs.map fun z => z.1.2 * z.2).sum := by
  have := gj (M := 2 ^ 940) (zs.map fun z => z.1.2 * z.2) fun x hx => by
   obtain ⟨z, hzm, rfl⟩ := List.mem_map.mp hx
   rw [Int.natAbs_mul]; exact (P70 z hzm).2
  rw [List.length_map] at this
  exact Nat.lt_of_le_of_lt (Nat.le_trans this (hz3 _)) (up 940)
 have sp : 0 < (zs.map (·.2)).sum := jr _ (by rw [List.length_map]; exact hz) fun x hx => (hw x hx).1
 have sb : Bd 905 (zs.map (·.2)).sum := by
  have := gj (M := 2 ^ 900) (zs.map (·.2)) fun x hx => Nat.le_of_lt (hw x hx).2
  rw [List.length_map] at this
  exact Nat.lt_of_le_of_lt (Nat.le_trans this (hz3 _)) (up 900)
 have zp : ∀ R : List D -> Prop, R (zs.map fun z => .tup [spD z.1, .int z.2]) -> R (List.zipWith (fun a b => D.tup [a, b]) ((zs.map (·.1)).map spD) ((zs.map (·.2)).map D.int)) := fun R q => by
  have e : List.zipWith (fun a b => D.tup [a, b]) ((zs.map (·.1)).map spD) ((zs.map (·.2)).map D.int) = zs.map fun z => .tup [spD z.1, .int z.2] := by
   induction zs with
   | nil => rfl
   | cons z zs ih => simp [List.zipWith_map, List.zipWith_self]
  rw [e]; exact q
 have cmz : ∀ z ∈ zs, CM z.1.1 z.2 /\ CM z.1.2 z.2 := fun z hzm => by
  have B := hb z.1 (List.mem_map.mpr ⟨z, hzm, rfl⟩)
  exact ⟨.inl (B.x.mono (by decide)), .inl (B.y.mono (by decide))⟩
 walk_at "rx"
 refine ⟨false, _, rfl, ?_⟩
 refine PD.lx zs (fun z => [spD z.1, .int z.2]) (fun _ => true) (fun z => .int (z.1.1 * z.2)) (fun R q => ?_) (by rw [sizeLine_eq]; omega) (fun _ => rfl) (fun y hy K hk => ?_) (fun y hy _ K hk => ?_) ?_
 ·walk_at "rx"
  exact zp R q
 ·walk_at "rx"
  exact hk
 ·have es : spD y.1 = .tup [.int y.1.1, .int y.1.2] := rfl
  rw [es]
  walk_at "rx"
  exact ⟨(cmz y hy).1, hk⟩
 rw [List.filter_eq_self.mpr (fun _ _ => rfl)]
 refine ⟨true, zs.map fun z => z.1.1 * z.2, by rw [List.map_map]; rfl, ?_⟩
 refine PD.lx zs (fun z => [spD z.1, .int z.2]) (fun _ => true) (fun z => .int (z.1.2 * z.2)) (fun R q => ?_) (by rw [sizeLine_eq]; omega) (fun _ => rfl) (fun y hy K hk => ?_) (fun y hy _ K hk => ?_) ?_
 ·walk_at "rx"
  exact zp R q
 ·walk_at "rx"
  exact hk
 ·have es : spD y.1 = .tup [.int y.1.1, .int y.1.2] := rfl
  rw [es]
  walk_at "rx"
  exact ⟨(cmz y hy).2, hk⟩
 rw [List.filter_eq_self.mpr (fun _ _ => rfl)]
 exact ⟨true, zs.map fun z => z.1.2 * z.2, by rw [List.map_map]; rfl, sp, sb.mono (by decide), sx.mono (by decide), sy.mono (by decide), h⟩
theorem sL {f : Addr} {fd : FuncData} (F : ay K "_law_in" "_law_in" iA f fd) (C : COk K mg κ) (h_law_divisor : Has P w K mg base "_law_divisor" 1 ["_law_one", "_law_other"] (cI κ)) (h_law_mixed : Has P w K mg base "_law_mixed" 3 ["_law_spots", "_law_shares"] (dG κ)) (h_law_whole : Has P w K mg base "_law_whole" 1 ["_law_found"] (gi κ)) (z_isinstance : mg "isinstance" = none) (z_len : mg "len" = none) (z_list : mg "list" = none) (z_max : mg "max" = none) (z_min : mg "min" = none) (z_set : mg "set" = none) (z_sorted : mg "sorted" = none) (z_tuple : mg "tuple" = none) : aG P w K mg base (CX1 P w) 4 f fd ["_law_found", "_law_spots", "_law_point"] (aO K (gv κ)) := by
 refine ay.okN F df (fun ds Q E h => by obtain ⟨_, _, _, _, _, rfl, _⟩ := h; rfl) fun cdv A outer s H E hr => ⟨_, (aq (aM (ck (eG (dn (gm (by rfl) z_isinstance (by rfl) z_tuple boot_tuple (.inr (.inr (.inl rfl))) (dv 0)))) (ck (az gT (aD bz (by rfl) z_len boot_len (aa (dv 0) ah)) ae) (eJ (az (qC (by exact hr.units)) (au (dv 0) ae) mW)))).pt (ao (av dm)) aC) (aq (br PassesOwn.never rfl (sj (wN (dv 0) (kP ae) kO)) (aV 3 df.nd) (aq (aM (ck (eG (dn (gm (by rfl) z_isinstance (by rfl) z_list boot_list (.inr (.inr (.inr (.inl rfl)))) (dv 3)))) (ck (az gT (aD bz (by rfl) z_len boot_len (aa (dv 3) ah)) (aD bz (by rfl) z_len boot_len (aa (au (dv 0) ae) ah))) (ck (az iv (aD bz (by rfl) z_len boot_len (aa (dv 3) ah)) ae) (eJ (az iu (aD bz (by rfl) z_len boot_len (aa (dv 3) ah)) ae))))).pt (ao (av dm)) aC) (ao (br PassesOwn.never rfl (bj (dv 3)) (aV 6 df.nd) (ao (aM (eG (dn (aw h_law_whole (hr.mono (by decide)) (aa (dv 6) ah)))) (ao (av dm)) aC)))))) (aq (aJ 4 df.nd ae) (aq (br PassesOwn.never rfl (bj (au (dv 0) ae)) (aV 5 df.nd) (ao (aJ 4 df.nd (aw h_law_divisor (hr.mono (by decide)) (aa (dv 4) (aa (dv 5) ah)))))) (aq (aM (ck (az iv (aD (jb rfl) (by rfl) z_min boot_min (aa (au (dv 0) ae) ah)) ae) (ck (az gT (dv 4) ae) (ck (az iv (aD (jb rfl) (by rfl) z_min boot_min (aa (au (dv 0) ae) ah)) ae) (eJ (az yn (aD (kK rfl) (by rfl) z_max boot_max (aa (au (dv 0) ae) ah)) (aD bz (by rfl) z_len boot_len (aa (dv 1) ah))))))).pt (ao (av dm)) aC) (aq (aM (az (qC (by exact hr.units)) (au (dv 0) ae) ((oA rfl (by rfl) z_sorted (by rfl) z_set (au (dv 0) ae))).ped) (ao (av dm)) aC) (ao (av (eE (gr (by exact hr.units)) (aw h_law_mixed (hr.mono (by decide)) (aa (de (by rfl) (by exact bB (osc := ak iA) (xs := ["_law_number"]) (ns := ["_law_spots"]) (by decide +kernel)) (aY.cons 1 aY.nil) (bj (au (dv 0) ae)) (fun _ _ _ _ _ => cc) (fun _ _ _ _ _ => (au (dv 1) (dv 0)))) (aa (au (dv 0) ae) ah))) (dv 2)))))))))), ?_⟩
 rintro ds Q Ed ⟨d, ps, h0, h1, h2, rfl, h⟩
 have e0 : aE ["_law_found", "_law_spots", "_law_point", "_law_row", "_law_by", "_law_share", "_law_number"] [d, .lst false (ps.map spD), T3 h0 h1 h2] = ([some (.val (d)), some (.val (.lst false (ps.map spD))), some (.val (T3 h0 h1 h2)), none, none, none, none] : Ro) := rfl
 rw [e0]; clear e0
 obtain ⟨hl, hb, hp, hd⟩ := h
 have sI : PyData.strOk "in" = true := by decide +kernel
 have okI : okD (.str "in") := (jk 0 _ sI).ok
 rcases hd with ⟨pk, sh, rfl, I, h⟩ | ⟨g, rfl, h⟩
 ·have ek : (pk.map fun (k : Nat) => D.int (k : Int)) = (pk.map fun (k : Nat) => (k : Int)).map D.int := by rw [List.map_map]; rfl
  rw [ek]
  have lk : (pk.map fun (k : Nat) => (k : Int)).length = pk.length := List.length_map _
  have l0 := I.l0
  have l3 := I.l3
  have ls := I.ls
  walk_at "rx"
  rw [if_pos (by simp)]
  refine ⟨okI, okI, ?_⟩
  rw [if_neg (by rw [ij]; simp)]
  refine PD.bu [pk.map fun (k : Nat) => (k : Int), sh] (fun l : List Int => D.lst false (l.map D.int)) (fun _ ρ => ∃ v3 v6 : Option Sl, ρ = [some (.val (.tup [.str "in", .lst false ((pk.map fun (k : Nat) => (k : Int)).map D.int), .lst false (sh.map D.int)])), some (.val (.lst false (ps.map spD))), some (.val (T3 h0 h1 h2)), v3, none, none, v6]) (fun R q => ?_) ⟨none, none, rfl⟩ ?_ ?_
  ·walk_at "rd"
   exact ⟨show ¬ (HT.sIx 3 0 (some 1) = 0 /\ HT.sIx 3 3 none = 3) by decide, q⟩
  ·rintro j l ρ' hj ⟨v3, v6, rfl⟩
   have ll : l.length = pk.length := by
    have := List.mem_of_getElem? hj
    simp only [List.mem_cons, List.not_mem_nil, or_false] at this
    rcases this with rfl | rfl
    ·exact lk
    ·exact ls
   walk_at "rx"
   rw [List.length_map, List.length_map, lk]
   rw [if_pos (by rw [ll]), if_neg (by omega), if_neg (by omega)]
   refine PD.bu l D.int (fun _ ρ => ∃ v6 : Option Sl, ρ = [some (.val (.tup [.str "in", .lst false ((pk.map fun (k : Nat) => (k : Int)).map D.int), .lst false (sh.map D.int)])), some (.val (.lst false (ps.map spD))), some (.val (T3 h0 h1 h2)), some (.val (.lst false (l.map D.int))), none, none, v6]) (fun R q => ?_) ⟨v6, rfl⟩ ?_ ?_
   ·walk_at "rd"
    exact q
   ·rintro i k ρ' hi ⟨v6, rfl⟩
    walk_at "rd"
    exact ⟨_, rfl⟩
   ·rintro ρ' ⟨v6, rfl⟩
    exact ⟨_, _, rfl⟩
  ·rintro ρ' ⟨v3, v6, rfl⟩
   walk_at "rx"
   refine PD.bu sh D.int (fun j ρ => ∃ v5 : Option Sl, ρ = [some (.val (.tup [.str "in", .lst false ((pk.map fun (k : Nat) => (k : Int)).map D.int), .lst false (sh.map D.int)])), some (.val (.lst false (ps.map spD))), some (.val (T3 h0 h1 h2)), v3, some (.val (.int (aU 0 (sh.take j)))), v5, v6]) (fun R q => ?_) ⟨none, rfl⟩ ?_ ?_
   ·walk_at "rd"
    exact q
   ·rintro j x ρ' hx ⟨v5, rfl⟩
    walk_at "rd"
    refine ⟨some (.val (.int x)), ?_⟩
    rw [List.take_succ, hx]
    show _ = [_, _, _, _, some (Sl.val (D.int (aU 0 (sh.take j ++ [x])))), _, _]
    rw [iT]
   ·rintro ρ' ⟨v5, rfl⟩
    rw [List.take_length, I.one]
    have pkS : (pk.map fun (k : Nat) => (k : Int)).Pairwise (· < ·) := List.pairwise_map.mpr (I.rise.imp fun {a b} q => by omega)
    have gt : ∀ k, k < ps.length -> ps[k]? = some (ps.getD k (0, 0)) := fun k hk => by
     rw [List.getD_eq_getElem?_getD, List.getElem?_eq_getElem hk]; rfl
    have okK : ∀ (b : Bool) (ns : List Int), okD (.lst b (ns.map D.int)) := fun b ns => (OkN.map (OkN.int 0)).ok
    walk_at "rx"
    refine ⟨false, sh, rfl, by omega, fun m hm _ => ?_⟩
    rw [if_neg (by have := I.pos m hm; omega)]
    refine ⟨false, pk.map fun (k : Nat) => (k : Int), rfl, by omega, fun m hm _ => ?_⟩
    rw [if_neg (by obtain ⟨k, _, rfl⟩ := List.mem_map.mp hm; omega)]
    refine .inr ⟨false, pk.map fun (k : Nat) => (k : Int), rfl, by omega, fun m hm _ => ?_⟩
    rw [List.length_map, if_neg (by obtain ⟨k, hk, rfl⟩ := List.mem_map.mp hm; have := I.lt k hk; omega)]
    unfold ly
    walk_at "rx"
    refine ⟨false, pk.map fun (k : Nat) => (k : Int), rfl, by omega, fun ms hs hmem => ?_⟩
    have em : ms = pk.map fun (k : Nat) => (k : Int) := mH ms _ hs pkS hmem
    subst em
    refine ⟨okK _ _, okK _ _, ?_⟩
    rw [if_neg (by rw [bG]; simp)]
    refine PD.comp_map pk (fun (k : Nat) => D.int (k : Int)) (fun _ => true) (fun k => spD (ps.getD k (0, 0))) (fun R q => ?_) (by rw [sizeLine_eq]; omega) (fun k hk K hK => ?_) (fun k hk _ K hK => ?_) ?_
    ·rw [<- ek]
     walk_at "rd"
     exact q
    ·walk_at "rd"
     exact hK
    ·walk_at "rd"
     exact ⟨_, bI (by rw [List.getElem?_map, gt k (I.lt k hk)]; rfl), hK⟩
    rw [List.filter_eq_self.mpr (fun _ _ => rfl)]
    have eq : pk.map (fun k => spD (ps.getD k (0, 0))) = (pk.map fun k => ps.getD k (0, 0)).map spD := by rw [List.map_map]; rfl
    rw [eq, bQ, dI, cC]
    refine ⟨by rw [List.length_map]; omega, by rw [List.length_map]; exact l0, by rw [List.length_map]; omega, fun p hp' => ?_, fun s hs' => ⟨I.pos s hs', I.bd s hs'⟩, fun g p q r hg e1 e2 e3 e4 e5 => ⟨sJ _ _ _, ?_⟩⟩
    ·obtain ⟨k, hk, rfl⟩ := List.mem_map.mp hp'
     exact hb _ (List.mem_of_getElem? (gt k (I.lt k hk)))
    ·have wp : 0 < sh.sum := jr _ (by omega) I.pos
     rw [<- e5, qH wp hp.1 I.x I.y, sT hp]
     show Q (.bl (eqD (trD (h0, h1, h2)) (trD (h0, h1, h2))))
     rw [ij]
     exact h
 ·have eg : trD g = .tup [.int g.1, .int g.2.1, .int g.2.2] := rfl
  rw [eg]
  walk_at "rx"
  rw [if_neg (by simp)]
  exact h
theorem nN {f : Addr} {fd : FuncData} (F : ay K "_law_cross" "_law_cross" gF f fd) (C : COk K mg κ)   : aG P w K mg base (CX1 P w) 1 f fd ["_law_one", "_law_two", "_law_point"] (aO K (cb κ)) := by
 refine ay.okN F i4 (fun ds Q E h => by obtain ⟨_, _, _, _, _, rfl, _⟩ := h; rfl) fun cdv A outer s H E hr => ⟨_, (aq (aJ 3 i4.nd (aj aN (aj aL (au (dv 1) ae) (au (dv 0) ae)) (aj aL (au (dv 2) ae) (aj aN (au (dv 0) ae) (au (dv 2) ae))))) (ao (av (aj aL (dv 3) (aj aN (aj aL (au (dv 1) ae) (au (dv 0) ae)) (aj aL (au (dv 2) ae) (aj aN (au (dv 0) ae) (au (dv 2) ae)))))))), ?_⟩
 rintro ds Q Ed ⟨a, b, h0, h1, h2, rfl, h⟩
 have e0 : aE ["_law_one", "_law_two", "_law_point", "_law_ahead"] [spD a, spD b, T3 h0 h1 h2] = ([some (.val (spD a)), some (.val (spD b)), some (.val (T3 h0 h1 h2)), none] : Ro) := rfl
 rw [e0]; clear e0
 obtain ⟨ha, hb, hP, h⟩ := h
 unfold spD
 walk_at "rd"
 have m1 : Bd 102 (h2 - a.2 * h0) := Bd.mono (m := 101) (hP.y.sub ((ha.y.mul hP.b).mono (by decide))) (by decide)
 have m2 : Bd 102 (h1 - a.1 * h0) := Bd.mono (m := 101) (hP.x.sub ((ha.x.mul hP.b).mono (by decide))) (by decide)
 exact ⟨cmB ha.y hP.b, cmB (hb.x.sub ha.x) m1, cmB ha.x hP.b, cmB (hb.y.sub ha.y) m2, h⟩
theorem oD {f : Addr} {fd : FuncData} (F : ay K "_law_amid" "_law_amid" fB f fd) (C : COk K mg κ) (h_law_cross : Has P w K mg base "_law_cross" 1 ["_law_one", "_law_two", "_law_point"] (cb κ)) (z_len : mg "len" = none) (z_max : mg "max" = none) (z_min : mg "min" = none) (z_range : mg "range" = none) : aG P w K mg base (CX1 P w) 2 f fd ["_law_some", "_law_point"] (aO K (d4 κ)) := by
 refine ay.okN F cP (fun ds Q E h => by obtain ⟨_, _, _, _, rfl, _⟩ := h; rfl) fun cdv A outer s H E hr => ⟨_, (aq (aM (az bo (aD bz (by rfl) z_len boot_len (aa (dv 0) ah)) ae) (ao (av (eE (gr (by exact hr.units)) (dv 1) (bE (aa ae (aa (au (au (dv 0) ae) ae) (aa (au (au (dv 0) ae) ae) ah))))))) aC) (aq (aM (az bo (aD bz (by rfl) z_len boot_len (aa (dv 0) ah)) ae) (aq (ig 3 cP.nd (by rfl) (by exact bB (osc := ak fB) (xs := ["_law_k"]) (ns := ["_law_some", "_law_point"]) (by decide +kernel)) (aY.cons 0 (aY.cons 1 aY.nil)) (cg (by rfl) z_range (aa ae ah)) (fun _ _ _ _ _ => cc) (fun _ _ _ _ _ => (aw h_law_cross (hr.mono (by decide)) (aa (au (dv 1) (aj aL (dv 0) ae)) (aa (au (dv 1) (dv 0)) (aa (dv 2) ah)))))) (ao (av (xZ (eE iu (aD (jb rfl) (by rfl) z_min boot_min (aa (dv 3) ah)) ae) (iR (eE iv (aD (kK rfl) (by rfl) z_max boot_max (aa (dv 3) ah)) ae)))))) aC) (aq (wO (dv 0) (rX (n := 2) rfl (jI (aV 4 cP.nd) (jI (aV 5 cP.nd) o2)))) (aq (aM (az gT (aw h_law_cross (hr.mono (by decide)) (aa (dv 4) (aa (dv 5) (aa (dv 1) ah)))) ae) (ao (av dm)) aC) (aq (aJ 2 cP.nd (aj aN (aj aL (au (dv 1) ae) (aj aN (au (dv 4) ae) (au (dv 1) ae))) (aj aL (aj aN (au (dv 5) ae) (au (dv 1) ae)) (au (dv 1) ae)))) (ao (av (eE iu (aj aX (dv 2) (aj aN (aj aL (au (dv 1) ae) (aj aN (au (dv 4) ae) (au (dv 1) ae))) (aj aL (aj aN (au (dv 5) ae) (au (dv 1) ae)) (au (dv 1) ae)))) ae)))))))), ?_⟩
 rintro ds Q Ed ⟨qs, h0, h1, h2, rfl, h⟩
 have e0 : aE ["_law_some", "_law_point", "_law_here", "_law_hands", "_law_one", "_law_two"] [.lst false (qs.map spD), T3 h0 h1 h2] = ([some (.val (.lst false (qs.map spD))), some (.val (T3 h0 h1 h2)), none, none, none, none] : Ro) := rfl
 rw [e0]; clear e0
 obtain ⟨hz, hl, hb, hP, hp, h⟩ := h
 rcases qs with _ | ⟨a, _ | ⟨b, _ | ⟨e, _ | ⟨z, r⟩⟩⟩⟩
 ·simp at hz
 ·walk_at "rx"
  rw [if_pos (by rfl)]
  have e1 : spD a = .tup [.int a.1, .int a.2] := rfl
  rw [e1]
  walk_at "rx"
  rw [List.map_cons, List.map_nil, qR] at h
  have e : decide (arS (h0, h1, h2) a = (0, 0)) = (decide (h0 = 1) && (decide (h1 = a.1) && decide (h2 = a.2))) := by
   rw [<- Bool.decide_and, <- Bool.decide_and]
   apply decide_eq_decide.mpr
   unfold arS
   rw [Prod.mk.injEq]
   dsimp only
   constructor
   ·rintro ⟨q1, q2⟩
    have d1 : h0 ∣ h1 := ⟨a.1, by omega⟩
    have d2 : h0 ∣ h2 := ⟨a.2, by omega⟩
    have one := wc hp d1 d2
    subst one
    refine ⟨rfl, ?_, ?_⟩ <;> omega
   ·rintro ⟨q0, q1, q2⟩
    subst q0 q1 q2
    constructor <;> omega
  rw [e] at h
  exact ⟨sz3 _ _ _, h⟩
 ·walk_at "rx"
  have ha := hb a (by simp)
  have hb' := hb b (by simp)
  have e1 : spD a = .tup [.int a.1, .int a.2] := rfl
  have e2 : spD b = .tup [.int b.1, .int b.2] := rfl
  rw [if_neg (by simp), if_neg (by simp)]
  walk_at "rx"
  refine ⟨ha, hb', hP, ?_⟩
  rw [List.map_cons, List.map_cons, List.map_nil, qS] at h
  have ec := j7 a b (h0, h1, h2)
  have sg := sgn_mul (u := crF a b (h0, h1, h2)) (show 0 < h0 from hp.1)
  split
  ·rename_i c
   have t0 : tn (arS (h0, h1, h2) a) (arS (h0, h1, h2) b) = 0 := by rw [ec]; exact sg.2.2.mpr c
   rw [e1, e2]
   walk_at "rx"
   have m1 : Bd 102 (h1 - a.1 * h0) := Bd.mono (m := 101) (hP.x.sub ((ha.x.mul hP.b).mono (by decide))) (by decide)
   have m2 : Bd 102 (b.1 * h0 - h1) := Bd.mono (m := 101) (((hb'.x.mul hP.b).mono (by decide)).sub hP.x) (by decide)
   have m3 : Bd 102 (h2 - a.2 * h0) := Bd.mono (m := 101) (hP.y.sub ((ha.y.mul hP.b).mono (by decide))) (by decide)
   have m4 : Bd 102 (b.2 * h0 - h2) := Bd.mono (m := 101) (((hb'.y.mul hP.b).mono (by decide)).sub hP.y) (by decide)
   refine ⟨cmB ha.x hP.b, cmB hb'.x hP.b, cmB m1 m2, cmB ha.y hP.b, cmB hb'.y hP.b, cmB m3 m4, ?_⟩
   have ed : (h1 - a.1 * h0) * (b.1 * h0 - h1) + (h2 - a.2 * h0) * (b.2 * h0 - h2) = - dt2 (arS (h0, h1, h2) a) (arS (h0, h1, h2) b) := by unfold dt2 arS; grind
   rw [ed]
   rw [show decide (0 < - dt2 (arS (h0, h1, h2) a) (arS (h0, h1, h2) b)) = decide (tn (arS (h0, h1, h2) a) (arS (h0, h1, h2) b) = 0 /\ dt2 (arS (h0, h1, h2) a) (arS (h0, h1, h2) b) < 0) from decide_eq_decide.mpr ⟨fun q => ⟨t0, by omega⟩, fun q => by omega⟩]
   exact h
  ·rename_i c
   rw [decide_eq_false (fun z => c (by rw [ec] at z; exact sg.2.2.mp z.1))] at h
   exact h
 ·have ha := hb a (by simp)
  have hb' := hb b (by simp)
  have he := hb e (by simp)
  walk_at "rx"
  rw [if_neg (by simp), if_pos (by simp)]
  refine PD.comp_map [0, 1, 2] (fun (k : Nat) => D.int (k : Int)) (fun _ => true) (fun k => D.int (if k = 0 then crF e a (h0, h1, h2) else if k = 1 then crF a b (h0, h1, h2) else crF b e (h0, h1, h2))) (fun R q => ?_) (by rw [sizeLine_eq]; decide) (fun k hk K hK => ?_) (fun k hk _ K hK => ?_) ?_
  ·walk_at "rd"
   exact ⟨⟨by decide, by decide⟩, q⟩
  ·walk_at "rd"
   exact hK
  ·simp only [List.mem_cons, List.not_mem_nil, or_false] at hk
   rcases hk with rfl | rfl | rfl
   ·walk_at "rd"
    refine ⟨_, rfl, _, rfl, ?_⟩
    show cb κ [spD e, spD a, T3 h0 h1 h2] _ _
    rw [bO]
    exact ⟨he, ha, hP, hK⟩
   ·walk_at "rd"
    refine ⟨_, rfl, _, rfl, ?_⟩
    show cb κ [spD a, spD b, T3 h0 h1 h2] _ _
    rw [bO]
    exact ⟨ha, hb', hP, hK⟩
   ·walk_at "rd"
    refine ⟨_, rfl, _, rfl, ?_⟩
    show cb κ [spD b, spD e, T3 h0 h1 h2] _ _
    rw [bO]
    exact ⟨hb', he, hP, hK⟩
  ·have c1 := j7 e a (h0, h1, h2)
   have c2 := j7 a b (h0, h1, h2)
   have c3 := j7 b e (h0, h1, h2)
   have hp0 : 0 < h0 := hp.1
   rw [List.map_cons, List.map_cons, List.map_cons, List.map_nil, qU, c1, c2, c3] at h
   have s1 := sgn_mul (u := crF e a (h0, h1, h2)) hp0
   have s2 := sgn_mul (u := crF a b (h0, h1, h2)) hp0
   have s3 := sgn_mul (u := crF b e (h0, h1, h2)) hp0
   generalize crF e a (h0, h1, h2) = u1 at *
   generalize crF a b (h0, h1, h2) = u2 at *
   generalize crF b e (h0, h1, h2) = u3 at *
   generalize h0 * u1 = w1 at *
   generalize h0 * u2 = w2 at *
   generalize h0 * u3 = w3 at *
   refine ⟨true, [u1, u2, u3], rfl, by simp, fun m hm hle => ?_⟩
   have l1 := hle u1 (by simp)
   have l2 := hle u2 (by simp)
   have l3 := hle u3 (by simp)
   split
   ·rename_i c
    rw [decide_eq_true (Or.inl ⟨by omega, by omega, by omega⟩)] at h
    exact h
   ·rename_i c
    refine .inr ⟨true, [u1, u2, u3], rfl, by simp, fun M hM hge => ?_⟩
    have g1 := hge u1 (by simp)
    have g2 := hge u2 (by simp)
    have g3 := hge u3 (by simp)
    have hm' : m = u1 ∨ m = u2 ∨ m = u3 := by simpa using hm
    have hM' : M = u1 ∨ M = u2 ∨ M = u3 := by simpa using hM
    rw [show decide (M < 0) = decide ((0 < w3 /\ 0 < w1 /\ 0 < w2) ∨ (w3 < 0 /\ w1 < 0 /\ w2 < 0)) from decide_eq_decide.mpr ⟨fun q => .inr ⟨by omega, by omega, by omega⟩, fun q => by omega⟩]
    exact h
 ·simp at hl
theorem l9 {f : Addr} {fd : FuncData} (F : ay K "_law_lists" "_law_lists" fO f fd) (C : COk K mg κ)   : aG P w K mg base (CX1 P w) 1 f fd ["_law_many", "_law_long"] (aO K (eV κ)) := by
 refine ay.okN F iI (fun ds Q E h => by obtain ⟨_, _, rfl, _⟩ := h; rfl) fun cdv A outer s H E hr => ⟨_, (aq (aM (az bo (dv 1) ae) (ao (av (aS (aa (aS ah) ah)))) aC) (aq (gM 2 iI.nd ah) (aq mZ (cF 2 (ao (av (dv 2))))))), ?_⟩
 rintro ds Q Ed ⟨n, s, rfl, h⟩
 have e0 : aE ["_law_many", "_law_long", "_law_found", "_law_row", "_law_k"] [.int n, .int s] = ([some (.val (.int n)), some (.val (.int s)), none, none, none] : Ro) := rfl
 rw [e0]; clear e0
 obtain ⟨m, t, rfl, rfl, hm, ht, h⟩ := h
 obtain rfl : t = 0 := by omega
 walk_at "rx"
 rw [if_pos (by decide)]
 exact ⟨Nat.zero_le _, sz1 _, h⟩
theorem md {f : Addr} {fd : FuncData} (F : ay K "_law_lists" "_law_lists" fP f fd) (C : COk K mg κ) (h_law_lists0 : Has P w K mg base "_law_lists" 1 ["_law_many", "_law_long"] (eV κ)) (z_range : mg "range" = none) : aG P w K mg base (CX1 P w) 2 f fd ["_law_many", "_law_long"] (aO K (eW κ)) := by
 refine ay.okN F cV (fun ds Q E h => by obtain ⟨_, _, rfl, _⟩ := h; rfl) fun cdv A outer s H E hr => ⟨_, (aq (aM (az bo (dv 1) ae) (ao (av (aS (aa (aS ah) ah)))) aC) (aq (gM 2 cV.nd ah) (aq (br PassesOwn.never rfl (bj (aw h_law_lists0 (hr.mono (by decide)) (aa (dv 0) (aa (aj aL (dv 1) ae) ah)))) (aV 3 cV.nd) (ao (br PassesOwn.never rfl (cg (by rfl) z_range (aa (dv 0) ah)) (aV 4 cV.nd) (ao (aM (ck (az (gr (by exact hr.units)) (dv 3) (aS ah)) (eJ (az iu (dv 4) (au (dv 3) (fK ae))))).pt (ao (gn 2 (aj aX (dv 3) (aS (aa (dv 4) ah))))) aC))))) (cF 2 (ao (av (dv 2))))))), ?_⟩
 rintro ds Q Ed ⟨n, s, rfl, h⟩
 have e0 : aE ["_law_many", "_law_long", "_law_found", "_law_row", "_law_k"] [.int n, .int s] = ([some (.val (.int n)), some (.val (.int s)), none, none, none] : Ro) := rfl
 rw [e0]; clear e0
 obtain ⟨m, t, rfl, rfl, hm, ht, h⟩ := h
 have sz : ∀ j, j <= 3 -> (lev m j).length <= 216000 := fun j hj => Nat.le_trans (gR m j) (Nat.le_trans (Nat.pow_le_pow_left hm j) (Nat.le_trans (Nat.pow_le_pow_right (by decide) hj) (by decide)))
 walk_at "rx"
 by_cases h0 : t = 0
 ·subst h0
  rw [if_pos (by decide)]
  exact ⟨Nat.zero_le _, sz1 _, h⟩
 ·obtain ⟨j, rfl⟩ : ∃ j, t = j + 1 := ⟨t - 1, by omega⟩
  rw [if_neg (by omega)]
  refine ⟨Nat.zero_le _, ?_⟩
  refine PD.jh (lev m j) pkD (fun done ρ => ∃ v3 v4 : Option Sl, ρ = [some (.val (.int m)), some (.val (.int ((j + 1 : Nat) : Int))), some (.own ((done.flatMap (nxt m)).map pkD)), v3, v4]) (fun R q => ?_) ⟨none, none, rfl⟩ ?_ ?_
  ·walk_at "rx"
   exact ⟨m, j, rfl, by omega, hm, by omega, q⟩
  ·rintro done pk ρ2 hpk hlt ⟨v3, v4, rfl⟩
   obtain ⟨hlen, hlt'⟩ := bZ hpk
   have hf : ax pk <= m := by
    unfold ax
    cases e : pk.getLast? with
    | none => exact Nat.zero_le _
    | some l => have := hlt' l (List.mem_of_getLast? e); exact this
   have dl : done.length * m <= 216000 * 60 := Nat.mul_le_mul (Nat.le_trans (Nat.le_of_lt hlt) (sz j (by omega))) hm
   have fl := fL m done
   walk_at "rx"
   refine PD.bu (List.range' 0 m) (fun (k : Nat) => D.int (k : Int)) (fun i ρ => ∃ v4 : Option Sl, ρ = [some (.val (.int m)), some (.val (.int ((j + 1 : Nat) : Int))), some (.own ((done.flatMap (nxt m)).map pkD ++ (((List.range' 0 i).filter fun k => decide (ax pk <= k)).map fun k => pkD (pk ++ [k])))), some (.val (pkD pk)), v4]) (fun R q => ?_) ⟨v4, by simp⟩ ?_ ?_
   ·walk_at "rd"
    rw [kZ]
    exact ⟨⟨by omega, by omega⟩, q⟩
   ·rintro i k ρ' hi ⟨v4, rfl⟩
    obtain ⟨hi', ei⟩ := List.getElem?_eq_some_iff.mp hi
    rw [List.length_range'] at hi'
    rw [List.getElem_range'] at ei
    obtain rfl : k = i := by omega
    have okK : ∀ (b : Bool) (r : List Nat), okD (.lst b (r.map fun (k : Nat) => D.int (k : Int))) := fun b r => by
     have e : (r.map fun (k : Nat) => D.int (k : Int)) = (r.map fun (k : Nat) => (k : Int)).map D.int := by rw [List.map_map]; rfl
     rw [e]
     exact (OkN.map (OkN.int 0)).ok
    have rs : List.range' 0 (k + 1) = List.range' 0 k ++ [k] := by
     have := List.range'_append_1 (s := 0) (m := k) (n := 1)
     rw [Nat.zero_add] at this
     exact this.symm
    have szk : ((done.flatMap (nxt m)).map pkD ++ ((List.range' 0 k).filter fun i => decide (ax pk <= i)).map fun i => pkD (pk ++ [i])).length < sizeLine := by
     have := List.length_filter_le (fun i => decide (ax pk <= i)) (List.range' 0 k)
     rw [List.length_range'] at this
     rw [List.length_append, List.length_map, List.length_map, sizeLine_eq]
     omega
    have yes : ax pk <= k -> [D.int (k : Int)].length <= sizeLine /\ cB (pkD pk) (D.lst true [D.int k]) (fun d => ((done.flatMap (nxt m)).map pkD ++ ((List.range' 0 k).filter fun i => decide (ax pk <= i)).map fun i => pkD (pk ++ [i])).length < sizeLine /\ ∃ v4 : Option Sl, ([some (Sl.val (D.int m)), some (Sl.val (D.int ((j + 1 : Nat) : Int))), some (Sl.own (((done.flatMap (nxt m)).map pkD ++ ((List.range' 0 k).filter fun i => decide (ax pk <= i)).map fun i => pkD (pk ++ [i])) ++ [d])), some (Sl.val (pkD pk)), some (Sl.val (D.int k))] : Ro) = [some (Sl.val (D.int m)), some (Sl.val (D.int ((j + 1 : Nat) : Int))), some (Sl.own ((done.flatMap (nxt m)).map pkD ++ ((List.range' 0 (k + 1)).filter fun i => decide (ax pk <= i)).map fun i => pkD (pk ++ [i]))), some (Sl.val (pkD pk)), v4]) := fun c => by
     have el : pkD (pk ++ [k]) = .lst true ((pk.map fun (i : Nat) => D.int (i : Int)) ++ [D.int k]) := by unfold pkD; rw [List.map_append]; rfl
     have ed : pkD pk = .lst true (pk.map fun (i : Nat) => D.int (i : Int)) := rfl
     rw [show cB (pkD pk) = cB (.lst true (pk.map fun (i : Nat) => D.int (i : Int))) from rfl]
     walk_at "rd"
     refine ⟨sz1 _, by rw [List.length_map, sizeLine_eq, hlen]; show j + 1 <= _; omega, szk, some (.val (.int k)), ?_⟩
     rw [rs, List.filter_append, List.map_append, List.append_assoc, List.filter_cons_of_pos (by simpa using c), List.filter_nil, List.map_cons, List.map_nil, el]
    have no : ¬ ax pk <= k -> ∃ v4 : Option Sl, ([some (Sl.val (D.int m)), some (Sl.val (D.int ((j + 1 : Nat) : Int))), some (Sl.own ((done.flatMap (nxt m)).map pkD ++ ((List.range' 0 k).filter fun i => decide (ax pk <= i)).map fun i => pkD (pk ++ [i]))), some (Sl.val (pkD pk)), some (Sl.val (D.int k))] : Ro) = [some (Sl.val (D.int m)), some (Sl.val (D.int ((j + 1 : Nat) : Int))), some (Sl.own ((done.flatMap (nxt m)).map pkD ++ ((List.range' 0 (k + 1)).filter fun i => decide (ax pk <= i)).map fun i => pkD (pk ++ [i]))), some (Sl.val (pkD pk)), v4] := fun c => by
     refine ⟨some (.val (.int k)), ?_⟩
     rw [rs, List.filter_append, List.filter_cons_of_neg (by simpa using c), List.filter_nil, List.append_nil]
    walk_at "rx"
    refine ⟨Nat.zero_le _, okK _ _, okK true [], ?_⟩
    cases pk with
    | nil =>
     rw [if_pos (show eqD (pkD []) (D.lst true []) = true from bG _ _ _)]
     exact yes (Nat.zero_le _)
    | cons z r =>
     rw [if_neg (by show ¬ eqD (D.lst true (D.int z :: r.map fun (i : Nat) => D.int (i : Int))) (D.lst true []) = true; rw [gO, kS]; simp)]
     show jK (.lst true ((z :: r).map fun (k : Nat) => D.int (k : Int))) _ _
     rw [dP]
     refine ja (by simp) ?_
     walk_at "rx"
     by_cases c : ax (z :: r) <= k
     ·rw [if_pos (by omega)]
      exact yes c
     ·rw [if_neg (by omega)]
      exact no c
   ·rintro ρ' ⟨v4, rfl⟩
    rw [List.length_range', iS _ _ hf]
    refine ⟨some (.val (pkD pk)), v4, ?_⟩
    rw [List.flatMap_append, List.map_append, List.flatMap_singleton, show (nxt m pk).map pkD = (List.range' (ax pk) (m - ax pk)).map fun k => pkD (pk ++ [k]) from by unfold nxt; rw [List.map_map]; rfl]
  ·rintro ρ2 ⟨v3, v4, rfl⟩
   walk_at "rd"
   exact h
theorem me {f : Addr} {fd : FuncData} (F : ay K "_law_lists" "_law_lists" fQ f fd) (C : COk K mg κ) (h_law_lists1 : Has P w K mg base "_law_lists" 2 ["_law_many", "_law_long"] (eW κ)) (z_range : mg "range" = none) : aG P w K mg base (CX1 P w) 3 f fd ["_law_many", "_law_long"] (aO K (eZ κ)) := by
 refine ay.okN F cW (fun ds Q E h => by obtain ⟨_, _, rfl, _⟩ := h; rfl) fun cdv A outer s H E hr => ⟨_, (aq (aM (az bo (dv 1) ae) (ao (av (aS (aa (aS ah) ah)))) aC) (aq (gM 2 cW.nd ah) (aq (br PassesOwn.never rfl (bj (aw h_law_lists1 (hr.mono (by decide)) (aa (dv 0) (aa (aj aL (dv 1) ae) ah)))) (aV 3 cW.nd) (ao (br PassesOwn.never rfl (cg (by rfl) z_range (aa (dv 0) ah)) (aV 4 cW.nd) (ao (aM (ck (az (gr (by exact hr.units)) (dv 3) (aS ah)) (eJ (az iu (dv 4) (au (dv 3) (fK ae))))).pt (ao (gn 2 (aj aX (dv 3) (aS (aa (dv 4) ah))))) aC))))) (cF 2 (ao (av (dv 2))))))), ?_⟩
 rintro ds Q Ed ⟨n, s, rfl, h⟩
 have e0 : aE ["_law_many", "_law_long", "_law_found", "_law_row", "_law_k"] [.int n, .int s] = ([some (.val (.int n)), some (.val (.int s)), none, none, none] : Ro) := rfl
 rw [e0]; clear e0
 obtain ⟨m, t, rfl, rfl, hm, ht, h⟩ := h
 have sz : ∀ j, j <= 3 -> (lev m j).length <= 216000 := fun j hj => Nat.le_trans (gR m j) (Nat.le_trans (Nat.pow_le_pow_left hm j) (Nat.le_trans (Nat.pow_le_pow_right (by decide) hj) (by decide)))
 walk_at "rx"
 by_cases h0 : t = 0
 ·subst h0
  rw [if_pos (by decide)]
  exact ⟨Nat.zero_le _, sz1 _, h⟩
 ·obtain ⟨j, rfl⟩ : ∃ j, t = j + 1 := ⟨t - 1, by omega⟩
  rw [if_neg (by omega)]
  refine ⟨Nat.zero_le _, ?_⟩
  refine PD.jh (lev m j) pkD (fun done ρ => ∃ v3 v4 : Option Sl, ρ = [some (.val (.int m)), some (.val (.int ((j + 1 : Nat) : Int))), some (.own ((done.flatMap (nxt m)).map pkD)), v3, v4]) (fun R q => ?_) ⟨none, none, rfl⟩ ?_ ?_
  ·walk_at "rx"
   exact ⟨m, j, rfl, by omega, hm, by omega, q⟩
  ·rintro done pk ρ2 hpk hlt ⟨v3, v4, rfl⟩
   obtain ⟨hlen, hlt'⟩ := bZ hpk
   have hf : ax pk <= m := by
    unfold ax
    cases e : pk.getLast? with
    | none => exact Nat.zero_le _
    | some l => have := hlt' l (List.mem_of_getLast? e); exact this
   have dl : done.length * m <= 216000 * 60 := Nat.mul_le_mul (Nat.le_trans (Nat.le_of_lt hlt) (sz j (by omega))) hm
   have fl := fL m done
   walk_at "rx"
   refine PD.bu (List.range' 0 m) (fun (k : Nat) => D.int (k : Int)) (fun i ρ => ∃ v4 : Option Sl, ρ = [some (.val (.int m)), some (.val (.int ((j + 1 : Nat) : Int))), some (.own ((done.flatMap (nxt m)).map pkD ++ (((List.range' 0 i).filter fun k => decide (ax pk <= k)).map fun k => pkD (pk ++ [k])))), some (.val (pkD pk)), v4]) (fun R q => ?_) ⟨v4, by simp⟩ ?_ ?_
   ·walk_at "rd"
    rw [kZ]
    exact ⟨⟨by omega, by omega⟩, q⟩
   ·rintro i k ρ' hi ⟨v4, rfl⟩
    obtain ⟨hi', ei⟩ := List.getElem?_eq_some_iff.mp hi
    rw [List.length_range'] at hi'
    rw [List.getElem_range'] at ei
    obtain rfl : k = i := by omega
    have okK : ∀ (b : Bool) (r : List Nat), okD (.lst b (r.map fun (k : Nat) => D.int (k : Int))) := fun b r => by
     have e : (r.map fun (k : Nat) => D.int (k : Int)) = (r.map fun (k : Nat) => (k : Int)).map D.int := by rw [List.map_map]; rfl
     rw [e]
     exact (OkN.map (OkN.int 0)).ok
    have rs : List.range' 0 (k + 1) = List.range' 0 k ++ [k] := by
     have := List.range'_append_1 (s := 0) (m := k) (n := 1)
     rw [Nat.zero_add] at this
     exact this.symm
    have szk : ((done.flatMap (nxt m)).map pkD ++ ((List.range' 0 k).filter fun i => decide (ax pk <= i)).map fun i => pkD (pk ++ [i])).length < sizeLine := by
     have := List.length_filter_le (fun i => decide (ax pk <= i)) (List.range' 0 k)
     rw [List.length_range'] at this
     rw [List.length_append, List.length_map, List.length_map, sizeLine_eq]
     omega
    have yes : ax pk <= k -> [D.int (k : Int)].length <= sizeLine /\ cB (pkD pk) (D.lst true [D.int k]) (fun d => ((done.flatMap (nxt m)).map pkD ++ ((List.range' 0 k).filter fun i => decide (ax pk <= i)).map fun i => pkD (pk ++ [i])).length < sizeLine /\ ∃ v4 : Option Sl, ([some (Sl.val (D.int m)), some (Sl.val (D.int ((j + 1 : Nat) : Int))), some (Sl.own (((done.flatMap (nxt m)).map pkD ++ ((List.range' 0 k).filter fun i => decide (ax pk <= i)).map fun i => pkD (pk ++ [i])) ++ [d])), some (Sl.val (pkD pk)), some (Sl.val (D.int k))] : Ro) = [some (Sl.val (D.int m)), some (Sl.val (D.int ((j + 1 : Nat) : Int))), some (Sl.own ((done.flatMap (nxt m)).map pkD ++ ((List.range' 0 (k + 1)).filter fun i => decide (ax pk <= i)).map fun i => pkD (pk ++ [i]))), some (Sl.val (pkD pk)), v4]) := fun c => by
     have el : pkD (pk ++ [k]) = .lst true ((pk.map fun (i : Nat) => D.int (i : Int)) ++ [D.int k]) := by unfold pkD; rw [List.map_append]; rfl
     have ed : pkD pk = .lst true (pk.map fun (i : Nat) => D.int (i : Int)) := rfl
     rw [show cB (pkD pk) = cB (.lst true (pk.map fun (i : Nat) => D.int (i : Int))) from rfl]
     walk_at "rd"
     refine ⟨sz1 _, by rw [List.length_map, sizeLine_eq, hlen]; show j + 1 <= _; omega, szk, some (.val (.int k)), ?_⟩
     rw [rs, List.filter_append, List.map_append, List.append_assoc, List.filter_cons_of_pos (by simpa using c), List.filter_nil, List.map_cons, List.map_nil, el]
    have no : ¬ ax pk <= k -> ∃ v4 : Option Sl, ([some (Sl.val (D.int m)), some (Sl.val (D.int ((j + 1 : Nat) : Int))), some (Sl.own ((done.flatMap (nxt m)).map pkD ++ ((List.range' 0 k).filter fun i => decide (ax pk <= i)).map fun i => pkD (pk ++ [i]))), some (Sl.val (pkD pk)), some (Sl.val (D.int k))] : Ro) = [some (Sl.val (D.int m)), some (Sl.val (D.int ((j + 1 : Nat) : Int))), some (Sl.own ((done.flatMap (nxt m)).map pkD ++ ((List.range' 0 (k + 1)).filter fun i => decide (ax pk <= i)).map fun i => pkD (pk ++ [i]))), some (Sl.val (pkD pk)), v4] := fun c => by
     refine ⟨some (.val (.int k)), ?_⟩
     rw [rs, List.filter_append, List.filter_cons_of_neg (by simpa using c), List.filter_nil, List.append_nil]
    walk_at "rx"
    refine ⟨Nat.zero_le _, okK _ _, okK true [], ?_⟩
    cases pk with
    | nil =>
     rw [if_pos (show eqD (pkD []) (D.lst true []) = true from bG _ _ _)]
     exact yes (Nat.zero_le _)
    | cons z r =>
     rw [if_neg (by show ¬ eqD (D.lst true (D.int z :: r.map fun (i : Nat) => D.int (i : Int))) (D.lst true []) = true; rw [gO, kS]; simp)]
     show jK (.lst true ((z :: r).map fun (k : Nat) => D.int (k : Int))) _ _
     rw [dP]
     refine ja (by simp) ?_
     walk_at "rx"
     by_cases c : ax (z :: r) <= k
     ·rw [if_pos (by omega)]
      exact yes c
     ·rw [if_neg (by omega)]
      exact no c
   ·rintro ρ' ⟨v4, rfl⟩
    rw [List.length_range', iS _ _ hf]
    refine ⟨some (.val (pkD pk)), v4, ?_⟩
    rw [List.flatMap_append, List.map_append, List.flatMap_singleton, show (nxt m pk).map pkD = (List.range' (ax pk) (m - ax pk)).map fun k => pkD (pk ++ [k]) from by unfold nxt; rw [List.map_map]; rfl]
  ·rintro ρ2 ⟨v3, v4, rfl⟩
   walk_at "rd"
   exact h
theorem mf {f : Addr} {fd : FuncData} (F : ay K "_law_lists" "_law_lists" fR f fd) (C : COk K mg κ) (h_law_lists2 : Has P w K mg base "_law_lists" 3 ["_law_many", "_law_long"] (eZ κ)) (z_range : mg "range" = none) : aG P w K mg base (CX1 P w) 4 f fd ["_law_many", "_law_long"] (aO K (fb κ)) := by
 refine ay.okN F cX (fun ds Q E h => by obtain ⟨_, _, rfl, _⟩ := h; rfl) fun cdv A outer s H E hr => ⟨_, (aq (aM (az bo (dv 1) ae) (ao (av (aS (aa (aS ah) ah)))) aC) (aq (gM 2 cX.nd ah) (aq (br PassesOwn.never rfl (bj (aw h_law_lists2 (hr.mono (by decide)) (aa (dv 0) (aa (aj aL (dv 1) ae) ah)))) (aV 3 cX.nd) (ao (br PassesOwn.never rfl (cg (by rfl) z_range (aa (dv 0) ah)) (aV 4 cX.nd) (ao (aM (ck (az (gr (by exact hr.units)) (dv 3) (aS ah)) (eJ (az iu (dv 4) (au (dv 3) (fK ae))))).pt (ao (gn 2 (aj aX (dv 3) (aS (aa (dv 4) ah))))) aC))))) (cF 2 (ao (av (dv 2))))))), ?_⟩
 rintro ds Q Ed ⟨n, s, rfl, h⟩
 have e0 : aE ["_law_many", "_law_long", "_law_found", "_law_row", "_law_k"] [.int n, .int s] = ([some (.val (.int n)), some (.val (.int s)), none, none, none] : Ro) := rfl
 rw [e0]; clear e0
 obtain ⟨m, t, rfl, rfl, hm, ht, h⟩ := h
 have sz : ∀ j, j <= 3 -> (lev m j).length <= 216000 := fun j hj => Nat.le_trans (gR m j) (Nat.le_trans (Nat.pow_le_pow_left hm j) (Nat.le_trans (Nat.pow_le_pow_right (by decide) hj) (by decide)))
 walk_at "rx"
 by_cases h0 : t = 0
 ·subst h0
  rw [if_pos (by decide)]
  exact ⟨Nat.zero_le _, sz1 _, h⟩
 ·obtain ⟨j, rfl⟩ : ∃ j, t = j + 1 := ⟨t - 1, by omega⟩
  rw [if_neg (by omega)]
  refine ⟨Nat.zero_le _, ?_⟩
  refine PD.jh (lev m j) pkD (fun done ρ => ∃ v3 v4 : Option Sl, ρ = [some (.val (.int m)), some (.val (.int ((j + 1 : Nat) : Int))), some (.own ((done.flatMap (nxt m)).map pkD)), v3, v4]) (fun R q => ?_) ⟨none, none, rfl⟩ ?_ ?_
  ·walk_at "rx"
   exact ⟨m, j, rfl, by omega, hm, by omega, q⟩
  ·rintro done pk ρ2 hpk hlt ⟨v3, v4, rfl⟩
   obtain ⟨hlen, hlt'⟩ := bZ hpk
   have hf : ax pk <= m := by
    unfold ax
    cases e : pk.getLast? with
    | none => exact Nat.zero_le _
    | some l => have := hlt' l (List.mem_of_getLast? e); exact this
   have dl : done.length * m <= 216000 * 60 := Nat.mul_le_mul (Nat.le_trans (Nat.le_of_lt hlt) (sz j (by omega))) hm
   have fl := fL m done
   walk_at "rx"
   refine PD.bu (List.range' 0 m) (fun (k : Nat) => D.int (k : Int)) (fun i ρ => ∃ v4 : Option Sl, ρ = [some (.val (.int m)), some (.val (.int ((j + 1 : Nat) : Int))), some (.own ((done.flatMap (nxt m)).map pkD ++ (((List.range' 0 i).filter fun k => decide (ax pk <= k)).map fun k => pkD (pk ++ [k])))), some (.val (pkD pk)), v4]) (fun R q => ?_) ⟨v4, by simp⟩ ?_ ?_
   ·walk_at "rd"
    rw [kZ]
    exact ⟨⟨by omega, by omega⟩, q⟩
   ·rintro i k ρ' hi ⟨v4, rfl⟩
    obtain ⟨hi', ei⟩ := List.getElem?_eq_some_iff.mp hi
    rw [List.length_range'] at hi'
    rw [List.getElem_range'] at ei
    obtain rfl : k = i := by omega
    have okK : ∀ (b : Bool) (r : List Nat), okD (.lst b (r.map fun (k : Nat) => D.int (k : Int))) := fun b r => by
     have e : (r.map fun (k : Nat) => D.int (k : Int)) = (r.map fun (k : Nat) => (k : Int)).map D.int := by rw [List.map_map]; rfl
     rw [e]
     exact (OkN.map (OkN.int 0)).ok
    have rs : List.range' 0 (k + 1) = List.range' 0 k ++ [k] := by
     have := List.range'_append_1 (s := 0) (m := k) (n := 1)
     rw [Nat.zero_add] at this
     exact this.symm
    have szk : ((done.flatMap (nxt m)).map pkD ++ ((List.range' 0 k).filter fun i => decide (ax pk <= i)).map fun i => pkD (pk ++ [i])).length < sizeLine := by
     have := List.length_filter_le (fun i => decide (ax pk <= i)) (List.range' 0 k)
     rw [List.length_range'] at this
     rw [List.length_append, List.length_map, List.length_map, sizeLine_eq]
     omega
    have yes : ax pk <= k -> [D.int (k : Int)].length <= sizeLine /\ cB (pkD pk) (D.lst true [D.int k]) (fun d => ((done.flatMap (nxt m)).map pkD ++ ((List.range' 0 k).filter fun i => decide (ax pk <= i)).map fun i => pkD (pk ++ [i])).length < sizeLine /\ ∃ v4 : Option Sl, ([some (Sl.val (D.int m)), some (Sl.val (D.int ((j + 1 : Nat) : Int))), some (Sl.own (((done.flatMap (nxt m)).map pkD ++ ((List.range' 0 k).filter fun i => decide (ax pk <= i)).map fun i => pkD (pk ++ [i])) ++ [d])), some (Sl.val (pkD pk)), some (Sl.val (D.int k))] : Ro) = [some (Sl.val (D.int m)), some (Sl.val (D.int ((j + 1 : Nat) : Int))), some (Sl.own ((done.flatMap (nxt m)).map pkD ++ ((List.range' 0 (k + 1)).filter fun i => decide (ax pk <= i)).map fun i => pkD (pk ++ [i]))), some (Sl.val (pkD pk)), v4]) := fun c => by
     have el : pkD (pk ++ [k]) = .lst true ((pk.map fun (i : Nat) => D.int (i : Int)) ++ [D.int k]) := by unfold pkD; rw [List.map_append]; rfl
     have ed : pkD pk = .lst true (pk.map fun (i : Nat) => D.int (i : Int)) := rfl
     rw [show cB (pkD pk) = cB (.lst true (pk.map fun (i : Nat) => D.int (i : Int))) from rfl]
     walk_at "rd"
     refine ⟨sz1 _, by rw [List.length_map, sizeLine_eq, hlen]; show j + 1 <= _; omega, szk, some (.val (.int k)), ?_⟩
     rw [rs, List.filter_append, List.map_append, List.append_assoc, List.filter_cons_of_pos (by simpa using c), List.filter_nil, List.map_cons, List.map_nil, el]
    have no : ¬ ax pk <= k -> ∃ v4 : Option Sl, ([some (Sl.val (D.int m)), some (Sl.val (D.int ((j + 1 : Nat) : Int))), some (Sl.own ((done.flatMap (nxt m)).map pkD ++ ((List.range' 0 k).filter fun i => decide (ax pk <= i)).map fun i => pkD (pk ++ [i]))), some (Sl.val (pkD pk)), some (Sl.val (D.int k))] : Ro) = [some (Sl.val (D.int m)), some (Sl.val (D.int ((j + 1 : Nat) : Int))), some (Sl.own ((done.flatMap (nxt m)).map pkD ++ ((List.range' 0 (k + 1)).filter fun i => decide (ax pk <= i)).map fun i => pkD (pk ++ [i]))), some (Sl.val (pkD pk)), v4] := fun c => by
     refine ⟨some (.val (.int k)), ?_⟩
     rw [rs, List.filter_append, List.filter_cons_of_neg (by simpa using c), List.filter_nil, List.append_nil]
    walk_at "rx"
    refine ⟨Nat.zero_le _, okK _ _, okK true [], ?_⟩
    cases pk with
    | nil =>
     rw [if_pos (show eqD (pkD []) (D.lst true []) = true from bG _ _ _)]
     exact yes (Nat.zero_le _)
    | cons z r =>
     rw [if_neg (by show ¬ eqD (D.lst true (D.int z :: r.map fun (i : Nat) => D.int (i : Int))) (D.lst true []) = true; rw [gO, kS]; simp)]
     show jK (.lst true ((z :: r).map fun (k : Nat) => D.int (k : Int))) _ _
     rw [dP]
     refine ja (by simp) ?_
     walk_at "rx"
     by_cases c : ax (z :: r) <= k
     ·rw [if_pos (by omega)]
      exact yes c
     ·rw [if_neg (by omega)]
      exact no c
   ·rintro ρ' ⟨v4, rfl⟩
    rw [List.length_range', iS _ _ hf]
    refine ⟨some (.val (pkD pk)), v4, ?_⟩
    rw [List.flatMap_append, List.map_append, List.flatMap_singleton, show (nxt m pk).map pkD = (List.range' (ax pk) (m - ax pk)).map fun k => pkD (pk ++ [k]) from by unfold nxt; rw [List.map_map]; rfl]
  ·rintro ρ2 ⟨v3, v4, rfl⟩
   walk_at "rd"
   exact h
theorem nP {f : Addr} {fd : FuncData} (F : ay K "_law_first" "_law_first" dY f fd) (C : COk K mg κ) (h_law_amid : Has P w K mg base "_law_amid" 2 ["_law_some", "_law_point"] (d4 κ)) (h_law_lists3 : Has P w K mg base "_law_lists" 4 ["_law_many", "_law_long"] (fb κ)) (z_len : mg "len" = none) (z_range : mg "range" = none) : aG P w K mg base (CX1 P w) 5 f fd ["_law_numbers", "_law_spots", "_law_point"] (aO K (dE κ)) := by
 refine ay.okN F fV (fun ds Q E h => by obtain ⟨_, _, _, _, _, rfl, _⟩ := h; rfl) fun cdv A outer s H E hr => ⟨_, (aq (br PassesOwn.never rfl (lJ (by rfl) z_range (aa ae (aa (aj aX (aD bz (by rfl) z_len boot_len (aa (dv 0) ah)) ae) ah))) (aV 3 fV.nd) (ao (br PassesOwn.never rfl (bj (aw h_law_lists3 (hr.mono (by decide)) (aa (aD bz (by rfl) z_len boot_len (aa (dv 1) ah)) (aa (dv 3) ah)))) (aV 4 fV.nd) (aq (aM (az (gr (by exact hr.units)) (dv 4) (dv 0)) (ao (av dm)) aC) (ao (aM (dn (aw h_law_amid (hr.mono (by decide)) (aa (de (by rfl) (by exact bB (osc := ak dY) (xs := ["_law_number"]) (ns := ["_law_spots"]) (by decide +kernel)) (aY.cons 1 aY.nil) (bj (dv 4)) (fun _ _ _ _ _ => cc) (fun _ _ _ _ _ => (au (dv 1) (dv 0)))) (aa (dv 2) ah)))) (ao (av dm)) aC)))))) (ao (av dm))), ?_⟩
 rintro ds Q Ed ⟨d, ps, h0, h1, h2, rfl, h⟩
 have e0 : aE ["_law_numbers", "_law_spots", "_law_point", "_law_long", "_law_row"] [d, .lst false (ps.map spD), T3 h0 h1 h2] = ([some (.val (d)), some (.val (.lst false (ps.map spD))), some (.val (T3 h0 h1 h2)), none, none] : Ro) := rfl
 rw [e0]; clear e0
 obtain ⟨hl, hb, hP, hp, ⟨pk, sh, rfl, l3, hm⟩, h⟩ := h
 have okK : ∀ (b : Bool) (r : List Nat), okD (.lst b (r.map fun (k : Nat) => D.int (k : Int))) := fun b r => by
  have e : (r.map fun (k : Nat) => D.int (k : Int)) = (r.map fun (k : Nat) => (k : Int)).map D.int := by rw [List.map_map]; rfl
  rw [e]
  exact (OkN.map (OkN.int 0)).ok
 have hmx : bg (ps.map (arS (h0, h1, h2))) (gE ps.length 0) = some (pk, sh) := by rw [<- nX]; exact hm
 clear hm
 have wl : (ps.map (arS (h0, h1, h2))).length = ps.length := List.length_map _
 have gt : ∀ k, k < ps.length -> ps[k]? = some (ps.getD k (0, 0)) := fun k hk => by
  rw [List.getD_eq_getElem?_getD, List.getElem?_eq_getElem hk]; rfl
 have ep : ∀ row : List Nat, (∀ k ∈ row, k < ps.length) -> pkW (ps.map (arS (h0, h1, h2))) row = (row.map fun k => ps.getD k (0, 0)).map (arS (h0, h1, h2)) := fun row hr => by
  unfold pkW
  rw [List.map_map]
  apply List.map_congr_left
  intro k hk
  rw [Function.comp, List.getD_eq_getElem?_getD, List.getElem?_map, gt k (hr k hk)]
  rfl
 walk_at "rx"
 refine PD.bu (List.range' 1 pk.length) (fun (k : Nat) => D.int (k : Int)) (fun j ρ => j <= 3 /\ bg (ps.map (arS (h0, h1, h2))) (gE ps.length j) = some (pk, sh) /\ ∃ v3 v4 : Option Sl, ρ = [some (.val (.lst false (pk.map fun (k : Nat) => D.int (k : Int)))), some (.val (.lst false (ps.map spD))), some (.val (T3 h0 h1 h2)), v3, v4]) (fun R q => ?_) ⟨by decide, hmx, none, none, rfl⟩ ?_ ?_
 ·walk_at "rd"
  rw [List.length_map, yz]
  exact ⟨⟨by omega, by omega⟩, ⟨by omega, by omega⟩, q⟩
 ·rintro j x ρ' hj ⟨_, hm, v3, v4, rfl⟩
  obtain ⟨hj', ej⟩ := List.getElem?_eq_some_iff.mp hj
  rw [List.length_range'] at hj'
  rw [List.getElem_range'] at ej
  obtain rfl : x = j + 1 := by omega
  rw [lX _ (by omega)] at hm
  walk_at "rx"
  refine PD.bu (lev ps.length (j + 1)) pkD (fun i ρ => bg (ps.map (arS (h0, h1, h2))) ((lev ps.length (j + 1)).drop i ++ gE ps.length (j + 1)) = some (pk, sh) /\ ∃ v4 : Option Sl, ρ = [some (.val (.lst false (pk.map fun (k : Nat) => D.int (k : Int)))), some (.val (.lst false (ps.map spD))), some (.val (T3 h0 h1 h2)), some (.val (.int ((j + 1 : Nat) : Int))), v4]) (fun R q => ?_) ⟨hm, v4, rfl⟩ ?_ ?_
  ·walk_at "rx"
   exact ⟨ps.length, j + 1, by rw [List.length_map], rfl, by omega, by omega, q⟩
  ·rintro i row ρ' hi ⟨hm, v4, rfl⟩
   obtain ⟨hi', ei⟩ := List.getElem?_eq_some_iff.mp hi
   rw [List.drop_eq_getElem_cons hi', ei, List.cons_append, lS] at hm
   obtain ⟨pl, pb⟩ := bZ (List.mem_of_getElem? hi)
   walk_at "rx"
   refine ⟨okK _ _, okK _ _, ?_⟩
   split
   ·exact h
   ·rename_i ne
    refine PD.comp_map row (fun (k : Nat) => D.int (k : Int)) (fun _ => true) (fun k => spD (ps.getD k (0, 0))) (fun R q => ?_) (by rw [sizeLine_eq]; omega) (fun k hk K hK => ?_) (fun k hk _ K hK => ?_) ?_
    ·unfold pkD
     walk_at "rd"
     exact q
    ·walk_at "rd"
     exact hK
    ·walk_at "rd"
     exact ⟨_, bI (by rw [List.getElem?_map, gt k (pb k hk)]; rfl), hK⟩
    rw [List.filter_eq_self.mpr (fun _ _ => rfl)]
    have eq : row.map (fun k => spD (ps.getD k (0, 0))) = (row.map fun k => ps.getD k (0, 0)).map spD := by rw [List.map_map]; rfl
    show d4 κ [aI (.lst true (row.map fun k => spD (ps.getD k (0, 0)))), T3 h0 h1 h2] _ _
    rw [eq, bQ, dI, dR]
    refine ⟨by rw [List.length_map]; omega, by rw [List.length_map]; omega, fun p hp' => ?_, hP, hp, ?_⟩
    ·obtain ⟨k, hk, rfl⟩ := List.mem_map.mp hp'
     exact hb _ (List.mem_of_getElem? (gt k (pb k hk)))
    ·rw [ep row pb] at hm
     cases hbl : cy ((row.map fun k => ps.getD k (0, 0)).map (arS (h0, h1, h2))) with
     | some sh' =>
      rw [hbl] at hm
      cases hm
      exact absurd (bG _ _ _) ne
     | none =>
      rw [hbl] at hm
      refine ⟨false, rfl, ?_⟩
      rw [if_neg (by simp)]
      exact ⟨hm, _, rfl⟩
  ·rintro ρ' ⟨hm, v4, rfl⟩
   rw [List.drop_length, List.nil_append] at hm
   exact ⟨by omega, hm, _, _, rfl⟩
 ·rintro ρ' ⟨_, hm, v3, v4, rfl⟩
  rw [List.length_range'] at hm
  have := uE (iV hm).1
  omega
theorem oE {f : Addr} {fd : FuncData} (F : ay K "_law_none" "_law_none" iB f fd) (C : COk K mg κ) (h_mixture : Has P w K mg base "mixture" 5 ["spots", "place"] (bP κ)) (z_ValueError : mg "ValueError" = none) (z_isinstance : mg "isinstance" = none) : aG P w K mg base (CX1 P w) 6 f fd ["_law_point"] (aO K (d5 κ)) := by
 refine ay.okN F dZ (fun ds Q E h => by obtain ⟨_, _, _, rfl, _⟩ := h; rfl) fun cdv A outer s H E hr => ⟨_, (aq (aJ 1 dZ.nd gL) (aq (vD 2 h_mixture (hr.mono (by decide)) dZ.nd C.mg_PlaneError (aa (aS ah) (aa (dv 0) ah)) (fun _ => (ao (aJ 1 dZ.nd (dv 2))))) (aq (aM (ck (az xn (dv 1) gL) (ck (eG (dn (ft (by rfl) z_isinstance (kX (v := .ref κ.TooFew) (by rfl) C.mg_TooFew rfl) (fun u h => h) (dv 1)))) (eJ (eG (dn (ft (by rfl) z_isinstance (pE (v := .ty "ValueError") (by rfl) z_ValueError (by rfl) rfl) (fun u h => h) (dv 1))))))).pt (ao (av dm)) aC) (ao (av (j9 (mV (ft (by rfl) z_isinstance (kX (v := .ref κ.TooMany) (by rfl) C.mg_TooMany rfl) (fun u h => h) (dv 1))) (iR (mV (ft (by rfl) z_isinstance (kX (v := .ref κ.NoPlace) (by rfl) C.mg_NoPlace rfl) (fun u h => h) (dv 1)))))))))), ?_⟩
 rintro ds Q Ed ⟨h0, h1, h2, rfl, h⟩
 have e0 : aE ["_law_point", "_law_caught", "error"] [T3 h0 h1 h2] = ([some (.val (T3 h0 h1 h2)), none, none] : Ro) := rfl
 rw [e0]; clear e0
 walk_at "rx"
 refine ⟨Nat.zero_le _, ?_⟩
 rw [show bP κ [D.lst false [], D.tup [D.int h0, D.int h1, D.int h2]] = bP κ [D.lst false (([] : List Sp).map spD), T3 h0 h1 h2] from rfl, cx]
 refine .inl ⟨rfl, κ.TooFew, rfl, C.xk_TooFew, C.exm_TooFew_PlaneError, ?_⟩
 exact ⟨_, C.kit_TooFew_TooFew, by rw [if_neg (by simp)]; exact ⟨_, C.kit_TooFew_ValueError, by rw [if_neg (by simp)]; exact ⟨_, C.kit_TooFew_TooMany, by rw [if_pos rfl]; exact ⟨_, C.kit_TooFew_NoPlace, h⟩⟩⟩⟩
theorem xq {f : Addr} {fd : FuncData} (F : ay K "law" "law" cU f fd) (C : COk K mg κ) (h_law_cell_at : Has P w K mg base "_law_cell_at" 1 ["_law_script", "_law_k"] (dS κ)) (h_law_first : Has P w K mg base "_law_first" 5 ["_law_numbers", "_law_spots", "_law_point"] (dE κ)) (h_law_in : Has P w K mg base "_law_in" 4 ["_law_found", "_law_spots", "_law_point"] (gv κ)) (h_law_mixed : Has P w K mg base "_law_mixed" 3 ["_law_spots", "_law_shares"] (dG κ)) (h_law_none : Has P w K mg base "_law_none" 6 ["_law_point"] (d5 κ)) (h_law_spot : Has P w K mg base "_law_spot" 1 ["_law_kind", "_law_cell"] (gI κ)) (h_law_stream : Has P w K mg base "_law_stream" 1 ["_law_cell", "_law_many"] (fe κ)) (h_mixture : Has P w K mg base "mixture" 5 ["spots", "place"] (bP κ)) (z_len : mg "len" = none) (z_list : mg "list" = none) (z_range : mg "range" = none) : aG P w K mg base (CX1 P w) 7 f fd ["_law_script"] (aO K kE) := by
 refine ay.okB F cu (fun ds Q E h => by obtain ⟨ns, rfl, _⟩ := h; rfl) fun cdv A outer s H E hr => ⟨_, (bX (aJ 1 cu.nd (aj aR (aw h_law_cell_at (hr.mono (by decide)) (aa (dv 0) (aa ae ah))) ae)) (bX (aJ 2 cu.nd (au (aS (aa ae (aa ae (aa ae (aa ae ah))))) (aj aR (aj bC (aw h_law_cell_at (hr.mono (by decide)) (aa (dv 0) (aa ae ah))) ae) ae))) (bX (aJ 3 cu.nd (de (by rfl) (by exact bB (osc := ak cU) (xs := ["_law_cell"]) (ns := ["_law_kind"]) (by decide +kernel)) (aY.cons 1 aY.nil) (bj ((ub (dv 0) (kP ae) (kP (aj aX ae (dv 2))))).ped) (fun _ _ _ _ _ => cc) (fun _ _ _ _ _ => (aw h_law_spot (hr.mono (by decide)) (aa (dv 1) (aa (dv 0) ah)))))) (bX (aM (az (gr (by exact hr.units)) (dv 3) (aS ah)) (ao (aJ 3 cu.nd (aS (aa (aw h_law_spot (hr.mono (by decide)) (aa (dv 1) (aa (aw h_law_cell_at (hr.mono (by decide)) (aa (dv 0) (aa ae ah))) ah))) ah)))) aC) (bX (aJ 4 cu.nd (aw h_law_stream (hr.mono (by decide)) (aa (aw h_law_cell_at (hr.mono (by decide)) (aa (dv 0) (aa ae ah))) (aa ae ah)))) (bX (aJ 5 cu.nd (aj aX ae (aj aR (au (dv 4) ae) ae))) (bX (ig 6 cu.nd (by rfl) (by exact bB (osc := ak cU) (xs := ["_law_k"]) (ns := ["_law_xs", "_law_spots"]) (by decide +kernel)) (aY.cons 4 (aY.cons 3 aY.nil)) (cg (by rfl) z_range (aa (dv 5) ah)) (fun _ _ _ _ _ => cc) (fun _ _ _ _ _ => (au (dv 2) (aj aR (au (dv 1) (aj aX ae (dv 0))) (aD bz (by rfl) z_len boot_len (aa (dv 2) ah)))))) (bX (aJ 7 cu.nd (aw h_law_mixed (hr.mono (by decide)) (aa (dv 6) (aa (de (by rfl) (by exact bB (osc := ak cU) (xs := ["_law_k"]) (ns := ["_law_xs"]) (by decide +kernel)) (aY.cons 4 aY.nil) (cg (by rfl) z_range (aa (dv 5) ah)) (fun _ _ _ _ _ => cc) (fun _ _ _ _ _ => (aj aX ae (aj aR (aj aN (au (dv 1) (aj aX ae (dv 0))) (au (dv 1) ae)) (au (aS (aa ae (aa (aj gU ae ae) ah))) (aj aR (aj bC (au (dv 1) ae) ae) ae)))))) ah)))) (bX (aJ 8 cu.nd ((vC (by rfl) z_list (dv 3))).ped) (bX (aJ 9 cu.nd (aw h_mixture (hr.mono (by decide)) (aa (dv 8) (aa (dv 7) ah)))) (bX (aM (ck (eG (dn (aw h_law_in (hr.mono (by decide)) (aa (dv 9) (aa (dv 3) (aa (dv 7) ah)))))) (ck (az (qC (by exact hr.units)) (dv 8) (dv 3)) (eJ (eG (dn (aw h_law_first (hr.mono (by decide)) (aa (au (dv 9) ae) (aa (dv 3) (aa (dv 7) ah))))))))).pt (ao (av dm)) aC) (iM 4 (iM 6 (iM 0 (tL (ix := 9) (iy := 10) (by rfl) (by decide) (xE cu.nd (by rfl) (by first | exact Or.inl rfl | exact Or.inr rfl) (xA (bK sQ (bK (vh 9 (by rfl) z_list) (bK (vh 9 (by rfl) z_list) eM))))) (vj 9) (vj 9) (wF (av (j9 (aw h_law_none (hr.mono (by decide)) (aa (dv 7) ah)) (iR (eE (gr (by exact hr.units)) (aw h_mixture (hr.mono (by decide)) (aa (dv 3) (aa (dv 7) ah))) (dv 10))))))))))))))))))))), ?_⟩
 rintro ds Q Ed ⟨ns, rfl, hl, h⟩
 have e0 : aE ["_law_script", "_law_kind", "_law_most", "_law_spots", "_law_xs", "_law_many", "_law_some", "_law_point", "_law_handed", "_law_found", "_law_held"] [.lst false (ns.map D.int)] = ([some (.val (.lst false (ns.map D.int))), none, none, none, none, none, none, none, none, none, none] : Ro) := rfl
 rw [e0]; clear e0
 have okS : ∀ (b : Bool) (xs : List Sp), okD (.lst b (xs.map spD)) := fun b xs => (OkN.map xp).ok
 have sI : PyData.strOk "in" = true := by decide +kernel
 refine bY (fun ρ => ∃ k : Int, ρ = [some (.val (.lst false (ns.map D.int))), some (.val (.int k)), none, none, none, none, none, none, none, none, none]) ?_ fun K hK => ?_
 ·rintro ρ' ⟨k, rfl⟩
  refine bY (fun ρ => ∃ mo : Int, 0 <= mo /\ mo <= 14 /\ ρ = [some (.val (.lst false (ns.map D.int))), some (.val (.int k)), some (.val (.int mo)), none, none, none, none, none, none, none, none]) ?_ fun K hK => ?_
  ·rintro ρ' ⟨mo, mo0, mo1, rfl⟩
   refine bY (fun ρ => ∃ ps : List Sp, ps.length <= 30 /\ (∀ p ∈ ps, WB 40 p) /\ ρ = [some (.val (.lst false (ns.map D.int))), some (.val (.int k)), some (.val (.int mo)), some (.val (.lst true (ps.map spD))), none, none, none, none, none, none, none]) ?_ fun K hK => ?_
   ·rintro ρ' ⟨ps, pl, hB, rfl⟩
    refine bY (fun ρ => ∃ ps : List Sp, 0 < ps.length /\ ps.length <= 30 /\ (∀ p ∈ ps, WB 40 p) /\ ρ = [some (.val (.lst false (ns.map D.int))), some (.val (.int k)), some (.val (.int mo)), some (.val (.lst true (ps.map spD))), none, none, none, none, none, none, none]) ?_ fun K hK => ?_
    ·rintro ρ' ⟨ps, p0, pl, hB, rfl⟩
     refine bY (fun ρ => ∃ xs : List Int, xs.length = 8 /\ (∀ x ∈ xs, 0 <= x /\ x < 2147483647) /\ ρ = [some (.val (.lst false (ns.map D.int))), some (.val (.int k)), some (.val (.int mo)), some (.val (.lst true (ps.map spD))), some (.val (.lst true (xs.map D.int))), none, none, none, none, none, none]) ?_ fun K hK => ?_
     ·rintro ρ' ⟨xs, xl, xb, rfl⟩
      have gt : ∀ k, k < 8 -> xs[k]? = some (xs.getD k 0) := fun k hk => by
       rw [List.getD_eq_getElem?_getD, List.getElem?_eq_getElem (by omega)]; rfl
      have atk : ∀ k : Nat, k < 8 -> atI (xs.map D.int) (k : Int) = some (.int (xs.getD k 0)) := fun k hk => bI (by rw [List.getElem?_map, gt k hk]; rfl)
      have bk : ∀ k, k < 8 -> 0 <= xs.getD k 0 /\ xs.getD k 0 < 2147483647 := fun k hk => xb _ (List.mem_of_getElem? (gt k hk))
      have a0 : atI (xs.map D.int) 0 = some (.int (xs.getD 0 0)) := atk 0 (by decide)
      have a7 : atI (xs.map D.int) 7 = some (.int (xs.getD 7 0)) := atk 7 (by decide)
      refine bY (fun ρ => ∃ m : Nat, 0 < m /\ m <= 3 /\ ρ = [some (.val (.lst false (ns.map D.int))), some (.val (.int k)), some (.val (.int mo)), some (.val (.lst true (ps.map spD))), some (.val (.lst true (xs.map D.int))), some (.val (.int m)), none, none, none, none, none]) ?_ fun K hK => ?_
      ·rintro ρ' ⟨m, m0, m3, rfl⟩
       refine bY (fun ρ => ∃ qs : List Sp, qs.length = m /\ (∀ q ∈ qs, q ∈ ps) /\ ρ = [some (.val (.lst false (ns.map D.int))), some (.val (.int k)), some (.val (.int mo)), some (.val (.lst true (ps.map spD))), some (.val (.lst true (xs.map D.int))), some (.val (.int m)), some (.val (.lst true (qs.map spD))), none, none, none, none]) ?_ fun K hK => ?_
       ·rintro ρ' ⟨qs, ql, qB, rfl⟩
        refine bY (fun ρ => ∃ hh : Tr, PB 100 hh /\ Prm hh /\ (∃ r, bg (ps.map (arS hh)) (bL ps.length) = some r) /\ ρ = [some (.val (.lst false (ns.map D.int))), some (.val (.int k)), some (.val (.int mo)), some (.val (.lst true (ps.map spD))), some (.val (.lst true (xs.map D.int))), some (.val (.int m)), some (.val (.lst true (qs.map spD))), some (.val (trD hh)), none, none, none]) ?_ fun K hK => ?_
        ·rintro ρ' ⟨hh, hP, hPr, ⟨⟨pk, sh⟩, hm⟩, rfl⟩
         have hP2 : PB 120 hh := ⟨hP.b0, hP.b, hP.x.mono (by decide), hP.y.mono (by decide)⟩
         have I := ye hB hP2 hm
         refine bY (fun ρ => ρ = [some (.val (.lst false (ns.map D.int))), some (.val (.int k)), some (.val (.int mo)), some (.val (.lst true (ps.map spD))), some (.val (.lst true (xs.map D.int))), some (.val (.int m)), some (.val (.lst true (qs.map spD))), some (.val (trD hh)), some (.val (.lst true (ps.map spD))), none, none]) ?_ fun K hK => ?_
         ·rintro ρ' rfl
          refine bY (fun ρ => ρ = [some (.val (.lst false (ns.map D.int))), some (.val (.int k)), some (.val (.int mo)), some (.val (.lst true (ps.map spD))), some (.val (.lst true (xs.map D.int))), some (.val (.int m)), some (.val (.lst true (qs.map spD))), some (.val (trD hh)), some (.val (.lst true (ps.map spD))), some (.val (.tup [.str "in", pkD pk, .lst true (sh.map D.int)])), none]) ?_ fun K hK => ?_
          ·rintro ρ' rfl
           have e1 : aI (.tup [.str "in", pkD pk, .lst true (sh.map D.int)]) = .tup [.str "in", .lst false (pk.map fun (k : Nat) => D.int (k : Int)), .lst false (sh.map D.int)] := by
            unfold pkD
            rw [dh, bA, bA, bA, cJ, bQ, bQ, d9, i7, cn _ (fun _ => cj _)]
           refine bY (fun ρ => ρ = [some (.val (.lst false (ns.map D.int))), some (.val (.int k)), some (.val (.int mo)), some (.val (.lst true (ps.map spD))), some (.val (.lst true (xs.map D.int))), some (.val (.int m)), some (.val (.lst true (qs.map spD))), some (.val (trD hh)), some (.val (.lst true (ps.map spD))), some (.val (.tup [.str "in", pkD pk, .lst true (sh.map D.int)])), none]) ?_ fun K hK => ?_
           ·rintro ρ' rfl
            walk_at "rx"
            obtain ⟨k0, ks, ek⟩ : ∃ k0 ks, pk = k0 :: ks := by
             cases pk with
             | nil => exact absurd I.l0 (by simp)
             | cons a r => exact ⟨a, r, rfl⟩
            obtain ⟨n0, ms, en⟩ : ∃ n0 ms, sh = n0 :: ms := by
             cases sh with
             | nil => have := I.ls; have := I.l0; simp at *; omega
             | cons a r => exact ⟨a, r, rfl⟩
            have l3 := I.l3
            have ls := I.ls
            have epk : pkD pk = .lst true (((k0 : Int) :: ks.map fun (k : Nat) => (k : Int)).map D.int) := by
             rw [ek]
             unfold pkD
             rw [List.map_cons, List.map_cons, List.map_map]
             rfl
            have fs : qq (.lst true (ps.map spD)) := by
             rcases ps with _ | ⟨p, ps⟩
             ·simp at p0
             ·exact .inr ⟨_, _, _, rfl, pf (p :: ps)⟩
            have fi : ∀ i : Int, qq (.int i) := fun i => .inl (by simp only [iX])
            refine ⟨.str "in", k0, n0, ks.map fun (k : Nat) => (k : Int), ms, by rw [epk, en]; rfl, ?_, ?_, ?_, ?_, ?_⟩
            ·rw [ek] at l3; simp at l3 ⊢; omega
            ·rw [en, ek] at ls; rw [ek] at l3; simp at ls l3 ⊢; omega
            ·intro j d j1 j2 hj
             rcases j with _ | _ | _ | _ | _ | _ | _ | _ | _ | _ | _ | j
             ·cases hj
             ·cases hj; exact fi _
             ·cases hj; exact fi _
             ·cases hj; exact fs
             ·cases hj
             ·cases hj; exact fi _
             ·cases hj
             ·cases hj; exact .inl (by unfold trD; simp only [T3, iX, cH, Bool.and_true])
             ·cases hj; exact fs
             ·exact absurd rfl j1
             ·exact absurd rfl j2
             ·simp at hj
            ·intro j x j1 j2 hj
             rcases j with _ | _ | _ | _ | _ | _ | _ | _ | _ | _ | _ | j <;> first | cases hj | simp at hj
            ·have okA : okD (.tup [.str "in", pkD pk, .lst true (sh.map D.int)]) := (OkN.tup (.cons (jk 1 _ sI) (.cons (by rw [epk]; exact OkN.map (OkN.int 0)) (.cons (OkN.map (OkN.int 0)) (.nil _))))).ok
             have ed : (.tup [.str "in", .lst true (D.int (k0 : Int) :: (ks.map fun (k : Nat) => (k : Int)).map D.int), .lst true (D.int n0 :: ms.map D.int)] : D) = .tup [.str "in", pkD pk, .lst true (sh.map D.int)] := by rw [epk, en]; rfl
             rw [ed]
             show d5 κ [T3 hh.1 hh.2.1 hh.2.2] _ _
             rw [dU]
             refine ⟨true, rfl, ?_⟩
             rw [if_pos rfl]
             show bP κ [D.lst false (List.map spD ps), T3 hh.1 hh.2.1 hh.2.2] _ _
             rw [cx]
             refine .inr ⟨p0, pl, fun p hp => ((hB p hp).mono (by decide)).sb, hP2, _, hm, okA, okA, ?_⟩
             rw [ij]
             exact h
           ·walk_at "rx"
            have ek : aI (pkD pk) = .lst false (pk.map fun (k : Nat) => D.int (k : Int)) := by unfold pkD; rw [bQ, cn _ (fun _ => cj _)]
            show gv κ [_, D.lst false (List.map spD ps), T3 hh.1 hh.2.1 hh.2.2] _ _
            rw [ek, fX]
            refine ⟨pl, hB, hPr, .inl ⟨pk, sh, rfl, I, true, rfl, ?_⟩⟩
            rw [if_neg (by simp)]
            refine ⟨okS _ _, okS _ _, ?_⟩
            rw [if_neg (by rw [bG]; simp)]
            show dE κ [_, D.lst false (List.map spD ps), T3 hh.1 hh.2.1 hh.2.2] _ _
            rw [dF]
            refine ⟨pl, hB, hP, hPr, ⟨pk, sh, rfl, I.l3, hm⟩, true, rfl, ?_⟩
            rw [if_neg (by simp)]
            exact hK _ rfl
          ·walk_at "rx"
           show bP κ [D.lst false (List.map spD ps), T3 hh.1 hh.2.1 hh.2.2] _ _
           rw [cx]
           exact .inr ⟨p0, pl, fun p hp => ((hB p hp).mono (by decide)).sb, hP2, _, hm, hK _ rfl⟩
         ·walk_at "rx"
          exact hK _ rfl
        ·walk_at "rx"
         refine iO (List.range' 0 m) (fun (k : Nat) => D.int (k : Int)) D.int (fun w => 0 < w /\ w <= 1000000000) (fun R q => ?_) (by rw [List.length_range', sizeLine_eq]; omega) (fun k hk K hK => ?_) fun ws hwl hwB => ?_
         ·walk_at "rx"
          rw [kZ]
          exact ⟨⟨by omega, by omega⟩, q⟩
         ·have hk' : k < 3 := by rw [List.mem_range'_1] at hk; omega
          have a9 : atI (xs.map D.int) (4 + (k : Int)) = some (.int (xs.getD (4 + k) 0)) := by
           have := atk (4 + k) (by omega)
           rw [Int.natCast_add] at this
           exact this
          walk_at "rx"
          rw [a9, a7, a0]
          walk_at "rx"
          have bb := bk (4 + k) (by omega)
          have f2 := fm (a := (xs.getD 0 0).fdiv 3) (b := 2) (by decide)
          rw [p9]
          refine ⟨.inl (bdl 2147483648 (by omega) (by decide)), cp9, sz2 _ _, CD.lit, by decide, j4 f2.1 f2.2 fun d hd => ?_⟩
          obtain ⟨v, rfl, hv⟩ : ∃ v : Int, d = .int v /\ (v = 3 ∨ v = 1000000000) := by
           simp only [List.mem_cons, List.not_mem_nil, or_false] at hd
           rcases hd with rfl | rfl
           ·exact ⟨_, rfl, .inl rfl⟩
           ·exact ⟨_, rfl, .inr rfl⟩
          walk_at "rx"
          have fv := fm (a := xs.getD (4 + k) 0 * xs.getD 7 0) (b := v) (by omega)
          exact ⟨by omega, hK _ ⟨by omega, by omega⟩⟩
         rw [List.length_range'] at hwl
         rw [bQ, d9, cC]
         have w30 : ∀ w ∈ ws, Bd 30 w := fun w hw => by
          have := hwB w hw
          exact bdl 1000000001 (by omega) (by decide)
         refine ⟨by omega, by omega, by omega, fun p hp => hB p (qB p hp), fun w hw => ⟨(hwB w hw).1, (w30 w hw).mono (by decide)⟩, fun g p q r hg e1 e2 e3 e4 _ => ?_⟩
         obtain ⟨zs, ez1, ez2⟩ := jT (ps := qs) (ws := ws) (by omega)
         have zl : zs.length <= 3 := by have := congrArg List.length ez1; rw [List.length_map] at this; omega
         have z0 : zs ≠ [] := fun e => by rw [e] at ez1; rw [ez1] at ql; simp at ql; omega
         have zm : ∀ z ∈ zs, z.1 ∈ ps /\ 0 < z.2 /\ WB 40 z.1 /\ Bd 30 z.2 := fun z hz' => by
          have m1 : z.1 ∈ qs := by rw [ez1]; exact List.mem_map.mpr ⟨z, hz', rfl⟩
          have m2 : z.2 ∈ ws := by rw [ez2]; exact List.mem_map.mpr ⟨z, hz', rfl⟩
          exact ⟨qB _ m1, (hwB _ m2).1, hB _ (qB _ m1), w30 _ m2⟩
         have eX : sX qs ws = (zs.map fun z => z.1.1 * z.2).sum := by rw [ez1, ez2]; unfold sX; rw [List.zipWith_map, List.zipWith_self]
         have eY : sY qs ws = (zs.map fun z => z.1.2 * z.2).sum := by rw [ez1, ez2]; unfold sY; rw [List.zipWith_map, List.zipWith_self]
         have wpos : 0 < ws.sum := jr _ (by omega) fun x hx => (hwB x hx).1
         have p0' : 0 < p := wU hg e1 wpos
         have mix : tG (p, q, r) ps := by
          refine sE z0 zl (fun z hz' => ⟨(zm z hz').1, (zm z hz').2.1⟩) ?_ ?_
          ·show (zs.map (·.2)).sum * q = p * _
           rw [<- ez2, <- eX, <- e1, <- e2]
           grind
          ·show (zs.map (·.2)).sum * r = p * _
           rw [<- ez2, <- eY, <- e1, <- e3]
           grind
         have hz3 : ∀ M : Nat, zs.length * M <= 3 * M := fun M => Nat.mul_le_mul_right _ zl
         have up : ∀ n : Nat, 3 * 2 ^ n < 2 ^ (n + 2) := fun n => by rw [Nat.pow_add]; have := Nat.pow_pos (n := n) (show 0 < 2 by decide); omega
         have b1 : Bd 32 ws.sum := by
          have := gj (M := 2 ^ 30) ws fun x hx => Nat.le_of_lt (w30 x hx)
          have lw : ws.length = zs.length := by rw [ez2, List.length_map]
          rw [lw] at this
          exact Nat.lt_of_le_of_lt (Nat.le_trans this (hz3 _)) (up 30)
         have b2 : Bd 72 (sX qs ws) := by
          rw [eX]
          have := gj (M := 2 ^ 70) (zs.map fun z => z.1.1 * z.2) fun x hx => by
           obtain ⟨z, hzm, rfl⟩ := List.mem_map.mp hx
           rw [Int.natAbs_mul, show (2 : Nat) ^ 70 = 2 ^ 40 * 2 ^ 30 from Nat.pow_add 2 40 30]
           exact Nat.mul_le_mul (Nat.le_of_lt (zm z hzm).2.2.1.x) (Nat.le_of_lt (zm z hzm).2.2.2)
          rw [List.length_map] at this
          exact Nat.lt_of_le_of_lt (Nat.le_trans this (hz3 _)) (up 70)
         have b3 : Bd 72 (sY qs ws) := by
          rw [eY]
          have := gj (M := 2 ^ 70) (zs.map fun z => z.1.2 * z.2) fun x hx => by
           obtain ⟨z, hzm, rfl⟩ := List.mem_map.mp hx
           rw [Int.natAbs_mul, show (2 : Nat) ^ 70 = 2 ^ 40 * 2 ^ 30 from Nat.pow_add 2 40 30]
           exact Nat.mul_le_mul (Nat.le_of_lt (zm z hzm).2.2.1.y) (Nat.le_of_lt (zm z hzm).2.2.2)
          rw [List.length_map] at this
          exact Nat.lt_of_le_of_lt (Nat.le_trans this (hz3 _)) (up 70)
         refine hK _ ⟨(p, q, r), ⟨p0', (mx hg e1 b1).mono (by decide), (mx hg e2 b2).mono (by decide), (mx hg e3 b3).mono (by decide)⟩, ⟨p0', e4⟩, ?_, rfl⟩
         cases hc : bg (ps.map (arS (p, q, r))) (bL ps.length) with
         | none => exact absurd hc (tK mix)
         | some r => exact ⟨r, rfl⟩
       ·walk_at "rx"
        refine iO (List.range' 0 m) (fun (k : Nat) => D.int (k : Int)) spD (fun p => p ∈ ps) (fun R q => ?_) (by rw [List.length_range', sizeLine_eq]; omega) (fun k hk K hK => ?_) fun qs hql hqB => ?_
        ·walk_at "rx"
         rw [kZ]
         exact ⟨⟨by omega, by omega⟩, q⟩
        ·have hk' : k < 3 := by rw [List.mem_range'_1] at hk; omega
         have a6 : atI (xs.map D.int) (1 + (k : Int)) = some (.int (xs.getD (1 + k) 0)) := by
          have := atk (1 + k) (by omega)
          rw [Int.natCast_add] at this
          exact this
         walk_at "rx"
         rw [a6]
         walk_at "rx"
         have fz := fm (a := xs.getD (1 + k) 0) (b := ((ps.map spD).length : Nat)) (by rw [List.length_map]; omega)
         refine ⟨by rw [List.length_map]; omega, j4 fz.1 fz.2 fun d hd => ?_⟩
         obtain ⟨p, hp, rfl⟩ := List.mem_map.mp hd
         exact hK p hp
        ·rw [List.length_range'] at hql
         exact hK _ ⟨qs, hql, hqB, rfl⟩
      ·walk_at "rx"
       simp only [a0]
       walk_at "rx"
       have f3 := fm (a := xs.getD 0 0) (b := 3) (by decide)
       refine ⟨by decide, hK _ ⟨(1 + (xs.getD 0 0).fmod 3).toNat, by omega, by omega, ?_⟩⟩
       rw [show (((1 + (xs.getD 0 0).fmod 3).toNat : Nat) : Int) = 1 + (xs.getD 0 0).fmod 3 by omega]
     ·walk_at "rx"
      exact ⟨by decide, hl, fun v => ⟨by decide, by decide, fun xs xl xb => hK _ ⟨xs, xl, xb, rfl⟩⟩⟩
    ·walk_at "rx"
     refine ⟨Nat.zero_le _, okS _ _, (OkN.lst (.nil 0)).ok, ?_⟩
     split
     ·exact ⟨by decide, hl, fun v p hp => ⟨sz1 _, hK _ ⟨[p], by simp, by simp, by simpa using hp, rfl⟩⟩⟩
     ·rename_i c
      refine hK _ ⟨ps, ?_, pl, hB, rfl⟩
      cases ps with
      | nil => exact absurd (bG _ _ _) c
      | cons z r => simp
   ·walk_at "rx"
    obtain ⟨ys, e, hy⟩ := xY D.int ns mo0 mo1
    refine iO ys D.int spD (WB 40) (fun R q => ?_) (by rw [sizeLine_eq]; omega) (fun x hx K hK => ?_) fun ps hlp hP => ?_
    ·walk_at "rd"
     rw [e]
     exact q
    ·walk_at "rd"
     exact hK
    ·exact hK _ ⟨ps, by omega, hP, rfl⟩
  ·walk_at "rx"
   have f4 : ∀ v : Int, 0 <= (v.fdiv 7).fmod 4 /\ (v.fdiv 7).fmod 4 < 4 := fun v => fm (by decide)
   refine ⟨by rw [sizeLine_eq]; decide, by decide, hl, fun v => ⟨CD.lit, by decide, j4 (f4 v).1 (f4 v).2 fun d hd => ?_⟩⟩
   simp only [List.mem_cons, List.not_mem_nil, or_false] at hd
   rcases hd with rfl | rfl | rfl | rfl
   ·exact hK _ ⟨9, by decide, by decide, rfl⟩
   ·exact hK _ ⟨9, by decide, by decide, rfl⟩
   ·exact hK _ ⟨9, by decide, by decide, rfl⟩
   ·exact hK _ ⟨14, by decide, by decide, rfl⟩
 ·walk_at "rx"
  exact ⟨by decide, hl, fun v => ⟨by decide, hK _ ⟨_, rfl⟩⟩⟩
end
theorem all_mk {l : PySem.W.OpenLaw} {w : World} {K : PySem.W.Frag} {h : Heap} {mg : Str -> Option Value} {fa f28 c_PlaneError c_NoPlace c_TooFew c_TooMany : Addr} (X : K.In h) (G : h.Ns mainGlobals mg) (hfa : mg "law" = some (.ref fa))
  {od28 an28 : Option Addr} {sl28 : Array (Option Value)} {oc28 kV28 dc28 pm28 cd28 ct28 : Value}
  (e0 : FL K "common_divisor" c8)
  (e1 : FL K "lowest" iD)
  (e2 : FL K "picks" jo)
  (e3 : FL K "place_of" iE)
  (e4 : FL K "arrow" k6)
  (e5 : FL K "turn" n5)
  (e6 : FL K "length" jM)
  (e7 : FL K "are_opposite" dQ)
  (e8 : FL K "balance_of_two" c7)
  (e9 : FL K "balance_of_three" bN)
  (e10 : FL K "balance" i0)
  (e11 : FL K "mixture" eO)
  (e12 : FL K "_law_whole" gG)
  (e13 : FL K "_law_cell_at" eS)
  (e14 : FL K "_law_stream" fU)
  (e15 : FL K "_law_spot" iC)
  (e16 : FL K "_law_divisor" eT)
  (e17 : FL K "_law_lowest" fT)
  (e18 : FL K "_law_mixed" cO)
  (e19 : FL K "_law_in" iA)
  (e20 : FL K "_law_cross" gF)
  (e21 : FL K "_law_amid" fB)
  (e22 : FL K "_law_lists" fO)
  (e23 : FL K "_law_lists" fP)
  (e24 : FL K "_law_lists" fQ)
  (e25 : FL K "_law_lists" fR)
  (e26 : FL K "_law_first" dY)
  (e27 : FL K "_law_none" iB)
  (a28 : PySem.W.nsIn K mainGlobals "law" = some (some (.ref f28))) (l28 : K.lookup f28 = some ⟨oc28, od28, .func (PySem.W.fnOf "law" "law" (bJ cU) (bc cU) (ak cU) .none kV28 dc28 pm28 an28 cd28 ct28), sl28⟩) (c28 : PySem.W.codeIn K cd28 "law" = true) (k28 : PySem.W.keepIn K (.ref f28) = true)
  (mg_PlaneError : PySem.W.nsIn K mainGlobals "PlaneError" = some (some (.ref c_PlaneError)))
  (mg_NoPlace : PySem.W.nsIn K mainGlobals "NoPlace" = some (some (.ref c_NoPlace)))
  (mg_TooFew : PySem.W.nsIn K mainGlobals "TooFew" = some (some (.ref c_TooFew)))
  (mg_TooMany : PySem.W.nsIn K mainGlobals "TooMany" = some (some (.ref c_TooMany)))
  (exc_TooFew : PySem.W.excIn K c_TooFew qN "ValueError.__new__" = true)
  (xk_TooFew : PX.uf K c_TooFew = true)
  (kit_TooFew_PlaneError : PySem.W.kitOne K (.ref c_TooFew) (.ref c_PlaneError) = some true)
  (kit_TooFew_NoPlace : PySem.W.kitOne K (.ref c_TooFew) (.ref c_NoPlace) = some false)
  (kit_TooFew_TooFew : PySem.W.kitOne K (.ref c_TooFew) (.ref c_TooFew) = some true)
  (kit_TooFew_TooMany : PySem.W.kitOne K (.ref c_TooFew) (.ref c_TooMany) = some false)
  (kit_TooFew_ValueError : PySem.W.kitOne K (.ref c_TooFew) (.type "ValueError") = some true)
  (exm_TooFew_PlaneError : PySem.W.exmOne K (.ref c_TooFew) (.ref c_PlaneError) = some true)
  (exm_TooFew_TooFew : PySem.W.exmOne K (.ref c_TooFew) (.ref c_TooFew) = some true)
  (z_ValueError : PySem.W.nsIn K mainGlobals "ValueError" = some none) (z_abs : PySem.W.nsIn K mainGlobals "abs" = some none) (z_bool : PySem.W.nsIn K mainGlobals "bool" = some none) (z_int : PySem.W.nsIn K mainGlobals "int" = some none) (z_isinstance : PySem.W.nsIn K mainGlobals "isinstance" = some none) (z_len : PySem.W.nsIn K mainGlobals "len" = some none) (z_list : PySem.W.nsIn K mainGlobals "list" = some none) (z_max : PySem.W.nsIn K mainGlobals "max" = some none) (z_min : PySem.W.nsIn K mainGlobals "min" = some none) (z_range : PySem.W.nsIn K mainGlobals "range" = some none) (z_set : PySem.W.nsIn K mainGlobals "set" = some none) (z_sorted : PySem.W.nsIn K mainGlobals "sorted" = some none) (z_sum : PySem.W.nsIn K mainGlobals "sum" = some none) (z_tuple : PySem.W.nsIn K mainGlobals "tuple" = some none) (z_zip : PySem.W.nsIn K mainGlobals "zip" = some none) :
  ∃ fd : FuncData, (∀ (s : Shared) (v : Value), BindsTo s fd ⟨[v], []⟩ [("_law_script", v)]) /\ ∀ base : Heap, K.In base -> base.Ns mainGlobals mg -> aG l.prog w K mg base (CX1 l.prog w) 7 fa fd ["_law_script"] (aO K kE) := by
 have e := hfa.symm.trans (PySem.W.mg_of X G a28)
 cases e
 have z_ValueError := PySem.W.mg_none_of X G z_ValueError
 have z_abs := PySem.W.mg_none_of X G z_abs
 have z_bool := PySem.W.mg_none_of X G z_bool
 have z_int := PySem.W.mg_none_of X G z_int
 have z_isinstance := PySem.W.mg_none_of X G z_isinstance
 have z_len := PySem.W.mg_none_of X G z_len
 have z_list := PySem.W.mg_none_of X G z_list
 have z_max := PySem.W.mg_none_of X G z_max
 have z_min := PySem.W.mg_none_of X G z_min
 have z_range := PySem.W.mg_none_of X G z_range
 have z_set := PySem.W.mg_none_of X G z_set
 have z_sorted := PySem.W.mg_none_of X G z_sorted
 have z_sum := PySem.W.mg_none_of X G z_sum
 have z_tuple := PySem.W.mg_none_of X G z_tuple
 have z_zip := PySem.W.mg_none_of X G z_zip
 have C : COk K mg ⟨c_PlaneError, c_NoPlace, c_TooFew, c_TooMany⟩ := ⟨PySem.W.mg_of X G mg_PlaneError, PySem.W.mg_of X G mg_NoPlace, PySem.W.mg_of X G mg_TooFew, PySem.W.mg_of X G mg_TooMany, exc_TooFew, PX.cY.of xk_TooFew, kit_TooFew_PlaneError, kit_TooFew_NoPlace, kit_TooFew_TooFew, kit_TooFew_TooMany, kit_TooFew_ValueError, exm_TooFew_PlaneError, exm_TooFew_TooFew⟩
 refine ⟨PySem.W.fnOf "law" "law" (bJ cU) (bc cU) (ak cU) .none kV28 dc28 pm28 an28 cd28 ct28, fun s v => .of_eq rfl, fun base _ _ => ?_⟩
 have h_common_divisor := e0.has l.prog w base X G fun F => jw F C z_abs
 have h_lowest := e1.has l.prog w base X G fun F => sN F C h_common_divisor
 have h_picks := e2.has l.prog w base X G fun F => uw F C z_range
 have h_place_of := e3.has l.prog w base X G fun F => oG F C
 have h_arrow := e4.has l.prog w base X G fun F => uv F C
 have h_turn := e5.has l.prog w base X G fun F => vX F C
 have h_length := e6.has l.prog w base X G fun F => sM F C z_abs
 have h_are_opposite := e7.has l.prog w base X G fun F => ku F C h_turn
 have h_balance_of_two := e8.has l.prog w base X G fun F => jv F C h_are_opposite h_length h_lowest
 have h_balance_of_three := e9.has l.prog w base X G fun F => iK F C h_lowest h_turn z_max z_min
 have h_balance := e10.has l.prog w base X G fun F => qD F C h_balance_of_three h_balance_of_two h_length z_len
 have h_mixture := e11.has l.prog w base X G fun F => qE F C h_arrow h_balance h_picks h_place_of z_len
 have h_law_whole := e12.has l.prog w base X G fun F => nR F C z_bool z_int z_isinstance
 have h_law_cell_at := e13.has l.prog w base X G fun F => kU F C z_len
 have h_law_stream := e14.has l.prog w base X G fun F => mi F C z_range
 have h_law_spot := e15.has l.prog w base X G fun F => oF F C
 have h_law_divisor := e16.has l.prog w base X G fun F => kW F C z_abs
 have h_law_lowest := e17.has l.prog w base X G fun F => mh F C h_law_divisor
 have h_law_mixed := e18.has l.prog w base X G fun F => nQ F C h_law_lowest z_sum z_zip
 have h_law_in := e19.has l.prog w base X G fun F => sL F C h_law_divisor h_law_mixed h_law_whole z_isinstance z_len z_list z_max z_min z_set z_sorted z_tuple
 have h_law_cross := e20.has l.prog w base X G fun F => nN F C
 have h_law_amid := e21.has l.prog w base X G fun F => oD F C h_law_cross z_len z_max z_min z_range
 have h_law_lists0 := e22.has l.prog w base X G fun F => l9 F C
 have h_law_lists1 := e23.has l.prog w base X G fun F => md F C h_law_lists0 z_range
 have h_law_lists2 := e24.has l.prog w base X G fun F => me F C h_law_lists1 z_range
 have h_law_lists3 := e25.has l.prog w base X G fun F => mf F C h_law_lists2 z_range
 have h_law_first := e26.has l.prog w base X G fun F => nP F C h_law_amid h_law_lists3 z_len z_range
 have h_law_none := e27.has l.prog w base X G fun F => oE F C h_mixture z_ValueError z_isinstance
 exact xq (oZ (st := cU) l28 c28 k28) C h_law_cell_at h_law_first h_law_in h_law_mixed h_law_none h_law_spot h_law_stream h_mixture z_len z_list z_range
end LW
theorem PySem.W.Fast.te4455577454512139050 : True := trivial
def PySem.W.Fast.tw7150518241817650669 : PySem.Program := PySem.Challenge.pw_halvecut_k32_the_shortest_mixture
theorem PySem.W.Fast.te7150518241817650669 : PySem.Challenge.pw_halvecut_k32_the_shortest_mixture = PySem.W.Fast.tw7150518241817650669 := rfl
def PySem.W.Fast.tw17266722096740209614 : Unit := ()
def PySem.W.Fast.tw14859549087174762222 : Unit := ()
def PySem.W.Fast.tw720452883497095220 : Unit := ()
def PySem.W.Fast.tw17468289352564085679 : Unit := ()
def PySem.W.Fast.tw14994169232775149802 : Unit := ()
def PySem.W.Fast.tw5113371952856129396 : Unit := ()
def PySem.W.Fast.tw12882837706052210933 : Unit := ()
open PySem PySem.W PyProof.Rows
set_option maxRecDepth 100000 in
set_option maxHeartbeats 0 in
theorem PySem.Challenge.cw_halvecut_k32_the_shortest_mixture_holds : PySem.Challenge.rw_halvecut_k32_the_shortest_mixture.Holds := by
 w_on; o_law; k_head; (case hw => w_witness2)
 k_fill
 refine PD.walk (l := PySem.Challenge.rw_halvecut_k32_the_shortest_mixture) (k := 7) (x := "_law_script") rfl rfl ⟨rfl, by decide, by decide⟩ (fun w h Y => PySem.W.kIn_of Y) (fun w => by kernel_rfl) ?F
 case F =>
  intro w mg fa h KX G hmg
  refine' LW.all_mk KX G hmg ?e0 ?e1 ?e2 ?e3 ?e4 ?e5 ?e6 ?e7 ?e8 ?e9 ?e10 ?e11 ?e12 ?e13 ?e14 ?e15 ?e16 ?e17 ?e18 ?e19 ?e20 ?e21 ?e22 ?e23 ?e24 ?e25 ?e26 ?e27 ?a28 ?l28 ?c28 ?k28 ?mg_PlaneError ?mg_NoPlace ?mg_TooFew ?mg_TooMany ?exc_TooFew ?xk_TooFew ?kit_TooFew_PlaneError ?kit_TooFew_NoPlace ?kit_TooFew_TooFew ?kit_TooFew_TooMany ?kit_TooFew_ValueError ?exm_TooFew_PlaneError ?exm_TooFew_TooFew ?z_ValueError ?z_abs ?z_bool ?z_int ?z_isinstance ?z_len ?z_list ?z_max ?z_min ?z_range ?z_set ?z_sorted ?z_sum ?z_tuple ?z_zip
  all_goals try (refine' PD.FL.mk ?a ?l ?c ?k; (case a => k_is); (case l => k_is); (case c => k_is); (case k => k_is))
  (case a28 => k_is)
  (case l28 => k_is)
  (case c28 => k_is)
  (case k28 => k_is)
  (case mg_PlaneError => k_is)
  (case mg_NoPlace => k_is)
  (case mg_TooFew => k_is)
  (case mg_TooMany => k_is)
  (case exc_TooFew => kernel_rfl)
  (case xk_TooFew => kernel_rfl)
  (case kit_TooFew_PlaneError => kernel_rfl)
  (case kit_TooFew_NoPlace => kernel_rfl)
  (case kit_TooFew_TooFew => kernel_rfl)
  (case kit_TooFew_TooMany => kernel_rfl)
  (case kit_TooFew_ValueError => kernel_rfl)
  (case exm_TooFew_PlaneError => kernel_rfl)
  (case exm_TooFew_TooFew => kernel_rfl)
  (case z_ValueError => k_is)
  (case z_abs => k_is)
  (case z_bool => k_is)
  (case z_int => k_is)
  (case z_isinstance => k_is)
  (case z_len => k_is)
  (case z_list => k_is)
  (case z_max => k_is)
  (case z_min => k_is)
  (case z_range => k_is)
  (case z_set => k_is)
  (case z_sorted => k_is)
  (case z_sum => k_is)
  (case z_tuple => k_is)
  (case z_zip => k_is)
